/-
  The document's Words: of rows side by side.
-/
import Derived.Test.YtndegcgcbhcokaaDoorQbH
namespace Go.Proofs.YtndegcgcbhcokaaDoor
open Go.RowKit
set_option linter.unusedVariables false
set_option linter.unusedSimpArgs false

theorem drop_consW {l : Wl} {i : Nat} {o : ByteArray} (h : l[i]? = some o) : l.drop i = o :: l.drop (i + 1) := by
  have hl := (List.getElem?_eq_some_iff.1 h).1
  rw [List.drop_eq_getElem_cons hl]
  rw [List.getElem?_eq_getElem hl] at h
  injection h with h
  rw [h]
theorem drop_consR {α : Type} {l : List α} {i : Nat} {o : α} (h : l[i]? = some o) : l.drop i = o :: l.drop (i + 1) := by
  obtain ⟨h, e⟩ := List.getElem?_eq_some_iff.1 h
  rw [← e]; exact List.drop_eq_getElem_cons h

def rowsStep (t : List (List Pt)) (out : Wl) : Option Wl → Option Wl
  | none => none
  | some mm => match togF out mm with
    | some o => rowsW t o
    | none => none
theorem rowsW_cons (r : List Pt) (t : List (List Pt)) (out : Wl) : rowsW (r :: t) out = rowsStep t out (rowW r [noText]) := by
  rw [rowsW]
  cases rowW r [noText] <;> rfl

set_option maxRecDepth 100000 in
set_option maxHeartbeats 0 in
theorem wordsN_rows (l : List (List Pt)) (hE : ∀ r ∈ l, WdRow r ∧ r.length ≤ 1000) : WdAny l := by
  intro F w u hN hr
  obtain ⟨ad, c, b, off, rfl, h1, h2⟩ := hN
  obtain ⟨w1, hw1, hB1, hb1, hs1⟩ := box70 w (nV 7 0 false 0 sN (.slice ad l.length c))
  obtain ⟨m, hm⟩ : ∃ m, l.length = m := ⟨_, rfl⟩
  have HMR := hidden hm
  rw [hm] at hB1
  have x0 : w1.cell? ⟨w.heap.size, 0, none⟩ = some (.int .i64 7) := hB1.cell 0
  have HB1 := hidden hb1
  have BB := hidden hB1
  have HH1 := hidden h1
  have HND := hidden h2
  have HE := hidden hE
  simp only [nV, sN] at hw1 ⊢
  rw [hm] at hw1 ⊢
  have hr1 : m ≤ 1000 := by omega
  have HW1 := hidden hw1
  obtain ⟨T, hT⟩ : ∃ T, rowsW l [] = T := ⟨_, rfl⟩
  have HT0 : Hid (rowsW (l.drop 0) [] = T) := hidden (by rw [List.drop_zero]; exact hT)
  rw [hT]
  show Calls Tryd.prog 31 #[.agg #[.int .i64 7, .int .i32 0, .bool false, .int .u8 0, .slice none 0 0, .slice ad m c]] w (WdN true T w)
  clear hw1 hB1 hb1 hs1 hm hE h1 h2 hr hT
  go_enter Tryd.func31, Tryd.ntmps31
  go_upto_region 1 with fail
  rw [show (w.alloc (.cells #[.int .i64 7, .int .i32 0, .bool false, .int .u8 0, .slice none 0 0, .slice ad m c] 70)) = w1 from HW1.out]
  clear HW1
  go_wp2
  go_loopw [6, 7] (fun s6 s7 wx => ∃ (i m6 c6 : Nat) (a6 : Option Addr) (out : Wl), s6 = .slice a6 m6 c6 ∧ s7 = .int .i64 (i : Int) ∧ i ≤ m ∧ m6 ≤ 16 ∧ Hid (Below w1.heap.size w1 wx ∧ Lw wx a6 m6 c6 out ∧ Rise out ∧ rowsW (l.drop i) out = T)) (fun _ s7 _ => m - (intOf s7).toNat)
  case atStart => exact ⟨0, 0, 0, none, [], rfl, rfl, by omega, by omega, hidden ⟨Below.refl _ _, Lw.nil _, List.Pairwise.nil, HT0.out⟩⟩
  case round =>
    rename World => wr
    obtain ⟨i, m6, c6, a6, out, rfl, rfl, hi, hm6, hex⟩ := hrel
    obtain ⟨hbel, hLw, hri, hS⟩ := hex.out
    have HBE := hidden hbel
    have HBW := hidden (HB1.out.trans (hbel.mono HB1.out.size))
    have HS := hidden hS
    have HLW := hidden hLw
    have HRI := hidden hri
    clear hex hbel hS HT0 hLw hri
    have y5 : wr.cell? ⟨w.heap.size, 5, none⟩ = some (.slice ad m c) := (BB.out.later HBE.out).cell 5
    by_cases hlt : i < m
    · have hltz : (i : Int) < (m : Int) := by omega
      have hll : i < l.length := by have := HMR.out; omega
      have hne : l ≠ [] := fun e => by rw [e] at hll; simp at hll
      obtain ⟨rfl, hFb⟩ := HH1.out hne
      obtain ⟨p, hp⟩ : ∃ p, l[i]? = some p := ⟨_, List.getElem?_eq_getElem hll⟩
      obtain ⟨u, hcs, hnd⟩ := RwsV.get (RwsV.keep (Chg.of_below (F := fun _ => False) HBW.out) (fun _ _ h => h) l b off (fun _ => hFb) HND.out) i p hp
      have HSH : Hid ((Tryd.prog.info? 70).map (·.size) = some u.length) := hidden (by obtain ⟨_, _, _, _, rfl, _⟩ := hnd; exact info70s)
      have HCS := hidden hcs
      have hpm := HE.out p (List.mem_of_getElem? hp)
      have kE := hpm.1 F wr u hnd hpm.2
      obtain ⟨R, hR⟩ : ∃ R, rowW p [noText] = R := ⟨_, rfl⟩
      have HST : Hid (rowsStep (l.drop (i + 1)) out R = T) := hidden (by
        rw [← HS.out, drop_consR hp, rowsW_cons, hR])
      rw [hR] at kE
      unfold WdN at kE
      clear hcs hnd hp hll hne hFb hR hpm
      go_upto_region 26 with (first
        | (refine wpList_load_mid rfl 70 (.tmp 102) rfl b (off + i * 6) (by rfl) u _ HCS.out.range Tryd.underlying70 rfl HSH.out ?_)
        | (go_at_call 31; refine kE.mono ?_; rintro e w3 ⟨a3, m3, c3, ok3, rfl, q1, q2⟩; have HB3 := hidden (HBE.out.trans (q1.mono HBE.out.size)); have HL3 := hidden (HLW.out.later q1); have Q := hidden q2; clear kE q1 q2 y5))
      rcases Q.out with ⟨rfl, hm3, l3, hR, hL3, hri3⟩ | ⟨rfl, hR, hz⟩
      · subst hR
        have HX3 := hidden hL3
        obtain ⟨D, hD⟩ : ∃ D, pdF out l3 = D := ⟨_, rfl⟩
        have HD0 : Hid (pdF out (l3.drop 0) = D) := hidden (by rw [List.drop_zero]; exact hD)
        have hDl := pdF_len l3 out
        have hl3 := hL3.1
        have ho6 := HL3.out.1
        have HDR : Hid (Rise D) := hidden (by rw [← hD]; exact pdF_rise l3 out HRI.out)
        have HST2 : Hid ((if 16 < D.length then none else rowsW (l.drop (i + 1)) D) = T) := hidden (by
          have := HST.out
          rw [rowsStep, tog_pdF l3 out (by omega), hD] at this
          rw [← this]
          by_cases h : 16 < D.length
          · rw [if_pos h, if_pos h]
          · rw [if_neg h, if_neg h])
        rw [hD] at hDl
        have hDm : D.length ≤ 32 := by omega
        clear Q hL3 hri3 hD hDl HST
        go_wp2_with fail
        go_loopw [6, 10] (fun s6 s10 wx => ∃ (k m7 c7 : Nat) (a7 : Option Addr) (ou : Wl), s6 = .slice a7 m7 c7 ∧ s10 = .int .i64 (k : Int) ∧ k ≤ m3 ∧ Hid (Below w3.heap.size w3 wx ∧ Lw wx a7 m7 c7 ou ∧ Rise ou ∧ pdF ou (l3.drop k) = D)) (fun _ s10 _ => m3 - (intOf s10).toNat)
        case atStart => exact ⟨0, m6, c6, a6, out, rfl, rfl, by omega, hidden ⟨Below.refl _ _, HL3.out, HRI.out, HD0.out⟩⟩
        case round =>
          rename World => wk
          obtain ⟨k, m7, c7, a7, ou, rfl, rfl, hk, hex⟩ := hrel
          obtain ⟨hbel, hLw, hri, hS⟩ := hex.out
          have HBK := hidden hbel
          have HSK := hidden hS
          have HLK := hidden hLw
          have HRK := hidden hri
          have hol := (pdF_len (l3.drop k) ou).1
          rw [hS] at hol
          have hol2 := hLw.1
          have hm7 : m7 ≤ 32 := by omega
          clear hex hbel hS hLw hri HD0 hol hol2
          by_cases hkt : k < m3
          · have hktz : (k : Int) < (m3 : Int) := by omega
            obtain ⟨g3, x, e3, hg3, hx, hcx⟩ := (HX3.out.later HBK.out).get hkt
            subst e3
            have kP := putR a7 m7 c7 ou x wk HLK.out HRK.out (by omega)
            unfold PuL at kP
            have HN : Hid (pdF (putF ou x) (l3.drop (k + 1)) = D) := hidden (by rw [← HSK.out, drop_consW hx, pdF_cons])
            have HRN := hidden (putF_rise HRK.out x)
            clear hx hg3
            go_wp2_with (go_at_call 50; refine kP.mono ?_; rintro e w5 ⟨a5, m5, c5, rfl, p1, p2⟩; have P5 := hidden (And.intro p1 p2); clear kP p1 p2)
            refine ⟨⟨k + 1, m5, c5, a5, putF ou x, rfl, rfl, by omega, hidden ⟨HBK.out.trans (P5.out.2.mono HBK.out.size), P5.out.1, HRN.out, HN.out⟩⟩, ?_⟩
            simp [intOf]
            omega
          · have hktz : ¬ (k : Int) < (m3 : Int) := by omega
            have hoD : ou = D := by
              have := HSK.out
              rw [List.drop_eq_nil_of_le (by omega), pdF_nil] at this
              exact this
            subst hoD
            have hlen := HLK.out.1
            have HBK2 := hidden (HB3.out.trans (HBK.out.mono HB3.out.size))
            by_cases h16 : 16 < ou.length
            · have h16z : (16 : Int) < (m7 : Int) := by omega
              have HTN : Hid (T = none) := hidden (by rw [← HST2.out, if_pos h16])
              go_wp2
              go_ret2
              exact ⟨_, 0, 0, false, rfl, HB1.out.trans (HBK2.out.mono HB1.out.size), .inr ⟨rfl, HTN.out, fun _ => rfl⟩⟩
            · have h16z : ¬ (16 : Int) < (m7 : Int) := by omega
              have h16d : decide ((16 : Int) < (m7 : Int)) = false := decide_eq_false h16z
              have HTN : Hid (rowsW (l.drop (i + 1)) ou = T) := hidden (by rw [← HST2.out, if_neg h16])
              go_wp2_with fail
              refine ⟨⟨i + 1, m7, c7, a7, ou, rfl, rfl, by omega, by omega, hidden ⟨HBK2.out, HLK.out, HRK.out, HTN.out⟩⟩, ?_⟩
              simp [intOf]
              omega
      · subst hR
        have hm3 := hz (by first | trivial | rfl)
        subst hm3
        have HTN : Hid (T = none) := hidden HST.out.symm
        clear Q HST
        go_wp2_with fail
        go_loopw [10] (fun s10 wx => s10 = .int .i64 0 ∧ wx = w3) (fun _ _ => 0)
        case atStart => exact ⟨rfl, by first | trivial | rfl⟩
        case round =>
          obtain ⟨rfl, hwk⟩ := hrel
          subst hwk
          go_wp2
          go_ret2
          exact ⟨_, 0, 0, false, rfl, HB1.out.trans (HB3.out.mono HB1.out.size), .inr ⟨rfl, HTN.out, fun _ => rfl⟩⟩
    · have hltz : ¬ (i : Int) < (m : Int) := by omega
      have HSE : Hid (T = some out) := hidden (by
        have := HS.out
        rw [List.drop_eq_nil_of_le (by rw [HMR.out]; omega), rowsW] at this
        exact this.symm)
      go_wp2
      go_ret2
      exact ⟨a6, m6, c6, true, rfl, HBW.out, .inl ⟨rfl, by omega, out, HSE.out, HLW.out, HRI.out⟩⟩

end Go.Proofs.YtndegcgcbhcokaaDoor
