/-
  The document's Words: of a row.
-/
import Derived.Test.YtndegcgcbhcokaaDoorQbI
import Derived.Test.YtndegcgcbhcokaaDoorQaI
namespace Go.Proofs.YtndegcgcbhcokaaDoor
open Go.RowKit
set_option linter.unusedVariables false
set_option linter.unusedSimpArgs false

theorem rowW_none {p : Pt} (h : p.wds = none) (t : List Pt) (out : Wl) : rowW (p :: t) out = rowN t ∧ rowN (p :: t) = rowN t := by
  rw [rowW, rowN, h]; exact ⟨rfl, rfl⟩
theorem rowW_nil {p : Pt} (h : p.wds = some []) (t : List Pt) (out : Wl) : rowW (p :: t) out = some [] ∧ rowN (p :: t) = some [] := by
  rw [rowW, rowN, h]; exact ⟨rfl, rfl⟩
theorem rowW_some {p : Pt} {l : Wl} (h : p.wds = some l) (hl : l ≠ []) (t : List Pt) (out : Wl) : rowW (p :: t) out = (if 16 < (pdF [] (prdF out l)).length then rowN t else rowW t (pdF [] (prdF out l))) ∧ rowN (p :: t) = rowN t := by
  cases l with
  | nil => exact absurd rfl hl
  | cons x m =>
    rw [rowW, rowN, h]
    refine ⟨?_, rfl⟩
    simp only
    rw [ch_pdF out (x :: m) [] (by simp)]
    by_cases h16 : 16 < (pdF [] (prdF out (x :: m))).length
    · rw [if_pos h16, if_pos h16]
    · rw [if_neg h16, if_neg h16]
theorem prdF_cons (h : ByteArray) (t b : Wl) : prdF (h :: t) b = b.map (h ++ ·) ++ prdF t b := rfl
theorem prdF_len : ∀ (a b : Wl), (prdF a b).length = a.length * b.length
  | [], b => by simp [prdF]
  | h :: t, b => by rw [prdF_cons, List.length_append, List.length_map, prdF_len t b, List.length_cons, Nat.succ_mul, Nat.add_comm]
theorem pdF_mem : ∀ (b a : Wl) (y : ByteArray), y ∈ pdF a b ↔ y ∈ a ∨ y ∈ b
  | [], a, y => by simp [pdF_nil]
  | x :: t, a, y => by
    rw [pdF_cons, pdF_mem t, putF_mem]
    simp only [List.mem_cons]
    constructor
    · rintro ((h | h) | h)
      · exact .inl h
      · exact .inr (.inl h)
      · exact .inr (.inr h)
    · rintro (h | h | h)
      · exact .inl (.inl h)
      · exact .inl (.inr h)
      · exact .inr h
theorem prd_size {a b : Wl} {A B : Nat} (ha : ∀ x ∈ a, x.size ≤ A) (hb : ∀ x ∈ b, x.size ≤ B) : ∀ x ∈ pdF [] (prdF a b), x.size ≤ A + B := fun x hx => by
  rcases (pdF_mem _ _ _).1 hx with h | h
  · cases h
  · unfold prdF at h
    rw [List.mem_flatMap] at h
    obtain ⟨h1, hh1, h2⟩ := h
    rw [List.mem_map] at h2
    obtain ⟨h3, hh3, rfl⟩ := h2
    rw [size_app]
    have := ha h1 hh1
    have := hb h3 hh3
    omega

/-- What is held in a round of a row. -/
def RN (w1 wx : World) (T : Option Wl) (t : List Pt) (i : Nat) (many : Bool) (a : Option Addr) (m c : Nat) : Prop :=
  Below w1.heap.size w1 wx ∧ (many = false → ∃ out, m ≤ 16 ∧ Lw wx a m c out ∧ Rise out ∧ (∀ x ∈ out, x.size ≤ 256 * i) ∧ rowW t out = T) ∧ (many = true → rowN t = T)

set_option maxRecDepth 100000 in
set_option maxHeartbeats 0 in
theorem wordsN_row (r : List Pt) (hE : ∀ p ∈ r, WdC p ∧ p.cnt ≤ 64) : WdRow r := by
  intro F w u hN hr
  obtain ⟨ad, c, b, off, rfl, h1, h2⟩ := hN
  obtain ⟨w1, hw1, hB1, hb1, hs1⟩ := box70 w (nV 6 0 false 0 sN (.slice ad r.length c))
  obtain ⟨m, hm⟩ : ∃ m, r.length = m := ⟨_, rfl⟩
  have HMR := hidden hm
  rw [hm] at hB1
  have x0 : w1.cell? ⟨w.heap.size, 0, none⟩ = some (.int .i64 6) := hB1.cell 0
  have HB1 := hidden hb1
  have BB := hidden hB1
  have HH1 := hidden h1
  have HND := hidden h2
  have HE := hidden hE
  simp only [nV, sN] at hw1 ⊢
  rw [hm] at hw1 ⊢
  have hr1 : m ≤ 1000 := by omega
  have HW1 := hidden hw1
  obtain ⟨T, hT⟩ : ∃ T, rowW r [noText] = T := ⟨_, rfl⟩
  have HT0 : Hid (RN w1 (w1.alloc (.cells #[.string noText] 9)) T (r.drop 0) 0 false (some ⟨w1.heap.size, 0, none⟩) 1 1) := hidden ⟨(Below.refl _ _).alloc (Nat.le_refl _) _, fun _ => ⟨[noText], by omega, Lw.new1 w1 noText, List.pairwise_singleton _ _, (fun x hx => by rw [List.mem_singleton.1 hx]; exact Nat.le_refl _), by rw [List.drop_zero]; exact hT⟩, fun h => by cases h⟩
  rw [hT]
  show Calls Tryd.prog 31 #[.agg #[.int .i64 6, .int .i32 0, .bool false, .int .u8 0, .slice none 0 0, .slice ad m c]] w (WdN true T w)
  clear hw1 hB1 hb1 hs1 hm hE h1 h2 hr hT
  go_enter Tryd.func31, Tryd.ntmps31
  go_upto_region 1 with fail
  rw [show (w.alloc (.cells #[.int .i64 6, .int .i32 0, .bool false, .int .u8 0, .slice none 0 0, .slice ad m c] 70)) = w1 from HW1.out]
  clear HW1
  go_wp2
  go_loopw [11, 12, 13] (fun s11 s12 s13 wx => ∃ (i m6 c6 : Nat) (a6 : Option Addr) (many : Bool), s11 = .slice a6 m6 c6 ∧ s12 = .bool many ∧ s13 = .int .i64 (i : Int) ∧ i ≤ m ∧ Hid (RN w1 wx T (r.drop i) i many a6 m6 c6)) (fun _ _ s13 _ => m - (intOf s13).toNat)
  case atStart => exact ⟨0, 1, 1, _, false, rfl, rfl, rfl, by omega, HT0⟩
  case round =>
    rename World => wr
    obtain ⟨i, m6, c6, a6, many, rfl, rfl, rfl, hi, hex⟩ := hrel
    have HBE := hidden hex.out.1
    have HBW := hidden (HB1.out.trans (HBE.out.mono HB1.out.size))
    clear HT0
    have y5 : wr.cell? ⟨w.heap.size, 5, none⟩ = some (.slice ad m c) := (BB.out.later HBE.out).cell 5
    by_cases hlt : i < m
    · have hltz : (i : Int) < (m : Int) := by omega
      have hll : i < r.length := by have := HMR.out; omega
      have hne : r ≠ [] := fun e => by rw [e] at hll; simp at hll
      obtain ⟨rfl, hFb⟩ := HH1.out hne
      obtain ⟨p, hp⟩ : ∃ p, r[i]? = some p := ⟨_, List.getElem?_eq_getElem hll⟩
      obtain ⟨u, hcs, hnd⟩ := NdsV.get (NdsV.keep (Chg.of_below (F := fun _ => False) HBW.out) (fun _ _ h => h) r b off (fun _ => hFb) HND.out) i p hp
      have HSH := hidden hnd.sh
      have HCS := hidden hcs
      have hpm := HE.out p (List.mem_of_getElem? hp)
      have kE := hpm.1 F wr u hnd
      have hde := drop_consR hp
      obtain ⟨t, ht⟩ : ∃ t, r.drop (i + 1) = t := ⟨_, rfl⟩
      rw [ht] at hde
      obtain ⟨R, hR⟩ : ∃ R, p.wds = R := ⟨_, rfl⟩
      have HSZ : Hid (∀ l, R = some l → ∀ x ∈ l, x.size ≤ 256) := hidden (fun l hl x hx => by
        have := Pt.wds_size p l (hR.trans hl) x hx
        have := hpm.2
        omega)
      have HNO : Hid (∀ out, R = none → rowW (r.drop i) out = rowN t ∧ rowN (r.drop i) = rowN t) := hidden (fun out h => by rw [hde]; exact rowW_none (hR.trans h) t out)
      have HNI : Hid (∀ out, R = some [] → rowW (r.drop i) out = some [] ∧ rowN (r.drop i) = some []) := hidden (fun out h => by rw [hde]; exact rowW_nil (hR.trans h) t out)
      have HSO : Hid (∀ out l, R = some l → l ≠ [] → rowW (r.drop i) out = (if 16 < (pdF [] (prdF out l)).length then rowN t else rowW t (pdF [] (prdF out l))) ∧ rowN (r.drop i) = rowN t) := hidden (fun out l h h0 => by rw [hde]; exact rowW_some (hR.trans h) h0 t out)
      have HTT := hidden ht
      rw [hR] at kE
      unfold WdN at kE
      clear hcs hnd hp hll hne hFb hR hpm hde ht
      go_upto_region 39 with (first
        | (refine wpList_load_mid rfl 70 (.tmp 139) rfl b (off + i * 6) (by rfl) u _ HCS.out.range Tryd.underlying70 rfl (sz6 HSH.out) ?_)
        | (go_at_call 31; refine kE.mono ?_; rintro e w3 ⟨a3, m3, c3, ok3, rfl, q1, q2⟩; have HB3 := hidden (HBE.out.trans (q1.mono HBE.out.size)); have G3 := hidden q1; have Q := hidden q2; clear kE q1 q2 y5))
      rcases Q.out with ⟨rfl, hm3, l3, hR, hL3, hri3⟩ | ⟨rfl, hR, _⟩
      · by_cases hl0 : l3 = []
        · -- it means nothing
          have hm0 : m3 = 0 := by rw [← hL3.1, hl0]; rfl
          have HTN : Hid (T = some []) := hidden (by
            cases many with
            | false => obtain ⟨out, _, _, _, _, h⟩ := hex.out.2.1 rfl; rw [← h]; exact (HNI.out out (by rw [hR, hl0])).1
            | true => rw [← hex.out.2.2 rfl]; exact (HNI.out [] (by rw [hR, hl0])).2)
          clear hL3 hR hl0 hri3 Q hex HSZ HNO HNI HSO
          subst hm0
          go_wp2
          go_ret2
          exact ⟨_, 0, 0, true, rfl, HB1.out.trans (HB3.out.mono HB1.out.size), .inl ⟨rfl, by omega, [], HTN.out, Lw.nil _, List.Pairwise.nil⟩⟩
        · have hm0 : ¬ (m3 : Int) = 0 := by
            have := hL3.1
            intro h
            exact hl0 (List.eq_nil_of_length_eq_zero (by omega))
          cases many with
          | true =>
            have HNX : Hid (rowN t = T) := hidden (by rw [← hex.out.2.2 rfl]; exact (HSO.out [] l3 hR hl0).2.symm)
            clear hL3 hR hl0 hri3 Q hex HSZ HNO HNI HSO
            go_wp2_with fail
            refine ⟨⟨i + 1, m6, c6, a6, true, rfl, rfl, rfl, by omega, hidden ⟨HB3.out, (fun h => by cases h), fun _ => by rw [HTT.out]; exact HNX.out⟩⟩, ?_⟩
            simp [intOf]
            omega
          | false =>
            obtain ⟨out, z1, z2, z3, z4, z5⟩ := hex.out.2.1 rfl
            obtain ⟨D, hD⟩ : ∃ D, pdF [] (prdF out l3) = D := ⟨_, rfl⟩
            have HS : Hid ((if 16 < D.length then rowN t else rowW t D) = T) := hidden (by rw [← z5, (HSO.out out l3 hR hl0).1, hD])
            have HDS : Hid (∀ x ∈ D, x.size ≤ 256 * (i + 1)) := hidden (by
              rw [← hD]
              intro x hx
              have := prd_size z4 (HSZ.out l3 hR) x hx
              omega)
            have HDR : Hid (Rise D) := hidden (by rw [← hD]; exact pdF_rise _ _ List.Pairwise.nil)
            have hDl : D.length ≤ 256 := by
              have h1 := (pdF_len (prdF out l3) []).2
              rw [hD, prdF_len, z2.1, hL3.1] at h1
              simp only [List.length_nil, Nat.zero_add] at h1
              have h2 : m6 * m3 ≤ 16 * 16 := Nat.mul_le_mul z1 hm3
              omega
            have HD0 : Hid (pdF [] (prdF (out.drop 0) l3) = D) := hidden (by rw [List.drop_zero]; exact hD)
            have HSO2 := hidden z4
            have HSL := hidden (HSZ.out l3 hR)
            have HO3 := hidden (z2.later G3.out)
            have HX3 := hidden hL3
            have hol := z2.1
            have hll3 := hL3.1
            clear hL3 hR hl0 hri3 Q hex HSZ HNO HNI HSO z2 z3 z4 z5 hD
            go_wp2_with fail
            clear hm0
            generalize ((m3 : Int) == 0) = bo3
            go_loopw [16, 17] (fun s16 s17 wx => ∃ (k m7 c7 : Nat) (a7 : Option Addr) (ou : Wl), s16 = .slice a7 m7 c7 ∧ s17 = .int .i64 (k : Int) ∧ k ≤ m6 ∧ Hid (Below w3.heap.size w3 wx ∧ Lw wx a7 m7 c7 ou ∧ Rise ou ∧ pdF ou (prdF (out.drop k) l3) = D)) (fun _ s17 _ => m6 - (intOf s17).toNat)
            case atStart => exact ⟨0, 0, 0, none, [], rfl, rfl, by omega, hidden ⟨Below.refl _ _, Lw.nil _, List.Pairwise.nil, HD0.out⟩⟩
            case round =>
              rename World => wk
              obtain ⟨k, m7, c7, a7, ou, rfl, rfl, hk, hex⟩ := hrel
              obtain ⟨hbel, hLw, hri, hS⟩ := hex.out
              have HBK := hidden hbel
              have HSK := hidden hS
              have HLK := hidden hLw
              have HRK := hidden hri
              clear hex hbel hS hLw hri HD0
              by_cases hkt : k < m6
              · have hktz : (k : Int) < (m6 : Int) := by omega
                obtain ⟨g6, h, e6, hg6, hh, _⟩ := HO3.out.get hkt
                subst e6
                have HH6 : Hid (∀ wx, Below w3.heap.size w3 wx → wx.cell? ⟨g6, k, none⟩ = some (.string h)) := hidden (fun wx hb => by
                  obtain ⟨g', h', e', _, hh', hc'⟩ := (HO3.out.later hb).get hkt
                  injection e' with e'; injection e' with e'; subst e'
                  rw [hh] at hh'; injection hh' with hh'; subst hh'
                  exact hc')
                have hhs := HSO2.out h (List.mem_of_getElem? hh)
                have HJ0 : Hid (pdF ou ((l3.drop 0).map (h ++ ·) ++ prdF (out.drop (k + 1)) l3) = D) := hidden (by
                  rw [← HSK.out, drop_consW hh, prdF_cons, List.drop_zero])
                clear hh hg6
                go_wp2_with fail
                go_loopw [16, 18] (fun s16 s18 wx => ∃ (j m7 c7 : Nat) (a7 : Option Addr) (ou : Wl), s16 = .slice a7 m7 c7 ∧ s18 = .int .i64 (j : Int) ∧ j ≤ m3 ∧ Hid (Below w3.heap.size w3 wx ∧ Lw wx a7 m7 c7 ou ∧ Rise ou ∧ pdF ou ((l3.drop j).map (h ++ ·) ++ prdF (out.drop (k + 1)) l3) = D)) (fun _ s18 _ => m3 - (intOf s18).toNat)
                case atStart => exact ⟨0, m7, c7, a7, ou, rfl, rfl, by omega, hidden ⟨HBK.out, HLK.out, HRK.out, HJ0.out⟩⟩
                case round =>
                  rename World => wj
                  obtain ⟨j, m8, c8, a8, ov, rfl, rfl, hj, hex⟩ := hrel
                  obtain ⟨hbel, hLw, hri, hS⟩ := hex.out
                  have HBJ := hidden hbel
                  have HSJ := hidden hS
                  have HLJ := hidden hLw
                  have HRJ := hidden hri
                  have hol2 := (pdF_len ((l3.drop j).map (h ++ ·) ++ prdF (out.drop (k + 1)) l3) ov).1
                  rw [hS, hLw.1] at hol2
                  have hm8 : m8 ≤ 256 := by omega
                  clear hex hbel hS hLw hri HJ0 hol2
                  by_cases hjt : j < m3
                  · have hjtz : (j : Int) < (m3 : Int) := by omega
                    obtain ⟨g3, x, e3, hg3, hx, d1⟩ := (HX3.out.later HBJ.out).get hjt
                    subst e3
                    have d0 := HH6.out wj HBJ.out
                    have hxs := HSL.out x (List.mem_of_getElem? hx)
                    have hsum : h.size + x.size ≤ 9223372036854775807 := by omega
                    have hsumz : (h.size : Int) + (x.size : Int) ≤ 9223372036854775807 := by omega
                    have hsum3 : ¬ 9223372036854775807 < h.size + x.size := by omega
                    have hbd : Below wj.heap.size wj wj.drew := below_drewN (Below.refl _ _) 1
                    have kP := putR a8 m8 c8 ov (h ++ x) wj.drew (HLJ.out.later hbd) HRJ.out (by omega)
                    have HN : Hid (pdF (putF ov (h ++ x)) ((l3.drop (j + 1)).map (h ++ ·) ++ prdF (out.drop (k + 1)) l3) = D) := hidden (by rw [← HSJ.out, drop_consW hx, List.map_cons, List.cons_append, pdF_cons])
                    have HRN := hidden (putF_rise HRJ.out (h ++ x))
                    have HRET : Hid (∀ (lw : Wl) (wx : World) e w', PuL lw wx e w' → ∃ v, e = Ending.returned v) := hidden (fun lw wx e w' h => by obtain ⟨_, _, _, e, _⟩ := h; exact ⟨_, e⟩)
                    obtain ⟨PF, hPF⟩ : ∃ PF, putF ov (h ++ x) = PF := ⟨_, rfl⟩
                    rw [hPF] at kP HN HRN
                    have HBD := hidden hbd
                    clear hx hg3 hPF hbd
                    go_upto_region 50 with fail
                    go_region_law (refine step_fn (by rfl) 50 _ (by simp [execOp, resolve, Act.eval, go_sem]) _ kP (HRET.out _ _) ?_; intro v w5 hΦ; obtain ⟨a5, m5, c5, he5, p1, p2⟩ := hΦ; injection he5 with he5; subst he5; have P5 := hidden (And.intro p1 (HBJ.out.trans ((HBD.out.trans p2).mono HBJ.out.size))); clear p1 p2)
                    all_goals (
                      go_wp2_with fail
                      refine ⟨⟨j + 1, m5, c5, a5, PF, rfl, rfl, by omega, hidden ⟨P5.out.2, P5.out.1, HRN.out, HN.out⟩⟩, ?_⟩
                      simp [intOf]
                      omega)
                  · have hjtz : ¬ (j : Int) < (m3 : Int) := by omega
                    have HN : Hid (pdF ov (prdF (out.drop (k + 1)) l3) = D) := hidden (by
                      have := HSJ.out
                      rw [List.drop_eq_nil_of_le (show l3.length ≤ j by omega), List.map_nil, List.nil_append] at this
                      exact this)
                    go_wp2_with fail
                    refine ⟨⟨k + 1, m8, c8, a8, ov, rfl, rfl, by omega, hidden ⟨HBJ.out, HLJ.out, HRJ.out, HN.out⟩⟩, ?_⟩
                    simp [intOf]
                    omega
              · have hktz : ¬ (k : Int) < (m6 : Int) := by omega
                have hoD : ou = D := by
                  have := HSK.out
                  rw [List.drop_eq_nil_of_le (show out.length ≤ k by omega)] at this
                  exact this
                subst hoD
                have hlen := HLK.out.1
                have HBK2 := hidden (HB3.out.trans (HBK.out.mono HB3.out.size))
                by_cases h16 : 16 < ou.length
                · have h16z : (16 : Int) < (m7 : Int) := by omega
                  have HTN : Hid (rowN t = T) := hidden (by rw [← HS.out, if_pos h16])
                  go_wp2_with fail
                  refine ⟨⟨i + 1, m7, c7, a7, true, rfl, rfl, rfl, by omega, hidden ⟨HBK2.out, (fun h => by cases h), fun _ => by rw [HTT.out]; exact HTN.out⟩⟩, ?_⟩
                  simp [intOf]
                  omega
                · have h16z : ¬ (16 : Int) < (m7 : Int) := by omega
                  have h16d : decide ((16 : Int) < (m7 : Int)) = false := decide_eq_false h16z
                  have HTN : Hid (rowW t ou = T) := hidden (by rw [← HS.out, if_neg h16])
                  go_wp2_with fail
                  refine ⟨⟨i + 1, m7, c7, a7, false, rfl, rfl, rfl, by omega, hidden ⟨HBK2.out, (fun _ => ⟨ou, by omega, HLK.out, HRK.out, HDS.out, by rw [HTT.out]; exact HTN.out⟩), fun h => by cases h⟩⟩, ?_⟩
                  simp [intOf]
                  omega
      · -- too many
        have HNX : Hid (rowN t = T) := hidden (by
          cases many with
          | false => obtain ⟨out, _, _, _, _, h⟩ := hex.out.2.1 rfl; rw [← h]; exact (HNO.out out hR).1.symm
          | true => rw [← hex.out.2.2 rfl]; exact (HNO.out [] hR).2.symm)
        clear hR Q hex HSZ HNO HNI HSO
        cases many with
        | true =>
          go_wp2_with fail
          refine ⟨⟨i + 1, m6, c6, a6, true, rfl, rfl, rfl, by omega, hidden ⟨HB3.out, (fun h => by cases h), fun _ => by rw [HTT.out]; exact HNX.out⟩⟩, ?_⟩
          simp [intOf]
          omega
        | false =>
          go_wp2_with fail
          refine ⟨⟨i + 1, m6, c6, a6, true, rfl, rfl, rfl, by omega, hidden ⟨HB3.out, (fun h => by cases h), fun _ => by rw [HTT.out]; exact HNX.out⟩⟩, ?_⟩
          simp [intOf]
          omega
    · have hltz : ¬ (i : Int) < (m : Int) := by omega
      have hdn : r.drop i = [] := List.drop_eq_nil_of_le (by rw [HMR.out]; omega)
      cases many with
      | true =>
        have HTN : Hid (T = none) := hidden (by rw [← hex.out.2.2 rfl, hdn, rowN])
        clear hdn hex
        go_wp2
        go_ret2
        exact ⟨_, 0, 0, false, rfl, HBW.out, .inr ⟨rfl, HTN.out, fun _ => rfl⟩⟩
      | false =>
        obtain ⟨out, z1, z2, z3, z4, z5⟩ := hex.out.2.1 rfl
        have HTN : Hid (T = some out) := hidden (by rw [← z5, hdn, rowW])
        have HZ := hidden (And.intro z2 z3)
        clear hdn hex z2 z3 z4 z5
        go_wp2
        go_ret2
        exact ⟨a6, m6, c6, true, rfl, HBW.out, .inl ⟨rfl, z1, out, HTN.out, HZ.out.1, HZ.out.2⟩⟩

end Go.Proofs.YtndegcgcbhcokaaDoor
