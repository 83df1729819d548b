/-
  Words: together, chained.
-/
import Derived.Test.YtndegcgcbhcokaaPuR
namespace Go.Proofs.Ytndegcgcbhcokaa
open Go.RowKit
set_option linter.unusedVariables false
set_option linter.unusedSimpArgs false

/-- A list of texts, to be read. -/
def Wr (F : Nat → Prop) (w : World) (ad : Option Addr) (l : Wl) : Prop := l ≠ [] → ∃ b off, ad = some ⟨b, off, none⟩ ∧ F b ∧ ∀ (i : Nat) (x : ByteArray), l[i]? = some x → w.cell? ⟨b, off + i, none⟩ = some (.string x)
theorem Wr.keep {F G : Nat → Prop} {w w' : World} {ad : Option Addr} {l : Wl} (h : Wr F w ad l) (hc : Chg G w w') (hd : ∀ b, F b → ¬ G b) : Wr F w' ad l := by
  intro h0
  obtain ⟨b, off, e, hF, hcell⟩ := h h0
  refine ⟨b, off, e, hF, fun i x hx => ?_⟩
  have hx2 := hcell i x hx
  rw [show w'.cell? ⟨b, off + i, none⟩ = w.cell? ⟨b, off + i, none⟩ from World.cell?_of_block (hc.block b (cell_lt hx2) (hd b hF))]
  exact hx2
theorem wr_owns {w : World} {base n c : Nat} {ad : Option Addr} {l : Wl} (h : w.ownsRow base 9 1 (.slice ad n c) n (sV l)) : Wr (fun b => (Value.slice ad n c).ownBlock = some b ∧ base ≤ b ∧ b < w.heap.size) w ad l := by
  intro h0
  have hl := h.1
  rw [sV_length] at hl
  rcases h.2 with ⟨_, e⟩ | ⟨g, cap, cur, e0, hb, _⟩
  · rw [e] at hl; exact absurd (List.eq_nil_of_length_eq_zero (by omega)) h0
  · injection e0 with e0 _ _
    subst e0
    refine ⟨g, 0, rfl, ⟨by simp [Value.ownBlock], hb, owns_lt h g (by simp [Value.ownBlock])⟩, fun i x hx => ?_⟩
    have := h.cells (g := g) (by simp [Value.ownBlock]) _ _ (sV_get hx)
    rw [Addr.add_lit] at this
    exact this
structure Cm (w w' : World) (o o' : Option Nat) : Prop where
  chg : Chg (fun b => o = some b) w w'
  mv : Moved w o o'
theorem Cm.refl (w : World) (o : Option Nat) : Cm w w o o := ⟨Chg.refl _ _, .inl rfl⟩
theorem Cm.trans {w w1 w2 : World} {o o1 o2 : Option Nat} (h : Cm w w1 o o1) (k : Cm w1 w2 o1 o2) : Cm w w2 o o2 := by
  refine ⟨h.chg.trans k.chg (fun i hi hg => ?_), h.mv.trans k.mv h.chg.size⟩
  rcases h.mv with e | ⟨g, e, hlt⟩
  · rw [e] at hg; exact hg
  · rw [e] at hg; injection hg with hg; omega

def togF : Wl → Wl → Option Wl
  | a, [] => some a
  | a, x :: t => if 16 < (putF a x).length then none else togF (putF a x) t
def chF1 (h : ByteArray) : Wl → Wl → Option Wl
  | out, [] => some out
  | out, x :: t => if 16 < (putF out (h ++ x)).length then none else chF1 h (putF out (h ++ x)) t
def chF : Wl → Wl → Wl → Option Wl
  | out, [], _ => some out
  | out, h :: t, b => match chF1 h out b with
    | some o => chF o t b
    | none => none
/-- What is answered of a list of words, or of too many. -/
def WdR (base : Nat) (o : Option Nat) (w : World) (R : Option Wl) (e : Ending) (w' : World) : Prop :=
  ∃ a' m' c' ok, e = .returned (.tuple #[.slice a' m' c', .bool ok]) ∧ Chg (fun b => o = some b) w w' ∧ m' ≤ 16 ∧ ((ok = true ∧ ∃ lr, R = some lr ∧ lr.length = m' ∧ w'.ownsRow base 9 1 (.slice a' m' c') m' (sV lr) ∧ Moved w o (Value.slice a' m' c').ownBlock) ∨ (ok = false ∧ R = none ∧ m' = 0))

set_option maxRecDepth 100000 in
set_option maxHeartbeats 8000000 in
theorem togetherP (base : Nat) (l lb : Wl) (ad ad2 : Option Addr) (n c n2 c2 : Nat) (w : World) (F : Nat → Prop) (hown : w.ownsRow base 9 1 (.slice ad n c) n (sV l)) (hn : n ≤ 16) (hbase : base ≤ w.heap.size) (hW : Wr F w ad2 lb) (hn2 : lb.length = n2) (hb2 : n2 ≤ 1000) (hF : ∀ b, F b → (Value.slice ad n c).ownBlock ≠ some b ∧ b < w.heap.size) :
    Calls Try.prog 33 #[.slice ad n c, .slice ad2 n2 c2] w (WdR base (Value.slice ad n c).ownBlock w (togF l lb)) := by
  obtain ⟨R, hR⟩ : ∃ R, togF l lb = R := ⟨_, rfl⟩
  have HR : Hid (togF l (lb.drop 0) = R) := hidden (by rw [List.drop_zero]; exact hR)
  have HN2 := hidden hn2
  have HOW := hidden hown
  have HW := hidden hW
  have HF := hidden hF
  have HBS := hidden hbase
  obtain ⟨o, ho⟩ : ∃ o, (Value.slice ad n c).ownBlock = o := ⟨_, rfl⟩
  have HO := hidden ho
  rw [hR, ho]
  have hln : l.length = n := by have := hown.1; rw [sV_length] at this; omega
  have HLN := hidden hln
  clear hR hn2 hown hW hF hbase ho hln
  go_enter Try.func33, Try.ntmps33
  go_wp2
  go_loopw [0, 10] (fun s0 s10 wx => ∃ (i m cc : Nat) (aa : Option Addr), s0 = .slice aa m cc ∧ s10 = .int .i64 (i : Int) ∧ i ≤ n2 ∧ m ≤ 16 ∧ Hid (∃ la : Wl, wx.ownsRow base 9 1 (.slice aa m cc) m (sV la) ∧ togF la (lb.drop i) = R ∧ Cm w wx o (Value.slice aa m cc).ownBlock)) (fun _ s10 _ => n2 - (intOf s10).toNat)
  case atStart => exact ⟨0, n, c, ad, rfl, rfl, by omega, hn, hidden ⟨l, HOW.out, HR.out, by rw [HO.out]; exact Cm.refl _ _⟩⟩
  case round =>
    rename World => wr
    obtain ⟨i, m, cc, aa, rfl, rfl, hi, hm, hex⟩ := hrel
    obtain ⟨la, hown, hrel, hcm⟩ := hex.out
    clear hex HR
    by_cases hlt : i < n2
    · have hltz : (i : Int) < (n2 : Int) := by omega
      obtain ⟨x, hx⟩ : ∃ x, lb[i]? = some x := ⟨lb[i]'(by rw [HN2.out]; exact hlt), by simp⟩
      have hl0 : lb ≠ [] := by intro e; rw [e] at hx; simp at hx
      obtain ⟨b, off, rfl, hFb, hcell⟩ := (HW.out.keep hcm.chg (fun b hb => by rw [← HO.out]; exact (HF.out b hb).1)) hl0
      have d0 := hcell i x hx
      have k41 := putP base la aa m cc x wr hown (by omega) (by have := HBS.out; have := hcm.chg.size; omega)
      rw [drop_at hx, togF] at hrel
      obtain ⟨lp, hlp⟩ : ∃ lp, putF la x = lp := ⟨_, rfl⟩
      rw [hlp] at k41 hrel
      have hll : la.length = m := by have := hown.1; rw [sV_length] at this; omega
      have hpl := putF_len la x
      rw [hlp, hll] at hpl
      by_cases hbig : 16 < lp.length
      · rw [if_pos hbig] at hrel
        have HREL := hidden hrel
        have HCM := hidden hcm
        have hbz : (16 : Int) < (lp.length : Int) := by omega
        clear hrel hcm hown hx hl0 hFb hcell hpl hll hlp
        go_wp2_with (go_at_call 41; refine k41.mono ?_; rintro e w2 ⟨a2, m2, c3, rfl, rfl, h1, h2, h3⟩; have H2 := hidden (HCM.out.trans ⟨h2, h3⟩); clear k41 h1 h2 h3)
        go_ret2
        exact ⟨none, 0, 0, false, rfl, H2.out.chg, by omega, Or.inr ⟨rfl, HREL.out.symm, rfl⟩⟩
      · rw [if_neg hbig] at hrel
        have HREL := hidden hrel
        have HCM := hidden hcm
        have hbz : ¬ (16 : Int) < (lp.length : Int) := by omega
        clear hrel hcm hown hx hl0 hFb hcell hpl hll hlp
        go_wp2_with (go_at_call 41; refine k41.mono ?_; rintro e w2 ⟨a2, m2, c3, rfl, rfl, h1, h2, h3⟩; have H1 := hidden h1; have H2 := hidden (HCM.out.trans ⟨h2, h3⟩); clear k41 h1 h2 h3)
        refine ⟨⟨i + 1, lp.length, c3, a2, by first | rfl | simp, by first | rfl | simp, by omega, by omega, hidden ⟨lp, H1.out, HREL.out, H2.out⟩⟩, ?_⟩
        simp [intOf]
        omega
    · have hltz : ¬ (i : Int) < (n2 : Int) := by omega
      have hend : lb.drop i = [] := List.drop_of_length_le (by rw [HN2.out]; omega)
      rw [hend, togF] at hrel
      have HREL := hidden hrel
      have HOWN := hidden hown
      have HCM := hidden hcm
      clear hrel hown hcm hend
      go_wp2
      go_ret2
      exact ⟨aa, m, cc, true, rfl, HCM.out.chg, hm, Or.inl ⟨rfl, la, HREL.out.symm, by have := HOWN.out.1; rw [sV_length] at this; omega, HOWN.out, HCM.out.mv⟩⟩

set_option maxRecDepth 100000 in
set_option maxHeartbeats 8000000 in
theorem chainedP (la lb : Wl) (ad ad2 : Option Addr) (n c n2 c2 : Nat) (w : World) (F : Nat → Prop) (hA : Wr F w ad la) (hn : la.length = n) (hB : Wr F w ad2 lb) (hn2 : lb.length = n2) (hb1 : n ≤ 1000) (hb2 : n2 ≤ 1000) (hsa : ∀ x ∈ la, x.size ≤ 100000000) (hsb : ∀ x ∈ lb, x.size ≤ 100000000) :
    Calls Try.prog 34 #[.slice ad n c, .slice ad2 n2 c2] w (WdR w.heap.size none w (chF [] la lb)) := by
  obtain ⟨R, hR⟩ : ∃ R, chF [] la lb = R := ⟨_, rfl⟩
  have HR : Hid (chF [] (la.drop 0) lb = R) := hidden (by rw [List.drop_zero]; exact hR)
  have HN := hidden hn
  have HN2 := hidden hn2
  have HA := hidden hA
  have HB := hidden hB
  have HSA := hidden hsa
  have HSB := hidden hsb
  rw [hR]
  clear hR hn hn2 hA hB hsa hsb
  go_enter Try.func34, Try.ntmps34
  go_wp2
  go_loopw [6, 13] (fun s6 s13 wx => ∃ (i m cc : Nat) (aa : Option Addr), s6 = .slice aa m cc ∧ s13 = .int .i64 (i : Int) ∧ i ≤ n ∧ m ≤ 16 ∧ Hid (∃ lo : Wl, wx.ownsRow w.heap.size 9 1 (.slice aa m cc) m (sV lo) ∧ chF lo (la.drop i) lb = R ∧ Cm w wx none (Value.slice aa m cc).ownBlock)) (fun _ s13 _ => n - (intOf s13).toNat)
  case atStart => exact ⟨0, 0, 0, none, rfl, rfl, by omega, by omega, hidden ⟨[], World.ownsRow_nil _ _ _ _, HR.out, Cm.refl _ _⟩⟩
  case round =>
    rename World => wr
    obtain ⟨i, m, cc, aa, rfl, rfl, hi, hm, hex⟩ := hrel
    obtain ⟨lo, hown, hrel, hcm⟩ := hex.out
    clear hex HR
    by_cases hlt : i < n
    · have hltz : (i : Int) < (n : Int) := by omega
      obtain ⟨h, hx⟩ : ∃ x, la[i]? = some x := ⟨la[i]'(by rw [HN.out]; exact hlt), by simp⟩
      have hl0 : la ≠ [] := by intro e; rw [e] at hx; simp at hx
      obtain ⟨b, off, rfl, hFb, hcell⟩ := (HA.out.keep hcm.chg (fun b hb e => by cases e)) hl0
      have d0 := hcell i h hx
      have hhs := HSA.out h (List.mem_of_getElem? hx)
      rw [drop_at hx, chF] at hrel
      obtain ⟨R1, hR1⟩ : ∃ R1, chF1 h lo lb = R1 := ⟨_, rfl⟩
      rw [hR1] at hrel
      have H1 : Hid (chF1 h lo (lb.drop 0) = R1) := hidden (by rw [List.drop_zero]; exact hR1)
      have HREL := hidden hrel
      have HCM := hidden hcm
      have HOWN := hidden hown
      clear hrel hcm hown hx hl0 hFb hcell hR1
      go_wp2
      go_loopw [6, 19] (fun s6 s19 wx => ∃ (j m cc : Nat) (aa : Option Addr), s6 = .slice aa m cc ∧ s19 = .int .i64 (j : Int) ∧ j ≤ n2 ∧ m ≤ 16 ∧ Hid (∃ lo : Wl, wx.ownsRow w.heap.size 9 1 (.slice aa m cc) m (sV lo) ∧ chF1 h lo (lb.drop j) = R1 ∧ Cm w wx none (Value.slice aa m cc).ownBlock)) (fun _ s19 _ => n2 - (intOf s19).toNat)
      case atStart => exact ⟨0, m, cc, aa, rfl, rfl, by omega, hm, hidden ⟨lo, HOWN.out, H1.out, HCM.out⟩⟩
      case round =>
        rename World => ws
        obtain ⟨j, m1, cc1, aa1, rfl, rfl, hj, hm1, hex⟩ := hrel
        obtain ⟨lo1, hown, hrel, hcm⟩ := hex.out
        clear hex H1 d0
        by_cases hjt : j < n2
        · have hjtz : (j : Int) < (n2 : Int) := by omega
          obtain ⟨x, hx⟩ : ∃ x, lb[j]? = some x := ⟨lb[j]'(by rw [HN2.out]; exact hjt), by simp⟩
          have hl0 : lb ≠ [] := by intro e; rw [e] at hx; simp at hx
          obtain ⟨b3, off3, rfl, hFb, hcell⟩ := (HB.out.keep hcm.chg (fun b hb e => by cases e)) hl0
          have d1 := hcell j x hx
          have hxs := HSB.out x (List.mem_of_getElem? hx)
          have hsum : h.size + x.size ≤ 9223372036854775807 := by omega
          have hsumz : (h.size : Int) + (x.size : Int) ≤ 9223372036854775807 := by omega
          have k41 := putP w.heap.size lo1 aa1 m1 cc1 (h ++ x) ws hown (by omega) hcm.chg.size
          rw [drop_at hx, chF1] at hrel
          obtain ⟨lp, hlp⟩ : ∃ lp, putF lo1 (h ++ x) = lp := ⟨_, rfl⟩
          rw [hlp] at k41 hrel
          have hll : lo1.length = m1 := by have := hown.1; rw [sV_length] at this; omega
          have hpl := putF_len lo1 (h ++ x)
          rw [hlp, hll] at hpl
          by_cases hbig : 16 < lp.length
          · rw [if_pos hbig] at hrel
            have HR1 : Hid (R = none) := hidden (by rw [← HREL.out, ← hrel])
            have HCM2 := hidden hcm
            have hbz : (16 : Int) < (lp.length : Int) := by omega
            clear hrel hcm hown hx hl0 hFb hcell hpl hll hlp
            go_wp2_with (go_at_call 41; refine k41.mono ?_; rintro e w2 ⟨a2, m2, c3, rfl, rfl, h1, h2, h3⟩; have H2 := hidden (HCM2.out.trans ⟨h2, h3⟩); clear k41 h1 h2 h3)
            go_ret2
            exact ⟨none, 0, 0, false, rfl, H2.out.chg, by omega, Or.inr ⟨rfl, HR1.out, rfl⟩⟩
          · rw [if_neg hbig] at hrel
            have HR1 := hidden hrel
            have HCM2 := hidden hcm
            have hbz : ¬ (16 : Int) < (lp.length : Int) := by omega
            clear hrel hcm hown hx hl0 hFb hcell hpl hll hlp
            go_wp2_with (go_at_call 41; refine k41.mono ?_; rintro e w2 ⟨a2, m2, c3, rfl, rfl, h1, h2, h3⟩; have H1 := hidden h1; have H2 := hidden (HCM2.out.trans ⟨h2, h3⟩); clear k41 h1 h2 h3)
            refine ⟨⟨j + 1, lp.length, c3, a2, by first | rfl | simp, by first | rfl | simp, by omega, by omega, hidden ⟨lp, H1.out, HR1.out, H2.out⟩⟩, ?_⟩
            simp [intOf]
            omega
        · have hjtz : ¬ (j : Int) < (n2 : Int) := by omega
          have hend : lb.drop j = [] := List.drop_of_length_le (by rw [HN2.out]; omega)
          rw [hend, chF1] at hrel
          subst hrel
          have HOWN2 := hidden hown
          have HCM2 := hidden hcm
          clear hown hcm hend
          go_wp2
          refine ⟨⟨i + 1, m1, cc1, aa1, by first | rfl | simp, by first | rfl | simp, by omega, hm1, hidden ⟨lo1, HOWN2.out, HREL.out, HCM2.out⟩⟩, ?_⟩
          simp [intOf]
          omega
    · have hltz : ¬ (i : Int) < (n : Int) := by omega
      have hend : la.drop i = [] := List.drop_of_length_le (by rw [HN.out]; omega)
      rw [hend, chF] at hrel
      have HREL := hidden hrel
      have HOWN := hidden hown
      have HCM := hidden hcm
      clear hrel hown hcm hend
      go_wp2
      go_ret2
      exact ⟨aa, m, cc, true, rfl, HCM.out.chg, hm, Or.inl ⟨rfl, lo, HREL.out.symm, by have := HOWN.out.1; rw [sV_length] at this; omega, HOWN.out, HCM.out.mv⟩⟩

end Go.Proofs.Ytndegcgcbhcokaa
