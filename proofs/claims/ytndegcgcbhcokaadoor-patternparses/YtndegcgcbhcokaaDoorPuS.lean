import Derived.Test.YtndegcgcbhcokaaDoorPuR
import Derived.Test.YtndegcgcbhcokaaDoorPtR
/-
  Words: together, chained.
-/
namespace Go.Proofs.YtndegcgcbhcokaaDoor
open Go.RowKit
set_option linter.unusedVariables false
set_option linter.unusedSimpArgs false

/-- A list of texts, to be read. -/
def Wr (F : Nat → Prop) (w : World) (ad : Option Addr) (l : Wl) : Prop := l ≠ [] → ∃ b off, ad = some ⟨b, off, none⟩ ∧ F b ∧ ∀ (i : Nat) (x : ByteArray), l[i]? = some x → w.cell? ⟨b, off + i, none⟩ = some (.string x)
theorem Wr.keep {F G : Nat → Prop} {w w' : World} {ad : Option Addr} {l : Wl} (h : Wr F w ad l) (hc : Chg G w w') (hd : ∀ b, F b → ¬ G b) : Wr F w' ad l := by
  intro h0
  obtain ⟨b, off, e, hF, hcell⟩ := h h0
  refine ⟨b, off, e, hF, fun i x hx => ?_⟩
  have hx2 := hcell i x hx
  rw [show w'.cell? ⟨b, off + i, none⟩ = w.cell? ⟨b, off + i, none⟩ from World.cell?_of_block (hc.block b (cell_lt hx2) (hd b hF))]
  exact hx2
theorem wr_owns {w : World} {base n c : Nat} {ad : Option Addr} {l : Wl} (h : w.ownsRow base 9 1 (.slice ad n c) n (sV l)) : Wr (fun b => (Value.slice ad n c).ownBlock = some b ∧ base ≤ b ∧ b < w.heap.size) w ad l := by
  intro h0
  have hl := h.1
  rw [sV_length] at hl
  rcases h.2 with ⟨_, e⟩ | ⟨g, cap, cur, e0, hb, _⟩
  · rw [e] at hl; exact absurd (List.eq_nil_of_length_eq_zero (by omega)) h0
  · injection e0 with e0 _ _
    subst e0
    refine ⟨g, 0, rfl, ⟨by simp [Value.ownBlock], hb, owns_lt h g (by simp [Value.ownBlock])⟩, fun i x hx => ?_⟩
    have := h.cells (g := g) (by simp [Value.ownBlock]) _ _ (sV_get hx)
    rw [Addr.add_lit] at this
    exact this
structure Cm (w w' : World) (o o' : Option Nat) : Prop where
  chg : Chg (fun b => o = some b) w w'
  mv : Moved w o o'
theorem Cm.refl (w : World) (o : Option Nat) : Cm w w o o := ⟨Chg.refl _ _, .inl rfl⟩
theorem Cm.trans {w w1 w2 : World} {o o1 o2 : Option Nat} (h : Cm w w1 o o1) (k : Cm w1 w2 o1 o2) : Cm w w2 o o2 := by
  refine ⟨h.chg.trans k.chg (fun i hi hg => ?_), h.mv.trans k.mv h.chg.size⟩
  rcases h.mv with e | ⟨g, e, hlt⟩
  · rw [e] at hg; exact hg
  · rw [e] at hg; injection hg with hg; omega

def togF : Wl → Wl → Option Wl
  | a, [] => some a
  | a, x :: t => if 16 < (putF a x).length then none else togF (putF a x) t
def chF1 (h : ByteArray) : Wl → Wl → Option Wl
  | out, [] => some out
  | out, x :: t => if 16 < (putF out (h ++ x)).length then none else chF1 h (putF out (h ++ x)) t
def chF : Wl → Wl → Wl → Option Wl
  | out, [], _ => some out
  | out, h :: t, b => match chF1 h out b with
    | some o => chF o t b
    | none => none
/-- What is answered of a list of words, or of too many. -/
def WdR (base : Nat) (o : Option Nat) (w : World) (R : Option Wl) (e : Ending) (w' : World) : Prop :=
  ∃ a' m' c' ok, e = .returned (.tuple #[.slice a' m' c', .bool ok]) ∧ Chg (fun b => o = some b) w w' ∧ m' ≤ 16 ∧ ((ok = true ∧ ∃ lr, R = some lr ∧ lr.length = m' ∧ w'.ownsRow base 9 1 (.slice a' m' c') m' (sV lr) ∧ Moved w o (Value.slice a' m' c').ownBlock) ∨ (ok = false ∧ R = none ∧ m' = 0 ∧ a' = none ∧ c' = 0))

set_option maxRecDepth 100000 in
set_option maxHeartbeats 8000000 in
theorem togetherP (base : Nat) (l lb : Wl) (ad ad2 : Option Addr) (n c n2 c2 : Nat) (w : World) (F : Nat → Prop) (hown : w.ownsRow base 9 1 (.slice ad n c) n (sV l)) (hn : n ≤ 16) (hbase : base ≤ w.heap.size) (hW : Wr F w ad2 lb) (hn2 : lb.length = n2) (hb2 : n2 ≤ 1000) (hF : ∀ b, F b → (Value.slice ad n c).ownBlock ≠ some b ∧ b < w.heap.size) :
    Calls Tryd.prog 56 #[.slice ad n c, .slice ad2 n2 c2] w (WdR base (Value.slice ad n c).ownBlock w (togF l lb)) := by
  obtain ⟨R, hR⟩ : ∃ R, togF l lb = R := ⟨_, rfl⟩
  have HR : Hid (togF l (lb.drop 0) = R) := hidden (by rw [List.drop_zero]; exact hR)
  have HN2 := hidden hn2
  have HOW := hidden hown
  have HW := hidden hW
  have HF := hidden hF
  have HBS := hidden hbase
  obtain ⟨o, ho⟩ : ∃ o, (Value.slice ad n c).ownBlock = o := ⟨_, rfl⟩
  have HO := hidden ho
  rw [hR, ho]
  have hln : l.length = n := by have := hown.1; rw [sV_length] at this; omega
  have HLN := hidden hln
  clear hR hn2 hown hW hF hbase ho hln
  go_enter Tryd.func56, Tryd.ntmps56
  go_wp2
  go_loopw [0, 10] (fun s0 s10 wx => ∃ (i m cc : Nat) (aa : Option Addr), s0 = .slice aa m cc ∧ s10 = .int .i64 (i : Int) ∧ i ≤ n2 ∧ m ≤ 16 ∧ Hid (∃ la : Wl, wx.ownsRow base 9 1 (.slice aa m cc) m (sV la) ∧ togF la (lb.drop i) = R ∧ Cm w wx o (Value.slice aa m cc).ownBlock)) (fun _ s10 _ => n2 - (intOf s10).toNat)
  case atStart => exact ⟨0, n, c, ad, rfl, rfl, by omega, hn, hidden ⟨l, HOW.out, HR.out, by rw [HO.out]; exact Cm.refl _ _⟩⟩
  case round =>
    rename World => wr
    obtain ⟨i, m, cc, aa, rfl, rfl, hi, hm, hex⟩ := hrel
    obtain ⟨la, hown, hrel, hcm⟩ := hex.out
    clear hex HR
    by_cases hlt : i < n2
    · have hltz : (i : Int) < (n2 : Int) := by omega
      obtain ⟨x, hx⟩ : ∃ x, lb[i]? = some x := ⟨lb[i]'(by rw [HN2.out]; exact hlt), by simp⟩
      have hl0 : lb ≠ [] := by intro e; rw [e] at hx; simp at hx
      obtain ⟨b, off, rfl, hFb, hcell⟩ := (HW.out.keep hcm.chg (fun b hb => by rw [← HO.out]; exact (HF.out b hb).1)) hl0
      have d0 := hcell i x hx
      have k41 := putP base la aa m cc x wr hown (by omega) (by have := HBS.out; have := hcm.chg.size; omega)
      rw [drop_at hx, togF] at hrel
      obtain ⟨lp, hlp⟩ : ∃ lp, putF la x = lp := ⟨_, rfl⟩
      rw [hlp] at k41 hrel
      have hll : la.length = m := by have := hown.1; rw [sV_length] at this; omega
      have hpl := putF_len la x
      rw [hlp, hll] at hpl
      by_cases hbig : 16 < lp.length
      · rw [if_pos hbig] at hrel
        have HREL := hidden hrel
        have HCM := hidden hcm
        have hbz : (16 : Int) < (lp.length : Int) := by omega
        clear hrel hcm hown hx hl0 hFb hcell hpl hll hlp
        go_wp2_with (go_at_call 67; refine k41.mono ?_; rintro e w2 ⟨a2, m2, c3, rfl, rfl, h1, h2, h3⟩; have H2 := hidden (HCM.out.trans ⟨h2, h3⟩); clear k41 h1 h2 h3)
        go_ret2
        exact ⟨none, 0, 0, false, rfl, H2.out.chg, by omega, Or.inr ⟨rfl, HREL.out.symm, rfl, rfl, rfl⟩⟩
      · rw [if_neg hbig] at hrel
        have HREL := hidden hrel
        have HCM := hidden hcm
        have hbz : ¬ (16 : Int) < (lp.length : Int) := by omega
        clear hrel hcm hown hx hl0 hFb hcell hpl hll hlp
        go_wp2_with (go_at_call 67; refine k41.mono ?_; rintro e w2 ⟨a2, m2, c3, rfl, rfl, h1, h2, h3⟩; have H1 := hidden h1; have H2 := hidden (HCM.out.trans ⟨h2, h3⟩); clear k41 h1 h2 h3)
        refine ⟨⟨i + 1, lp.length, c3, a2, by first | rfl | simp, by first | rfl | simp, by omega, by omega, hidden ⟨lp, H1.out, HREL.out, H2.out⟩⟩, ?_⟩
        simp [intOf]
        omega
    · have hltz : ¬ (i : Int) < (n2 : Int) := by omega
      have hend : lb.drop i = [] := List.drop_of_length_le (by rw [HN2.out]; omega)
      rw [hend, togF] at hrel
      have HREL := hidden hrel
      have HOWN := hidden hown
      have HCM := hidden hcm
      clear hrel hown hcm hend
      go_wp2
      go_ret2
      exact ⟨aa, m, cc, true, rfl, HCM.out.chg, hm, Or.inl ⟨rfl, la, HREL.out.symm, by have := HOWN.out.1; rw [sV_length] at this; omega, HOWN.out, HCM.out.mv⟩⟩

set_option maxRecDepth 100000 in
set_option maxHeartbeats 8000000 in
theorem chainedP (la lb : Wl) (ad ad2 : Option Addr) (n c n2 c2 : Nat) (w : World) (F : Nat → Prop) (hA : Wr F w ad la) (hn : la.length = n) (hB : Wr F w ad2 lb) (hn2 : lb.length = n2) (hb1 : n ≤ 1000) (hb2 : n2 ≤ 1000) (hsa : ∀ x ∈ la, x.size ≤ 100000000) (hsb : ∀ x ∈ lb, x.size ≤ 100000000) :
    Calls Tryd.prog 57 #[.slice ad n c, .slice ad2 n2 c2] w (WdR w.heap.size none w (chF [] la lb)) := by
  obtain ⟨R, hR⟩ : ∃ R, chF [] la lb = R := ⟨_, rfl⟩
  have HR : Hid (chF [] (la.drop 0) lb = R) := hidden (by rw [List.drop_zero]; exact hR)
  have HN := hidden hn
  have HN2 := hidden hn2
  have HA := hidden hA
  have HB := hidden hB
  have HSA := hidden hsa
  have HSB := hidden hsb
  rw [hR]
  clear hR hn hn2 hA hB hsa hsb
  go_enter Tryd.func57, Tryd.ntmps57
  go_wp2
  go_loopw [6, 13] (fun s6 s13 wx => ∃ (i m cc : Nat) (aa : Option Addr), s6 = .slice aa m cc ∧ s13 = .int .i64 (i : Int) ∧ i ≤ n ∧ m ≤ 16 ∧ Hid (∃ lo : Wl, wx.ownsRow w.heap.size 9 1 (.slice aa m cc) m (sV lo) ∧ chF lo (la.drop i) lb = R ∧ Cm w wx none (Value.slice aa m cc).ownBlock)) (fun _ s13 _ => n - (intOf s13).toNat)
  case atStart => exact ⟨0, 0, 0, none, rfl, rfl, by omega, by omega, hidden ⟨[], World.ownsRow_nil _ _ _ _, HR.out, Cm.refl _ _⟩⟩
  case round =>
    rename World => wr
    obtain ⟨i, m, cc, aa, rfl, rfl, hi, hm, hex⟩ := hrel
    obtain ⟨lo, hown, hrel, hcm⟩ := hex.out
    clear hex HR
    by_cases hlt : i < n
    · have hltz : (i : Int) < (n : Int) := by omega
      obtain ⟨h, hx⟩ : ∃ x, la[i]? = some x := ⟨la[i]'(by rw [HN.out]; exact hlt), by simp⟩
      have hl0 : la ≠ [] := by intro e; rw [e] at hx; simp at hx
      obtain ⟨b, off, rfl, hFb, hcell⟩ := (HA.out.keep hcm.chg (fun b hb e => by cases e)) hl0
      have d0 := hcell i h hx
      have hhs := HSA.out h (List.mem_of_getElem? hx)
      rw [drop_at hx, chF] at hrel
      obtain ⟨R1, hR1⟩ : ∃ R1, chF1 h lo lb = R1 := ⟨_, rfl⟩
      rw [hR1] at hrel
      have H1 : Hid (chF1 h lo (lb.drop 0) = R1) := hidden (by rw [List.drop_zero]; exact hR1)
      have HREL := hidden hrel
      have HCM := hidden hcm
      have HOWN := hidden hown
      clear hrel hcm hown hx hl0 hFb hcell hR1
      go_wp2
      go_loopw [6, 19] (fun s6 s19 wx => ∃ (j m cc : Nat) (aa : Option Addr), s6 = .slice aa m cc ∧ s19 = .int .i64 (j : Int) ∧ j ≤ n2 ∧ m ≤ 16 ∧ Hid (∃ lo : Wl, wx.ownsRow w.heap.size 9 1 (.slice aa m cc) m (sV lo) ∧ chF1 h lo (lb.drop j) = R1 ∧ Cm w wx none (Value.slice aa m cc).ownBlock)) (fun _ s19 _ => n2 - (intOf s19).toNat)
      case atStart => exact ⟨0, m, cc, aa, rfl, rfl, by omega, hm, hidden ⟨lo, HOWN.out, H1.out, HCM.out⟩⟩
      case round =>
        rename World => ws
        obtain ⟨j, m1, cc1, aa1, rfl, rfl, hj, hm1, hex⟩ := hrel
        obtain ⟨lo1, hown, hrel, hcm⟩ := hex.out
        clear hex H1 d0
        by_cases hjt : j < n2
        · have hjtz : (j : Int) < (n2 : Int) := by omega
          obtain ⟨x, hx⟩ : ∃ x, lb[j]? = some x := ⟨lb[j]'(by rw [HN2.out]; exact hjt), by simp⟩
          have hl0 : lb ≠ [] := by intro e; rw [e] at hx; simp at hx
          obtain ⟨b3, off3, rfl, hFb, hcell⟩ := (HB.out.keep hcm.chg (fun b hb e => by cases e)) hl0
          have d1 := hcell j x hx
          have hxs := HSB.out x (List.mem_of_getElem? hx)
          have hsum : h.size + x.size ≤ 9223372036854775807 := by omega
          have hsumz : (h.size : Int) + (x.size : Int) ≤ 9223372036854775807 := by omega
          have k41 := putP w.heap.size lo1 aa1 m1 cc1 (h ++ x) ws hown (by omega) hcm.chg.size
          rw [drop_at hx, chF1] at hrel
          obtain ⟨lp, hlp⟩ : ∃ lp, putF lo1 (h ++ x) = lp := ⟨_, rfl⟩
          rw [hlp] at k41 hrel
          have hll : lo1.length = m1 := by have := hown.1; rw [sV_length] at this; omega
          have hpl := putF_len lo1 (h ++ x)
          rw [hlp, hll] at hpl
          by_cases hbig : 16 < lp.length
          · rw [if_pos hbig] at hrel
            have HR1 : Hid (R = none) := hidden (by rw [← HREL.out, ← hrel])
            have HCM2 := hidden hcm
            have hbz : (16 : Int) < (lp.length : Int) := by omega
            clear hrel hcm hown hx hl0 hFb hcell hpl hll hlp
            go_wp2_with (go_at_call 67; refine k41.mono ?_; rintro e w2 ⟨a2, m2, c3, rfl, rfl, h1, h2, h3⟩; have H2 := hidden (HCM2.out.trans ⟨h2, h3⟩); clear k41 h1 h2 h3)
            go_ret2
            exact ⟨none, 0, 0, false, rfl, H2.out.chg, by omega, Or.inr ⟨rfl, HR1.out, rfl, rfl, rfl⟩⟩
          · rw [if_neg hbig] at hrel
            have HR1 := hidden hrel
            have HCM2 := hidden hcm
            have hbz : ¬ (16 : Int) < (lp.length : Int) := by omega
            clear hrel hcm hown hx hl0 hFb hcell hpl hll hlp
            go_wp2_with (go_at_call 67; refine k41.mono ?_; rintro e w2 ⟨a2, m2, c3, rfl, rfl, h1, h2, h3⟩; have H1 := hidden h1; have H2 := hidden (HCM2.out.trans ⟨h2, h3⟩); clear k41 h1 h2 h3)
            refine ⟨⟨j + 1, lp.length, c3, a2, by first | rfl | simp, by first | rfl | simp, by omega, by omega, hidden ⟨lp, H1.out, HR1.out, H2.out⟩⟩, ?_⟩
            simp [intOf]
            omega
        · have hjtz : ¬ (j : Int) < (n2 : Int) := by omega
          have hend : lb.drop j = [] := List.drop_of_length_le (by rw [HN2.out]; omega)
          rw [hend, chF1] at hrel
          subst hrel
          have HOWN2 := hidden hown
          have HCM2 := hidden hcm
          clear hown hcm hend
          go_wp2
          refine ⟨⟨i + 1, m1, cc1, aa1, by first | rfl | simp, by first | rfl | simp, by omega, hm1, hidden ⟨lo1, HOWN2.out, HREL.out, HCM2.out⟩⟩, ?_⟩
          simp [intOf]
          omega
    · have hltz : ¬ (i : Int) < (n : Int) := by omega
      have hend : la.drop i = [] := List.drop_of_length_le (by rw [HN.out]; omega)
      rw [hend, chF] at hrel
      have HREL := hidden hrel
      have HOWN := hidden hown
      have HCM := hidden hcm
      clear hrel hown hcm hend
      go_wp2
      go_ret2
      exact ⟨aa, m, cc, true, rfl, HCM.out.chg, hm, Or.inl ⟨rfl, lo, HREL.out.symm, by have := HOWN.out.1; rw [sV_length] at this; omega, HOWN.out, HCM.out.mv⟩⟩

end Go.Proofs.YtndegcgcbhcokaaDoor

/-
  Words: of spans.
-/
namespace Go.Proofs.YtndegcgcbhcokaaDoor
open Go.RowKit
set_option linter.unusedVariables false
set_option linter.unusedSimpArgs false

def hidB (x : Nat) : Bool := decide (55296 ≤ x) && decide (x ≤ 57343)
set_option maxHeartbeats 2000000 in
theorem isHiddenP (x : Nat) (w : World) : Calls Tryd.prog 58 #[.int .i32 (x : Int)] w fun e w' => e = .returned (.bool (hidB x)) ∧ w' = w := by
  by_cases h1 : 55296 ≤ x
  · have h1z : (55296 : Int) ≤ (x : Int) := by omega
    by_cases h2 : x ≤ 57343
    · have h2z : (x : Int) ≤ 57343 := by omega
      have HE : Hid (hidB x = true) := hidden (by simp [hidB, h1, h2])
      clear h1 h2
      go_enter Tryd.func58, Tryd.ntmps58
      go_wp2
      go_ret
      exact ⟨by rw [HE.out]; rfl, rfl⟩
    · have h2z : ¬ (x : Int) ≤ 57343 := by omega
      have h2y : decide ((x : Int) ≤ 57343) = false := decide_eq_false h2z
      have HE : Hid (hidB x = false) := hidden (by simp [hidB, h2])
      clear h1 h2
      go_enter Tryd.func58, Tryd.ntmps58
      go_wp2
      go_ret
      exact ⟨by rw [HE.out]; rfl, rfl⟩
  · have h1z : ¬ (55296 : Int) ≤ (x : Int) := by omega
    have h1y : decide ((55296 : Int) ≤ (x : Int)) = false := decide_eq_false h1z
    have HE : Hid (hidB x = false) := hidden (by simp [hidB, h1])
    clear h1
    go_enter Tryd.func58, Tryd.ntmps58
    go_wp2
    go_ret
    exact ⟨by rw [HE.out]; rfl, rfl⟩

def str (c : Nat) : ByteArray := Utf8.encode (c : Int)
def spC : Nat → Nat → Wl → Option Wl
  | 0, _, out => some out
  | k + 1, c, out => if hidB c then spC k (c + 1) out else if out.length = 16 then none else spC k (c + 1) (out ++ [str c])
def spF : Sn → Wl → Option Wl
  | [], out => some out
  | s :: t, out => match spC (s.2 + 1 - s.1) s.1 out with
    | some o => spF t o
    | none => none
theorem spC_at {hi c : Nat} (h : c ≤ hi) (out : Wl) : spC (hi + 1 - c) c out = if hidB c then spC (hi + 1 - (c + 1)) (c + 1) out else if out.length = 16 then none else spC (hi + 1 - (c + 1)) (c + 1) (out ++ [str c]) := by
  rw [show hi + 1 - c = (hi + 1 - (c + 1)) + 1 by omega, spC]

set_option maxRecDepth 100000 in
set_option maxHeartbeats 8000000 in
theorem spansWP (ad : Option Addr) (c : Nat) (l : Sn) (w : World) (hL : Ss w ad l) (hlen : l.length ≤ 2000) :
    Calls Tryd.prog 37 #[.slice ad l.length c] w (WdR w.heap.size none w (spF l [])) := by
  obtain ⟨i0, hi0, hz0, hz1, hz2⟩ := info_parts info9
  have HI := hidden hi0
  obtain ⟨n, hn⟩ : ∃ n, l.length = n := ⟨_, rfl⟩
  rw [hn] at hlen ⊢
  have HN := hidden hn
  have HL := hidden hL
  obtain ⟨R, hR⟩ : ∃ R, spF l [] = R := ⟨_, rfl⟩
  have HR : Hid (spF (l.drop 0) [] = R) := hidden (by rw [List.drop_zero]; exact hR)
  rw [hR]
  clear hi0 hn hL hR
  go_enter Tryd.func37, Tryd.ntmps37
  go_wp2
  go_loopw [4, 10] (fun s4 s10 wx => ∃ (i m cc : Nat) (aa : Option Addr), s4 = .slice aa m cc ∧ s10 = .int .i64 (i : Int) ∧ i ≤ n ∧ m ≤ 16 ∧ Hid (∃ lo : Wl, wx.ownsRow w.heap.size 9 1 (.slice aa m cc) m (sV lo) ∧ spF (l.drop i) lo = R ∧ Cm w wx none (Value.slice aa m cc).ownBlock)) (fun _ s10 _ => n - (intOf s10).toNat)
  case atStart => exact ⟨0, 0, 0, none, rfl, rfl, by omega, by omega, hidden ⟨[], World.ownsRow_nil _ _ _ _, HR.out, Cm.refl _ _⟩⟩
  case round =>
    rename World => wr
    obtain ⟨i, m, cc, aa, rfl, rfl, hi, hm, hex⟩ := hrel
    obtain ⟨lo, hown, hrel, hcm⟩ := hex.out
    clear hex HR
    by_cases hlt : i < n
    · have hltz : (i : Int) < (n : Int) := by omega
      have hbw : Below w.heap.size w wr := hcm.chg.below (Nat.le_refl _) (fun i e => by cases e)
      obtain ⟨b, off, o, rfl, hb, ho, ho', d0, d1, y1, y2⟩ := (HL.out.later hbw).get (i := i) (by rw [HN.out]; exact hlt)
      obtain ⟨x1, x2⟩ := o
      simp only at d0 d1 y1 y2
      rw [drop_at ho, spF] at hrel
      simp only at hrel
      obtain ⟨R1, hR1⟩ : ∃ R1, spC (x2 + 1 - x1) x1 lo = R1 := ⟨_, rfl⟩
      rw [hR1] at hrel
      have HREL := hidden hrel
      obtain ⟨W1, hW1⟩ : ∃ W1, wr.alloc (.cells #[.int .i32 (x1 : Int), .int .i32 (x2 : Int)] 125) = W1 := ⟨_, rfl⟩
      have B6 : Blk W1 wr.heap.size 125 [.int .i32 (x1 : Int), .int .i32 (x2 : Int)] := by rw [← hW1]; exact Blk.new wr 125 _
      have hca : Chg (fun _ => False) wr W1 := by rw [← hW1]; exact Chg.alloc _ _ _
      have hcm1 : Cm w W1 none (Value.slice aa m cc).ownBlock := ⟨hcm.chg.trans hca (fun _ _ h => h.elim), hcm.mv⟩
      have hown1 : W1.ownsRow w.heap.size 9 1 (.slice aa m cc) m (sV lo) := by rw [← hW1]; exact hown.alloc _
      have ho6 : (Value.slice aa m cc).ownBlock ≠ some wr.heap.size := fun e => by have := owns_lt hown _ e; omega
      have HST : Hid (∃ lo : Wl, W1.ownsRow w.heap.size 9 1 (.slice aa m cc) m (sV lo) ∧ spC (x2 + 1 - x1) x1 lo = R1 ∧ Cm w W1 none (Value.slice aa m cc).ownBlock ∧ Blk W1 wr.heap.size 125 [.int .i32 (x1 : Int), .int .i32 (x2 : Int)] ∧ (Value.slice aa m cc).ownBlock ≠ some wr.heap.size ∧ w.heap.size ≤ W1.heap.size) := hidden ⟨lo, hown1, hR1, hcm1, B6, ho6, hcm1.chg.size⟩
      clear hrel hcm hown hbw ho ho' hR1 hcm1 hown1 B6 ho6 hca
      obtain ⟨q, hq⟩ : ∃ q, wr.heap.size = q := ⟨_, rfl⟩
      rw [← hW1] at HST
      clear hq hW1
      by_cases hle : x1 ≤ x2 + 1
      · go_wp2
        go_loopw [4, 7] (fun s4 s7 wx => ∃ (cp m cc : Nat) (aa : Option Addr), s4 = .slice aa m cc ∧ s7 = .int .i32 (cp : Int) ∧ x1 ≤ cp ∧ cp ≤ x2 + 1 ∧ m ≤ 16 ∧ Hid (∃ lo : Wl, wx.ownsRow w.heap.size 9 1 (.slice aa m cc) m (sV lo) ∧ spC (x2 + 1 - cp) cp lo = R1 ∧ Cm w wx none (Value.slice aa m cc).ownBlock ∧ Blk wx wr.heap.size 125 [.int .i32 (x1 : Int), .int .i32 (x2 : Int)] ∧ (Value.slice aa m cc).ownBlock ≠ some wr.heap.size ∧ w.heap.size ≤ wx.heap.size)) (fun _ s7 _ => x2 + 1 - (intOf s7).toNat)
        case atStart => exact ⟨x1, m, cc, aa, rfl, rfl, Nat.le_refl _, hle, hm, HST⟩
        case round =>
          rename World => ws
          obtain ⟨cp, m1, cc1, aa1, rfl, rfl, hc1, hc2, hm1, hex⟩ := hrel
          obtain ⟨lo1, hown, hrel, hcm, hB6, ho6, hws⟩ := hex.out
          clear hex HST d0 d1
          have e1 : ws.cell? ⟨wr.heap.size, 1, none⟩ = some (.int .i32 (x2 : Int)) := hB6.cell 1
          by_cases hjt : cp ≤ x2
          · have hjtz : (cp : Int) ≤ (x2 : Int) := by omega
            rw [spC_at hjt] at hrel
            have k35 := isHiddenP cp
            cases hh : hidB cp with
            | true =>
              rw [hh] at hrel k35
              rw [if_pos rfl] at hrel
              have HX : Hid (∃ lo : Wl, ws.ownsRow w.heap.size 9 1 (.slice aa1 m1 cc1) m1 (sV lo) ∧ spC (x2 + 1 - (cp + 1)) (cp + 1) lo = R1 ∧ Cm w ws none (Value.slice aa1 m1 cc1).ownBlock ∧ Blk ws wr.heap.size 125 [.int .i32 (x1 : Int), .int .i32 (x2 : Int)] ∧ (Value.slice aa1 m1 cc1).ownBlock ≠ some wr.heap.size ∧ w.heap.size ≤ ws.heap.size) := hidden ⟨lo1, hown, hrel, hcm, hB6, ho6, hws⟩
              clear hrel hown hcm hB6 ho6 hws hh
              go_wp2_with (go_at_call 58; refine (k35 _).mono ?_; rintro e w2 ⟨rfl, rfl⟩; clear k35)
              refine ⟨⟨cp + 1, m1, cc1, aa1, by first | rfl | simp, by first | rfl | simp, by omega, by omega, hm1, HX⟩, ?_⟩
              simp [intOf]
              omega
            | false =>
              rw [hh] at hrel k35
              rw [if_neg (by simp)] at hrel
              have hll : lo1.length = m1 := by have := hown.1; rw [sV_length] at this; omega
              rw [hll] at hrel
              by_cases h16 : m1 = 16
              · rw [if_pos h16] at hrel
                have HR1 : Hid (R = none) := hidden (by rw [← HREL.out, ← hrel])
                have HCM2 := hidden hcm
                have h16z : (m1 : Int) = 16 := by omega
                have h16y : ((m1 : Int) == 16) = true := by simp [h16z]
                clear hrel hown hcm hB6 ho6 hws hh hll h16
                go_wp2_with (go_at_call 58; refine (k35 _).mono ?_; rintro e w2 ⟨rfl, rfl⟩; clear k35)
                go_ret2
                exact ⟨none, 0, 0, false, rfl, HCM2.out.chg, by omega, Or.inr ⟨rfl, HR1.out, rfl, rfl, rfl⟩⟩
              · rw [if_neg h16] at hrel
                have h16z : ¬ (m1 : Int) = 16 := by omega
                have h16y : ((m1 : Int) == 16) = false := by simp; omega
                obtain ⟨sx, hsx⟩ : ∃ sx, str cp = sx := ⟨_, rfl⟩
                rw [hsx] at hrel
                have hsx2 : Utf8.encode (cp : Int) = sx := hsx
                have HOWN := hidden hown
                have HWS := hidden hws
                have HNX : Hid (∀ w9 g9 c9 ob, w9.ownsRow w.heap.size 9 1 (.slice (some ⟨g9, 0, none⟩) (m1 + 1) c9) (m1 + 1) (sV lo1 ++ [.string sx]) → Pushed (ws.alloc ob) w9 (.slice aa1 m1 cc1) g9 → ∃ lo : Wl, w9.ownsRow w.heap.size 9 1 (.slice (some ⟨g9, 0, none⟩) (m1 + 1) c9) (m1 + 1) (sV lo) ∧ spC (x2 + 1 - (cp + 1)) (cp + 1) lo = R1 ∧ Cm w w9 none (Value.slice (some ⟨g9, 0, none⟩) (m1 + 1) c9).ownBlock ∧ Blk w9 wr.heap.size 125 [.int .i32 (x1 : Int), .int .i32 (x2 : Int)] ∧ (Value.slice (some ⟨g9, 0, none⟩) (m1 + 1) c9).ownBlock ≠ some wr.heap.size ∧ w.heap.size ≤ w9.heap.size) := hidden (fun w9 g9 c9 ob h1 h2 => by
                  obtain ⟨c1, c2⟩ := h2.chg
                  refine ⟨lo1 ++ [sx], by rw [sV_append]; exact h1, hrel, hcm.trans ⟨c1, c2⟩, c1.blk hB6 ho6, fun e => ?_, by have := c1.size; omega⟩
                  rcases c2 with e2 | ⟨g, e2, hg⟩
                  · exact ho6 (by rw [← e2]; exact e)
                  · have e3 : g9 = wr.heap.size := by simpa [Value.ownBlock] using e
                    injection e2 with e2
                    have := hB6.lt
                    omega)
                have CX : Hid ((ws.alloc (.cells #[.string sx] 9)).cell? ⟨ws.heap.size, 0, none⟩ = some (.string sx)) := hidden ((Blk.new ws 9 [.string sx]).cell 0)
                clear hrel hown hcm hB6 ho6 hws hh hll h16 hsx
                go_wp2_with (first
                  | (go_at_call 58; refine (k35 _).mono ?_; rintro e w2 ⟨rfl, rfl⟩; clear k35)
                  | (refine wpList_push _ rfl (.tmp 27) (.tmp 30) 22 rfl 9 i0 (.string ⟨#[]⟩) 16 Tryd.underlying22 HI.out hz0 hz1 hz2 rfl w.heap.size (.slice aa1 m1 cc1) m1 (sV lo1) rfl (HOWN.out.alloc _) ⟨w2.heap.size, 0, none⟩ (.string sx) rfl CX.out rfl (by unfold maxLen; omega) (by omega) (by have := HWS.out; simp; omega) ?_; intro g9 c9 w9 ho9 hp9; have H9 := hidden (HNX.out w9 g9 c9 _ ho9 hp9); clear HNX ho9 hp9))
                refine ⟨⟨cp + 1, m1 + 1, c9, some ⟨g9, 0, none⟩, by first | rfl | simp, by first | rfl | simp, by omega, by omega, by omega, H9⟩, ?_⟩
                simp [intOf]
                omega
          · have hjtz : ¬ (cp : Int) ≤ (x2 : Int) := by omega
            rw [show x2 + 1 - cp = 0 by omega, spC] at hrel
            subst hrel
            have HX : Hid (∃ lo : Wl, ws.ownsRow w.heap.size 9 1 (.slice aa1 m1 cc1) m1 (sV lo) ∧ spF (l.drop (i + 1)) lo = R ∧ Cm w ws none (Value.slice aa1 m1 cc1).ownBlock) := hidden ⟨lo1, hown, HREL.out, hcm⟩
            clear hown hcm hB6 ho6 hws
            go_wp2
            refine ⟨⟨i + 1, m1, cc1, aa1, by first | rfl | simp, by first | rfl | simp, by omega, hm1, HX⟩, ?_⟩
            simp [intOf]
            omega
      · have hjtz : ¬ (x1 : Int) ≤ (x2 : Int) := by omega
        obtain ⟨lo2, hown, hrel, hcm, _⟩ := HST.out
        rw [show x2 + 1 - x1 = 0 by omega, spC] at hrel
        subst hrel
        have HX : Hid (∃ lo : Wl, (wr.alloc (.cells #[.int .i32 (x1 : Int), .int .i32 (x2 : Int)] 125)).ownsRow w.heap.size 9 1 (.slice aa m cc) m (sV lo) ∧ spF (l.drop (i + 1)) lo = R ∧ Cm w (wr.alloc (.cells #[.int .i32 (x1 : Int), .int .i32 (x2 : Int)] 125)) none (Value.slice aa m cc).ownBlock) := hidden ⟨lo2, hown, HREL.out, hcm⟩
        clear hown hcm HST
        go_wp2
        go_loopw [4, 7] (fun s4 s7 wx => s4 = .slice aa m cc ∧ s7 = .int .i32 (x1 : Int) ∧ wx = wr.alloc (.cells #[.int .i32 (x1 : Int), .int .i32 (x2 : Int)] 125)) (fun _ _ _ => 0)
        case atStart => exact ⟨rfl, rfl, rfl⟩
        case round =>
          obtain ⟨rfl, rfl, rfl⟩ := hrel
          go_wp2
          refine ⟨⟨i + 1, m, cc, aa, by first | rfl | simp, by first | rfl | simp, by omega, hm, HX⟩, ?_⟩
          simp [intOf]
          omega
    · have hltz : ¬ (i : Int) < (n : Int) := by omega
      have hend : l.drop i = [] := List.drop_of_length_le (by rw [HN.out]; omega)
      rw [hend, spF] at hrel
      have HREL := hidden hrel
      have HOWN := hidden hown
      have HCM := hidden hcm
      clear hrel hown hcm hend
      go_wp2
      go_ret2
      exact ⟨aa, m, cc, true, rfl, HCM.out.chg, hm, Or.inl ⟨rfl, lo, HREL.out.symm, by have := HOWN.out.1; rw [sV_length] at this; omega, HOWN.out, HCM.out.mv⟩⟩

end Go.Proofs.YtndegcgcbhcokaaDoor

/-
  Words, purely.
-/
namespace Go.Proofs.YtndegcgcbhcokaaDoor
open Go
set_option linter.unusedVariables false
set_option linter.unusedSimpArgs false

abbrev noText : ByteArray := ⟨#[]⟩
def letters (w : Wl) : Bool := decide (1 < w.length) || (match w with
  | [x] => !x.toList.isEmpty
  | _ => false)
def repW (o : Option Wl) (s : Nat) : Option Wl := match o with
  | none => none
  | some w => if letters w = true ∧ s ≠ 63 then none else if s = 43 then some w else togF w [noText]
mutual
/-- The words of a part; none: too many. -/
def Pt.wds : Pt → Option Wl
  | .chr c => spF [(c, c)] []
  | .any => spF (othS 0 []) []
  | .cls neg l => spF (if neg then othS 0 l else l) []
  | .grp l => rowsW l []
  | .rep a s => repW a.wds s
/-- Of a row of too many: it may mean nothing all the same. -/
def rowN : List Pt → Option Wl
  | [] => none
  | p :: t => match p.wds with
    | some [] => some []
    | _ => rowN t
def rowW : List Pt → Wl → Option Wl
  | [], out => some out
  | p :: t, out => match p.wds with
    | none => rowN t
    | some [] => some []
    | some (x :: m) => match chF [] out (x :: m) with
      | some o => rowW t o
      | none => rowN t
def rowsW : List (List Pt) → Wl → Option Wl
  | [], out => some out
  | r :: t, out => match rowW r [noText] with
    | none => none
    | some m => match togF out m with
      | some o => rowsW t o
      | none => none
end

theorem putF_mem (l : Wl) (x y : ByteArray) : y ∈ putF l x ↔ y ∈ l ∨ y = x := by
  unfold putF
  split
  · rename_i h
    exact ⟨.inl, fun h' => h'.elim id (fun e => by rw [e]; exact List.mem_of_getElem? h)⟩
  · constructor
    · intro h
      rcases List.mem_append.1 h with h | h
      · exact .inl (List.mem_of_mem_take h)
      · rcases List.mem_cons.1 h with h | h
        · exact .inr h
        · exact .inl (List.mem_of_mem_drop h)
    · intro h
      rcases h with h | h
      · rw [← List.take_append_drop (putI l x l.length) l] at h
        rcases List.mem_append.1 h with h | h
        · exact List.mem_append.2 (.inl h)
        · exact List.mem_append.2 (.inr (List.mem_cons.2 (.inr h)))
      · exact List.mem_append.2 (.inr (List.mem_cons.2 (.inl h)))
theorem togF_mem : ∀ (b a : Wl) (r : Wl), togF a b = some r → ∀ y, y ∈ r ↔ y ∈ a ∨ y ∈ b
  | [], a, r, h, y => by rw [togF] at h; injection h with h; subst h; simp
  | x :: t, a, r, h, y => by
    rw [togF] at h
    split at h
    · cases h
    · rw [togF_mem t _ r h y, putF_mem]
      simp only [List.mem_cons]
      constructor
      · rintro ((h | h) | h)
        · exact .inl h
        · exact .inr (.inl h)
        · exact .inr (.inr h)
      · rintro (h | h | h)
        · exact .inl (.inl h)
        · exact .inl (.inr h)
        · exact .inr h
theorem chF1_mem (hd : ByteArray) : ∀ (b out : Wl) (r : Wl), chF1 hd out b = some r → ∀ y, y ∈ r ↔ y ∈ out ∨ ∃ x ∈ b, y = hd ++ x
  | [], out, r, h, y => by rw [chF1] at h; injection h with h; subst h; simp
  | x :: t, out, r, h, y => by
    rw [chF1] at h
    split at h
    · cases h
    · rw [chF1_mem hd t _ r h y, putF_mem]
      constructor
      · rintro ((h | h) | ⟨z, hz, h⟩)
        · exact .inl h
        · exact .inr ⟨x, by simp, h⟩
        · exact .inr ⟨z, by simp [hz], h⟩
      · rintro (h | ⟨z, hz, k⟩)
        · exact .inl (.inl h)
        · rcases List.mem_cons.1 hz with e | hz
          · exact .inl (.inr (by rw [← e]; exact k))
          · exact .inr ⟨z, hz, k⟩
theorem chF_mem : ∀ (a out b : Wl) (r : Wl), chF out a b = some r → ∀ y, y ∈ r ↔ y ∈ out ∨ ∃ h ∈ a, ∃ x ∈ b, y = h ++ x
  | [], out, b, r, h, y => by rw [chF] at h; injection h with h; subst h; simp
  | hd :: t, out, b, r, h, y => by
    rw [chF] at h
    cases h1 : chF1 hd out b with
    | none => rw [h1] at h; cases h
    | some o =>
      rw [h1] at h
      rw [chF_mem t o b r h y, chF1_mem hd b out o h1 y]
      constructor
      · rintro ((h | ⟨x, hx, h⟩) | ⟨z, hz, x, hx, h⟩)
        · exact .inl h
        · exact .inr ⟨hd, by simp, x, hx, h⟩
        · exact .inr ⟨z, by simp [hz], x, hx, h⟩
      · rintro (h | ⟨z, hz, x, hx, k⟩)
        · exact .inl (.inl h)
        · rcases List.mem_cons.1 hz with e | hz
          · exact .inl (.inr ⟨x, hx, by rw [← e]; exact k⟩)
          · exact .inr ⟨z, hz, x, hx, k⟩
theorem size_app (a b : ByteArray) : (a ++ b).size = a.size + b.size := by simp

theorem enc_any (c : Int) : (Utf8.encode c).size ≤ 4 := by
  unfold Utf8.encode
  simp only
  repeat' split
  all_goals simp [ByteArray.size]
theorem str_size (c : Nat) : (str c).size ≤ 4 := enc_any _
theorem spC_size (B : Nat) (hB : 4 ≤ B) : ∀ (k c : Nat) (out r : Wl), spC k c out = some r → (∀ x ∈ out, x.size ≤ B) → ∀ x ∈ r, x.size ≤ B
  | 0, c, out, r, h, ho => by rw [spC] at h; injection h with h; subst h; exact ho
  | k + 1, c, out, r, h, ho => by
    rw [spC] at h
    split at h
    · exact spC_size B hB k _ _ r h ho
    · split at h
      · cases h
      · refine spC_size B hB k _ _ r h (fun x hx => ?_)
        rcases List.mem_append.1 hx with hx | hx
        · exact ho x hx
        · rw [List.mem_singleton.1 hx]; exact Nat.le_trans (str_size c) hB
theorem spF_size (B : Nat) (hB : 4 ≤ B) : ∀ (l : Sn) (out r : Wl), spF l out = some r → (∀ x ∈ out, x.size ≤ B) → ∀ x ∈ r, x.size ≤ B
  | [], out, r, h, ho => by rw [spF] at h; injection h with h; subst h; exact ho
  | s :: t, out, r, h, ho => by
    rw [spF] at h
    cases h1 : spC (s.2 + 1 - s.1) s.1 out with
    | none => rw [h1] at h; cases h
    | some o => rw [h1] at h; exact spF_size B hB t o r h (spC_size B hB _ _ _ _ h1 ho)
theorem rowN_nil : ∀ (t : List Pt) (w : Wl), rowN t = some w → w = []
  | [], w, h => by rw [rowN] at h; cases h
  | p :: t, w, h => by
    rw [rowN] at h
    split at h
    · injection h with h; exact h.symm
    · exact rowN_nil t w h
mutual
theorem Pt.wds_size : ∀ (p : Pt) (w : Wl), p.wds = some w → ∀ x ∈ w, x.size ≤ 4 * p.cnt
  | .chr c, w, h => by rw [Pt.wds] at h; simpa [Pt.cnt] using spF_size 4 (Nat.le_refl _) _ _ w h (by simp)
  | .any, w, h => by rw [Pt.wds] at h; simpa [Pt.cnt] using spF_size 4 (Nat.le_refl _) _ _ w h (by simp)
  | .cls neg l, w, h => by rw [Pt.wds] at h; simpa [Pt.cnt] using spF_size 4 (Nat.le_refl _) _ _ w h (by simp)
  | .grp l, w, h => by
    rw [Pt.wds] at h
    simp only [Pt.cnt]
    have := rowsW_size l [] w 0 h (by simp)
    simpa using this
  | .rep a s, w, h => by
    rw [Pt.wds] at h
    simp only [Pt.cnt]
    unfold repW at h
    cases h1 : a.wds with
    | none => rw [h1] at h; cases h
    | some m =>
      rw [h1] at h
      simp only at h
      have ih := Pt.wds_size a m h1
      split at h
      · cases h
      · split at h
        · injection h with h; subst h; exact ih
        · intro x hx
          rcases (togF_mem _ _ _ h x).1 hx with hx | hx
          · exact ih x hx
          · rw [List.mem_singleton.1 hx]; exact Nat.zero_le _
theorem rowW_size : ∀ (r : List Pt) (out w : Wl) (B : Nat), rowW r out = some w → (∀ x ∈ out, x.size ≤ B) → ∀ x ∈ w, x.size ≤ B + 4 * rowCnt r
  | [], out, w, B, h, ho => by rw [rowW] at h; injection h with h; subst h; simpa [rowCnt] using ho
  | p :: t, out, w, B, h, ho => by
    rw [rowW] at h
    simp only [rowCnt]
    cases h1 : p.wds with
    | none => rw [h1] at h; simp only at h; rw [rowN_nil t w h]; simp
    | some m =>
      rw [h1] at h
      cases m with
      | nil => simp only at h; injection h with h; subst h; simp
      | cons y m =>
        simp only at h
        have ih := Pt.wds_size p _ h1
        cases h2 : chF [] out (y :: m) with
        | none => rw [h2] at h; simp only at h; rw [rowN_nil t w h]; simp
        | some o =>
          rw [h2] at h
          simp only at h
          have := rowW_size t o w (B + 4 * p.cnt) h (fun x hx => by
            rcases (chF_mem _ _ _ _ h2 x).1 hx with hx | ⟨a, ha, b, hb, rfl⟩
            · simp at hx
            · rw [size_app]; have := ho a ha; have := ih b hb; omega)
          intro x hx
          have := this x hx
          omega
theorem rowsW_size : ∀ (l : List (List Pt)) (out w : Wl) (B : Nat), rowsW l out = some w → (∀ x ∈ out, x.size ≤ B) → ∀ x ∈ w, x.size ≤ B + 4 * rowsCnt l
  | [], out, w, B, h, ho => by rw [rowsW] at h; injection h with h; subst h; simpa [rowsCnt] using ho
  | r :: t, out, w, B, h, ho => by
    rw [rowsW] at h
    simp only [rowsCnt]
    cases h1 : rowW r [noText] with
    | none => rw [h1] at h; cases h
    | some m =>
      rw [h1] at h
      simp only at h
      have ih := rowW_size r _ m 0 h1 (fun x hx => by rw [List.mem_singleton.1 hx]; exact Nat.le_refl _)
      cases h2 : togF out m with
      | none => rw [h2] at h; cases h
      | some o =>
        rw [h2] at h
        simp only at h
        have := rowsW_size t o w (B + 4 * rowCnt r) h (fun x hx => by
          rcases (togF_mem _ _ _ h2 x).1 hx with hx | hx
          · have := ho x hx; omega
          · have := ih x hx; omega)
        intro x hx
        have := this x hx
        omega
end

end Go.Proofs.YtndegcgcbhcokaaDoor

/-
  Words, purely: rising lists.
-/
namespace Go.Proofs.YtndegcgcbhcokaaDoor
open Go
set_option linter.unusedVariables false
set_option linter.unusedSimpArgs false

theorem bl_cons (a b : UInt8) (x y : List UInt8) : Op.bytesLess (a :: x) (b :: y) = (decide (a < b) || (a == b && Op.bytesLess x y)) := rfl
theorem bl_irr : ∀ a : List UInt8, Op.bytesLess a a = false
  | [] => rfl
  | a :: x => by rw [bl_cons, bl_irr x]; simp [UInt8.lt_irrefl]
theorem bl_cons_iff (a b : UInt8) (x y : List UInt8) : Op.bytesLess (a :: x) (b :: y) = true ↔ a.toNat < b.toNat ∨ (a = b ∧ Op.bytesLess x y = true) := by
  rw [bl_cons]
  simp only [Bool.or_eq_true, Bool.and_eq_true, decide_eq_true_eq, beq_iff_eq, UInt8.lt_iff_toNat_lt]
theorem bl_trans : ∀ a b c : List UInt8, Op.bytesLess a b = true → Op.bytesLess b c = true → Op.bytesLess a c = true
  | _, [], _, h, _ => by unfold Op.bytesLess at h; simp at h
  | _, _ :: _, [], _, h => by unfold Op.bytesLess at h; simp at h
  | [], _ :: _, _ :: _, _, _ => rfl
  | a :: x, b :: y, c :: z, h1, h2 => by
    rw [bl_cons_iff] at h1 h2 ⊢
    rcases h1 with h1 | ⟨rfl, h1⟩
    · rcases h2 with h2 | ⟨rfl, h2⟩
      · exact .inl (by omega)
      · exact .inl h1
    · rcases h2 with h2 | ⟨rfl, h2⟩
      · exact .inl h2
      · exact .inr ⟨rfl, bl_trans x y z h1 h2⟩
theorem bl_tri : ∀ a b : List UInt8, Op.bytesLess a b = true ∨ a = b ∨ Op.bytesLess b a = true
  | [], [] => .inr (.inl rfl)
  | [], _ :: _ => .inl rfl
  | _ :: _, [] => .inr (.inr rfl)
  | a :: x, b :: y => by
    rw [bl_cons_iff, bl_cons_iff]
    rcases Nat.lt_trichotomy a.toNat b.toNat with h | h | h
    · exact .inl (.inl h)
    · obtain rfl := UInt8.toNat_inj.1 h
      rcases bl_tri x y with h | h | h
      · exact .inl (.inr ⟨rfl, h⟩)
      · exact .inr (.inl (by rw [h]))
      · exact .inr (.inr (.inr ⟨rfl, h⟩))
    · exact .inr (.inr (.inl h))
def Ls (x y : ByteArray) : Prop := Op.bytesLess x.toList y.toList = true
theorem tl_bts (s : ByteArray) : s.toList = bts s := by
  rw [show bts s = s.data.toList from rfl]
  exact ByteArray.toList_eq s
theorem Ls.irr (x : ByteArray) : ¬ Ls x x := by unfold Ls; rw [bl_irr]; simp
theorem Ls.trans {x y z : ByteArray} (h1 : Ls x y) (h2 : Ls y z) : Ls x z := bl_trans _ _ _ h1 h2
theorem Ls.tri (x y : ByteArray) : Ls x y ∨ x = y ∨ Ls y x := by
  rcases bl_tri x.toList y.toList with h | h | h
  · exact .inl h
  · right; left
    rw [tl_bts, tl_bts] at h
    exact bts_inj h
  · exact .inr (.inr h)
abbrev Rise (l : Wl) : Prop := l.Pairwise Ls
theorem rise_ext : ∀ (a b : Wl), Rise a → Rise b → (∀ y, y ∈ a ↔ y ∈ b) → a = b
  | [], [], _, _, _ => rfl
  | [], y :: t, _, _, h => by have := (h y).2 (by simp); simp at this
  | x :: s, [], _, _, h => by have := (h x).1 (by simp); simp at this
  | x :: s, y :: t, h1, h2, h => by
    obtain ⟨p1, p2⟩ := List.pairwise_cons.1 h1
    obtain ⟨q1, q2⟩ := List.pairwise_cons.1 h2
    have hxy : x = y := by
      rcases List.mem_cons.1 ((h x).1 (by simp)) with e | e
      · exact e
      · rcases List.mem_cons.1 ((h y).2 (by simp)) with e2 | e2
        · exact e2.symm
        · exact absurd ((q1 x e).trans (p1 y e2)) (Ls.irr _)
    subst hxy
    rw [rise_ext s t p2 q2 (fun z => ?_)]
    constructor
    · intro hz
      rcases List.mem_cons.1 ((h z).1 (by simp [hz])) with e | e
      · rw [e] at hz; exact absurd (p1 _ hz) (Ls.irr _)
      · exact e
    · intro hz
      rcases List.mem_cons.1 ((h z).2 (by simp [hz])) with e | e
      · rw [e] at hz; exact absurd (q1 _ hz) (Ls.irr _)
      · exact e
theorem putI_lo {l : Wl} (hr : Rise l) (x : ByteArray) : ∀ n, n ≤ l.length → ∀ y ∈ l.take (putI l x n), Ls y x
  | 0, _, y, h => by simp [putI] at h
  | n + 1, hn, y, h => by
    have hg : l[n]? = some (l[n]'(by omega)) := by simp
    rw [putI, hg] at h
    simp only at h
    split at h
    · rename_i hb
      rw [List.take_add_one, hg] at h
      have hp : (l.take n ++ [l[n]'(by omega)]).Pairwise Ls := by
        have := hr.sublist (List.take_sublist (n + 1) l)
        rw [List.take_add_one, hg] at this
        exact this
      rcases List.mem_append.1 h with h | h
      · exact ((List.pairwise_append.1 hp).2.2 y h _ (by simp)).trans hb
      · simp at h; rw [h]; exact hb
    · exact putI_lo hr x n (by omega) y h
theorem putI_hi (l : Wl) (x : ByteArray) : ∀ n, n ≤ l.length → ∀ y ∈ (l.take n).drop (putI l x n), ¬ Ls y x
  | 0, _, y, h => by simp at h
  | n + 1, hn, y, h => by
    have hg : l[n]? = some (l[n]'(by omega)) := by simp
    rw [putI, hg] at h
    simp only at h
    split at h
    · rw [List.drop_eq_nil_of_le (by simp; omega)] at h; simp at h
    · rename_i hb
      have hk := putI_le l x n
      rw [List.take_add_one, hg, List.drop_append_of_le_length (by simp; omega)] at h
      rcases List.mem_append.1 h with h | h
      · exact putI_hi l x n (by omega) y h
      · simp at h; rw [h]; exact hb
theorem putI_drop (l : Wl) (x : ByteArray) : ∀ y ∈ l.drop (putI l x l.length), ¬ Ls y x := fun y h => putI_hi l x l.length (Nat.le_refl _) y (by rw [List.take_length]; exact h)
theorem putF_rise {l : Wl} (hr : Rise l) (x : ByteArray) : Rise (putF l x) := by
  unfold putF
  split
  · exact hr
  · rename_i hne
    have hlo := putI_lo hr x l.length (Nat.le_refl _)
    have hhi := putI_drop l x
    have hp : (l.take (putI l x l.length) ++ l.drop (putI l x l.length)).Pairwise Ls := by rw [List.take_append_drop]; exact hr
    obtain ⟨h1, h2, h3⟩ := List.pairwise_append.1 hp
    have hx : ∀ y ∈ l.drop (putI l x l.length), Ls x y := by
      cases hd : l.drop (putI l x l.length) with
      | nil => simp
      | cons z t =>
        have hz : l[putI l x l.length]? = some z := by
          have := congrArg (fun m => m[0]?) hd
          simpa [List.getElem?_drop] using this
        rw [hd] at hhi h2
        have hxz : Ls x z := by
          rcases Ls.tri x z with h | h | h
          · exact h
          · exact absurd (by rw [hz, h]) hne
          · exact absurd h (hhi z (by simp))
        intro y hy
        rcases List.mem_cons.1 hy with e | hy
        · rw [e]; exact hxz
        · exact hxz.trans ((List.pairwise_cons.1 h2).1 y hy)
    refine List.pairwise_append.2 ⟨h1, List.pairwise_cons.2 ⟨hx, h2⟩, fun a ha b hb => ?_⟩
    rcases List.mem_cons.1 hb with e | hb
    · rw [e]; exact hlo a ha
    · exact h3 a ha b hb
/-- How many at the head come ahead of x. -/
def ltK : Wl → ByteArray → Nat
  | [], _ => 0
  | o :: t, x => if Op.bytesLess o.toList x.toList = true then ltK t x + 1 else 0
theorem ltK_le : ∀ (l : Wl) (x : ByteArray), ltK l x ≤ l.length
  | [], _ => Nat.le_refl _
  | o :: t, x => by
    rw [ltK]
    split
    · have := ltK_le t x; simp; omega
    · simp
theorem ltK_app : ∀ (a b : Wl) (x : ByteArray), (∀ y ∈ a, Ls y x) → (∀ y ∈ b, ¬ Ls y x) → ltK (a ++ b) x = a.length
  | [], [], x, _, _ => rfl
  | [], y :: b, x, _, h => by
    rw [List.nil_append, ltK, if_neg (show ¬ Op.bytesLess y.toList x.toList = true from h y (by simp))]; rfl
  | y :: a, b, x, h, hb => by
    rw [List.cons_append, ltK, if_pos (show Op.bytesLess y.toList x.toList = true from h y (by simp)), ltK_app a b x (fun z hz => h z (by simp [hz])) hb]; rfl
theorem ltK_putI {l : Wl} (hr : Rise l) (x : ByteArray) : ltK l x = putI l x l.length := by
  have := ltK_app (l.take (putI l x l.length)) (l.drop (putI l x l.length)) x (putI_lo hr x _ (Nat.le_refl _)) (putI_drop l x)
  rw [List.take_append_drop] at this
  rw [this, List.length_take, Nat.min_eq_left (putI_le l x l.length)]
theorem ltK_step {l : Wl} {k : Nat} {o : ByteArray} (h : l[k]? = some o) (x : ByteArray) : ltK (l.drop k) x = if Op.bytesLess o.toList x.toList = true then ltK (l.drop (k + 1)) x + 1 else 0 := by
  have hl := (List.getElem?_eq_some_iff.1 h).1
  rw [List.drop_eq_getElem_cons hl]
  rw [List.getElem?_eq_getElem hl] at h
  injection h with h
  rw [h, ltK]
theorem ltK_end {l : Wl} {k : Nat} (h : l.length ≤ k) (x : ByteArray) : ltK (l.drop k) x = 0 := by rw [List.drop_eq_nil_of_le h, ltK]
theorem putF_ltK {l : Wl} (hr : Rise l) (x : ByteArray) : putF l x = if l[ltK l x]? = some x then l else l.take (ltK l x) ++ x :: l.drop (ltK l x) := by
  rw [ltK_putI hr]; rfl
/-- One that comes behind all. -/
theorem putF_end {l : Wl} {x : ByteArray} (h : ∀ y ∈ l, Ls y x) : putF l x = l ++ [x] := by
  have hk : putI l x l.length = l.length := by
    cases hl : l.length with
    | zero => rfl
    | succ n =>
      have hg : l[n]? = some (l[n]'(by omega)) := by simp
      rw [putI, hg]
      simp only
      exact if_pos (h _ (by simp))
  unfold putF
  rw [hk, if_neg (by simp), List.take_length, List.drop_length]

/-- All of b put in. -/
def pdF (a b : Wl) : Wl := b.foldl putF a
theorem pdF_nil (a : Wl) : pdF a [] = a := rfl
theorem pdF_cons (a : Wl) (x : ByteArray) (t : Wl) : pdF a (x :: t) = pdF (putF a x) t := rfl
theorem pdF_app (a b c : Wl) : pdF a (b ++ c) = pdF (pdF a b) c := List.foldl_append
theorem pdF_rise : ∀ (b a : Wl), Rise a → Rise (pdF a b)
  | [], a, h => h
  | x :: t, a, h => pdF_rise t _ (putF_rise h x)
theorem pdF_len : ∀ (b a : Wl), a.length ≤ (pdF a b).length ∧ (pdF a b).length ≤ a.length + b.length
  | [], a => ⟨Nat.le_refl _, Nat.le_refl _⟩
  | x :: t, a => by
    have := pdF_len t (putF a x)
    rw [pdF_cons]
    rcases putF_len a x with h | h <;> simp only [List.length_cons] <;> omega
theorem tog_pdF : ∀ (b a : Wl), a.length ≤ 16 → togF a b = if 16 < (pdF a b).length then none else some (pdF a b)
  | [], a, h => by rw [togF, pdF_nil, if_neg (by omega)]
  | x :: t, a, h => by
    rw [togF, pdF_cons]
    split
    · rename_i h1
      have := (pdF_len t (putF a x)).1
      rw [if_pos (by omega)]
    · exact tog_pdF t _ (by omega)
theorem ch1_pdF (hd : ByteArray) : ∀ (b a : Wl), a.length ≤ 16 → chF1 hd a b = if 16 < (pdF a (b.map (hd ++ ·))).length then none else some (pdF a (b.map (hd ++ ·)))
  | [], a, h => by rw [chF1, List.map_nil, pdF_nil, if_neg (by omega)]
  | x :: t, a, h => by
    rw [chF1, List.map_cons, pdF_cons]
    split
    · rename_i h1
      have := (pdF_len (t.map (hd ++ ·)) (putF a (hd ++ x))).1
      rw [if_pos (by omega)]
    · exact ch1_pdF hd t _ (by omega)
/-- All pairs. -/
def prdF (a b : Wl) : Wl := a.flatMap fun h => b.map (h ++ ·)
theorem ch_pdF : ∀ (a b o : Wl), o.length ≤ 16 → chF o a b = if 16 < (pdF o (prdF a b)).length then none else some (pdF o (prdF a b))
  | [], b, o, h => by rw [chF, show prdF [] b = [] from rfl, pdF_nil, if_neg (by omega)]
  | x :: t, b, o, h => by
    rw [chF, ch1_pdF x b o h, show prdF (x :: t) b = b.map (x ++ ·) ++ prdF t b from rfl, pdF_app]
    by_cases h1 : 16 < (pdF o (b.map (x ++ ·))).length
    · have := (pdF_len (prdF t b) (pdF o (b.map (x ++ ·)))).1
      rw [if_pos h1, if_pos (by omega)]
    · rw [if_neg h1]
      exact ch_pdF t b _ (by omega)

/-- Code points in their order are texts in their order. -/
theorem str_ls {c d : Nat} (h : c < d) (hc : Vc c) (hd : Vc d) : Ls (str c) (str d) := by
  unfold Ls
  rw [tl_bts, tl_bts]
  show Op.bytesLess (enc c) (enc d) = true
  have hc2 := hc
  have hd2 := hd
  unfold Vc at hc2 hd2
  have key : ∀ (n m : Nat) (x y : List UInt8), n < 256 → m < 256 → (n < m ∨ (n = m ∧ Op.bytesLess x y = true)) → Op.bytesLess (b8 n :: x) (b8 m :: y) = true := fun n m x y hn hm hh => by
    rw [bl_cons_iff, b8_nat hn, b8_nat hm]
    rcases hh with hh | ⟨e, hh⟩
    · exact .inl hh
    · exact .inr ⟨by rw [e], hh⟩
  rw [enc_eq hc, enc_eq hd]
  by_cases c1 : c < 128
  · rw [if_pos c1]
    by_cases d1 : d < 128
    · rw [if_pos d1]; exact key _ _ _ _ (by omega) (by omega) (.inl (by omega))
    · rw [if_neg d1]
      by_cases d2 : d < 2048
      · rw [if_pos d2]; exact key _ _ _ _ (by omega) (by omega) (.inl (by omega))
      · rw [if_neg d2]
        by_cases d3 : d < 65536
        · rw [if_pos d3]; exact key _ _ _ _ (by omega) (by omega) (.inl (by omega))
        · rw [if_neg d3]; exact key _ _ _ _ (by omega) (by omega) (.inl (by omega))
  · rw [if_neg c1, if_neg (show ¬ d < 128 by omega)]
    by_cases c2 : c < 2048
    · rw [if_pos c2]
      by_cases d2 : d < 2048
      · rw [if_pos d2]
        refine key _ _ _ _ (by omega) (by omega) ?_
        by_cases e : c / 64 = d / 64
        · exact .inr ⟨by omega, key _ _ _ _ (by omega) (by omega) (.inl (by omega))⟩
        · exact .inl (by omega)
      · rw [if_neg d2]
        by_cases d3 : d < 65536
        · rw [if_pos d3]; exact key _ _ _ _ (by omega) (by omega) (.inl (by omega))
        · rw [if_neg d3]; exact key _ _ _ _ (by omega) (by omega) (.inl (by omega))
    · rw [if_neg c2, if_neg (show ¬ d < 2048 by omega)]
      by_cases c3 : c < 65536
      · rw [if_pos c3]
        by_cases d3 : d < 65536
        · rw [if_pos d3]
          refine key _ _ _ _ (by omega) (by omega) ?_
          by_cases e : c / 4096 = d / 4096
          · refine .inr ⟨by omega, key _ _ _ _ (by omega) (by omega) ?_⟩
            by_cases e2 : c / 64 = d / 64
            · exact .inr ⟨by omega, key _ _ _ _ (by omega) (by omega) (.inl (by omega))⟩
            · exact .inl (by omega)
          · exact .inl (by omega)
        · rw [if_neg d3]; exact key _ _ _ _ (by omega) (by omega) (.inl (by omega))
      · rw [if_neg c3, if_neg (show ¬ d < 65536 by omega)]
        refine key _ _ _ _ (by omega) (by omega) ?_
        by_cases e : c / 262144 = d / 262144
        · refine .inr ⟨by omega, key _ _ _ _ (by omega) (by omega) ?_⟩
          by_cases e1 : c / 4096 = d / 4096
          · refine .inr ⟨by omega, key _ _ _ _ (by omega) (by omega) ?_⟩
            by_cases e2 : c / 64 = d / 64
            · exact .inr ⟨by omega, key _ _ _ _ (by omega) (by omega) (.inl (by omega))⟩
            · exact .inl (by omega)
          · exact .inl (by omega)
        · exact .inl (by omega)

end Go.Proofs.YtndegcgcbhcokaaDoor
