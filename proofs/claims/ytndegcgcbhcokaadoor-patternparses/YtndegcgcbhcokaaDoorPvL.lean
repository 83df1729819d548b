import Derived.Test.YtndegcgcbhcokaaDoorQcA
/-
  What is printed is no longer than what was read, purely.
-/
namespace Go.Proofs.YtndegcgcbhcokaaDoor
open Go
set_option linter.unusedVariables false
set_option linter.unusedSimpArgs false

theorem chrT_pos {c : Nat} (hv : Vc c) : 1 ≤ (chrT c).length := by
  obtain ⟨x, t, h, _⟩ := chrT_head hv
  rw [h]; simp
/-- A span's text: its two ends, and a mark where they are far. -/
theorem spanT_len_eq {lo hi : Nat} (h : lo < hi) : (spanT (lo, hi)).length = (chrT lo).length + (chrT hi).length + (if lo + 1 < hi then 1 else 0) := by
  by_cases h2 : lo + 1 < hi
  · rw [spanT_far (by omega) h2, if_pos h2, List.length_append, List.length_cons]; omega
  · obtain rfl : hi = lo + 1 := by omega
    rw [spanT_two, if_neg h2, List.length_append]; omega
theorem join_len {o x : Nat × Nat} (ho : o.1 ≤ o.2) (hx : x.1 ≤ x.2) (v1 : Vc o.1) (v2 : Vc o.2) (v3 : Vc x.1) (v4 : Vc x.2) (c1 : ¬ o.2 + 1 < x.1) (c2 : ¬ x.2 + 1 < o.1) : (spanT (min o.1 x.1, max o.2 x.2)).length ≤ (spanT o).length + (spanT x).length := by
  obtain ⟨a, b⟩ := o
  obtain ⟨c, d⟩ := x
  simp only at ho hx v1 v2 v3 v4 c1 c2 ⊢
  have p1 := chrT_pos v1
  have p2 := chrT_pos v2
  have p3 := chrT_pos v3
  have p4 := chrT_pos v4
  have eab : (spanT (a, b)).length = if a = b then (chrT a).length else (chrT a).length + (chrT b).length + (if a + 1 < b then 1 else 0) := by
    by_cases h : a = b
    · subst h; rw [if_pos rfl, spanT_one]
    · rw [if_neg h]; exact spanT_len_eq (by omega)
  have ecd : (spanT (c, d)).length = if c = d then (chrT c).length else (chrT c).length + (chrT d).length + (if c + 1 < d then 1 else 0) := by
    by_cases h : c = d
    · subst h; rw [if_pos rfl, spanT_one]
    · rw [if_neg h]; exact spanT_len_eq (by omega)
  rcases Nat.le_total a c with hac | hac
  · rw [Nat.min_eq_left hac]
    rcases Nat.le_total b d with hbd | hbd
    · rw [Nat.max_eq_right hbd]
      by_cases had : a = d
      · subst had
        rw [spanT_one, eab]
        split <;> omega
      · rw [spanT_len_eq (by omega), eab, ecd]
        split <;> split <;> split <;> (try split) <;> (try subst_vars) <;> omega
    · rw [Nat.max_eq_left hbd]; omega
  · rw [Nat.min_eq_right hac]
    rcases Nat.le_total b d with hbd | hbd
    · rw [Nat.max_eq_right hbd]; omega
    · rw [Nat.max_eq_left hbd]
      by_cases hcb : c = b
      · subst hcb
        rw [spanT_one, ecd]
        split <;> omega
      · rw [spanT_len_eq (by omega), eab, ecd]
        split <;> split <;> split <;> (try split) <;> (try subst_vars) <;> omega
def flatL (l : Sn) : Nat := (l.flatMap spanT).length
theorem flatL_app (a b : Sn) : flatL (a ++ b) = flatL a + flatL b := by unfold flatL; rw [List.flatMap_append, List.length_append]
theorem flatL_cons (s : Nat × Nat) (t : Sn) : flatL (s :: t) = (spanT s).length + flatL t := by unfold flatL; rw [List.flatMap_cons, List.length_append]
theorem withF_len2 : ∀ (l : Sn) (x : Nat × Nat) (ah be : Sn), (∀ o ∈ l, o.1 ≤ o.2 ∧ Vc o.1 ∧ Vc o.2) → x.1 ≤ x.2 → Vc x.1 → Vc x.2 → flatL (withF l x ah be) ≤ flatL ah + flatL l + flatL be + (spanT x).length
  | [], x, ah, be, hl, hx, hv, hw => by
    rw [withF, flatL_app, flatL_app, flatL_cons]
    have : flatL [] = 0 := rfl
    omega
  | o :: t, x, ah, be, hl, hx, hv, hw => by
    have ho := hl o (List.mem_cons.2 (.inl rfl))
    have ht : ∀ p ∈ t, p.1 ≤ p.2 ∧ Vc p.1 ∧ Vc p.2 := fun p hp => hl p (List.mem_cons.2 (.inr hp))
    have h0 : flatL [] = 0 := rfl
    rw [withF, flatL_cons]
    split
    · have := withF_len2 t x (ah ++ [o]) be ht hx hv hw
      rw [flatL_app, flatL_cons] at this
      omega
    · split
      · have := withF_len2 t x ah (be ++ [o]) ht hx hv hw
        rw [flatL_app, flatL_cons] at this
        omega
      · rename_i c1 c2
        have hj := join_len ho.1 hx ho.2.1 ho.2.2 hv hw c1 c2
        have hmin : Vc (min o.1 x.1) := by rcases Nat.le_total o.1 x.1 with h | h
                                           · rw [Nat.min_eq_left h]; exact ho.2.1
                                           · rw [Nat.min_eq_right h]; exact hv
        have hmax : Vc (max o.2 x.2) := by rcases Nat.le_total o.2 x.2 with h | h
                                           · rw [Nat.max_eq_right h]; exact hw
                                           · rw [Nat.max_eq_left h]; exact ho.2.2
        have := withF_len2 t (min o.1 x.1, max o.2 x.2) ah be ht (by have := ho.1; show min o.1 x.1 ≤ max o.2 x.2; omega) hmin hmax
        omega

theorem str_len (c : Nat) : (bts (str c)).length = (enc c).length := rfl
theorem char_len {S : List UInt8} {a c b : Nat} (h : charF S a = .ok c b) : (chrT c).length + a = b := by
  unfold charF at h
  simp only at h
  generalize hesc : decide (S[a]? = some 92) = esc at h
  cases hf : fp (S.drop (if esc = true then a + 1 else a)) with
  | none => rw [hf] at h; cases h
  | some ck =>
    obtain ⟨c', k⟩ := ck
    rw [hf] at h
    simp only at h
    have hk := (fp_some.1 hf).2.1
    by_cases hs : isSg c' = esc
    · rw [if_pos hs] at h
      injection h with e1 e2
      subst e1
      have hl := str_len c'
      rw [← hk] at hl
      cases esc with
      | true =>
        rw [if_pos rfl] at e2
        rw [chrT_yes hs, List.length_cons, hl]
        omega
      | false =>
        rw [if_neg (by simp)] at e2
        rw [chrT_no hs, hl]
        omega
    · rw [if_neg hs] at h; cases h
theorem span_len {S : List UInt8} {a b : Nat} {x : Nat × Nat} (h : spanF S a = .ok x b) : (spanT x).length + a ≤ b := by
  unfold spanF at h
  cases h1 : charF S a with
  | bad k => rw [h1] at h; cases h
  | out => rw [h1] at h; cases h
  | ok lo b1 =>
    rw [h1] at h
    simp only at h
    have k1 := char_len h1
    split at h
    · cases h2 : charF S (b1 + 1) with
      | bad k => rw [h2] at h; cases h
      | out => rw [h2] at h; cases h
      | ok hi b2 =>
        rw [h2] at h
        simp only at h
        have k2 := char_len h2
        split at h
        · cases h
        · injection h with e1 e2
          subst e1 e2
          by_cases he : lo = hi
          · subst he; rw [spanT_one]; omega
          · rw [spanT_len_eq (by omega)]
            split <;> omega
    · injection h with e1 e2
      subst e1 e2
      rw [spanT_one]; omega
theorem cls_len {S : List UInt8} : ∀ (f a : Nat) (acc l : Sn) (b : Nat), Tidy acc → clsF S f a acc = .ok l b → flatL l + 1 + a ≤ flatL acc + b
  | 0, a, acc, l, b, ha, h => by rw [clsF] at h; cases h
  | f + 1, a, acc, l, b, ha, h => by
    rw [clsF] at h
    split at h
    · injection h with e1 e2
      subst e1 e2
      omega
    · cases h1 : spanF S a with
      | bad k => rw [h1] at h; cases h
      | out => rw [h1] at h; cases h
      | ok x b1 =>
        rw [h1] at h
        simp only at h
        obtain ⟨h2, h3, h4⟩ := span_vc h1
        have k1 := cls_len f b1 _ l b (withS_tidy ha h2 h3 h4) h
        have k2 := withF_len2 acc x [] [] (tidy_le ha) h2 h3 h4
        have k3 := span_len h1
        have h0 : flatL [] = 0 := rfl
        unfold withS at k1
        omega
theorem read_len (S : List UInt8) : ∀ (f d a : Nat),
    (∀ l b, rowsF S f d a = .ok l b → (rowsT l).length + a ≤ b) ∧ (∀ l b, rowF S f d a = .ok l b → (rowT l).length + a ≤ b) ∧
    (∀ p b, itemF S f d a = .ok p b → p.txt.length + a ≤ b) ∧ (∀ p b, atomF S f d a = .ok p b → p.txt.length + a ≤ b)
  | 0, d, a => by
    refine ⟨fun l b h => ?_, fun l b h => ?_, fun l b h => ?_, fun l b h => ?_⟩
    · rw [rowsF] at h; cases h
    · rw [rowF] at h; cases h
    · rw [itemF] at h; cases h
    · rw [atomF] at h; cases h
  | f + 1, d, a => by
    have ih := read_len S f
    obtain ⟨_, r1, i1, t1⟩ := ih d a
    refine ⟨fun l b h => ?_, fun l b h => ?_, fun p b h => ?_, fun p b h => ?_⟩
    · rw [rowsF] at h
      cases h1 : rowF S f d a with
      | bad k => rw [h1] at h; cases h
      | out => rw [h1] at h; cases h
      | ok r b1 =>
        rw [h1] at h
        simp only at h
        have k1 := r1 r b1 h1
        split at h
        · cases h2 : rowsF S f d (b1 + 1) with
          | bad k => rw [h2] at h; cases h
          | out => rw [h2] at h; cases h
          | ok t b2 =>
            rw [h2] at h
            injection h with e1 e2
            subst e1 e2
            have k3 := (ih d (b1 + 1)).1 t b2 h2
            cases t with
            | nil => rw [rowsT, rowsT1, List.append_nil]; rw [rowsT] at k3; simp at k3; omega
            | cons r2 t => rw [rowsT_cons, List.length_append, List.length_cons]; omega
        · injection h with e1 e2
          subst e1 e2
          rw [rowsT, rowsT1, List.append_nil]
          exact k1
    · rw [rowF] at h
      split at h
      · injection h with e1 e2
        subst e1 e2
        rw [rowT]; simp
      · cases h1 : itemF S f d a with
        | bad k => rw [h1] at h; cases h
        | out => rw [h1] at h; cases h
        | ok q b1 =>
          rw [h1] at h
          simp only at h
          have k1 := i1 q b1 h1
          cases h2 : rowF S f d b1 with
          | bad k => rw [h2] at h; cases h
          | out => rw [h2] at h; cases h
          | ok t b2 =>
            rw [h2] at h
            injection h with e1 e2
            subst e1 e2
            have k3 := (ih d b1).2.1 t b2 h2
            rw [rowT, List.length_append]
            omega
    · rw [itemF] at h
      cases h1 : atomF S f d a with
      | bad k => rw [h1] at h; cases h
      | out => rw [h1] at h; cases h
      | ok q b1 =>
        rw [h1] at h
        simp only at h
        have k1 := t1 q b1 h1
        have key : ∀ s : Nat, (Pt.rep q s).txt.length = q.txt.length + 1 := fun s => by simp only [Pt.txt, List.length_append, List.length_cons, List.length_nil]
        split at h
        · injection h with e1 e2
          subst e1 e2
          rw [key]; omega
        · split at h
          · injection h with e1 e2
            subst e1 e2
            rw [key]; omega
          · split at h
            · injection h with e1 e2
              subst e1 e2
              rw [key]; omega
            · injection h with e1 e2
              subst e1 e2
              exact k1
    · rw [atomF] at h
      split at h
      · injection h with e1 e2
        subst e1 e2
        simp only [Pt.txt, List.length_cons, List.length_nil]
        omega
      · split at h
        · cases h2 : clsF S (S.length + 2) (if S[a + 1]? = some 94 then a + 2 else a + 1) [] with
          | bad k => rw [h2] at h; cases h
          | out => rw [h2] at h; cases h
          | ok t b2 =>
            rw [h2] at h
            injection h with e1 e2
            subst e1 e2
            have k2 := cls_len _ _ [] t b2 (by rw [Tidy]; trivial) h2
            have h0 : flatL [] = 0 := rfl
            have h9 : flatL t = (t.flatMap spanT).length := rfl
            simp only [Pt.txt, List.length_append, List.length_cons, List.length_nil]
            by_cases h94 : S[a + 1]? = some 94
            · rw [if_pos h94] at k2
              simp only [decide_eq_true h94, if_true, List.length_cons, List.length_nil]
              omega
            · rw [if_neg h94] at k2
              simp only [decide_eq_false h94, Bool.false_eq_true, if_false, List.length_nil]
              omega
        · split at h
          · cases h2 : rowsF S f (d + 1) (a + 1) with
            | bad k => rw [h2] at h; cases h
            | out => rw [h2] at h; cases h
            | ok t b2 =>
              rw [h2] at h
              simp only at h
              have k2 := (ih (d + 1) (a + 1)).1 t b2 h2
              split at h
              · injection h with e1 e2
                subst e1 e2
                simp only [Pt.txt, List.length_append, List.length_cons, List.length_nil]
                omega
              · cases h
          · cases h2 : charF S a with
            | bad k => rw [h2] at h; cases h
            | out => rw [h2] at h; cases h
            | ok c b2 =>
              rw [h2] at h
              injection h with e1 e2
              subst e1 e2
              simp only [Pt.txt]
              exact Nat.le_of_eq (char_len h2)
/-- PRINT OF WHAT IS READ IS READ AS THE SAME, AND IS NO LONGER. -/
theorem prs_back {s : List UInt8} {l : List (List Pt)} {b : Nat} (h : prs s = .ok l b) : prs (rowsT l) = .ok l (rowsT l).length ∧ (rowsT l).length ≤ s.length := by
  obtain ⟨h1, h2, h3⟩ := prs_ok h
  have k := (read_len s (4 * s.length + 4) 0 0).1 l _ (h3 _ (Nat.le_refl _))
  obtain ⟨k1, k2, k3⟩ := prs_shp h
  exact ⟨prs_txt k1 k2 k3 (by omega), by omega⟩

end Go.Proofs.YtndegcgcbhcokaaDoor

/-
  PatternParses: the walk.
-/
namespace Go.Proofs.YtndegcgcbhcokaaDoor
open Go.RowKit
set_option linter.unusedVariables false
set_option linter.unusedSimpArgs false

set_option maxRecDepth 100000 in
set_option maxHeartbeats 2000000 in
theorem fault_nil (w : World) : Calls Tryd.prog 7 #[.nilIface] w fun e w' => e = .returned (.tuple #[.int .i64 0, .int .i64 0, .bool true]) ∧ Below w.heap.size w w' := by
  go_enter Tryd.func7, Tryd.ntmps7
  go_wp2
  go_ret3
  exact ⟨rfl, Below.refl _ _⟩
theorem parseN_ok (B : Nat) {s : ByteArray} {l : List (List Pt)} {b : Nat} (h : prs (bts s) = .ok l b) (w : World) (hT : Tb B w) : Calls Tryd.prog 6 #[.string s] w fun e w' => ∃ p F u, e = .returned (.tuple #[.pointer (some ⟨p, 0, none⟩), .int .i64 0, .int .i64 0]) ∧ PaN F w' p l u ∧ Below w.heap.size w w' := by
  refine (parseN B s w hT).mono ?_
  rintro e w' ⟨hb, ⟨p, F, l', b', u, h1, rfl, h2⟩ | ⟨k, h1, _⟩⟩
  · rw [h] at h1
    injection h1 with h1 _
    subst h1
    exact ⟨p, F, u, rfl, h2, hb⟩
  · rw [h] at h1; cases h1
theorem parseN_bad (B : Nat) {s : ByteArray} {k : Nat} (h : prs (bts s) = .bad k) (w : World) (hT : Tb B w) : Calls Tryd.prog 6 #[.string s] w fun e w' => e = .returned (.tuple #[.pointer none, .int .i64 (k : Int), .int .i64 80]) ∧ Below w.heap.size w w' := by
  refine (parseN B s w hT).mono ?_
  rintro e w' ⟨hb, ⟨p, F, l', b', u, h1, rfl, h2⟩ | ⟨k', h1, rfl⟩⟩
  · rw [h] at h1; cases h1
  · rw [h] at h1
    injection h1 with h1
    subst h1
    exact ⟨rfl, hb⟩

set_option maxRecDepth 100000 in
set_option maxHeartbeats 0 in
theorem parses_oo (B : Nat) (s t : ByteArray) (la : Option Addr) (n lc : Nat) (L : Wl) (w : World) (hT : Tb B w) (hl : Wr (fun _ => True) w la L) (hn : L.length = n) (t1 : List (List Pt)) (b1 : Nat) (h1 : prs (bts s) = .ok t1 b1) (t2 : List (List Pt)) (b2 : Nat) (h2 : prs (bts t) = .ok t2 b2) :
    Calls Tryd.prog 3 #[.string s, .string t, .slice la n lc] w fun e w' => e = .returned (.bool true) ∧ Below w.heap.size w w' := by
  have k4 := shownP w
  have HT := hidden hT
  have HL := hidden hl
  have HN := hidden hn
  have HS : Hid (∀ w, _) := hidden (fun w => parse_ok h1 w)
  have HTT : Hid (∀ w, _) := hidden (fun w => parse_ok h2 w)
  have HNS : Hid (∀ w, Tb B w → _) := hidden (fun w h => parseN_ok B h1 w h)
  have HNT : Hid (∀ w, Tb B w → _) := hidden (fun w h => parseN_ok B h2 w h)
  have HZ1 : Hid ((rowsT t1).length ≤ 1000000) := hidden (by have := (prs_back h1).2; have := (prs_ok h1).1; omega)
  have HZ2 : Hid ((rowsT t2).length ≤ 1000000) := hidden (by have := (prs_back h2).2; have := (prs_ok h2).1; omega)
  clear hT hl hn h1 h2
  go_enter Tryd.func3, Tryd.ntmps3
  go_wp2_with (first
    | (go_at_call 4; refine k4.mono ?_; rintro e v1 ⟨rfl, g1⟩; have G1 := hidden g1; have k5 := HS.out v1; clear k4 g1)
    | (go_at_call 5; refine k5.mono ?_; rintro e v2 ⟨p1, F1, rfl, pa, g2⟩; have G2 := hidden (G1.out.trans (g2.mono G1.out.size)); have PA2 := hidden pa; have k5b := HTT.out v2; clear k5 g2 pa)
    | (go_at_call 5; refine k5b.mono ?_; rintro e v3 ⟨p2, F2, rfl, pb, g3⟩; have G3 := hidden (G2.out.trans (g3.mono G2.out.size)); have PA3 := hidden (PA2.out.later g3); have PB3 := hidden pb; have k6 := HNS.out v3 (HT.out.below G3.out HT.out.size); clear k5b g3 pb)
    | (go_at_call 6; refine k6.mono ?_; rintro e v4 ⟨r1, D1, u1, rfl, na, g4⟩; have G4 := hidden (G3.out.trans (g4.mono G3.out.size)); have PA4 := hidden (PA3.out.later g4); have PB4 := hidden (PB3.out.later g4); have NA4 := hidden na; have k6b := HNT.out v4 (HT.out.below G4.out HT.out.size); clear k6 g4 na)
    | (go_at_call 6; refine k6b.mono ?_; rintro e v5 ⟨r2, D2, u2, rfl, nb, g5⟩; have G5 := hidden (G4.out.trans (g5.mono G4.out.size)); have PA5 := hidden (PA4.out.later g5); have PB5 := hidden (PB4.out.later g5); have NA5 := hidden (NA4.out.later g5); have NB5 := hidden nb; have k7 := fault_nil v5; clear k6b g5 nb)
    | (go_at_call 7; refine k7.mono ?_; rintro e v6 ⟨rfl, g6⟩; have G6 := hidden (G5.out.trans (g6.mono G5.out.size)); have PA6 := hidden (PA5.out.later g6); have PB6 := hidden (PB5.out.later g6); have NA6 := hidden (NA5.out.later g6); have NB6 := hidden (NB5.out.later g6); have k7b := fault_nil v6; clear k7 g6)
    | (go_at_call 7; refine k7b.mono ?_; rintro e v7 ⟨rfl, g7⟩; have G7 := hidden (G6.out.trans (g7.mono G6.out.size)); have PA7 := hidden (PA6.out.later g7); have PB7 := hidden (PB6.out.later g7); have NA7 := hidden (NA6.out.later g7); have NB7 := hidden (NB6.out.later g7); have k8 := tellsP B v7 p1 r1 t1 u1 PA7.out NA7.out (HT.out.below G7.out HT.out.size) la n lc L (HL.out.later G7.out) HN.out HZ1.out; clear k7b g7)
    | (go_at_call 8; refine k8.mono ?_; rintro e v8 ⟨rfl, g8⟩; have G8 := hidden (G7.out.trans (g8.mono G7.out.size)); have PA8 := hidden (PA7.out.later g8); have PB8 := hidden (PB7.out.later g8); have NA8 := hidden (NA7.out.later g8); have NB8 := hidden (NB7.out.later g8); have k8b := tellsP B v8 p2 r2 t2 u2 PB8.out NB8.out (HT.out.below G8.out HT.out.size) la n lc L (HL.out.later G8.out) HN.out HZ2.out; clear k8 g8)
    | (go_at_call 8; refine k8b.mono ?_; rintro e v9 ⟨rfl, g9⟩; have G9 := hidden (G8.out.trans (g9.mono G8.out.size)); have PA9 := hidden (PA8.out.later g9); have NA9 := hidden (NA8.out.later g9); have k8c := tellsP B v9 p1 r1 t1 u1 PA9.out NA9.out (HT.out.below G9.out HT.out.size) la n lc L (HL.out.later G9.out) HN.out HZ1.out; clear k8b g9)
    | (go_at_call 8; refine k8c.mono ?_; rintro e v10 ⟨rfl, g10⟩; have G10 := hidden (G9.out.trans (g10.mono G9.out.size)); clear k8c g10))
  go_ret
  exact ⟨rfl, G10.out⟩

set_option maxRecDepth 100000 in
set_option maxHeartbeats 0 in
theorem parses_ob (B : Nat) (s t : ByteArray) (la : Option Addr) (n lc : Nat) (L : Wl) (w : World) (hT : Tb B w) (hl : Wr (fun _ => True) w la L) (hn : L.length = n) (t1 : List (List Pt)) (b1 : Nat) (h1 : prs (bts s) = .ok t1 b1) (k2 : Nat) (h2 : prs (bts t) = .bad k2) :
    Calls Tryd.prog 3 #[.string s, .string t, .slice la n lc] w fun e w' => e = .returned (.bool true) ∧ Below w.heap.size w w' := by
  have k4 := shownP w
  have HT := hidden hT
  have HL := hidden hl
  have HN := hidden hn
  have HS : Hid (∀ w, _) := hidden (fun w => parse_ok h1 w)
  have HTT : Hid (∀ w, _) := hidden (fun w => parse_badB h2 w)
  have HNS : Hid (∀ w, Tb B w → _) := hidden (fun w h => parseN_ok B h1 w h)
  have HNT : Hid (∀ w, Tb B w → _) := hidden (fun w h => parseN_bad B h2 w h)
  have HZ1 : Hid ((rowsT t1).length ≤ 1000000) := hidden (by have := (prs_back h1).2; have := (prs_ok h1).1; omega)
  clear hT hl hn h1 h2
  go_enter Tryd.func3, Tryd.ntmps3
  go_wp2_with (first
    | (go_at_call 4; refine k4.mono ?_; rintro e v1 ⟨rfl, g1⟩; have G1 := hidden g1; have k5 := HS.out v1; clear k4 g1)
    | (go_at_call 5; refine k5.mono ?_; rintro e v2 ⟨p1, F1, rfl, pa, g2⟩; have G2 := hidden (G1.out.trans (g2.mono G1.out.size)); have PA2 := hidden pa; have k5b := HTT.out v2; clear k5 g2 pa)
    | (go_at_call 5; refine k5b.mono ?_; rintro e v3 ⟨q2, rfl, pb, g3⟩; have G3 := hidden (G2.out.trans (g3.mono G2.out.size)); have PA3 := hidden (PA2.out.later g3); have PB3 := hidden pb; have k6 := HNS.out v3 (HT.out.below G3.out HT.out.size); clear k5b g3 pb)
    | (go_at_call 6; refine k6.mono ?_; rintro e v4 ⟨r1, D1, u1, rfl, na, g4⟩; have G4 := hidden (G3.out.trans (g4.mono G3.out.size)); have PA4 := hidden (PA3.out.later g4); have PB4 := hidden (PB3.out.later g4); have NA4 := hidden na; have k6b := HNT.out v4 (HT.out.below G4.out HT.out.size); clear k6 g4 na)
    | (go_at_call 6; refine k6b.mono ?_; rintro e v5 ⟨rfl, g5⟩; have G5 := hidden (G4.out.trans (g5.mono G4.out.size)); have PA5 := hidden (PA4.out.later g5); have PB5 := hidden (PB4.out.later g5); have NA5 := hidden (NA4.out.later g5); have k7 := fault_nil v5; clear k6b g5)
    | (go_at_call 7; refine k7.mono ?_; rintro e v6 ⟨rfl, g6⟩; have G6 := hidden (G5.out.trans (g6.mono G5.out.size)); have PA6 := hidden (PA5.out.later g6); have PB6 := hidden (PB5.out.later g6); have NA6 := hidden (NA5.out.later g6); have k7b := faultP q2 k2 v6 PB6.out; clear k7 g6)
    | (go_at_call 7; refine k7b.mono ?_; rintro e v7 ⟨rfl, g7⟩; have G7 := hidden (G6.out.trans (g7.mono G6.out.size)); have PA7 := hidden (PA6.out.later g7); have PB7 := hidden (PB6.out.later g7); have NA7 := hidden (NA6.out.later g7); have k8 := tellsP B v7 p1 r1 t1 u1 PA7.out NA7.out (HT.out.below G7.out HT.out.size) la n lc L (HL.out.later G7.out) HN.out HZ1.out; clear k7b g7)
    | (go_at_call 8; refine k8.mono ?_; rintro e v8 ⟨rfl, g8⟩; have G8 := hidden (G7.out.trans (g8.mono G7.out.size)); have PA8 := hidden (PA7.out.later g8); have PB8 := hidden (PB7.out.later g8); have NA8 := hidden (NA7.out.later g8); have k8c := tellsP B v8 p1 r1 t1 u1 PA8.out NA8.out (HT.out.below G8.out HT.out.size) la n lc L (HL.out.later G8.out) HN.out HZ1.out; clear k8 g8)
    | (go_at_call 8; refine k8c.mono ?_; rintro e v9 ⟨rfl, g9⟩; have G9 := hidden (G8.out.trans (g9.mono G8.out.size)); clear k8c g9))
  go_ret
  exact ⟨rfl, G9.out⟩

set_option maxRecDepth 100000 in
set_option maxHeartbeats 0 in
theorem parses_bo (B : Nat) (s t : ByteArray) (la : Option Addr) (n lc : Nat) (L : Wl) (w : World) (hT : Tb B w) (hl : Wr (fun _ => True) w la L) (hn : L.length = n) (k1 : Nat) (h1 : prs (bts s) = .bad k1) (t2 : List (List Pt)) (b2 : Nat) (h2 : prs (bts t) = .ok t2 b2) :
    Calls Tryd.prog 3 #[.string s, .string t, .slice la n lc] w fun e w' => e = .returned (.bool true) ∧ Below w.heap.size w w' := by
  have k4 := shownP w
  have HT := hidden hT
  have HL := hidden hl
  have HN := hidden hn
  have HS : Hid (∀ w, _) := hidden (fun w => parse_badB h1 w)
  have HTT : Hid (∀ w, _) := hidden (fun w => parse_ok h2 w)
  have HNS : Hid (∀ w, Tb B w → _) := hidden (fun w h => parseN_bad B h1 w h)
  have HNT : Hid (∀ w, Tb B w → _) := hidden (fun w h => parseN_ok B h2 w h)
  have HZ2 : Hid ((rowsT t2).length ≤ 1000000) := hidden (by have := (prs_back h2).2; have := (prs_ok h2).1; omega)
  clear hT hl hn h1 h2
  go_enter Tryd.func3, Tryd.ntmps3
  go_wp2_with (first
    | (go_at_call 4; refine k4.mono ?_; rintro e v1 ⟨rfl, g1⟩; have G1 := hidden g1; have k5 := HS.out v1; clear k4 g1)
    | (go_at_call 5; refine k5.mono ?_; rintro e v2 ⟨q1, rfl, pa, g2⟩; have G2 := hidden (G1.out.trans (g2.mono G1.out.size)); have PA2 := hidden pa; have k5b := HTT.out v2; clear k5 g2 pa)
    | (go_at_call 5; refine k5b.mono ?_; rintro e v3 ⟨p2, F2, rfl, pb, g3⟩; have G3 := hidden (G2.out.trans (g3.mono G2.out.size)); have PA3 := hidden (PA2.out.later g3); have PB3 := hidden pb; have k6 := HNS.out v3 (HT.out.below G3.out HT.out.size); clear k5b g3 pb)
    | (go_at_call 6; refine k6.mono ?_; rintro e v4 ⟨rfl, g4⟩; have G4 := hidden (G3.out.trans (g4.mono G3.out.size)); have PA4 := hidden (PA3.out.later g4); have PB4 := hidden (PB3.out.later g4); have k6b := HNT.out v4 (HT.out.below G4.out HT.out.size); clear k6 g4)
    | (go_at_call 6; refine k6b.mono ?_; rintro e v5 ⟨r2, D2, u2, rfl, nb, g5⟩; have G5 := hidden (G4.out.trans (g5.mono G4.out.size)); have PA5 := hidden (PA4.out.later g5); have PB5 := hidden (PB4.out.later g5); have NB5 := hidden nb; have k7 := faultP q1 k1 v5 PA5.out; clear k6b g5 nb)
    | (go_at_call 7; refine k7.mono ?_; rintro e v6 ⟨rfl, g6⟩; have G6 := hidden (G5.out.trans (g6.mono G5.out.size)); have PA6 := hidden (PA5.out.later g6); have PB6 := hidden (PB5.out.later g6); have NB6 := hidden (NB5.out.later g6); have k7b := fault_nil v6; clear k7 g6)
    | (go_at_call 7; refine k7b.mono ?_; rintro e v7 ⟨rfl, g7⟩; have G7 := hidden (G6.out.trans (g7.mono G6.out.size)); have PA7 := hidden (PA6.out.later g7); have PB7 := hidden (PB6.out.later g7); have NB7 := hidden (NB6.out.later g7); have k8b := tellsP B v7 p2 r2 t2 u2 PB7.out NB7.out (HT.out.below G7.out HT.out.size) la n lc L (HL.out.later G7.out) HN.out HZ2.out; clear k7b g7)
    | (go_at_call 8; refine k8b.mono ?_; rintro e v8 ⟨rfl, g8⟩; have G8 := hidden (G7.out.trans (g8.mono G7.out.size)); clear k8b g8))
  go_ret
  exact ⟨rfl, G8.out⟩

set_option maxRecDepth 100000 in
set_option maxHeartbeats 0 in
theorem parses_bb (B : Nat) (s t : ByteArray) (la : Option Addr) (n lc : Nat) (L : Wl) (w : World) (hT : Tb B w) (hl : Wr (fun _ => True) w la L) (hn : L.length = n) (k1 : Nat) (h1 : prs (bts s) = .bad k1) (k2 : Nat) (h2 : prs (bts t) = .bad k2) :
    Calls Tryd.prog 3 #[.string s, .string t, .slice la n lc] w fun e w' => e = .returned (.bool true) ∧ Below w.heap.size w w' := by
  have k4 := shownP w
  have HT := hidden hT
  have HL := hidden hl
  have HN := hidden hn
  have HS : Hid (∀ w, _) := hidden (fun w => parse_badB h1 w)
  have HTT : Hid (∀ w, _) := hidden (fun w => parse_badB h2 w)
  have HNS : Hid (∀ w, Tb B w → _) := hidden (fun w h => parseN_bad B h1 w h)
  have HNT : Hid (∀ w, Tb B w → _) := hidden (fun w h => parseN_bad B h2 w h)
  clear hT hl hn h1 h2
  go_enter Tryd.func3, Tryd.ntmps3
  go_wp2_with (first
    | (go_at_call 4; refine k4.mono ?_; rintro e v1 ⟨rfl, g1⟩; have G1 := hidden g1; have k5 := HS.out v1; clear k4 g1)
    | (go_at_call 5; refine k5.mono ?_; rintro e v2 ⟨q1, rfl, pa, g2⟩; have G2 := hidden (G1.out.trans (g2.mono G1.out.size)); have PA2 := hidden pa; have k5b := HTT.out v2; clear k5 g2 pa)
    | (go_at_call 5; refine k5b.mono ?_; rintro e v3 ⟨q2, rfl, pb, g3⟩; have G3 := hidden (G2.out.trans (g3.mono G2.out.size)); have PA3 := hidden (PA2.out.later g3); have PB3 := hidden pb; have k6 := HNS.out v3 (HT.out.below G3.out HT.out.size); clear k5b g3 pb)
    | (go_at_call 6; refine k6.mono ?_; rintro e v4 ⟨rfl, g4⟩; have G4 := hidden (G3.out.trans (g4.mono G3.out.size)); have PA4 := hidden (PA3.out.later g4); have PB4 := hidden (PB3.out.later g4); have k6b := HNT.out v4 (HT.out.below G4.out HT.out.size); clear k6 g4)
    | (go_at_call 6; refine k6b.mono ?_; rintro e v5 ⟨rfl, g5⟩; have G5 := hidden (G4.out.trans (g5.mono G4.out.size)); have PA5 := hidden (PA4.out.later g5); have PB5 := hidden (PB4.out.later g5); have k7 := faultP q1 k1 v5 PA5.out; clear k6b g5)
    | (go_at_call 7; refine k7.mono ?_; rintro e v6 ⟨rfl, g6⟩; have G6 := hidden (G5.out.trans (g6.mono G5.out.size)); have PA6 := hidden (PA5.out.later g6); have PB6 := hidden (PB5.out.later g6); have k7b := faultP q2 k2 v6 PB6.out; clear k7 g6)
    | (go_at_call 7; refine k7b.mono ?_; rintro e v7 ⟨rfl, g7⟩; have G7 := hidden (G6.out.trans (g7.mono G6.out.size)); have PA7 := hidden (PA6.out.later g7); have PB7 := hidden (PB6.out.later g7); clear k7b g7))
  go_ret
  exact ⟨rfl, G7.out⟩

theorem parses_any (B : Nat) (s t : ByteArray) (la : Option Addr) (n lc : Nat) (L : Wl) (w : World) (hT : Tb B w) (hl : Wr (fun _ => True) w la L) (hn : L.length = n) :
    Calls Tryd.prog 3 #[.string s, .string t, .slice la n lc] w fun e w' => e = .returned (.bool true) ∧ Below w.heap.size w w' := by
  cases h1 : prs (bts s) with
  | out => exact absurd h1 (prs_no _)
  | ok t1 b1 =>
    cases h2 : prs (bts t) with
    | out => exact absurd h2 (prs_no _)
    | ok t2 b2 => exact parses_oo B s t la n lc L w hT hl hn t1 b1 h1 t2 b2 h2
    | bad k2 => exact parses_ob B s t la n lc L w hT hl hn t1 b1 h1 k2 h2
  | bad k1 =>
    cases h2 : prs (bts t) with
    | out => exact absurd h2 (prs_no _)
    | ok t2 b2 => exact parses_bo B s t la n lc L w hT hl hn k1 h1 t2 b2 h2
    | bad k2 => exact parses_bb B s t la n lc L w hT hl hn k1 h1 k2 h2

end Go.Proofs.YtndegcgcbhcokaaDoor
