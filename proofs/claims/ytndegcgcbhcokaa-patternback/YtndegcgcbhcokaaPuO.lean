/-
  PatternJoins, purely: texts put together.
-/
import Derived.Test.YtndegcgcbhcokaaPuN
namespace Go.Proofs.Ytndegcgcbhcokaa
open Go
set_option linter.unusedVariables false
set_option linter.unusedSimpArgs false

/-- With more steps the answer is the same. -/
theorem read_more (S : List UInt8) : ∀ (f g : Nat), f ≤ g → ∀ d a,
    (rowsF S f d a ≠ .out → rowsF S g d a = rowsF S f d a) ∧ (rowF S f d a ≠ .out → rowF S g d a = rowF S f d a) ∧ (itemF S f d a ≠ .out → itemF S g d a = itemF S f d a) ∧ (atomF S f d a ≠ .out → atomF S g d a = atomF S f d a)
  | 0, g, hg, d, a => by
    refine ⟨fun h => ?_, fun h => ?_, fun h => ?_, fun h => ?_⟩
    · exact absurd (by rw [rowsF]) h
    · exact absurd (by rw [rowF]) h
    · exact absurd (by rw [itemF]) h
    · exact absurd (by rw [atomF]) h
  | f + 1, 0, hg, d, a => by omega
  | f + 1, g + 1, hg, d, a => by
    have ih := read_more S f g (by omega)
    refine ⟨fun h => ?_, fun h => ?_, fun h => ?_, fun h => ?_⟩
    · rw [rowsF] at h
      rw [rowsF, rowsF]
      cases h1 : rowF S f d a with
      | out => rw [h1] at h; exact absurd rfl h
      | bad k => rw [(ih d a).2.1 (by rw [h1]; simp), h1]
      | ok r b =>
        rw [(ih d a).2.1 (by rw [h1]; simp), h1]
        rw [h1] at h
        simp only at h ⊢
        split
        · rename_i h124
          rw [if_pos h124] at h
          cases h2 : rowsF S f d (b + 1) with
          | out => rw [h2] at h; exact absurd rfl h
          | bad k => rw [(ih d (b + 1)).1 (by rw [h2]; simp), h2]
          | ok l c => rw [(ih d (b + 1)).1 (by rw [h2]; simp), h2]
        · rfl
    · rw [rowF] at h
      rw [rowF, rowF]
      split
      · rfl
      · rename_i hst
        rw [if_neg hst] at h
        cases h1 : itemF S f d a with
        | out => rw [h1] at h; exact absurd rfl h
        | bad k => rw [(ih d a).2.2.1 (by rw [h1]; simp), h1]
        | ok p b =>
          rw [(ih d a).2.2.1 (by rw [h1]; simp), h1]
          rw [h1] at h
          simp only at h ⊢
          cases h2 : rowF S f d b with
          | out => rw [h2] at h; exact absurd rfl h
          | bad k => rw [(ih d b).2.1 (by rw [h2]; simp), h2]
          | ok l c => rw [(ih d b).2.1 (by rw [h2]; simp), h2]
    · rw [itemF] at h
      rw [itemF, itemF]
      cases h1 : atomF S f d a with
      | out => rw [h1] at h; exact absurd rfl h
      | bad k => rw [(ih d a).2.2.2 (by rw [h1]; simp), h1]
      | ok p b => rw [(ih d a).2.2.2 (by rw [h1]; simp), h1]
    · rw [atomF] at h
      rw [atomF, atomF]
      split
      · rfl
      · rename_i h46
        rw [if_neg h46] at h
        split
        · rfl
        · rename_i h91
          rw [if_neg h91] at h
          split
          · rename_i h40
            rw [if_pos h40] at h
            cases h1 : rowsF S f (d + 1) (a + 1) with
            | out => rw [h1] at h; exact absurd rfl h
            | bad k => rw [(ih (d + 1) (a + 1)).1 (by rw [h1]; simp), h1]
            | ok p b => rw [(ih (d + 1) (a + 1)).1 (by rw [h1]; simp), h1]
          · rfl

section
variable {S : List UInt8} {f d a b c : Nat} {p : Pt} {r t : List Pt} {l : List (List Pt)}
theorem item_plain (h : atomF S f d a = .ok p b) (h1 : S[b]? ≠ some 42) (h2 : S[b]? ≠ some 43) (h3 : S[b]? ≠ some 63) : itemF S (f + 1) d a = .ok p b := by
  rw [itemF, h]; simp only; rw [if_neg h1, if_neg h2, if_neg h3]
theorem item_star (h : atomF S f d a = .ok p b) (h1 : S[b]? = some 42) : itemF S (f + 1) d a = .ok (.rep p 42) (b + 1) := by
  rw [itemF, h]; simp only; rw [if_pos h1]
theorem row_end (h : S[a]? = none ∨ S[a]? = some 124 ∨ S[a]? = some 41) : rowF S (f + 1) d a = .ok [] a := by rw [rowF, if_pos h]
theorem row_cons (h0 : ¬ (S[a]? = none ∨ S[a]? = some 124 ∨ S[a]? = some 41)) (h : itemF S f d a = .ok p b) (h2 : rowF S f d b = .ok t c) : rowF S (f + 1) d a = .ok (p :: t) c := by
  rw [rowF, if_neg h0, h]; simp only; rw [h2]
theorem rows_one (h : rowF S f d a = .ok r b) (h1 : S[b]? ≠ some 124) : rowsF S (f + 1) d a = .ok [r] b := by
  rw [rowsF, h]; simp only; rw [if_neg h1]
theorem rows_cons (h : rowF S f d a = .ok r b) (h1 : S[b]? = some 124) (h2 : rowsF S f d (b + 1) = .ok l c) : rowsF S (f + 1) d a = .ok (r :: l) c := by
  rw [rowsF, h]; simp only; rw [if_pos h1, h2]
end
theorem no_stop {S : List UInt8} {a : Nat} (h : S[a]? = some 40) : ¬ (S[a]? = none ∨ S[a]? = some 124 ∨ S[a]? = some 41) := by rw [h]; simp

/-- A text between brackets, as an atom. -/
theorem atom_grp {S s : List UInt8} {a : Nat} (h : S[a]? = some 40) (hs : Sub S s (a + 1)) {f : Nat} {l : List (List Pt)} (hl : rowsF s f 0 0 = .ok l s.length) :
    (rowsDep l ≤ 15 → atomF S (f + 1) 0 a = .ok (.grp l) (a + s.length + 2)) ∧ (15 < rowsDep l → ∃ k, atomF S (f + 1) 0 a = .bad k) := by
  have hm := (loc_main hs 1 f 0 0 (Nat.zero_le _)).1 l s.length hl
  have hat : atomF S (f + 1) 0 a = match rowsF S f 1 (a + 1) with
      | .ok l b => if S[b]? = some 41 then .ok (.grp l) (b + 1) else .bad b
      | .bad k => .bad k
      | .out => .out := by
    rw [atomF, if_neg (by rw [h]; decide), if_neg (by rw [h]; decide), if_pos ⟨by decide, h⟩]
    rfl
  have hlo := hm.2.2
  simp only [Nat.zero_add, Nat.add_zero] at hlo
  refine ⟨fun hd => ?_, fun hd => ?_⟩
  · rw [hat, hlo.1 (by omega)]
    simp only
    rw [if_pos hs.stop]
    congr 1
    omega
  · obtain ⟨k, hk⟩ := hlo.2 (by omega) (by omega)
    exact ⟨k, by rw [hat, hk]⟩
theorem bad_up {S : List UInt8} {f d a k : Nat} (h40 : S[a]? = some 40) (h : atomF S f d a = .bad k) : rowF S (f + 2) d a = .bad k ∧ rowsF S (f + 3) d a = .bad k := by
  have h1 : itemF S (f + 1) d a = .bad k := by rw [itemF, h]
  have h2 : rowF S (f + 2) d a = .bad k := by rw [rowF, if_neg (no_stop h40), h1]
  exact ⟨h2, by rw [rowsF, h2]⟩
/-- What Parse takes is read from end to end, with any steps that are enough. -/
theorem prs_ok {s : List UInt8} {l : List (List Pt)} {b : Nat} (h : prs s = .ok l b) : s.length ≤ 64 ∧ b = s.length ∧ ∀ g, 4 * s.length + 4 ≤ g → rowsF s g 0 0 = .ok l s.length := by
  unfold prs at h
  split at h
  · cases h
  · rename_i h64
    cases h1 : rowsF s (4 * s.length + 4) 0 0 with
    | out => rw [h1] at h; cases h
    | bad k => rw [h1] at h; cases h
    | ok l' b' =>
      rw [h1, endF] at h
      split at h
      · cases h
      · rename_i hlt
        injection h with e1 e2
        subst e1 e2
        have hb := ((read_bd s (4 * s.length + 4) 0 0 (Nat.zero_le _)).1.1 _ _ h1).2
        have hbe : b' = s.length := by omega
        subst hbe
        refine ⟨by omega, rfl, fun g hg => ?_⟩
        rw [((read_more s _ g hg 0 0).1 (by rw [h1]; simp)), h1]
theorem prs_of {S : List UInt8} {l : List (List Pt)} {f : Nat} (h64 : S.length ≤ 64) (hf : f ≤ 4 * S.length + 4) (h : rowsF S f 0 0 = .ok l S.length) : prs S = .ok l S.length := by
  unfold prs
  rw [if_neg (by omega), (read_more S f _ hf 0 0).1 (by rw [h]; simp), h, endF, if_neg (by omega)]
theorem prs_bad {S : List UInt8} {k : Nat} {f : Nat} (h64 : S.length ≤ 64) (hf : f ≤ 4 * S.length + 4) (h : rowsF S f 0 0 = .bad k) : prs S = .bad k := by
  unfold prs
  rw [if_neg (by omega), (read_more S f _ hf 0 0).1 (by rw [h]; simp), h, endF]

theorem get_app_r {a b : List UInt8} {n i : Nat} (h : a.length = n) : (a ++ b)[n + i]? = b[i]? := by
  rw [List.getElem?_append_right (by omega)]; congr 1; omega

section
variable {s t : List UInt8} {ls lt : List (List Pt)} {bs bt : Nat}
/-- (s)* -/
theorem prs_star (hs : prs s = .ok ls bs) (hl : s.length ≤ 58) : (rowsDep ls ≤ 15 → ∃ b, prs (40 :: s ++ [41, 42]) = .ok [[.rep (.grp ls) 42]] b) ∧ (15 < rowsDep ls → ∃ k, prs (40 :: s ++ [41, 42]) = .bad k) := by
  obtain ⟨_, _, hs'⟩ := prs_ok hs
  have hlen : (40 :: s ++ [41, 42]).length = s.length + 3 := by simp
  have hsub : Sub (40 :: s ++ [41, 42]) s 1 := Sub.mk' [40] s [42]
  have h0 : (40 :: s ++ [41, 42])[0]? = some 40 := rfl
  have h1 : (40 :: s ++ [41, 42])[s.length + 2]? = some 42 := by
    have := get_app_r (a := 40 :: s) (b := [41, 42]) (n := s.length + 1) (i := 1) (by simp)
    exact this
  have h2 : (40 :: s ++ [41, 42])[s.length + 3]? = none := List.getElem?_eq_none (by omega)
  obtain ⟨hA, hB⟩ := atom_grp h0 hsub (hs' (4 * s.length + 4) (Nat.le_refl _))
  refine ⟨fun hd => ?_, fun hd => ?_⟩
  · have k1 := hA hd
    rw [Nat.zero_add] at k1
    have k2 := item_star k1 h1
    have k3 := row_cons (no_stop h0) k2 (row_end (Or.inl h2))
    have k4 := rows_one k3 (by rw [h2]; simp)
    rw [show s.length + 2 + 1 = (40 :: s ++ [41, 42]).length by omega] at k4
    exact ⟨_, prs_of (by omega) (by omega) k4⟩
  · obtain ⟨k, hk⟩ := hB hd
    exact ⟨k, prs_bad (by omega) (by omega) (bad_up h0 hk).2⟩

/-- (s)|(t) -/
theorem prs_or (hs : prs s = .ok ls bs) (ht : prs t = .ok lt bt) (hl : s.length + t.length ≤ 58) :
    (rowsDep ls ≤ 15 → rowsDep lt ≤ 15 → ∃ b, prs (40 :: s ++ [41, 124, 40] ++ t ++ [41]) = .ok [[.grp ls], [.grp lt]] b) ∧ ((15 < rowsDep ls ∨ 15 < rowsDep lt) → ∃ k, prs (40 :: s ++ [41, 124, 40] ++ t ++ [41]) = .bad k) := by
  obtain ⟨_, _, hs'⟩ := prs_ok hs
  obtain ⟨_, _, ht'⟩ := prs_ok ht
  obtain ⟨S, hS⟩ : ∃ S, 40 :: s ++ [41, 124, 40] ++ t ++ [41] = S := ⟨_, rfl⟩
  have hlen : S.length = s.length + t.length + 5 := by rw [← hS]; simp; omega
  have hsub1 : Sub S s (0 + 1) := by
    have := Sub.mk' [40] s ([124, 40] ++ t ++ [41])
    rw [← hS]
    simpa using this
  have hsub2 : Sub S t (s.length + 3 + 1) := by
    have := Sub.mk' (40 :: s ++ [41, 124, 40]) t []
    rw [show ((40 :: s ++ [41, 124, 40] : List UInt8)).length = s.length + 3 + 1 by simp] at this
    rw [← hS]
    exact this
  have h0 : S[0]? = some 40 := by rw [← hS]; rfl
  have hi : ∀ i, i < 3 → S[s.length + 1 + i]? = ([41, 124, 40] : List UInt8)[i]? := fun i hi => by
    have := get_app_r (a := 40 :: s) (b := [41, 124, 40] ++ t ++ [41]) (n := s.length + 1) (i := i) (by simp)
    rw [show 40 :: s ++ ([41, 124, 40] ++ t ++ [41]) = S by rw [← hS]; simp] at this
    rw [this, List.append_assoc, List.getElem?_append_left hi]
  have h1 : S[0 + s.length + 2]? = some 124 := by rw [show 0 + s.length + 2 = s.length + 1 + 1 by omega]; exact hi 1 (by omega)
  have h2 : S[s.length + 3]? = some 40 := by rw [show s.length + 3 = s.length + 1 + 2 by omega]; exact hi 2 (by omega)
  have h3 : S[s.length + 3 + t.length + 2]? = none := List.getElem?_eq_none (by omega)
  rw [hS]
  have F0 : 4 * s.length + 4 ≤ 4 * s.length + 4 * t.length + 12 := by omega
  obtain ⟨hA, hB⟩ := atom_grp h0 hsub1 (hs' (4 * s.length + 4 * t.length + 12) F0)
  obtain ⟨hC, hD⟩ := atom_grp h2 hsub2 (ht' (4 * s.length + 4 * t.length + 11) (by omega))
  refine ⟨fun hd1 hd2 => ?_, fun hd => ?_⟩
  · have k1 := item_plain (hA hd1) (by rw [h1]; decide) (by rw [h1]; decide) (by rw [h1]; decide)
    have k2 := row_cons (no_stop h0) k1 (row_end (Or.inr (Or.inl h1)))
    have j1 := item_plain (hC hd2) (by rw [h3]; decide) (by rw [h3]; decide) (by rw [h3]; decide)
    have j2 := row_cons (no_stop h2) j1 (row_end (Or.inl h3))
    have j3 := rows_one j2 (by rw [h3]; simp)
    have k3 := rows_cons k2 h1 (by rw [show 0 + s.length + 2 + 1 = s.length + 3 by omega]; exact j3)
    rw [show s.length + 3 + t.length + 2 = S.length by omega] at k3
    exact ⟨_, prs_of (by omega) (by omega) k3⟩
  · by_cases hd1 : rowsDep ls ≤ 15
    · have hd2 : 15 < rowsDep lt := by omega
      have k1 := item_plain (hA hd1) (by rw [h1]; decide) (by rw [h1]; decide) (by rw [h1]; decide)
      have k2 := row_cons (no_stop h0) k1 (row_end (Or.inr (Or.inl h1)))
      obtain ⟨k, hk⟩ := hD hd2
      have j3 := (bad_up h2 hk).2
      have k3 : rowsF S (4 * s.length + 4 * t.length + 12 + 1 + 1 + 1 + 1) 0 0 = .bad k := by
        rw [rowsF, k2]
        simp only
        rw [if_pos h1, show 0 + s.length + 2 + 1 = s.length + 3 by omega]
        rw [show 4 * s.length + 4 * t.length + 12 + 1 + 1 + 1 = 4 * s.length + 4 * t.length + 11 + 1 + 3 by omega, j3]
      exact ⟨k, prs_bad (by omega) (by omega) k3⟩
    · obtain ⟨k, hk⟩ := hB (by omega)
      exact ⟨k, prs_bad (by omega) (by omega) (bad_up h0 hk).2⟩

/-- (s)(t) -/
theorem prs_cat (hs : prs s = .ok ls bs) (ht : prs t = .ok lt bt) (hl : s.length + t.length ≤ 58) (hd1 : rowsDep ls ≤ 15) (hd2 : rowsDep lt ≤ 15) : ∃ b, prs (40 :: s ++ [41, 40] ++ t ++ [41]) = .ok [[.grp ls, .grp lt]] b := by
  obtain ⟨_, _, hs'⟩ := prs_ok hs
  obtain ⟨_, _, ht'⟩ := prs_ok ht
  obtain ⟨S, hS⟩ : ∃ S, 40 :: s ++ [41, 40] ++ t ++ [41] = S := ⟨_, rfl⟩
  have hlen : S.length = s.length + t.length + 4 := by rw [← hS]; simp; omega
  have hsub1 : Sub S s (0 + 1) := by
    have := Sub.mk' [40] s ([40] ++ t ++ [41])
    rw [← hS]
    simpa using this
  have hsub2 : Sub S t (0 + s.length + 2 + 1) := by
    have := Sub.mk' (40 :: s ++ [41, 40]) t []
    rw [show ((40 :: s ++ [41, 40] : List UInt8)).length = 0 + s.length + 2 + 1 by simp] at this
    rw [← hS]
    exact this
  have h0 : S[0]? = some 40 := by rw [← hS]; rfl
  have hi : ∀ i, i < 2 → S[s.length + 1 + i]? = ([41, 40] : List UInt8)[i]? := fun i hi => by
    have := get_app_r (a := 40 :: s) (b := [41, 40] ++ t ++ [41]) (n := s.length + 1) (i := i) (by simp)
    rw [show 40 :: s ++ ([41, 40] ++ t ++ [41]) = S by rw [← hS]; simp] at this
    rw [this, List.append_assoc, List.getElem?_append_left hi]
  have h1 : S[0 + s.length + 2]? = some 40 := by rw [show 0 + s.length + 2 = s.length + 1 + 1 by omega]; exact hi 1 (by omega)
  have h3 : S[0 + s.length + 2 + t.length + 2]? = none := List.getElem?_eq_none (by omega)
  rw [hS]
  obtain ⟨hA, hB⟩ := atom_grp h0 hsub1 (hs' (4 * s.length + 4 * t.length + 10) (by omega))
  obtain ⟨hC, hD⟩ := atom_grp h1 hsub2 (ht' (4 * s.length + 4 * t.length + 9) (by omega))
  have k1 := item_plain (hA hd1) (by rw [h1]; decide) (by rw [h1]; decide) (by rw [h1]; decide)
  have j1 := item_plain (hC hd2) (by rw [h3]; decide) (by rw [h3]; decide) (by rw [h3]; decide)
  have j2 := row_cons (no_stop h1) j1 (row_end (Or.inl h3))
  have k2 := row_cons (no_stop h0) k1 j2
  have k3 := rows_one k2 (by rw [h3]; simp)
  rw [show 0 + s.length + 2 + t.length + 2 = S.length by omega] at k3
  exact ⟨_, prs_of (by omega) (by omega) k3⟩
end

/-! ### what they mean -/
theorem rs_app {A B : List UInt8} {u v : Tx} (h : Rs A u) (k : Rs B v) : Rs (A ++ B) (u ++ v) :=
  ⟨fun c hc => by rcases List.mem_append.1 hc with h1 | h1; exact h.1 c h1; exact k.1 c h1, by rw [h.2, k.2, List.flatMap_append]⟩
theorem rs_cut {L : List UInt8} {u v : Tx} (h : Rs L (u ++ v)) : ∃ i, i ≤ L.length ∧ Rs (L.take i) u ∧ Rs (L.drop i) v ∧ (u ≠ [] → 0 < i) := by
  have h2 := h.2
  rw [List.flatMap_append] at h2
  refine ⟨(u.flatMap enc).length, by rw [h2]; simp, ⟨fun c hc => h.1 c (by simp [hc]), by rw [h2, List.take_left]⟩, ⟨fun c hc => h.1 c (by simp [hc]), by rw [h2, List.drop_left]⟩, fun h0 => ?_⟩
  cases u with
  | nil => exact absurd rfl h0
  | cons c t =>
    have := (enc_len (h.1 c (by simp))).1
    simp only [List.flatMap_cons, List.length_append]
    omega
theorem rowHas_one (p : Pt) (v : Tx) : rowHas [p] v ↔ p.has v := by
  have e : rowHas [] = fun v => v = [] := by funext v; simp [rowHas]
  rw [rowHas, e, cat_nil]
theorem means_or (ls lt : List (List Pt)) (L : List UInt8) : Means [[.grp ls], [.grp lt]] L ↔ Means ls L ∨ Means lt L := by
  unfold Means
  have key : ∀ t, rowsHas [[.grp ls], [.grp lt]] t ↔ rowsHas ls t ∨ rowsHas lt t := fun t => by
    simp only [rowsHas, rowHas_one, or_false, Pt.has]
  constructor
  · rintro ⟨t, h1, h2⟩
    rcases (key t).1 h2 with h | h
    · exact Or.inl ⟨t, h1, h⟩
    · exact Or.inr ⟨t, h1, h⟩
  · rintro (⟨t, h1, h2⟩ | ⟨t, h1, h2⟩)
    · exact ⟨t, h1, (key t).2 (Or.inl h2)⟩
    · exact ⟨t, h1, (key t).2 (Or.inr h2)⟩
theorem means_cat (ls lt : List (List Pt)) (L : List UInt8) : Means [[.grp ls, .grp lt]] L ↔ ∃ i, i ≤ L.length ∧ Means ls (L.take i) ∧ Means lt (L.drop i) := by
  have key : ∀ t, rowsHas [[.grp ls, .grp lt]] t ↔ Cat (rowsHas ls) (rowsHas lt) t := fun t => by
    have e : rowHas [.grp lt] = rowsHas lt := by funext v; rw [rowHas_one]; simp only [Pt.has]
    have e2 : (Pt.grp ls).has = rowsHas ls := by funext v; simp only [Pt.has]
    simp only [rowsHas, or_false]
    rw [rowHas, e, e2]
  constructor
  · rintro ⟨t, h1, h2⟩
    obtain ⟨u, v, rfl, h3, h4⟩ := (key t).1 h2
    obtain ⟨i, hi, k1, k2, _⟩ := rs_cut h1
    exact ⟨i, hi, ⟨u, k1, h3⟩, ⟨v, k2, h4⟩⟩
  · rintro ⟨i, hi, ⟨u, k1, h3⟩, ⟨v, k2, h4⟩⟩
    refine ⟨u ++ v, ?_, (key _).2 ⟨u, v, rfl, h3, h4⟩⟩
    have := rs_app k1 k2
    rwa [List.take_append_drop] at this
theorem plus_cut {P : Tx → Prop} {v : Tx} (h : Plus P v) : v = [] ∨ ∃ u w, v = u ++ w ∧ u ≠ [] ∧ P u ∧ (w = [] ∨ Plus P w) := by
  induction h with
  | @one v h =>
    by_cases h0 : v = []
    · exact Or.inl h0
    · exact Or.inr ⟨v, [], by simp, h0, h, Or.inl rfl⟩
  | @more u v h hp ih =>
    by_cases h0 : u = []
    · subst h0; simpa using ih
    · exact Or.inr ⟨u, v, rfl, h0, h, Or.inr hp⟩
theorem means_star (ls : List (List Pt)) (L : List UInt8) : Means [[.rep (.grp ls) 42]] L ↔ L = [] ∨ ∃ i, 0 < i ∧ i ≤ L.length ∧ Means ls (L.take i) ∧ Means [[.rep (.grp ls) 42]] (L.drop i) := by
  have key : ∀ t, rowsHas [[.rep (.grp ls) 42]] t ↔ t = [] ∨ Plus (rowsHas ls) t := fun t => by
    have e2 : (Pt.grp ls).has = rowsHas ls := by funext v; simp only [Pt.has]
    simp only [rowsHas, or_false, rowHas_one]
    rw [Pt.has, e2]
    simp
  constructor
  · rintro ⟨t, h1, h2⟩
    rcases (key t).1 h2 with h | h
    · subst h; exact Or.inl h1.2
    · rcases plus_cut h with h | ⟨u, w, rfl, h3, h4, h5⟩
      · subst h; exact Or.inl h1.2
      · obtain ⟨i, hi, k1, k2, k3⟩ := rs_cut h1
        exact Or.inr ⟨i, k3 h3, hi, ⟨u, k1, h4⟩, ⟨w, k2, (key w).2 h5⟩⟩
  · rintro (rfl | ⟨i, h0, hi, ⟨u, k1, h4⟩, ⟨w, k2, h5⟩⟩)
    · exact ⟨[], Rs.nil, (key _).2 (Or.inl rfl)⟩
    · refine ⟨u ++ w, ?_, (key _).2 (Or.inr ?_)⟩
      · have := rs_app k1 k2
        rwa [List.take_append_drop] at this
      · rcases (key w).1 h5 with h | h
        · subst h; simpa using Plus.one h4
        · exact .more h4 h

end Go.Proofs.Ytndegcgcbhcokaa
