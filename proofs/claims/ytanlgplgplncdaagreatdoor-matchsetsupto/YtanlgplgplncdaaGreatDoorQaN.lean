import Derived.Test.YtanlgplgplncdaaGreatDoorQaZ
import Derived.BigQuiet
/-
  The document's Match, purely: sets of places; ranges as they were read.
-/
namespace Go.Proofs.YtanlgplgplncdaaGreatDoor
open Go
set_option linter.unusedVariables false
set_option linter.unusedSimpArgs false

theorem inS_app (a b : Sn) (c : Nat) : inS (a ++ b) c = (inS a c || inS b c) := by simp [inS]
theorem inS_cons (s : Nat × Nat) (t : Sn) (c : Nat) : inS (s :: t) c = ((decide (s.1 ≤ c) && decide (c ≤ s.2)) || inS t c) := by simp [inS]
theorem inS_nil (c : Nat) : inS [] c = false := rfl
theorem inS_withF : ∀ (l : Sn) (x : Nat × Nat) (ah be : Sn) (c : Nat), (∀ o ∈ l, o.1 ≤ o.2) → x.1 ≤ x.2 → (inS (withF l x ah be) c = true ↔ inS ah c = true ∨ inS l c = true ∨ inS be c = true ∨ (x.1 ≤ c ∧ c ≤ x.2))
  | [], x, ah, be, c, hl, hx => by
    rw [withF, inS_app, inS_app, inS_cons, inS_nil]
    simp only [Bool.or_eq_true, Bool.and_eq_true, decide_eq_true_eq, Bool.or_false, inS_nil, Bool.false_eq_true, false_or]
    constructor
    · rintro ((h | h) | h)
      · exact .inl h
      · exact .inr (.inr h)
      · exact .inr (.inl h)
    · rintro (h | h | h)
      · exact .inl (.inl h)
      · exact .inr h
      · exact .inl (.inr h)
  | o :: t, x, ah, be, c, hl, hx => by
    have ho := hl o (by simp)
    have ht : ∀ y ∈ t, y.1 ≤ y.2 := fun y hy => hl y (by simp [hy])
    rw [withF, inS_cons]
    simp only [Bool.or_eq_true, Bool.and_eq_true, decide_eq_true_eq]
    split
    · rw [inS_withF t x _ be c ht hx, inS_app, inS_cons, inS_nil]
      simp only [Bool.or_eq_true, Bool.and_eq_true, decide_eq_true_eq, Bool.or_false]
      constructor
      · rintro ((h | h) | h | h | h)
        · exact .inl h
        · exact .inr (.inl (.inl h))
        · exact .inr (.inl (.inr h))
        · exact .inr (.inr (.inl h))
        · exact .inr (.inr (.inr h))
      · rintro (h | (h | h) | h | h)
        · exact .inl (.inl h)
        · exact .inl (.inr h)
        · exact .inr (.inl h)
        · exact .inr (.inr (.inl h))
        · exact .inr (.inr (.inr h))
    · split
      · rw [inS_withF t x ah _ c ht hx, inS_app, inS_cons, inS_nil]
        simp only [Bool.or_eq_true, Bool.and_eq_true, decide_eq_true_eq, Bool.or_false]
        constructor
        · rintro (h | h | (h | h) | h)
          · exact .inl h
          · exact .inr (.inl (.inr h))
          · exact .inr (.inr (.inl h))
          · exact .inr (.inl (.inl h))
          · exact .inr (.inr (.inr h))
        · rintro (h | (h | h) | h | h)
          · exact .inl h
          · exact .inr (.inr (.inl (.inr h)))
          · exact .inr (.inl h)
          · exact .inr (.inr (.inl (.inl h)))
          · exact .inr (.inr (.inr h))
      · rename_i c1 c2
        rw [inS_withF t (min o.1 x.1, max o.2 x.2) ah be c ht (by simp only; omega)]
        simp only
        constructor
        · rintro (h | h | h | h)
          · exact .inl h
          · exact .inr (.inl (.inr h))
          · exact .inr (.inr (.inl h))
          · by_cases h1 : o.1 ≤ c ∧ c ≤ o.2
            · exact .inr (.inl (.inl h1))
            · exact .inr (.inr (.inr (by omega)))
        · rintro (h | (h | h) | h | h)
          · exact .inl h
          · exact .inr (.inr (.inr (by omega)))
          · exact .inr (.inl h)
          · exact .inr (.inr (.inl h))
          · exact .inr (.inr (.inr (by omega)))
/-- Ranges that may be. -/
def RgOk (raw : Sn) : Prop := ∀ o ∈ raw, o.1 ≤ o.2 ∧ Vc o.1 ∧ Vc o.2
theorem fold_snoc2 (raw : Sn) (x : Nat × Nat) : (raw ++ [x]).foldl withS [] = withS (raw.foldl withS []) x := by rw [List.foldl_append]; rfl
theorem fold_tidy : ∀ (n : Nat) (raw : Sn), raw.length = n → RgOk raw → Tidy (raw.foldl withS []) ∧ ∀ c, inS (raw.foldl withS []) c = true ↔ inS raw c = true
  | 0, raw, h, _ => by
    have e := List.eq_nil_of_length_eq_zero h
    subst e
    exact ⟨trivial, fun c => Iff.rfl⟩
  | n + 1, raw, h, hok => by
    rcases List.eq_nil_or_concat raw with e | ⟨l, x, e⟩
    · rw [e] at h; simp at h
    · rw [List.concat_eq_append] at e
      subst e
      have hl : RgOk l := fun o ho => hok o (by simp [ho])
      have hx := hok x (by simp)
      obtain ⟨h1, h2⟩ := fold_tidy n l (by simpa using h) hl
      rw [fold_snoc2]
      refine ⟨withS_tidy h1 hx.1 hx.2.1 hx.2.2, fun c => ?_⟩
      refine (inS_withF (l.foldl withS []) x [] [] c (fun o ho => (tidy_le h1 o ho).1) hx.1).trans ?_
      rw [h2 c, inS_app, inS_cons, inS_nil]
      simp
theorem inS_oth : ∀ (l : Sn) (low c : Nat), Tidy l → (∀ o ∈ l, low ≤ o.1) → low ≤ c → c ≤ 1114111 → (inS (othS low l) c = true ↔ ¬ inS l c = true)
  | [], low, c, _, _, h1, h2 => by
    rw [othS, if_pos (by omega), inS_cons, inS_nil]
    simp [inS_nil]
    omega
  | s :: t, low, c, ht, hl, h1, h2 => by
    have hs := hl s (by simp)
    obtain ⟨q1, q2, q3, q4, q5⟩ := ht
    have hlow : ∀ o ∈ t, s.2 + 1 ≤ o.1 := fun o ho => by have := q4 o ho; omega
    have hno : c ≤ s.2 → ¬ inS t c = true := fun hc hin => by
      unfold inS at hin
      obtain ⟨o, ho, hh⟩ := List.any_eq_true.1 hin
      simp only [Bool.and_eq_true, decide_eq_true_eq] at hh
      have := hlow o ho
      omega
    have hno2 : c < s.2 + 1 → ¬ inS (othS (s.2 + 1) t) c = true := fun hc hin => by
      have key : ∀ (l : Sn) (lo : Nat), (∀ o ∈ l, lo ≤ o.1) → Tidy l → c < lo → ¬ inS (othS lo l) c = true := by
        intro l
        induction l with
        | nil =>
          intro lo _ _ hlt
          rw [othS]
          split
          · rw [inS_cons, inS_nil]; simp; omega
          · simp [inS_nil]
        | cons s t ih =>
          intro lo hlo ht hlt
          have h5 := hlo s (by simp)
          rw [othS, inS_app]
          simp only [Bool.or_eq_true, not_or]
          refine ⟨?_, ih (s.2 + 1) (fun o ho => by have := ht.2.2.2.1 o ho; omega) ht.2.2.2.2 (by have := ht.1; omega)⟩
          split
          · rw [inS_cons, inS_nil]; simp; omega
          · simp [inS_nil]
      exact key t (s.2 + 1) hlow q5 hc hin
    rw [othS, inS_app, inS_cons]
    simp only [Bool.or_eq_true, Bool.and_eq_true, decide_eq_true_eq, not_or, not_and]
    rcases Nat.lt_or_ge c s.1 with hc | hc
    · rw [if_pos (by omega), inS_cons, inS_nil]
      simp only [Bool.or_false, Bool.and_eq_true, decide_eq_true_eq]
      have := hno (by omega)
      exact ⟨fun _ => ⟨fun h => by omega, this⟩, fun _ => .inl ⟨h1, by omega⟩⟩
    · rcases Nat.lt_or_ge s.2 c with hc2 | hc2
      · have ih := inS_oth t (s.2 + 1) c q5 hlow (by omega) h2
        rw [ih]
        constructor
        · rintro (h | h)
          · exfalso
            split at h
            · rw [inS_cons, inS_nil] at h
              simp at h
              omega
            · simp [inS_nil] at h
          · exact ⟨fun _ => by omega, h⟩
        · rintro ⟨_, h⟩
          exact .inr h
      · constructor
        · rintro (h | h)
          · exfalso
            split at h
            · rw [inS_cons, inS_nil] at h
              simp at h
              omega
            · simp [inS_nil] at h
          · exact absurd h (hno2 (by omega))
        · rintro ⟨h, _⟩
          exact absurd hc2 (h hc)

/-! ### sets of places -/
/-- From some places on: the places at which what L means may end. -/
def En1 (L : Tx → Prop) (t : Tx) (f : Nat → Prop) (j : Nat) : Prop := ∃ i, i ≤ j ∧ f i ∧ L ((t.take j).drop i)
theorem en_nil (t : Tx) (f : Nat → Prop) (j : Nat) (hj : j ≤ t.length) : En1 (fun v => v = []) t f j ↔ f j := by
  constructor
  · rintro ⟨i, h1, h2, h3⟩
    have := congrArg List.length h3
    rw [List.length_drop, List.length_take] at this
    simp at this
    have : i = j := by omega
    rw [← this]; exact h2
  · intro h
    refine ⟨j, Nat.le_refl _, h, ?_⟩
    rw [List.drop_of_length_le (by rw [List.length_take]; omega)]
theorem take_split (t : Tx) (i m j : Nat) (h1 : i ≤ m) (h2 : m ≤ j) : (t.take j).drop i = (t.take m).drop i ++ (t.take j).drop m := by
  have e : t.take m = (t.take j).take m := by rw [List.take_take, Nat.min_eq_left h2]
  rw [e]
  generalize t.take j = u
  rw [List.drop_take]
  have : (u.drop i).drop (m - i) = u.drop m := by rw [List.drop_drop]; congr 1; omega
  rw [← this, List.take_append_drop]
theorem en_cat (P Q : Tx → Prop) (t : Tx) (f : Nat → Prop) (j : Nat) (hj : j ≤ t.length) : En1 (Cat P Q) t f j ↔ En1 Q t (En1 P t f) j := by
  constructor
  · rintro ⟨i, h1, h2, u, v, h3, h4, h5⟩
    have hl := congrArg List.length h3
    rw [List.length_drop, List.length_take, List.length_append] at hl
    have hm : (t.take (i + u.length)).drop i = u ∧ (t.take j).drop (i + u.length) = v := by
      have hs := take_split t i (i + u.length) j (by omega) (by omega)
      rw [h3] at hs
      have hlen : ((t.take (i + u.length)).drop i).length = u.length := by rw [List.length_drop, List.length_take]; omega
      exact ⟨(List.append_inj hs hlen.symm).1.symm, (List.append_inj hs hlen.symm).2.symm⟩
    exact ⟨i + u.length, by omega, ⟨i, by omega, h2, by rw [hm.1]; exact h4⟩, by rw [hm.2]; exact h5⟩
  · rintro ⟨m, h1, ⟨i, h2, h3, h4⟩, h5⟩
    exact ⟨i, by omega, h3, _, _, take_split t i m j h2 h1, h4, h5⟩
theorem en_or (P Q : Tx → Prop) (t : Tx) (f : Nat → Prop) (j : Nat) : En1 (fun v => P v ∨ Q v) t f j ↔ En1 P t f j ∨ En1 Q t f j := by
  constructor
  · rintro ⟨i, h1, h2, h3 | h3⟩
    · exact .inl ⟨i, h1, h2, h3⟩
    · exact .inr ⟨i, h1, h2, h3⟩
  · rintro (⟨i, h1, h2, h3⟩ | ⟨i, h1, h2, h3⟩)
    · exact ⟨i, h1, h2, .inl h3⟩
    · exact ⟨i, h1, h2, .inr h3⟩
theorem en_congr {P Q : Tx → Prop} {t : Tx} {f g : Nat → Prop} {j : Nat} (h : ∀ v, P v ↔ Q v) (hf : ∀ i, i ≤ j → (f i ↔ g i)) : En1 P t f j ↔ En1 Q t g j := by
  constructor
  · rintro ⟨i, h1, h2, h3⟩; exact ⟨i, h1, (hf i h1).1 h2, (h _).1 h3⟩
  · rintro ⟨i, h1, h2, h3⟩; exact ⟨i, h1, (hf i h1).2 h2, (h _).2 h3⟩
/-- What is closed under one more step holds all. -/
theorem en_plus_sub {P : Tx → Prop} {t : Tx} {f A : Nat → Prop} (h1 : ∀ j, j ≤ t.length → En1 P t f j → A j) (h2 : ∀ j, j ≤ t.length → En1 P t A j → A j) (j : Nat) (hj : j ≤ t.length) (h : En1 (Plus P) t f j) : A j := by
  obtain ⟨i, hi, hf, hp⟩ := h
  have key : ∀ v, Plus P v → ∀ i, i ≤ j → v = (t.take j).drop i → (f i ∨ A i) → A j := by
    intro v hv
    induction hv with
    | one hp =>
      intro i hi e hf
      rcases hf with hf | hf
      · exact h1 j hj ⟨i, hi, hf, by rw [← e]; exact hp⟩
      · exact h2 j hj ⟨i, hi, hf, by rw [← e]; exact hp⟩
    | @more u v hu hv ih =>
      intro i hi e hf
      have hl := congrArg List.length e
      rw [List.length_drop, List.length_take, List.length_append] at hl
      have hs := take_split t i (i + u.length) j (by omega) (by omega)
      rw [← e] at hs
      have hlen : ((t.take (i + u.length)).drop i).length = u.length := by rw [List.length_drop, List.length_take]; omega
      have e1 := (List.append_inj hs hlen.symm).1
      have e2 := (List.append_inj hs hlen.symm).2
      have hm : A (i + u.length) := by
        rcases hf with hf | hf
        · exact h1 _ (by omega) ⟨i, by omega, hf, by rw [← e1]; exact hu⟩
        · exact h2 _ (by omega) ⟨i, by omega, hf, by rw [← e1]; exact hu⟩
      exact ih (i + u.length) (by omega) e2 (.inr hm)
  exact key _ hp i hi rfl (.inl hf)
theorem en_plus_one {P : Tx → Prop} {t : Tx} {f : Nat → Prop} {j : Nat} (h : En1 P t f j) : En1 (Plus P) t f j := by
  obtain ⟨i, h1, h2, h3⟩ := h
  exact ⟨i, h1, h2, .one h3⟩
theorem plus_snoc {P : Tx → Prop} {u v : Tx} (h : Plus P u) (hv : P v) : Plus P (u ++ v) := by
  induction h with
  | one hp => exact .more hp (.one hv)
  | more hp _ ih => rw [List.append_assoc]; exact .more hp ih
theorem en_plus_more {P : Tx → Prop} {t : Tx} {f : Nat → Prop} {j : Nat} (h : En1 P t (En1 (Plus P) t f) j) : En1 (Plus P) t f j := by
  obtain ⟨m, h1, ⟨i, h2, h3, h4⟩, h5⟩ := h
  refine ⟨i, by omega, h3, ?_⟩
  rw [take_split t i m j h2 h1]
  exact plus_snoc h4 h5

end Go.Proofs.YtanlgplgplncdaaGreatDoor

/-
  The document's Match: rows of bools in memory; means, joined, same.
-/
namespace Go.Proofs.YtanlgplgplncdaaGreatDoor
open Go.RowKit
set_option linter.unusedVariables false
set_option linter.unusedSimpArgs false

/-- A row of bools, to be read. -/
def BlV (w : World) (ad : Option Addr) (l : List Bool) : Prop := l ≠ [] → ∃ b off, ad = some ⟨b, off, none⟩ ∧ ∀ (i : Nat) (x : Bool), l[i]? = some x → w.cell? ⟨b, off + i, none⟩ = some (.bool x)
theorem BlV.later {w w' : World} {ad : Option Addr} {l : List Bool} (h : BlV w ad l) (hb : Below w.heap.size w w') : BlV w' ad l := fun h0 => by
  obtain ⟨b, off, e, hc⟩ := h h0
  refine ⟨b, off, e, fun i x hx => ?_⟩
  have := hc i x hx
  rw [hb.cell (p := ⟨b, off + i, none⟩) (cell_lt this)]
  exact this
/-- Code points, to be read. -/
def CpV (w : World) (ad : Option Addr) (t : Tx) : Prop := t ≠ [] → ∃ b off, ad = some ⟨b, off, none⟩ ∧ ∀ (i : Nat) (x : Nat), t[i]? = some x → w.cell? ⟨b, off + i, none⟩ = some (.int .i32 (x : Int))
theorem CpV.later {w w' : World} {ad : Option Addr} {t : Tx} (h : CpV w ad t) (hb : Below w.heap.size w w') : CpV w' ad t := fun h0 => by
  obtain ⟨b, off, e, hc⟩ := h h0
  refine ⟨b, off, e, fun i x hx => ?_⟩
  have := hc i x hx
  rw [hb.cell (p := ⟨b, off + i, none⟩) (cell_lt this)]
  exact this

/-- Does a leaf mean a code point? -/
def lfB : Pt → Nat → Bool
  | .chr d, c => c == d
  | .any, _ => true
  | .cls neg l, c => inS l c != neg
  | _, _ => false
def Leaf : Pt → Prop
  | .chr _ => True
  | .any => True
  | .cls _ _ => True
  | _ => False

set_option maxRecDepth 100000 in
set_option maxHeartbeats 0 in
theorem meansR {F : Nat → Prop} {w : World} {p : Pt} {u : List Value} (hp : Leaf p) (h : NdV F w p u) (c : Nat) (hc : c ≤ 1114111) : Calls Tryz.prog 80 #[.agg (List.toArray u), .int .i32 (c : Int)] w fun e w' => e = .returned (.bool (lfB p c)) ∧ Below w.heap.size w w' := by
  cases p with
  | grp l => exact hp.elim
  | rep a s => exact hp.elim
  | chr d =>
    simp only [NdV] at h
    obtain ⟨rfl, hv⟩ := h
    simp only [lfB, nV, sN]
    by_cases e : c = d
    · subst e
      have he : ((c : Int) == (c : Int)) = true := by simp
      go_enter Tryz.func80, Tryz.ntmps80
      go_wp2
      go_ret
      exact ⟨by simp, (Below.refl _ w).alloc (Nat.le_refl _) _⟩
    · have he : ¬ (d : Int) = (c : Int) := by omega
      go_enter Tryz.func80, Tryz.ntmps80
      go_wp2
      go_ret
      have hbq : ((d : Int) == (c : Int)) = (c == d) := by rw [Bool.eq_iff_iff]; simp; omega
      exact ⟨by first | rw [← hbq]; rfl | simp [hbq] | (simp; exact hbq), (Below.refl _ w).alloc (Nat.le_refl _) _⟩
  | any =>
    simp only [NdV] at h
    subst h
    simp only [lfB, nV, sN]
    go_enter Tryz.func80, Tryz.ntmps80
    go_wp2
    go_ret
    exact ⟨rfl, (Below.refl _ w).alloc (Nat.le_refl _) _⟩
  | cls neg l =>
    simp only [NdV] at h
    obtain ⟨ad, c1, raw, rfl, hss, hf, hfold, hok, hne, hlen⟩ := h
    have hin : inS l c = inS raw c := by
      rw [Bool.eq_iff_iff, ← hfold]
      exact (fold_tidy raw.length raw rfl hok).2 c
    simp only [lfB]
    rw [hin]
    obtain ⟨R, hR⟩ : ∃ R, inS raw c = R := ⟨_, rfl⟩
    have HR : Hid ((false || inS (raw.drop 0) c) = R) := hidden (by simpa using hR)
    obtain ⟨n, hn⟩ : ∃ n, raw.length = n := ⟨_, rfl⟩
    have HN := hidden hn
    obtain ⟨w1, hw1, hB1, hb1, hs1⟩ : ∃ w1, w.alloc (.cells #[.int .i64 3, .int .i32 0, .bool neg, .int .u8 0, .slice ad n c1, .slice none 0 0] 123) = w1 ∧ Blk w1 w.heap.size 123 (nV 3 0 neg 0 (.slice ad n c1) sN) ∧ Below w.heap.size w w1 ∧ w1.heap.size = w.heap.size + 1 := one_new w 123 (nV 3 0 neg 0 (.slice ad n c1) sN)
    have HSS := hidden (hss.later hb1)
    have x2 : w1.cell? ⟨w.heap.size, 2, none⟩ = some (.bool neg) := hB1.cell 2
    have x4 : w1.cell? ⟨w.heap.size, 4, none⟩ = some (.slice ad n c1) := hB1.cell 4
    have HW1 := hidden hw1
    have HB1 := hidden hb1
    rw [hR]
    simp only [nV, sN, hn]
    clear hin hR hn hw1 hB1 hb1 hs1 hss hf hfold hok hne
    have hlen' : n ≤ 1000 := by have := HN.out; omega
    go_enter Tryz.func80, Tryz.ntmps80
    go_wp2_with fail
    rw [HW1.out]
    clear HW1
    go_loopw [5, 6] (fun s5 s6 wx => ∃ (i : Nat) (b : Bool), s5 = .bool b ∧ s6 = .int .i64 (i : Int) ∧ i ≤ n ∧ Hid ((b || inS (raw.drop i) c) = R) ∧ wx = w1) (fun _ s6 _ => n - (intOf s6).toNat)
    case atStart => exact ⟨0, false, rfl, rfl, by omega, HR, rfl⟩
    case round =>
      rename World => wr
      obtain ⟨i, b, rfl, rfl, hi, hrel, rfl⟩ := hrel
      by_cases hlt : i < n
      · have hltz : (i : Int) < (n : Int) := by omega
        obtain ⟨g, off, o, rfl, _, ho, ho', c0', c1', z0, z1⟩ := HSS.out.get (i := i) (by have := HN.out; omega)
        have HST := hidden (inS_step ho c)
        clear ho ho'
        cases b with
        | true =>
          go_wp2
          refine ⟨⟨i + 1, true, by first | rfl | simp, by first | rfl | simp, by omega, hidden (by have := hrel.out; simpa using this), by first | rfl | trivial⟩, ?_⟩
          simp [intOf]
          omega
        | false =>
          by_cases h1 : o.1 ≤ c
          · have h1z : (o.1 : Int) ≤ (c : Int) := by omega
            by_cases h2 : c ≤ o.2
            · have h2z : (c : Int) ≤ (o.2 : Int) := by omega
              go_wp2
              refine ⟨⟨i + 1, true, by first | rfl | simp [h1, h2], by first | rfl | simp, by omega, hidden (by have := hrel.out; rw [HST.out] at this; simpa [h1, h2] using this), by first | rfl | trivial⟩, ?_⟩
              simp [intOf]
              omega
            · have h2z : ¬ (c : Int) ≤ (o.2 : Int) := by omega
              go_wp2
              refine ⟨⟨i + 1, false, by first | rfl | simp [h1, h2], by first | rfl | simp, by omega, hidden (by have := hrel.out; rw [HST.out] at this; simpa [h1, h2] using this), by first | rfl | trivial⟩, ?_⟩
              simp [intOf]
              omega
          · have h1z : ¬ (o.1 : Int) ≤ (c : Int) := by omega
            go_wp2
            refine ⟨⟨i + 1, false, by first | rfl | simp [h1], by first | rfl | simp, by omega, hidden (by have := hrel.out; rw [HST.out] at this; simpa [h1] using this), by first | rfl | trivial⟩, ?_⟩
            simp [intOf]
            omega
      · have hltz : ¬ (i : Int) < (n : Int) := by omega
        have HE : Hid (b = R) := hidden (by have := hrel.out; rw [List.drop_of_length_le (by have := HN.out; omega), inS_nil] at this; simpa using this)
        go_wp2
        go_ret
        exact ⟨by rw [← HE.out]; rfl, HB1.out⟩

theorem info4 : (Tryz.prog.info? 4).map (fun i => (i.zero, i.size, i.bytes)) = some (some (.bool false), 1, 1) := by kernel_rfl
def bB (l : List Bool) : List Value := l.map (fun x => Value.bool x)
theorem orB_get (a b : List Bool) (n : Nat) (ha : a.length = n) (hb : b.length = n) (i : Nat) (x y : Bool) (hx : a[i]? = some x) (hy : b[i]? = some y) : (List.zipWith (· || ·) a b)[i]? = some (x || y) := by
  rw [List.getElem?_zipWith, hx, hy]

/-- A row that is being filled. -/
structure Fil (w wx : World) (g n i : Nat) (l : List Bool) (G : Nat → Bool) : Prop where
  bel : Below w.heap.size w wx
  blk : Blk wx g 4 (bB l)
  len : l.length = n
  ge : w.heap.size ≤ g
  val : ∀ k, k < i → l[k]? = some (G k)
theorem Fil.set {w wx : World} {g n i : Nat} {l : List Bool} {G : Nat → Bool} (h : Fil w wx g n i l G) (hi : i < n) : Fil w (wx.setCell ⟨g, i, none⟩ (.bool (G i))) g n (i + 1) (l.set i (G i)) G := by
  refine ⟨h.bel.trans ((Chg.set ⟨g, i, none⟩ (.bool (G i)) wx).below h.bel.size (fun x e => by have e' : x = g := e; have := h.ge; omega)), ?_, by rw [List.length_set, h.len], h.ge, fun k hk => ?_⟩
  · have := h.blk.set i (.bool (G i))
    have e : bB (l.set i (G i)) = (bB l).set i (.bool (G i)) := by simp [bB, List.map_set]
    rw [e]; exact this
  · rw [List.getElem?_set]
    by_cases e : i = k
    · subst e
      rw [if_pos rfl, if_pos (by rw [h.len]; exact hi)]
    · rw [if_neg e]
      exact h.val k (by omega)
theorem Fil.fin {w wx : World} {g n : Nat} {l : List Bool} {G : Nat → Bool} (h : Fil w wx g n n l G) : BlV wx (some ⟨g, 0, none⟩) ((List.range n).map G) := fun _ => ⟨g, 0, rfl, fun i x hx => by
  have hi : i < n := by have := (List.getElem?_eq_some_iff.1 hx).1; simpa using this
  have hv := h.val i hi
  rw [List.getElem?_map, List.getElem?_range hi] at hx
  simp at hx
  rw [Nat.zero_add, h.blk.cell]
  simp [bB, hv, hx]⟩
theorem Fil.new {w wx : World} {n : Nat} (hb : Below w.heap.size w wx) (hB : Blk wx w.heap.size 4 (List.replicate n (.bool false))) (G : Nat → Bool) : Fil w wx w.heap.size n 0 (List.replicate n false) G :=
  ⟨hb, by simpa [bB] using hB, by simp, Nat.le_refl _, fun k hk => by omega⟩
theorem Fil.at {w wx : World} {g n i : Nat} {l : List Bool} {G : Nat → Bool} (h : Fil w wx g n i l G) {k : Nat} (hk : k < n) : (∃ x, wx.cell? ⟨g, k, none⟩ = some (.bool x)) ∧ wx.frozen? ⟨g, k, none⟩ = false := by
  refine ⟨⟨l[k]'(by rw [h.len]; exact hk), ?_⟩, h.blk.frozen k⟩
  rw [h.blk.cell]
  simp [bB, h.len, hk]

set_option maxRecDepth 100000 in
set_option maxHeartbeats 0 in
theorem joinedR {w : World} {fa fb : Option Addr} {ca cb n : Nat} {a b : List Bool} (hA : BlV w fa a) (hB : BlV w fb b) (ha : a.length = n) (hb : b.length = n) (hn : n ≤ 2000000) :
    Calls Tryz.prog 81 #[.slice fa n ca, .slice fb n cb] w fun e w' => ∃ g c', e = .returned (.slice (some ⟨g, 0, none⟩) n c') ∧ BlV w' (some ⟨g, 0, none⟩) ((List.range n).map (fun i => a[i]?.getD false || b[i]?.getD false)) ∧ Below w.heap.size w w' := by
  obtain ⟨i0, hi0, hz0, hz1, hz2⟩ := info_parts info4
  have HI := hidden hi0
  have HA := hidden hA
  have HB := hidden hB
  have HNA := hidden ha
  have HNB := hidden hb
  obtain ⟨G, hG⟩ : ∃ G : Nat → Bool, ∀ i, (a[i]?.getD false || b[i]?.getD false) = G i := ⟨_, fun _ => rfl⟩
  have HG := hidden hG
  have hGf : (fun i => a[i]?.getD false || b[i]?.getD false) = G := funext hG
  rw [hGf]
  clear hA hB ha hb hi0 hG hGf
  go_enter Tryz.func81, Tryz.ntmps81
  go_wp2_with (refine wpList_make_room _ rfl (.tmp 8) (.tmp 8) 128 rfl 4 i0 (.bool false) Tryz.underlying128 HI.out hz0 hz1 hz2 rfl .i64 .i64 (n : Int) (n : Int) n n rfl rfl rfl rfl (Nat.le_refl _) (by omega) ?_; intro w2 hB2 hs2 hb2; have F2 := hidden (Fil.new hb2 hB2 G); clear hB2 hs2 hb2)
  go_loopw [6] (fun s6 wx => ∃ i : Nat, s6 = .int .i64 (i : Int) ∧ i ≤ n ∧ Hid (∃ l, Fil w wx w.heap.size n i l G)) (fun s6 _ => n - (intOf s6).toNat)
  case atStart => exact ⟨0, rfl, by omega, hidden ⟨_, F2.out⟩⟩
  case round =>
    rename World => wr
    obtain ⟨i, rfl, hi, hex⟩ := hrel
    obtain ⟨l, hF⟩ := hex.out
    have HF := hidden hF
    clear hex hF F2
    by_cases hlt : i < n
    · have hltz : (i : Int) < (n : Int) := by omega
      have hla : i < a.length := by have := HNA.out; omega
      have hlb : i < b.length := by have := HNB.out; omega
      obtain ⟨b1, o1, rfl, hc1⟩ := (HA.out.later HF.out.bel) (fun e => by rw [e] at hla; simp at hla)
      obtain ⟨b2, o2, rfl, hc2⟩ := (HB.out.later HF.out.bel) (fun e => by rw [e] at hlb; simp at hlb)
      obtain ⟨x, hx⟩ : ∃ x, a[i]? = some x := ⟨_, List.getElem?_eq_getElem hla⟩
      obtain ⟨y, hy⟩ : ∃ y, b[i]? = some y := ⟨_, List.getElem?_eq_getElem hlb⟩
      have k1 := hc1 i x hx
      have k2 := hc2 i y hy
      obtain ⟨⟨z, k3⟩, k4⟩ := HF.out.at hlt
      have HS : Hid (Fil w (wr.setCell ⟨w.heap.size, i, none⟩ (.bool (x || y))) w.heap.size n (i + 1) (l.set i (G i)) G) := hidden (by
        have e : G i = (x || y) := by rw [← HG.out i, hx, hy]; rfl
        have := HF.out.set hlt
        rw [← e]; exact this)
      clear hc1 hc2 hx hy hla hlb
      cases x with
      | true =>
        go_wp2
        refine ⟨⟨i + 1, by first | rfl | simp, by omega, hidden ⟨_, HS.out⟩⟩, ?_⟩
        simp [intOf]
        omega
      | false =>
        go_wp2
        refine ⟨⟨i + 1, by first | rfl | simp, by omega, hidden ⟨_, HS.out⟩⟩, ?_⟩
        simp [intOf]
        omega
    · have hltz : ¬ (i : Int) < (n : Int) := by omega
      obtain rfl : i = n := by omega
      go_wp2
      go_ret
      first
        | exact ⟨w.heap.size, i, rfl, HF.out.fin, HF.out.bel⟩
        | exact ⟨w.heap.size, ⟨i, rfl⟩, HF.out.fin, HF.out.bel⟩

set_option maxRecDepth 100000 in
set_option maxHeartbeats 0 in
theorem sameBR {w : World} {fa fb : Option Addr} {ca cb n : Nat} {a b : List Bool} (hA : BlV w fa a) (hB : BlV w fb b) (ha : a.length = n) (hb : b.length = n) (hn : n ≤ 2000000) :
    Calls Tryz.prog 82 #[.slice fa n ca, .slice fb n cb] w fun e w' => e = .returned (.bool (decide (a = b))) ∧ Below w.heap.size w w' := by
  have HA := hidden hA
  have HB := hidden hB
  have HNA := hidden ha
  have HNB := hidden hb
  obtain ⟨R, hR⟩ : ∃ R, decide (a = b) = R := ⟨_, rfl⟩
  have HR := hidden hR
  rw [hR]
  clear hA hB ha hb hR
  go_enter Tryz.func82, Tryz.ntmps82
  go_wp2_with fail
  go_loopw [5] (fun s5 wx => ∃ i : Nat, s5 = .int .i64 (i : Int) ∧ i ≤ n ∧ Hid (∀ k, k < i → a[k]? = b[k]?) ∧ Hid (Below w.heap.size w wx)) (fun s5 _ => n - (intOf s5).toNat)
  case atStart => exact ⟨0, rfl, by omega, hidden (fun k hk => by omega), hidden (Below.refl _ _)⟩
  case round =>
    rename World => wr
    obtain ⟨i, rfl, hi, hrel, hbel⟩ := hrel
    by_cases hlt : i < n
    · have hltz : (i : Int) < (n : Int) := by omega
      have hla : i < a.length := by have := HNA.out; omega
      have hlb : i < b.length := by have := HNB.out; omega
      obtain ⟨b1, o1, rfl, hc1⟩ := (HA.out.later hbel.out) (fun e => by rw [e] at hla; simp at hla)
      obtain ⟨b2, o2, rfl, hc2⟩ := (HB.out.later hbel.out) (fun e => by rw [e] at hlb; simp at hlb)
      obtain ⟨x, hx⟩ : ∃ x, a[i]? = some x := ⟨_, List.getElem?_eq_getElem hla⟩
      obtain ⟨y, hy⟩ : ∃ y, b[i]? = some y := ⟨_, List.getElem?_eq_getElem hlb⟩
      have k1 := hc1 i x hx
      have k2 := hc2 i y hy
      have HNE : Hid (x ≠ y → R = false) := hidden (fun hne => by
        rw [← HR.out]
        refine decide_eq_false (fun e => hne ?_)
        rw [e, hy] at hx
        injection hx with hx
        exact hx.symm)
      have HST : Hid (x = y → ∀ k, k < i + 1 → a[k]? = b[k]?) := hidden (fun e k hk => by
        rcases (show k < i ∨ k = i by omega) with h | h
        · exact hrel.out k h
        · rw [h, hx, hy, e])
      clear hc1 hc2 hx hy hla hlb
      cases x <;> cases y
      · go_wp2_with fail
        go_quiet (fail)
        go_wp2
        refine ⟨⟨i + 1, by first | rfl | simp, by omega, hidden (HST.out (by first | rfl | trivial)), hidden (below_drewN hbel.out _)⟩, ?_⟩
        simp [intOf]
        omega
      · go_wp2_with fail
        go_quiet (fail)
        go_wp2
        go_ret
        exact ⟨by rw [HNE.out (by decide)]; rfl, below_drewN hbel.out _⟩
      · go_wp2_with fail
        go_quiet (fail)
        go_wp2
        go_ret
        exact ⟨by rw [HNE.out (by decide)]; rfl, below_drewN hbel.out _⟩
      · go_wp2_with fail
        go_quiet (fail)
        go_wp2
        refine ⟨⟨i + 1, by first | rfl | simp, by omega, hidden (HST.out (by first | rfl | trivial)), hidden (below_drewN hbel.out _)⟩, ?_⟩
        simp [intOf]
        omega
    · have hltz : ¬ (i : Int) < (n : Int) := by omega
      have HE : Hid (R = true) := hidden (by
        rw [← HR.out]
        refine decide_eq_true (List.ext_getElem? (fun k => ?_))
        rcases Nat.lt_or_ge k n with h | h
        · exact hrel.out k (by omega)
        · rw [List.getElem?_eq_none (by have := HNA.out; omega), List.getElem?_eq_none (by have := HNB.out; omega)])
      go_wp2
      go_ret
      exact ⟨by rw [HE.out]; rfl, hbel.out⟩

end Go.Proofs.YtanlgplgplncdaaGreatDoor
