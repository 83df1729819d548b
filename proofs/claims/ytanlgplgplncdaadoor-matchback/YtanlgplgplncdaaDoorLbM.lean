/-
  Package label, purely: labels, names, values, right sets, the order, printing; the machine that reads a text byte by byte.
-/
import Derived.Lib.ValidLaws
import GoSem.Op.String
namespace Go.Proofs.YtanlgplgplncdaaDoor.L
open Go

structure Lb where
  n : ByteArray
  v : ByteArray
deriving Inhabited, DecidableEq

def bts (s : ByteArray) : List UInt8 := s.data.toList
theorem bts_inj {a b : ByteArray} (h : bts a = bts b) : a = b := by
  cases a; cases b; simp only [bts, Array.toList_inj] at h; rw [h]
theorem Lb.ext' {a b : Lb} (h1 : bts a.n = bts b.n) (h2 : bts a.v = bts b.v) : a = b := by
  cases a; cases b; simp only at h1 h2; rw [bts_inj h1, bts_inj h2]
def oft (l : List UInt8) : ByteArray := ⟨l.toArray⟩
theorem bts_oft (l : List UInt8) : bts (oft l) = l := by simp [bts, oft]
theorem oft_bts (s : ByteArray) : oft (bts s) = s := bts_inj (bts_oft _)

/-! ### texts, byte by byte -/
def lss (x y : List UInt8) : Bool := decide (x < y)
theorem lss_irr (x : List UInt8) : lss x x = false := by simp [lss, List.lt_irrefl]
theorem lss_trans {x y z : List UInt8} (h1 : lss x y = true) (h2 : lss y z = true) : lss x z = true := by
  simp only [lss, decide_eq_true_eq] at *; exact List.lt_trans h1 h2
theorem lss_asymm {x y : List UInt8} (h1 : lss x y = true) : lss y x = false := by
  cases h : lss y x
  · rfl
  · exact absurd (lss_trans h1 h) (by rw [lss_irr]; simp)
theorem lss_tri {x y : List UInt8} (h1 : lss x y = false) (h2 : lss y x = false) : x = y := by
  simp only [lss, decide_eq_false_iff_not, List.not_lt] at h1 h2
  exact List.le_antisymm h2 h1

def cmpS (x y : List UInt8) : Int := if lss x y then -1 else if lss y x then 1 else 0
theorem cmpS_self (x : List UInt8) : cmpS x x = 0 := by simp [cmpS, lss_irr]
theorem cmpS_zero {x y : List UInt8} (h : cmpS x y = 0) : x = y := by
  unfold cmpS at h
  split at h
  · cases h
  · split at h
    · cases h
    · rename_i h1 h2
      exact lss_tri (by simpa using h1) (by simpa using h2)
theorem cmpS_neg (x y : List UInt8) : cmpS y x = -cmpS x y := by
  unfold cmpS
  by_cases h1 : lss x y = true
  · simp [h1, lss_asymm h1]
  · by_cases h2 : lss y x = true
    · simp [h1, h2]
    · simp [h1, h2]
theorem cmpS_range (x y : List UInt8) : cmpS x y = -1 ∨ cmpS x y = 0 ∨ cmpS x y = 1 := by
  unfold cmpS; repeat' split
  all_goals simp

/-! ### names, values -/
def lett (c : UInt8) : Bool := (decide (97 ≤ c.toNat) && decide (c.toNat ≤ 122)) || (decide (65 ≤ c.toNat) && decide (c.toNat ≤ 90)) || decide (c.toNat = 95)
def digi (c : UInt8) : Bool := decide (48 ≤ c.toNat) && decide (c.toNat ≤ 57)
def lead (first : Bool) (c : UInt8) : Bool := lett c || (!first && digi c)
def wsz : Bool → List UInt8 → Nat
  | _, [] => 0
  | f, c :: t => if lead f c then wsz false t + 1 else 0
theorem wsz_le : ∀ (f : Bool) (l : List UInt8), wsz f l ≤ l.length
  | _, [] => Nat.le_refl _
  | f, c :: t => by
    unfold wsz; have := wsz_le false t
    split <;> simp <;> omega
def isName (s : List UInt8) : Bool := decide (s.length ≤ 32) && decide (wsz true s = s.length) && decide (s ≠ [])
def isVal (s : List UInt8) : Bool := decide (s ≠ []) && decide (s.length ≤ 64) && Lib.validD s
def Lb.fits (x : Lb) : Bool := isName (bts x.n) && isVal (bts x.v)
def ltN (a b : Lb) : Bool := lss (bts a.n) (bts b.n)

/-! ### right sets -/
def rightFrom : Option Lb → List Lb → Bool
  | _, [] => true
  | none, x :: t => x.fits && rightFrom (some x) t
  | some p, x :: t => x.fits && ltN p x && rightFrom (some x) t
def right (l : List Lb) : Bool := decide (1 ≤ l.length) && decide (l.length ≤ 8) && rightFrom none l

theorem rightFrom_some (p : Lb) : ∀ l : List Lb, rightFrom (some p) l = true ↔ (∀ x ∈ l, x.fits = true) ∧ (p :: l).Pairwise (fun a b => ltN a b = true) := by
  intro l
  induction l generalizing p with
  | nil => simp [rightFrom]
  | cons x t ih =>
    rw [rightFrom, Bool.and_eq_true, Bool.and_eq_true, ih]
    constructor
    · rintro ⟨⟨h1, h2⟩, h3, h4⟩
      refine ⟨fun y hy => ?_, List.pairwise_cons.2 ⟨fun y hy => ?_, h4⟩⟩
      · rcases List.mem_cons.1 hy with rfl | hy
        · exact h1
        · exact h3 y hy
      · rcases List.mem_cons.1 hy with rfl | hy
        · exact h2
        · exact lss_trans h2 ((List.pairwise_cons.1 h4).1 y hy)
    · rintro ⟨h1, h2⟩
      obtain ⟨h3, h4⟩ := List.pairwise_cons.1 h2
      exact ⟨⟨h1 x (by simp), h3 x (by simp)⟩, fun y hy => h1 y (by simp [hy]), h4⟩
theorem rightFrom_none (l : List Lb) : rightFrom none l = true ↔ (∀ x ∈ l, x.fits = true) ∧ l.Pairwise (fun a b => ltN a b = true) := by
  cases l with
  | nil => simp [rightFrom]
  | cons x t =>
    rw [rightFrom, Bool.and_eq_true, rightFrom_some]
    constructor
    · rintro ⟨h1, h2, h3⟩
      refine ⟨fun y hy => ?_, h3⟩
      rcases List.mem_cons.1 hy with rfl | hy
      · exact h1
      · exact h2 y hy
    · rintro ⟨h1, h2⟩
      exact ⟨h1 x (by simp), fun y hy => h1 y (by simp [hy]), h2⟩
theorem right_iff (l : List Lb) : right l = true ↔ 1 ≤ l.length ∧ l.length ≤ 8 ∧ (∀ x ∈ l, x.fits = true) ∧ l.Pairwise (fun a b => ltN a b = true) := by
  rw [right, Bool.and_eq_true, Bool.and_eq_true, rightFrom_none, decide_eq_true_eq, decide_eq_true_eq, and_assoc]

/-! ### in order -/
def Srt (l : List Lb) : Prop := l.Pairwise (fun a b => ltN b a = false)
/-- Of two lists of the same labels in order: if one is right, so is the other, and it is the same. -/
theorem srt_right {l m : List Lb} (hp : l.Perm m) (hl : Srt l) (hm : Srt m) (hr : right l = true) : l = m := by
  obtain ⟨h1, h2, h3, h4⟩ := (right_iff l).1 hr
  have inj : ∀ a ∈ l, ∀ b ∈ l, ltN a b = false → ltN b a = false → a = b := by
    intro a ha b hb e1 e2
    have : ∀ (k : List Lb), k.Pairwise (fun a b => ltN a b = true) → a ∈ k → b ∈ k → a = b := by
      intro k hk
      induction k with
      | nil => intro h; cases h
      | cons x t ih =>
        obtain ⟨k1, k2⟩ := List.pairwise_cons.1 hk
        intro ma mb
        rcases List.mem_cons.1 ma with ea | ma' <;> rcases List.mem_cons.1 mb with eb | mb'
        · rw [ea, eb]
        · rw [ea, k1 b mb'] at e1; cases e1
        · rw [eb, k1 a ma'] at e2; cases e2
        · exact ih k2 ma' mb'
    exact this l h4 ha hb
  refine List.Perm.eq_of_pairwise (le := fun a b => ltN b a = false) ?_ hl hm hp
  intro a b ha hb e1 e2
  exact inj a ha b (hp.mem_iff.2 hb) e2 e1
theorem srt_right_iff {l m : List Lb} (hp : l.Perm m) (hl : Srt l) (hm : Srt m) : right l = right m := by
  cases h : right l
  · cases h' : right m
    · rfl
    · rw [srt_right hp.symm hm hl h', h] at h'; cases h'
  · rw [← srt_right hp hl hm h, h]
theorem right_srt {l : List Lb} (h : right l = true) : Srt l := by
  obtain ⟨h1, h2, h3, h4⟩ := (right_iff l).1 h
  exact h4.imp fun h => lss_asymm h

def leN (a b : Lb) : Bool := !ltN b a
def srt (l : List Lb) : List Lb := l.mergeSort leN
theorem srt_perm (l : List Lb) : (srt l).Perm l := List.mergeSort_perm l leN
theorem srt_srt (l : List Lb) : Srt (srt l) := by
  have := List.pairwise_mergeSort (le := leN) (fun a b c h1 h2 => ?_) (fun a b => ?_) l
  · exact this.imp fun h => by simpa [leN] using h
  · simp only [leN, Bool.not_eq_true'] at *
    cases h : ltN c a
    · rfl
    · exfalso
      cases h3 : ltN b a
      · cases h4 : ltN c b
        · have e1 := h1; have e2 := h2
          by_cases h5 : ltN a b = true
          · have := lss_trans h h5
            rw [show lss (bts c.n) (bts b.n) = ltN c b from rfl, h4] at this; cases this
          · have := lss_tri (x := bts a.n) (y := bts b.n) (by simpa [ltN] using h5) h3
            unfold ltN at h h4; rw [this] at h; rw [h] at h4; cases h4
        · rw [h2] at h4; cases h4
      · rw [h1] at h3; cases h3
  · simp only [leN, Bool.or_eq_true, Bool.not_eq_true']
    cases h : ltN b a
    · exact Or.inl rfl
    · exact Or.inr (lss_asymm h)
theorem srt_of_right {l : List Lb} (h : right l = true) : srt l = l := (srt_right (srt_perm l).symm (right_srt h) (srt_srt l) h).symm
/-- A list of the same labels, in order: what Sort tells of it. -/
theorem srt_any {l m : List Lb} (hp : m.Perm l) (hm : Srt m) : right m = right (srt l) ∧ (right m = true → m = srt l) :=
  ⟨srt_right_iff (hp.trans (srt_perm l).symm) hm (srt_srt l), fun h => srt_right (hp.trans (srt_perm l).symm) hm (srt_srt l) h⟩
theorem srt_congr {l m : List Lb} (hp : l.Perm m) (h : right (srt l) = true) : srt l = srt m :=
  srt_right ((srt_perm l).trans (hp.trans (srt_perm m).symm)) (srt_srt l) (srt_srt m) h

/-! ### Get, Cmp -/
def getL : List Lb → List UInt8 → List UInt8
  | [], _ => []
  | x :: t, n => if bts x.n = n then bts x.v else getL t n
def cmpL : List Lb → List Lb → Int
  | [], [] => 0
  | [], _ :: _ => -1
  | _ :: _, [] => 1
  | a :: s, b :: t => if cmpS (bts a.n) (bts b.n) ≠ 0 then cmpS (bts a.n) (bts b.n) else if cmpS (bts a.v) (bts b.v) ≠ 0 then cmpS (bts a.v) (bts b.v) else cmpL s t
theorem cmpL_range : ∀ a b : List Lb, cmpL a b = -1 ∨ cmpL a b = 0 ∨ cmpL a b = 1
  | [], [] => by simp [cmpL]
  | [], _ :: _ => by simp [cmpL]
  | _ :: _, [] => by simp [cmpL]
  | a :: s, b :: t => by
    rw [cmpL]; split
    · exact cmpS_range _ _
    · split
      · exact cmpS_range _ _
      · exact cmpL_range s t
theorem cmpL_neg : ∀ a b : List Lb, cmpL b a = -cmpL a b
  | [], [] => by simp [cmpL]
  | [], _ :: _ => by simp [cmpL]
  | _ :: _, [] => by simp [cmpL]
  | a :: s, b :: t => by
    rw [cmpL, cmpL, cmpS_neg (bts a.n), cmpS_neg (bts a.v), cmpL_neg s t]
    by_cases h1 : cmpS (bts a.n) (bts b.n) = 0
    · by_cases h2 : cmpS (bts a.v) (bts b.v) = 0
      · simp [h1, h2]
      · simp [h1, h2]
    · simp [h1]
theorem cmpL_zero : ∀ {a b : List Lb}, cmpL a b = 0 ↔ a = b
  | [], [] => by simp [cmpL]
  | [], _ :: _ => by simp [cmpL]
  | _ :: _, [] => by simp [cmpL]
  | a :: s, b :: t => by
    rw [cmpL]
    by_cases h1 : cmpS (bts a.n) (bts b.n) = 0
    · by_cases h2 : cmpS (bts a.v) (bts b.v) = 0
      · simp only [h1, h2, ne_eq, not_true, if_false, cmpL_zero (a := s) (b := t)]
        rw [Lb.ext' (cmpS_zero h1) (cmpS_zero h2)]; simp
      · simp only [h1, h2, ne_eq, not_true, if_false, not_false_eq_true, if_true, false_iff]
        intro h; cases h; rw [cmpS_self] at h2; exact h2 rfl
    · simp only [h1, ne_eq, not_false_eq_true, if_true, false_iff]
      intro h; cases h; rw [cmpS_self] at h1; exact h1 rfl
theorem cmpS_le_trans {x y z : List UInt8} (h1 : cmpS x y = -1) (h2 : cmpS y z = -1) : cmpS x z = -1 := by
  unfold cmpS at *
  have a1 : lss x y = true := by
    by_cases h : lss x y = true
    · exact h
    · rw [if_neg h] at h1; split at h1 <;> cases h1
  have a2 : lss y z = true := by
    by_cases h : lss y z = true
    · exact h
    · rw [if_neg h] at h2; split at h2 <;> cases h2
  rw [if_pos (lss_trans a1 a2)]
theorem cmpL_trans : ∀ {a b c : List Lb}, cmpL a b ≤ 0 → cmpL b c ≤ 0 → cmpL a c ≤ 0
  | [], _, [] => by simp [cmpL]
  | [], _, _ :: _ => by simp [cmpL]
  | _ :: _, [], _ => by simp [cmpL]
  | _ :: _, _ :: _, [] => by simp [cmpL]
  | a :: s, b :: t, c :: u => by
    have S : ∀ x y : List UInt8, cmpS x y = -1 ∨ cmpS x y = 0 ∨ cmpS x y = 1 := cmpS_range
    simp only [cmpL]
    rcases S (bts a.n) (bts b.n) with h1 | h1 | h1
    · rcases S (bts b.n) (bts c.n) with k1 | k1 | k1
      · rw [cmpS_le_trans h1 k1]; simp
      · rw [← cmpS_zero k1, h1]; simp
      · simp [h1, k1]
    · rw [← cmpS_zero h1, cmpS_self]
      rcases S (bts a.n) (bts c.n) with k1 | k1 | k1
      · simp [k1]
      · rw [k1]
        rcases S (bts a.v) (bts b.v) with h2 | h2 | h2
        · rcases S (bts b.v) (bts c.v) with k2 | k2 | k2
          · rw [cmpS_le_trans h2 k2]; simp
          · rw [← cmpS_zero k2, h2]; simp
          · simp [h2, k2]
        · rw [← cmpS_zero h2, cmpS_self]
          rcases S (bts a.v) (bts c.v) with k2 | k2 | k2
          · simp [k2]
          · simp only [k2, ne_eq, not_true, if_false]
            exact cmpL_trans
          · simp [k2]
        · simp [h2]
      · simp [k1]
    · simp [h1]

/-! ### printing -/
def qt1 (c : UInt8) : List UInt8 := if c = 92 then [92, 92] else if c = 34 then [92, 34] else if c = 10 then [92, 110] else [c]
def qtL (l : List UInt8) : List UInt8 := l.flatMap qt1
def Lb.text (x : Lb) : List UInt8 := bts x.n ++ ([61, 34] ++ (qtL (bts x.v) ++ [34]))
def prF : Bool → List Lb → List UInt8
  | _, [] => [125]
  | true, x :: t => 123 :: (x.text ++ prF false t)
  | false, x :: t => 44 :: 32 :: (x.text ++ prF false t)
def printL (l : List Lb) : List UInt8 := if right l then prF true l else []

end Go.Proofs.YtanlgplgplncdaaDoor.L
