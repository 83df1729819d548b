import Derived.Lib.ValidLaws
import GoSem.Op.String
import Derived.WalkKit
import Derived.WalkSpells
import Derived.WalkLawsBesides
import Derived.Laws.CopyOwn
import Derived.Laws.AppendOwnNone
import Derived.Laws.BytesArg
import Derived.Lib.SlBytesConst
/-
  Package label, purely: labels, names, values, right sets, the order, printing; the machine that reads a text byte by byte.
-/
namespace Go.Proofs.YtanlgplgplncdaaGreatDoor.L
open Go

structure Lb where
  n : ByteArray
  v : ByteArray
deriving Inhabited, DecidableEq

def bts (s : ByteArray) : List UInt8 := s.data.toList
theorem bts_inj {a b : ByteArray} (h : bts a = bts b) : a = b := by
  cases a; cases b; simp only [bts, Array.toList_inj] at h; rw [h]
theorem Lb.ext' {a b : Lb} (h1 : bts a.n = bts b.n) (h2 : bts a.v = bts b.v) : a = b := by
  cases a; cases b; simp only at h1 h2; rw [bts_inj h1, bts_inj h2]
def oft (l : List UInt8) : ByteArray := ⟨l.toArray⟩
theorem bts_oft (l : List UInt8) : bts (oft l) = l := by simp [bts, oft]
theorem oft_bts (s : ByteArray) : oft (bts s) = s := bts_inj (bts_oft _)

/-! ### texts, byte by byte -/
def lss (x y : List UInt8) : Bool := decide (x < y)
theorem lss_irr (x : List UInt8) : lss x x = false := by simp [lss, List.lt_irrefl]
theorem lss_trans {x y z : List UInt8} (h1 : lss x y = true) (h2 : lss y z = true) : lss x z = true := by
  simp only [lss, decide_eq_true_eq] at *; exact List.lt_trans h1 h2
theorem lss_asymm {x y : List UInt8} (h1 : lss x y = true) : lss y x = false := by
  cases h : lss y x
  · rfl
  · exact absurd (lss_trans h1 h) (by rw [lss_irr]; simp)
theorem lss_tri {x y : List UInt8} (h1 : lss x y = false) (h2 : lss y x = false) : x = y := by
  simp only [lss, decide_eq_false_iff_not, List.not_lt] at h1 h2
  exact List.le_antisymm h2 h1

def cmpS (x y : List UInt8) : Int := if lss x y then -1 else if lss y x then 1 else 0
theorem cmpS_self (x : List UInt8) : cmpS x x = 0 := by simp [cmpS, lss_irr]
theorem cmpS_zero {x y : List UInt8} (h : cmpS x y = 0) : x = y := by
  unfold cmpS at h
  split at h
  · cases h
  · split at h
    · cases h
    · rename_i h1 h2
      exact lss_tri (by simpa using h1) (by simpa using h2)
theorem cmpS_neg (x y : List UInt8) : cmpS y x = -cmpS x y := by
  unfold cmpS
  by_cases h1 : lss x y = true
  · simp [h1, lss_asymm h1]
  · by_cases h2 : lss y x = true
    · simp [h1, h2]
    · simp [h1, h2]
theorem cmpS_range (x y : List UInt8) : cmpS x y = -1 ∨ cmpS x y = 0 ∨ cmpS x y = 1 := by
  unfold cmpS; repeat' split
  all_goals simp

/-! ### names, values -/
def lett (c : UInt8) : Bool := (decide (97 ≤ c.toNat) && decide (c.toNat ≤ 122)) || (decide (65 ≤ c.toNat) && decide (c.toNat ≤ 90)) || decide (c.toNat = 95)
def digi (c : UInt8) : Bool := decide (48 ≤ c.toNat) && decide (c.toNat ≤ 57)
def lead (first : Bool) (c : UInt8) : Bool := lett c || (!first && digi c)
def wsz : Bool → List UInt8 → Nat
  | _, [] => 0
  | f, c :: t => if lead f c then wsz false t + 1 else 0
theorem wsz_le : ∀ (f : Bool) (l : List UInt8), wsz f l ≤ l.length
  | _, [] => Nat.le_refl _
  | f, c :: t => by
    unfold wsz; have := wsz_le false t
    split <;> simp <;> omega
def isName (s : List UInt8) : Bool := decide (s.length ≤ 32) && decide (wsz true s = s.length) && decide (s ≠ [])
def isVal (s : List UInt8) : Bool := decide (s ≠ []) && decide (s.length ≤ 64) && Lib.validD s
def Lb.fits (x : Lb) : Bool := isName (bts x.n) && isVal (bts x.v)
def ltN (a b : Lb) : Bool := lss (bts a.n) (bts b.n)

/-! ### right sets -/
def rightFrom : Option Lb → List Lb → Bool
  | _, [] => true
  | none, x :: t => x.fits && rightFrom (some x) t
  | some p, x :: t => x.fits && ltN p x && rightFrom (some x) t
def right (l : List Lb) : Bool := decide (1 ≤ l.length) && decide (l.length ≤ 8) && rightFrom none l

theorem rightFrom_some (p : Lb) : ∀ l : List Lb, rightFrom (some p) l = true ↔ (∀ x ∈ l, x.fits = true) ∧ (p :: l).Pairwise (fun a b => ltN a b = true) := by
  intro l
  induction l generalizing p with
  | nil => simp [rightFrom]
  | cons x t ih =>
    rw [rightFrom, Bool.and_eq_true, Bool.and_eq_true, ih]
    constructor
    · rintro ⟨⟨h1, h2⟩, h3, h4⟩
      refine ⟨fun y hy => ?_, List.pairwise_cons.2 ⟨fun y hy => ?_, h4⟩⟩
      · rcases List.mem_cons.1 hy with rfl | hy
        · exact h1
        · exact h3 y hy
      · rcases List.mem_cons.1 hy with rfl | hy
        · exact h2
        · exact lss_trans h2 ((List.pairwise_cons.1 h4).1 y hy)
    · rintro ⟨h1, h2⟩
      obtain ⟨h3, h4⟩ := List.pairwise_cons.1 h2
      exact ⟨⟨h1 x (by simp), h3 x (by simp)⟩, fun y hy => h1 y (by simp [hy]), h4⟩
theorem rightFrom_none (l : List Lb) : rightFrom none l = true ↔ (∀ x ∈ l, x.fits = true) ∧ l.Pairwise (fun a b => ltN a b = true) := by
  cases l with
  | nil => simp [rightFrom]
  | cons x t =>
    rw [rightFrom, Bool.and_eq_true, rightFrom_some]
    constructor
    · rintro ⟨h1, h2, h3⟩
      refine ⟨fun y hy => ?_, h3⟩
      rcases List.mem_cons.1 hy with rfl | hy
      · exact h1
      · exact h2 y hy
    · rintro ⟨h1, h2⟩
      exact ⟨h1 x (by simp), fun y hy => h1 y (by simp [hy]), h2⟩
theorem right_iff (l : List Lb) : right l = true ↔ 1 ≤ l.length ∧ l.length ≤ 8 ∧ (∀ x ∈ l, x.fits = true) ∧ l.Pairwise (fun a b => ltN a b = true) := by
  rw [right, Bool.and_eq_true, Bool.and_eq_true, rightFrom_none, decide_eq_true_eq, decide_eq_true_eq, and_assoc]

/-! ### in order -/
def Srt (l : List Lb) : Prop := l.Pairwise (fun a b => ltN b a = false)
/-- Of two lists of the same labels in order: if one is right, so is the other, and it is the same. -/
theorem srt_right {l m : List Lb} (hp : l.Perm m) (hl : Srt l) (hm : Srt m) (hr : right l = true) : l = m := by
  obtain ⟨h1, h2, h3, h4⟩ := (right_iff l).1 hr
  have inj : ∀ a ∈ l, ∀ b ∈ l, ltN a b = false → ltN b a = false → a = b := by
    intro a ha b hb e1 e2
    have : ∀ (k : List Lb), k.Pairwise (fun a b => ltN a b = true) → a ∈ k → b ∈ k → a = b := by
      intro k hk
      induction k with
      | nil => intro h; cases h
      | cons x t ih =>
        obtain ⟨k1, k2⟩ := List.pairwise_cons.1 hk
        intro ma mb
        rcases List.mem_cons.1 ma with ea | ma' <;> rcases List.mem_cons.1 mb with eb | mb'
        · rw [ea, eb]
        · rw [ea, k1 b mb'] at e1; cases e1
        · rw [eb, k1 a ma'] at e2; cases e2
        · exact ih k2 ma' mb'
    exact this l h4 ha hb
  refine List.Perm.eq_of_pairwise (le := fun a b => ltN b a = false) ?_ hl hm hp
  intro a b ha hb e1 e2
  exact inj a ha b (hp.mem_iff.2 hb) e2 e1
theorem srt_right_iff {l m : List Lb} (hp : l.Perm m) (hl : Srt l) (hm : Srt m) : right l = right m := by
  cases h : right l
  · cases h' : right m
    · rfl
    · rw [srt_right hp.symm hm hl h', h] at h'; cases h'
  · rw [← srt_right hp hl hm h, h]
theorem right_srt {l : List Lb} (h : right l = true) : Srt l := by
  obtain ⟨h1, h2, h3, h4⟩ := (right_iff l).1 h
  exact h4.imp fun h => lss_asymm h

def leN (a b : Lb) : Bool := !ltN b a
def srt (l : List Lb) : List Lb := l.mergeSort leN
theorem srt_perm (l : List Lb) : (srt l).Perm l := List.mergeSort_perm l leN
theorem srt_srt (l : List Lb) : Srt (srt l) := by
  have := List.pairwise_mergeSort (le := leN) (fun a b c h1 h2 => ?_) (fun a b => ?_) l
  · exact this.imp fun h => by simpa [leN] using h
  · simp only [leN, Bool.not_eq_true'] at *
    cases h : ltN c a
    · rfl
    · exfalso
      cases h3 : ltN b a
      · cases h4 : ltN c b
        · have e1 := h1; have e2 := h2
          by_cases h5 : ltN a b = true
          · have := lss_trans h h5
            rw [show lss (bts c.n) (bts b.n) = ltN c b from rfl, h4] at this; cases this
          · have := lss_tri (x := bts a.n) (y := bts b.n) (by simpa [ltN] using h5) h3
            unfold ltN at h h4; rw [this] at h; rw [h] at h4; cases h4
        · rw [h2] at h4; cases h4
      · rw [h1] at h3; cases h3
  · simp only [leN, Bool.or_eq_true, Bool.not_eq_true']
    cases h : ltN b a
    · exact Or.inl rfl
    · exact Or.inr (lss_asymm h)
theorem srt_of_right {l : List Lb} (h : right l = true) : srt l = l := (srt_right (srt_perm l).symm (right_srt h) (srt_srt l) h).symm
/-- A list of the same labels, in order: what Sort tells of it. -/
theorem srt_any {l m : List Lb} (hp : m.Perm l) (hm : Srt m) : right m = right (srt l) ∧ (right m = true → m = srt l) :=
  ⟨srt_right_iff (hp.trans (srt_perm l).symm) hm (srt_srt l), fun h => srt_right (hp.trans (srt_perm l).symm) hm (srt_srt l) h⟩
theorem srt_congr {l m : List Lb} (hp : l.Perm m) (h : right (srt l) = true) : srt l = srt m :=
  srt_right ((srt_perm l).trans (hp.trans (srt_perm m).symm)) (srt_srt l) (srt_srt m) h

/-! ### Get, Cmp -/
def getL : List Lb → List UInt8 → List UInt8
  | [], _ => []
  | x :: t, n => if bts x.n = n then bts x.v else getL t n
def cmpL : List Lb → List Lb → Int
  | [], [] => 0
  | [], _ :: _ => -1
  | _ :: _, [] => 1
  | a :: s, b :: t => if cmpS (bts a.n) (bts b.n) ≠ 0 then cmpS (bts a.n) (bts b.n) else if cmpS (bts a.v) (bts b.v) ≠ 0 then cmpS (bts a.v) (bts b.v) else cmpL s t
theorem cmpL_range : ∀ a b : List Lb, cmpL a b = -1 ∨ cmpL a b = 0 ∨ cmpL a b = 1
  | [], [] => by simp [cmpL]
  | [], _ :: _ => by simp [cmpL]
  | _ :: _, [] => by simp [cmpL]
  | a :: s, b :: t => by
    rw [cmpL]; split
    · exact cmpS_range _ _
    · split
      · exact cmpS_range _ _
      · exact cmpL_range s t
theorem cmpL_neg : ∀ a b : List Lb, cmpL b a = -cmpL a b
  | [], [] => by simp [cmpL]
  | [], _ :: _ => by simp [cmpL]
  | _ :: _, [] => by simp [cmpL]
  | a :: s, b :: t => by
    rw [cmpL, cmpL, cmpS_neg (bts a.n), cmpS_neg (bts a.v), cmpL_neg s t]
    by_cases h1 : cmpS (bts a.n) (bts b.n) = 0
    · by_cases h2 : cmpS (bts a.v) (bts b.v) = 0
      · simp [h1, h2]
      · simp [h1, h2]
    · simp [h1]
theorem cmpL_zero : ∀ {a b : List Lb}, cmpL a b = 0 ↔ a = b
  | [], [] => by simp [cmpL]
  | [], _ :: _ => by simp [cmpL]
  | _ :: _, [] => by simp [cmpL]
  | a :: s, b :: t => by
    rw [cmpL]
    by_cases h1 : cmpS (bts a.n) (bts b.n) = 0
    · by_cases h2 : cmpS (bts a.v) (bts b.v) = 0
      · simp only [h1, h2, ne_eq, not_true, if_false, cmpL_zero (a := s) (b := t)]
        rw [Lb.ext' (cmpS_zero h1) (cmpS_zero h2)]; simp
      · simp only [h1, h2, ne_eq, not_true, if_false, not_false_eq_true, if_true, false_iff]
        intro h; cases h; rw [cmpS_self] at h2; exact h2 rfl
    · simp only [h1, ne_eq, not_false_eq_true, if_true, false_iff]
      intro h; cases h; rw [cmpS_self] at h1; exact h1 rfl
theorem cmpS_le_trans {x y z : List UInt8} (h1 : cmpS x y = -1) (h2 : cmpS y z = -1) : cmpS x z = -1 := by
  unfold cmpS at *
  have a1 : lss x y = true := by
    by_cases h : lss x y = true
    · exact h
    · rw [if_neg h] at h1; split at h1 <;> cases h1
  have a2 : lss y z = true := by
    by_cases h : lss y z = true
    · exact h
    · rw [if_neg h] at h2; split at h2 <;> cases h2
  rw [if_pos (lss_trans a1 a2)]
theorem cmpL_trans : ∀ {a b c : List Lb}, cmpL a b ≤ 0 → cmpL b c ≤ 0 → cmpL a c ≤ 0
  | [], _, [] => by simp [cmpL]
  | [], _, _ :: _ => by simp [cmpL]
  | _ :: _, [], _ => by simp [cmpL]
  | _ :: _, _ :: _, [] => by simp [cmpL]
  | a :: s, b :: t, c :: u => by
    have S : ∀ x y : List UInt8, cmpS x y = -1 ∨ cmpS x y = 0 ∨ cmpS x y = 1 := cmpS_range
    simp only [cmpL]
    rcases S (bts a.n) (bts b.n) with h1 | h1 | h1
    · rcases S (bts b.n) (bts c.n) with k1 | k1 | k1
      · rw [cmpS_le_trans h1 k1]; simp
      · rw [← cmpS_zero k1, h1]; simp
      · simp [h1, k1]
    · rw [← cmpS_zero h1, cmpS_self]
      rcases S (bts a.n) (bts c.n) with k1 | k1 | k1
      · simp [k1]
      · rw [k1]
        rcases S (bts a.v) (bts b.v) with h2 | h2 | h2
        · rcases S (bts b.v) (bts c.v) with k2 | k2 | k2
          · rw [cmpS_le_trans h2 k2]; simp
          · rw [← cmpS_zero k2, h2]; simp
          · simp [h2, k2]
        · rw [← cmpS_zero h2, cmpS_self]
          rcases S (bts a.v) (bts c.v) with k2 | k2 | k2
          · simp [k2]
          · simp only [k2, ne_eq, not_true, if_false]
            exact cmpL_trans
          · simp [k2]
        · simp [h2]
      · simp [k1]
    · simp [h1]

/-! ### printing -/
def qt1 (c : UInt8) : List UInt8 := if c = 92 then [92, 92] else if c = 34 then [92, 34] else if c = 10 then [92, 110] else [c]
def qtL (l : List UInt8) : List UInt8 := l.flatMap qt1
def Lb.text (x : Lb) : List UInt8 := bts x.n ++ ([61, 34] ++ (qtL (bts x.v) ++ [34]))
def prF : Bool → List Lb → List UInt8
  | _, [] => [125]
  | true, x :: t => 123 :: (x.text ++ prF false t)
  | false, x :: t => 44 :: 32 :: (x.text ++ prF false t)
def printL (l : List Lb) : List UInt8 := if right l then prF true l else []

end Go.Proofs.YtanlgplgplncdaaGreatDoor.L

/-
  Slices of bytes: what a slice reads as (Sl), what a call owns; 'make' with a length and a greater capacity. Nothing of the program.
-/
namespace Go.Proofs.YtanlgplgplncdaaGreatDoor
open Go.RowKit
set_option linter.unusedVariables false

/-- The cells of bytes. -/
def cells8 (l : List Int) : List Value := l.map (Value.int .u8)
theorem cells8_length (l : List Int) : (cells8 l).length = l.length := by simp [cells8]
theorem cells8_append (l m : List Int) : cells8 (l ++ m) = cells8 l ++ cells8 m := by simp [cells8]
theorem cells8_one (l : List Int) : ∀ u ∈ cells8 l, u.oneCell' = true := ints_oneCell .u8 l
def Byte (l : List Int) : Prop := ∀ n ∈ l, 0 ≤ n ∧ n ≤ 255
theorem Byte.append {l m : List Int} (h : Byte l) (k : Byte m) : Byte (l ++ m) := by
  intro n hn
  rcases List.mem_append.1 hn with h1 | h1
  · exact h n h1
  · exact k n h1
theorem Byte.take {l : List Int} (h : Byte l) (k : Nat) : Byte (l.take k) := fun n hn => h n (List.mem_of_mem_take hn)
theorem Byte.drop {l : List Int} (h : Byte l) (k : Nat) : Byte (l.drop k) := fun n hn => h n (List.mem_of_mem_drop hn)
theorem Byte.at {l : List Int} (h : Byte l) (k : Nat) : 0 ≤ l.getD k 0 ∧ l.getD k 0 ≤ 255 := by
  by_cases hk : k < l.length
  · have := h l[k] (List.getElem_mem hk)
    simpa [List.getD, hk] using this
  · simp [List.getD, hk]

/-- What a slice of bytes reads as. -/
structure Sl (w : World) (ad : Option Addr) (k : Nat) (l : List Int) : Prop where
  len : l.length = k
  byte : Byte l
  cell : ∀ j, j < k → ∃ x, ad = some x ∧ w.cell? (x.add j) = some (.int .u8 (l.getD j 0))

theorem Sl.nil (w : World) (ad : Option Addr) : Sl w ad 0 [] := ⟨rfl, fun n hn => absurd hn (by simp), fun j hj => absurd hj (by omega)⟩

/-- Its address, where it has an element. -/
theorem Sl.at {w : World} {ad : Option Addr} {len : Nat} {l : List Int} (h : Sl w ad len l) (hp : 0 < len) :
    ∃ b off, ad = some ⟨b, off, none⟩ ∧ b < w.heap.size ∧ ∀ j, j < len → w.cell? ⟨b, off + j, none⟩ = some (.int .u8 (l.getD j 0)) := by
  obtain ⟨x, hx, hc⟩ := h.cell 0 hp
  obtain ⟨b, off, sp⟩ := x
  have hs : sp = none := by simpa [Addr.add] using World.cell?_spot hc
  subst hs
  refine ⟨b, off, hx, ?_, fun j hj => ?_⟩
  · exact World.block_lt_of_cell? w _ hc
  · obtain ⟨y, hy, hd⟩ := h.cell j hj
    rw [hx] at hy
    obtain rfl := Option.some.inj hy
    simpa [Addr.add_lit] using hd

theorem Sl.cells {w : World} {x : Addr} {len : Nat} {l : List Int} (h : Sl w (some x) len l) : ∀ j u, (cells8 l)[j]? = some u → w.cell? (x.add j) = some u := by
  intro j u hu
  have hj : j < len := by
    have := (List.getElem?_eq_some_iff.1 hu).1
    rw [cells8_length, h.len] at this
    exact this
  obtain ⟨y, hy, hd⟩ := h.cell j hj
  obtain rfl := Option.some.inj hy
  rw [hd]
  have hl : j < l.length := by rw [h.len]; exact hj
  simpa [cells8, List.getD, hl] using hu

/-- What was read is read below. -/
theorem add_block (x : Addr) (j : Nat) : (x.add j).block = x.block := by
  unfold Addr.add
  split <;> rfl
theorem Sl.below {w w' : World} {ad : Option Addr} {len : Nat} {l : List Int} (h : Sl w ad len l) {B : Nat} (hb : Below B w w') (hlt : ∀ x, ad = some x → 0 < len → x.block < B) : Sl w' ad len l := by
  refine ⟨h.len, h.byte, fun j hj => ?_⟩
  obtain ⟨x, hx, hc⟩ := h.cell j hj
  refine ⟨x, hx, ?_⟩
  rw [hb.cell (p := x.add j) (by rw [add_block]; exact hlt x hx (by omega))]
  exact hc
theorem Sl.lt {w : World} {ad : Option Addr} {len : Nat} {l : List Int} (h : Sl w ad len l) : ∀ x, ad = some x → 0 < len → x.block < w.heap.size := by
  intro x hx hp
  obtain ⟨y, hy, hc⟩ := h.cell 0 hp
  rw [hx] at hy
  obtain rfl := Option.some.inj hy
  have := World.block_lt_of_cell? w _ hc
  rwa [add_block] at this
theorem Sl.later {w w' : World} {ad : Option Addr} {len : Nat} {l : List Int} (h : Sl w ad len l) (hb : Below w.heap.size w w') : Sl w' ad len l := h.below hb h.lt

/-- A part of what is read. -/
theorem Sl.cut {w : World} {b off len K N : Nat} {l : List Int} (h : Sl w (some ⟨b, off, none⟩) len l) (hk : K + N ≤ len) {ad : Option Addr} (hd : 0 < N → ad = some ⟨b, off + K, none⟩) : Sl w ad N ((l.drop K).take N) := by
  have hl := h.len
  refine ⟨by simp; omega, (h.byte.drop K).take N, fun j hj => ⟨⟨b, off + K, none⟩, hd (by omega), ?_⟩⟩
  obtain ⟨x, hx, hc⟩ := h.cell (K + j) (by omega)
  obtain rfl := Option.some.inj hx
  rw [Addr.add_lit] at hc ⊢
  rw [Nat.add_assoc, hc]
  congr 2
  simp [List.getD, List.getElem?_drop, hj]

/-- A row that is owned is read. -/
theorem sl_of_owns {w : World} {base : Nat} {ad : Option Addr} {n cap : Nat} {l : List Int} (h : w.ownsRow base 5 1 (.slice ad n cap) n (cells8 l)) (hb : Byte l) : Sl w ad n l := by
  have hlen : l.length = n := by have := h.1; rw [cells8_length] at this; omega
  refine ⟨hlen, hb, fun j hj => ?_⟩
  rcases h.2 with ⟨_, h0⟩ | ⟨g, c, cur, hv, _⟩
  · omega
  · simp only [Value.slice.injEq] at hv
    obtain ⟨rfl, _, rfl⟩ := hv
    refine ⟨_, rfl, ?_⟩
    rw [Addr.add_lit, h.cellAt (0 + j) (by omega)]
    simp [cells8, List.getD, show j < l.length by omega]

/-- A row that is laid is read, whatever its mark. -/
theorem sl_lit (w : World) (l : List Int) (hb : Byte l) (e : TypeId) (fr : Nat × Nat) (n : Nat) (hn : l.length = n) (C : Array Value) (hC : C = (cells8 l).toArray) (g : Nat) (hg : g = w.heap.size) : Sl (w.alloc (.cells C e fr)) (some ⟨g, 0, none⟩) n l := by
  subst hg
  refine ⟨hn, hb, fun j hj => ⟨_, rfl, ?_⟩⟩
  subst hC
  rw [Addr.add_lit, World.cell?_alloc_mark]
  simp [cells8, List.getD, show j < l.length by omega]

/-- 'string(b)'. -/
theorem run_string_of {P : Program} (src e dst : TypeId) (hs : P.underlying src = some (.slice e)) (he : P.underlying e = some (.int .u8)) (hd : P.underlying dst = some .string)
    {w : World} {ad : Option Addr} {len cap : Nat} {l : List Int} (h : Sl w ad len l) : (convert src dst (.slice ad len cap)).run P w = .ok (.string (strOfNums l)) w := by
  cases ad with
  | none =>
    have h0 : len = 0 := by
      rcases Nat.eq_zero_or_pos len with h0 | h0
      · exact h0
      · obtain ⟨x, hx, _⟩ := h.cell 0 h0
        cases hx
    subst h0
    have hl : l = [] := List.eq_nil_of_length_eq_zero h.len
    subst hl
    exact run_convert_bytes_nil w src e hs he 0 cap dst hd
  | some x =>
    have hl : (loadCells x len).run P w = .ok (l.map (Value.int .u8)).toArray w := by
      have := run_loadCells_list (P := P) w x (cells8 l) h.cells
      rw [cells8_length, h.len] at this
      exact this
    rw [run_convert_bytes_string w src dst e _ len cap hs he hd, run_bytesToString w _ len cap l hl, foldl_push_bytes]
    simp [strOfNums, ByteArray.empty, ByteArray.emptyWithCapacity]
    rfl

/-- 'make([]T, l, c)'. -/
theorem wpList_make_room {P : Program} (w : World) {ops : Array Oper} {rest : List Oper} {o : Oper} {a : Act} {Q : Exit → Act → World → Prop}
    (hg : o.guard = none) (l c : Operand) (t : TypeId) (hop : o.op = Op.makeSlice t l c)
    (e : TypeId) (i : TypeInfo) (z : Value) (h1 : P.underlying t = some (.slice e)) (h2 : P.info? e = some i) (h3 : i.zero = some z) (h4 : i.size = 1) (h5 : i.bytes = 1) (h6 : z.cells = #[z])
    (kl kc : IntKind) (L C : Int) (n m : Nat) (hl : a.eval l = .int kl L) (hc : a.eval c = .int kc C) (hL : L = (n : Int)) (hC : C = (m : Int)) (hnm : n ≤ m) (b2 : m ≤ 281474976710656)
    (hK : ∀ w', w'.heap[w.heap.size]? = some (.cells (List.replicate m z).toArray e (0, 0)) → w'.heap.size = w.heap.size + 1 → Below w.heap.size w w' → wpList P ops Q rest (a.put o.dst (.slice (some ⟨w.heap.size, 0, none⟩) n m)) w') :
    wpList P ops Q (o :: rest) a w := by
  refine wpList_plain hg fun K hK' => ?_
  subst hL; subst hC
  have hr := run_make (P := P) w t e i z h1 h2 h3 kl kc n m (by omega) (by omega) (by rw [h5]; omega) (by omega)
  rw [h4, h6] at hr
  simp only [Int.toNat_natCast, Nat.mul_one] at hr
  unfold Oper.wp
  simp [execOp, hop, hl, hc, hr, Result.andThen]
  refine hK' _ _ (hK _ ?_ (by simp) ((Below.refl _ _).alloc (Nat.le_refl _) _))
  rw [heap_alloc_new w]
  have := toList_madeCells_one z m
  rw [← this]

end Go.Proofs.YtanlgplgplncdaaGreatDoor

/-
  More on slices of bytes that a call owns: an append of whatever is read. Nothing of the program.
-/
namespace Go.Proofs.YtanlgplgplncdaaGreatDoor
open Go.RowKit
set_option linter.unusedVariables false

theorem owns_cap {w : World} {base : Nat} {e : TypeId} {ad : Option Addr} {n cap m : Nat} {xs : List Value} (h : w.ownsRow base e 1 (.slice ad n cap) m xs) : n = m ∧ m ≤ cap ∧ cap ≤ maxLen ∧ (ad = none → m = 0 ∧ cap = 0) := by
  rcases h.2 with ⟨h1, h2⟩ | ⟨g, c, cur, h1, _, _, h3, h4, _⟩
  · simp only [Value.slice.injEq] at h1
    obtain ⟨rfl, rfl, rfl⟩ := h1
    exact ⟨h2.symm, by omega, by unfold maxLen; omega, fun _ => ⟨h2, rfl⟩⟩
  · simp only [Value.slice.injEq] at h1
    obtain ⟨rfl, rfl, rfl⟩ := h1
    exact ⟨rfl, h3, h4, fun h => by cases h⟩

/-- What is owned, written out. -/
theorem owns_form {w : World} {base : Nat} {e : TypeId} {v : Value} {n : Nat} {xs : List Value} (h : w.ownsRow base e 1 v n xs) : ∃ ad c, v = .slice ad n c := by
  rcases h.2 with ⟨h1, h2⟩ | ⟨g, c, cur, h1, _⟩
  · subst h2; exact ⟨_, _, h1⟩
  · exact ⟨_, _, h1⟩

/-- 'append(v, s...)', v the call's own, s whatever is read. -/
theorem wpList_append_sl {P : Program} (w : World) {ops : Array Oper} {rest : List Oper} {o : Oper} {a : Act} {Q : Exit → Act → World → Prop} (hgd : o.guard = none) (s x : Operand) (t : TypeId)
    (ho : o.op = .call { callee := .builtin .append, args := #[s, x], argTypes := #[t, t] })
    (base : Nat) (e : TypeId) (i : TypeInfo) (z : Value) (ht : P.underlying t = some (.slice e)) (hi : P.info? e = some i) (hz : i.zero = some z)
    (hsize : i.size = 1) (hby : i.bytes = 1) (hzs : z.cells.size = 1)
    (v : Value) (n : Nat) (xs : List Int) (hs : a.eval s = v) (hown : w.ownsRow base e 1 v n (cells8 xs))
    (ad : Option Addr) (m c : Nat) (l : List Int) (hx : a.eval x = .slice ad m c) (hsl : Sl w ad m l) (hnone : ad = none → m = 0 ∧ c = 0)
    (hbytes : n + m ≤ 140737488355328) (hbase : base ≤ w.heap.size)
    (h : ∀ ad' c' w', w'.ownsRow base e 1 (.slice ad' (n + m) c') (n + m) (cells8 (xs ++ l)) → w.grownBy w' v.ownBlock → wpList P ops Q rest (a.put o.dst (.slice ad' (n + m) c')) w') : wpList P ops Q (o :: rest) a w := by
  cases ad with
  | none =>
    obtain ⟨rfl, rfl⟩ := hnone rfl
    have hl : l = [] := List.eq_nil_of_length_eq_zero hsl.len
    subst hl
    refine wpList_append_own_none hgd s x t ho base e i 1 ht hi v n _ hs hown hx ?_
    obtain ⟨ad', c', rfl⟩ := owns_form hown
    exact h ad' c' w (by simpa using hown) (World.grownBy.refl _ _)
  | some x' =>
    refine wpList_append_own w hgd s x t ho base e i z 1 1 ht hi hz hsize hby hzs (by omega) v n _ hs hown x' m c (cells8 l) hx (by rw [cells8_length, hsl.len]; omega) hsl.cells (cells8_one l) (by unfold maxLen; omega) (by omega) hbase ?_
    intro v' w' h1 h2 _
    obtain ⟨ad', c', rfl⟩ := owns_form h1
    rw [← cells8_append] at h1
    exact h ad' c' w' h1 h2

theorem grown_below {base : Nat} {w w' : World} {v : Value} {e : TypeId} {size n : Nat} {xs : List Value} (hg : w.grownBy w' v.ownBlock) (hown : w.ownsRow base e size v n xs) (hb : base ≤ w.heap.size) : Below base w w' :=
  (Below.refl _ _).grown hg hb (fun k hk => (hown.lt k hk).1)

theorem Sl.take {w : World} {ad : Option Addr} {len N : Nat} {l : List Int} (h : Sl w ad len l) (hk : N ≤ len) : Sl w ad N (l.take N) := by
  have hl := h.len
  refine ⟨by simp; omega, h.byte.take N, fun j hj => ?_⟩
  obtain ⟨x, hx, hc⟩ := h.cell j (by omega)
  refine ⟨x, hx, ?_⟩
  rw [hc]
  congr 2
  simp [List.getD, hj]

end Go.Proofs.YtanlgplgplncdaaGreatDoor
