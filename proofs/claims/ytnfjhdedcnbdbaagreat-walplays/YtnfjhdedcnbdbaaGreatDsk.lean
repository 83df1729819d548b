/-
  A disk: what it is, and where its memory lies; the program's and the document's are alike but for their types' numbers.
-/
import Derived.Test.YtnfjhdedcnbdbaaGreatApp
namespace Go.Proofs.YtnfjhdedcnbdbaaGreat
open Go.RowKit
set_option linter.unusedVariables false
set_option linter.unusedSimpArgs false

def cellsI (l : List Int) : List Value := l.map (Value.int .i64)
theorem cellsI_length (l : List Int) : (cellsI l).length = l.length := by simp [cellsI]
theorem cellsI_append (l m : List Int) : cellsI (l ++ m) = cellsI l ++ cellsI m := by simp [cellsI]
theorem cellsI_one (l : List Int) : ∀ u ∈ cellsI l, u.oneCell' = true := ints_oneCell .i64 l
def In64 (l : List Int) : Prop := ∀ n ∈ l, -9223372036854775808 ≤ n ∧ n ≤ 9223372036854775807
theorem In64.at {l : List Int} (h : In64 l) (i : Nat) : -9223372036854775808 ≤ l.getD i 0 ∧ l.getD i 0 ≤ 9223372036854775807 := by
  by_cases hi : i < l.length
  · have := h l[i] (List.getElem_mem hi)
    simpa [List.getD, hi] using this
  · simp [List.getD, hi]
theorem In64.take {l : List Int} (h : In64 l) (n : Nat) : In64 (l.take n) := fun x hx => h x (List.mem_of_mem_take hx)
/-- Numbers that are read. -/
structure Sn (w : World) (ad : Option Addr) (k : Nat) (l : List Int) : Prop where
  len : l.length = k
  int : In64 l
  cell : ∀ j, j < k → ∃ x, ad = some x ∧ w.cell? (x.add j) = some (.int .i64 (l.getD j 0))
theorem Sn.cells {w : World} {x : Addr} {k : Nat} {l : List Int} (h : Sn w (some x) k l) : ∀ j v, (cellsI l)[j]? = some v → w.cell? (x.add j) = some v := by
  intro j v hv
  have hj : j < k := by
    have := (List.getElem?_eq_some_iff.1 hv).1
    rw [cellsI_length, h.len] at this
    exact this
  obtain ⟨y, hy, hc⟩ := h.cell j hj
  obtain rfl := Option.some.inj hy
  rw [hc]
  have hl := h.len
  simp [cellsI, show j < l.length by omega] at hv
  simp [List.getD, show j < l.length by omega, hv]
theorem Sn.lt {w : World} {ad : Option Addr} {len : Nat} {l : List Int} (h : Sn w ad len l) : ∀ x, ad = some x → 0 < len → x.block < w.heap.size := by
  intro x hx hp
  obtain ⟨y, hy, hc⟩ := h.cell 0 hp
  rw [hx] at hy
  obtain rfl := Option.some.inj hy
  have := World.block_lt_of_cell? w _ hc
  rwa [add_block] at this
theorem Sn.take {w : World} {ad : Option Addr} {len N : Nat} {l : List Int} (h : Sn w ad len l) (hk : N ≤ len) : Sn w ad N (l.take N) := by
  have hl := h.len
  refine ⟨by simp; omega, h.int.take N, fun j hj => ?_⟩
  obtain ⟨x, hx, hc⟩ := h.cell j (by omega)
  refine ⟨x, hx, ?_⟩
  rw [hc]
  congr 2
  simp [List.getD, hj]
theorem Chg.sn {F : Nat → Prop} {a b : World} {ad : Option Addr} {n : Nat} {l : List Int} (h : Chg F a b) (hS : Sn a ad n l) (hF : ∀ x, ad = some x → 0 < n → ¬ F x.block) : Sn b ad n l := by
  refine ⟨hS.len, hS.int, fun j hj => ?_⟩
  obtain ⟨x, hx, hc⟩ := hS.cell j hj
  refine ⟨x, hx, ?_⟩
  have hlt := hS.lt x hx (by omega)
  rw [← hc]
  exact World.cell?_of_block (by rw [add_block]; exact h.block _ hlt (hF x hx (by omega)))
theorem sn_of_owns {w : World} {base : Nat} {ad : Option Addr} {n cap : Nat} {l : List Int} (h : w.ownsRow base 3 1 (.slice ad n cap) n (cellsI l)) (hb : In64 l) : Sn w ad n l := by
  have hlen : l.length = n := by have := h.1; rw [cellsI_length] at this; omega
  refine ⟨hlen, hb, fun j hj => ?_⟩
  rcases h.2 with ⟨_, h0⟩ | ⟨g, c, cur, hv, _⟩
  · omega
  · simp only [Value.slice.injEq] at hv
    obtain ⟨rfl, _, rfl⟩ := hv
    refine ⟨_, rfl, ?_⟩
    have := h.cells rfl j (.int .i64 (l.getD j 0)) (by simp [cellsI, List.getD, show j < l.length by omega])
    exact this

/-- A store in a row that is owned. -/
theorem owns_setv {w : World} {base : Nat} {e : TypeId} {size g n cap : Nat} {xs : List Value} (hO : w.ownsRow base e size (.slice (some ⟨g, 0, none⟩) n cap) n xs) (q : Nat) (x : Value) (hq : q < xs.length) :
    (w.setCell ⟨g, q, none⟩ x).ownsRow base e size (.slice (some ⟨g, 0, none⟩) n cap) n (xs.set q x) := by
  have hl := hO.1
  rcases hO.2 with ⟨h0, _⟩ | ⟨g', cap', cur, hv, hb, hh, hn, hc, hs, ht⟩
  · cases h0
  · simp only [Value.slice.injEq, Option.some.injEq, Addr.mk.injEq] at hv
    obtain ⟨⟨rfl, _⟩, _, rfl⟩ := hv
    refine ⟨by rw [List.length_set]; exact hl, .inr ⟨g, cap, cur.setIfInBounds q x, rfl, hb, ?_, hn, hc, by simpa using hs, ?_⟩⟩
    · simp [World.setCell, Array.getElem?_modify, hh]
    · rw [Array.toList_setIfInBounds, List.take_set, ht]
/-- A row that is cut is still owned. -/
theorem owns_cut {w : World} {base : Nat} {e : TypeId} {ad : Option Addr} {n cap m : Nat} {xs : List Value} (hO : w.ownsRow base e 1 (.slice ad n cap) n xs) (hm : m ≤ n) : w.ownsRow base e 1 (.slice ad m cap) m (xs.take m) := by
  have hl := hO.1
  refine ⟨by rw [List.length_take]; omega, ?_⟩
  rcases hO.2 with ⟨h0, h1⟩ | ⟨g', cap', cur, hv, hb, hh, hn, hc, hs, ht⟩
  · simp only [Value.slice.injEq] at h0
    obtain ⟨rfl, rfl, rfl⟩ := h0
    have : m = 0 := by omega
    subst this
    exact .inl ⟨rfl, rfl⟩
  · simp only [Value.slice.injEq] at hv
    obtain ⟨rfl, _, rfl⟩ := hv
    refine .inr ⟨g', cap, cur, rfl, hb, hh, by omega, hc, hs, ?_⟩
    rw [← ht, List.take_take]
    congr 1
    omega
theorem owns_cell {w : World} {base : Nat} {e : TypeId} {size g n cap : Nat} {xs : List Value} (hO : w.ownsRow base e size (.slice (some ⟨g, 0, none⟩) n cap) n xs) (q : Nat) (x : Value) (hq : xs[q]? = some x) : w.cell? ⟨g, q, none⟩ = some x := by
  have := hO.cells rfl q x hq
  rwa [Addr.add_lit, Nat.zero_add] at this
theorem owns_frozen {w : World} {base : Nat} {e : TypeId} {size g n cap : Nat} {xs : List Value} (hO : w.ownsRow base e size (.slice (some ⟨g, 0, none⟩) n cap) n xs) (q : Nat) : w.frozen? ⟨g, q, none⟩ = false := by
  rcases hO.2 with ⟨h0, _⟩ | ⟨g', cap', cur, hv, hb, hh, hn, hc, hs, ht⟩
  · cases h0
  · simp only [Value.slice.injEq, Option.some.injEq, Addr.mk.injEq] at hv
    obtain ⟨⟨rfl, _⟩, _, rfl⟩ := hv
    exact frozen_of_row w g q _ e hh

structure Fl where
  b : List Int
  n : Nat
structure St where
  L : List Fl
  on : Bool
  falls : Nat
  fuse : Option (Nat × List Int)

def fcells : List (Value × Fl) → List Value
  | [] => []
  | r :: l => r.1 :: .int .i64 (r.2.n : Int) :: fcells l
theorem fcells_length : ∀ rs : List (Value × Fl), (fcells rs).length = rs.length * 2
  | [] => rfl
  | r :: l => by simp [fcells, fcells_length l]; omega
theorem fcells_row : ∀ (rs : List (Value × Fl)) (i : Nat) (r : Value × Fl), rs[i]? = some r → (fcells rs)[i * 2]? = some r.1
  | [], i, r, h => by simp at h
  | s :: l, 0, r, h => by simp at h; subst h; simp [fcells]
  | s :: l, i + 1, r, h => by
    have := fcells_row l i r (by simpa using h)
    rw [show (i + 1) * 2 = i * 2 + 2 by omega]
    simpa [fcells] using this
theorem fcells_n : ∀ (rs : List (Value × Fl)) (i : Nat) (r : Value × Fl), rs[i]? = some r → (fcells rs)[i * 2 + 1]? = some (.int .i64 (r.2.n : Int))
  | [], i, r, h => by simp at h
  | s :: l, 0, r, h => by simp at h; subst h; simp [fcells]
  | s :: l, i + 1, r, h => by
    have := fcells_n l i r (by simpa using h)
    rw [show (i + 1) * 2 + 1 = i * 2 + 1 + 2 by omega]
    simpa [fcells] using this
theorem fcells_set : ∀ (rs : List (Value × Fl)) (i : Nat) (v : Value) (f : Fl), fcells (rs.set i (v, f)) = ((fcells rs).set (i * 2) v).set (i * 2 + 1) (.int .i64 (f.n : Int))
  | [], i, v, f => by simp [fcells]
  | s :: l, 0, v, f => by simp [fcells]
  | s :: l, i + 1, v, f => by
    have := fcells_set l i v f
    rw [show (i + 1) * 2 + 1 = i * 2 + 1 + 1 + 1 by omega, show (i + 1) * 2 = i * 2 + 1 + 1 by omega]
    simp [fcells, this]
/-- The row alone is changed. -/
theorem fcells_set_row (rs : List (Value × Fl)) (i : Nat) (r : Value × Fl) (h : rs[i]? = some r) (v : Value) (b : List Int) : fcells (rs.set i (v, ⟨b, r.2.n⟩)) = (fcells rs).set (i * 2) v := by
  rw [fcells_set]
  apply List.ext_getElem?
  intro k
  rw [List.getElem?_set]
  split
  · rename_i hk
    subst hk
    have h1 := fcells_n rs i r h
    split
    · rw [List.getElem?_set, if_neg (by omega), h1]
    · rename_i h2
      rw [List.length_set, fcells_length] at h2
      have := (List.getElem?_eq_some_iff.1 h).1
      omega
  · rfl
/-- What lasts alone is changed. -/
theorem fcells_set_n (rs : List (Value × Fl)) (i : Nat) (r : Value × Fl) (h : rs[i]? = some r) (b : List Int) (n : Nat) : fcells (rs.set i (r.1, ⟨b, n⟩)) = (fcells rs).set (i * 2 + 1) (.int .i64 (n : Int)) := by
  rw [fcells_set]
  congr 1
  apply List.ext_getElem?
  intro k
  rw [List.getElem?_set]
  split
  · rename_i hk
    subst hk
    have h1 := fcells_row rs i r h
    rw [h1]
    split
    · rfl
    · rename_i h2
      rw [fcells_length] at h2
      have := (List.getElem?_eq_some_iff.1 h).1
      omega
  · rfl

/-- A file's row. -/
structure FR (w : World) (r : Value × Fl) : Prop where
  row : w.ownsRow 0 5 1 r.1 r.2.b.length (cells8 r.2.b)
  byte : Byte r.2.b
  le : r.2.n ≤ r.2.b.length
  top : r.2.b.length ≤ 16777216
theorem FR.chg {F : Nat → Prop} {w w' : World} {r : Value × Fl} (h : FR w r) (hc : Chg F w w') (hF : ∀ g, r.1.ownBlock = some g → ¬ F g) : FR w' r := ⟨hc.owns h.row hF, h.byte, h.le, h.top⟩

def fuseOf (set : Bool) (ops : Nat) (kl : List Int) (n : Nat) : Option (Nat × List Int) := match set with | true => some (ops, kl.take n) | false => none

/-- A disk in memory. -/
structure DR (dt ft : TypeId) (w : World) (p fb fc : Nat) (rs : List (Value × Fl)) (on : Bool) (falls : Nat) (set : Bool) (ops : Nat) (kv : Value) (kl : List Int) : Prop where
  blk : Blk w p dt [.slice (some ⟨fb, 0, none⟩) rs.length fc, .bool on, .int .i64 (falls : Int), .bool set, .int .i64 (ops : Int), kv]
  files : w.ownsRow 0 ft 2 (.slice (some ⟨fb, 0, none⟩) rs.length fc) rs.length (fcells rs)
  row : ∀ (i : Nat) (r : Value × Fl), rs[i]? = some r → FR w r
  apart : ∀ (i j : Nat) (r s : Value × Fl) (g : Nat), rs[i]? = some r → rs[j]? = some s → r.1.ownBlock = some g → s.1.ownBlock = some g → i = j
  keep : w.ownsRow 0 3 1 kv kl.length (cellsI kl)
  kint : In64 kl
  opsb : ops ≤ 9223372036854775807
  n8 : rs.length ≤ 8
  n1 : 0 < rs.length
  klen : kl.length ≤ 1099511627776
/-- Where it lies. -/
def FPd (p fb : Nat) (rs : List (Value × Fl)) (kv : Value) : Nat → Prop := fun i => i = p ∨ i = fb ∨ (∃ (k : Nat) (r : Value × Fl), rs[k]? = some r ∧ r.1.ownBlock = some i) ∨ kv.ownBlock = some i
/-- The types' numbers are unlike. -/
def Ty4 (dt ft : TypeId) : Prop := dt ≠ ft ∧ dt ≠ 5 ∧ dt ≠ 3 ∧ ft ≠ 5 ∧ ft ≠ 3
theorem ty80 : Ty4 64 79 := by unfold Ty4; decide
theorem ty75 : Ty4 82 97 := by unfold Ty4; decide

section
variable {dt ft : TypeId} {w w' : World} {p fb fc : Nat} {rs : List (Value × Fl)} {on : Bool} {falls : Nat} {set : Bool} {ops : Nat} {kv : Value} {kl : List Int}

theorem DR.tgp (h : DR dt ft w p fb fc rs on falls set ops kv kl) : Tg w p dt := h.blk.tg
theorem DR.tgf (h : DR dt ft w p fb fc rs on falls set ops kv kl) : Tg w fb ft := owns_tg h.files fb rfl
theorem DR.tgr (h : DR dt ft w p fb fc rs on falls set ops kv kl) (i : Nat) (r : Value × Fl) (hr : rs[i]? = some r) (g : Nat) (hg : r.1.ownBlock = some g) : Tg w g 5 := owns_tg (h.row i r hr).row g hg
theorem DR.tgk (h : DR dt ft w p fb fc rs on falls set ops kv kl) (g : Nat) (hg : kv.ownBlock = some g) : Tg w g 3 := owns_tg h.keep g hg
theorem DR.lt (h : DR dt ft w p fb fc rs on falls set ops kv kl) : ∀ i, FPd p fb rs kv i → i < w.heap.size := by
  rintro i (rfl | rfl | ⟨k, r, hr, hi⟩ | hi)
  · exact h.blk.lt
  · exact (h.files.lt i rfl).2
  · exact ((h.row k r hr).row.lt i hi).2
  · exact (h.keep.lt i hi).2
theorem DR.chg {F : Nat → Prop} (h : DR dt ft w p fb fc rs on falls set ops kv kl) (hc : Chg F w w') (hF : ∀ i, FPd p fb rs kv i → ¬ F i) : DR dt ft w' p fb fc rs on falls set ops kv kl :=
  ⟨hc.blk h.blk (hF p (.inl rfl)), hc.owns h.files (fun g hg => by have e : fb = g := Option.some.inj hg; subst e; exact hF _ (.inr (.inl rfl))), fun i r hr => (h.row i r hr).chg hc (fun g hg => hF g (.inr (.inr (.inl ⟨i, r, hr, hg⟩)))), h.apart, hc.owns h.keep (fun g hg => hF g (.inr (.inr (.inr hg)))), h.kint, h.opsb, h.n8, h.n1, h.klen⟩

/-- The disk's own cells have changed. -/
theorem DR.swap (ht : Ty4 dt ft) (h : DR dt ft w p fb fc rs on falls set ops kv kl) (hc : Chg (fun i => i = p) w w') {on' : Bool} {falls' : Nat} {set' : Bool} {ops' : Nat} {kv' : Value} {kl' : List Int}
    (hB : Blk w' p dt [.slice (some ⟨fb, 0, none⟩) rs.length fc, .bool on', .int .i64 (falls' : Int), .bool set', .int .i64 (ops' : Int), kv']) (hk : w.ownsRow 0 3 1 kv' kl'.length (cellsI kl')) (hi : In64 kl') (ho : ops' ≤ 9223372036854775807) (hkl : kl'.length ≤ 1099511627776) : DR dt ft w' p fb fc rs on' falls' set' ops' kv' kl' := by
  obtain ⟨t1, t2, t3, t4, t5⟩ := ht
  have hp := h.tgp
  refine ⟨hB, hc.owns h.files (fun g hg e => ?_), fun i r hr => (h.row i r hr).chg hc (fun g hg e => ?_), h.apart, hc.owns hk (fun g hg e => ?_), hi, ho, h.n8, h.n1, hkl⟩
  · have e2 : fb = g := Option.some.inj hg
    subst e2
    subst e
    exact t1 (hp.one h.tgf)
  · subst e
    exact t2 (hp.one (h.tgr i r hr _ hg))
  · subst e
    exact t3 (hp.one (owns_tg hk _ hg))
/-- A file has changed. -/
theorem DR.file (ht : Ty4 dt ft) (h : DR dt ft w p fb fc rs on falls set ops kv kl) (i : Nat) (r r' : Value × Fl) (hr : rs[i]? = some r) (hc : Chg (fun k => k = fb ∨ r.1.ownBlock = some k) w w')
    (hf : w'.ownsRow 0 ft 2 (.slice (some ⟨fb, 0, none⟩) rs.length fc) rs.length (fcells (rs.set i r'))) (hR : FR w' r') (hm : Moved w r.1.ownBlock r'.1.ownBlock) : DR dt ft w' p fb fc (rs.set i r') on falls set ops kv kl := by
  obtain ⟨t1, t2, t3, t4, t5⟩ := ht
  have hF := h.tgf
  have hil := (List.getElem?_eq_some_iff.1 hr).1
  refine ⟨?_, by rw [List.length_set]; exact hf, fun j s hs => ?_, fun j k s t g hs htt hg1 hg2 => ?_, hc.owns h.keep (fun g hg e => ?_), h.kint, h.opsb, by rw [List.length_set]; exact h.n8, by rw [List.length_set]; exact h.n1, h.klen⟩
  · rw [List.length_set]
    refine hc.blk h.blk ?_
    rintro (rfl | e)
    · exact t1 (h.tgp.one hF)
    · exact t2 (h.tgp.one (h.tgr i r hr _ e))
  · rw [List.getElem?_set] at hs
    by_cases hij : i = j
    · subst hij
      rw [if_pos rfl, if_pos hil] at hs
      obtain rfl := Option.some.inj hs
      exact hR
    · rw [if_neg hij] at hs
      refine (h.row j s hs).chg hc (fun g hg => ?_)
      rintro (rfl | e)
      · exact t4 (hF.one (h.tgr j s hs _ hg))
      · exact hij (h.apart i j r s g hr hs e hg)
  · have key : ∀ (k : Nat) (t : Value × Fl), i ≠ k → rs[k]? = some t → r'.1.ownBlock = some g → t.1.ownBlock = some g → False := by
      intro k t hk htt hg1 hg2
      rcases hm with e | ⟨g', e, hg'⟩
      · exact hk (h.apart i k r t g hr htt (by rw [← e]; exact hg1) hg2)
      · rw [hg1] at e
        obtain rfl := Option.some.inj e
        have := h.lt g (.inr (.inr (.inl ⟨k, t, htt, hg2⟩)))
        omega
    rw [List.getElem?_set] at hs htt
    by_cases hij : i = j
    · subst hij
      rw [if_pos rfl, if_pos hil] at hs
      obtain rfl := Option.some.inj hs
      by_cases hik : i = k
      · exact hik
      · rw [if_neg hik] at htt
        exact (key k t hik htt hg1 hg2).elim
    · rw [if_neg hij] at hs
      by_cases hik : i = k
      · subst hik
        rw [if_pos rfl, if_pos hil] at htt
        obtain rfl := Option.some.inj htt
        exact (key j s hij hs hg2 hg1).elim
      · rw [if_neg hik] at htt
        exact h.apart j k s t g hs htt hg1 hg2
  · rcases e with rfl | e
    · exact t5 (hF.one (h.tgk _ hg))
    · exact absurd ((h.tgr i r hr _ e).one (h.tgk _ hg)) (by decide)
end

/-- Memory moves: old blocks or new ones. -/
def New (w : World) (F F' : Nat → Prop) : Prop := ∀ i, F' i → F i ∨ w.heap.size ≤ i
theorem New.refl (w : World) (F : Nat → Prop) : New w F F := fun _ h => .inl h
theorem New.trans {a b : World} {F G H : Nat → Prop} (h : New a F G) (k : New b G H) (hs : a.heap.size ≤ b.heap.size) : New a F H := by
  intro i hi
  rcases k i hi with g | g
  · exact h i g
  · exact .inr (by omega)
theorem Chg.new {a b c : World} {F G : Nat → Prop} (h : Chg F a b) (k : Chg G b c) (hn : New a F G) : Chg F a c := h.trans k (fun i hi g => by
  rcases hn i g with f | f
  · exact f
  · omega)
theorem FPd_file {w : World} {p fb : Nat} {rs : List (Value × Fl)} {kv : Value} {i : Nat} {r r' : Value × Fl} (hr : rs[i]? = some r) (hm : Moved w r.1.ownBlock r'.1.ownBlock) : New w (FPd p fb rs kv) (FPd p fb (rs.set i r') kv) := by
  rintro g (rfl | rfl | ⟨k, s, hs, hg⟩ | hg)
  · exact .inl (.inl rfl)
  · exact .inl (.inr (.inl rfl))
  · rw [List.getElem?_set] at hs
    by_cases hk : i = k
    · subst hk
      rw [if_pos rfl, if_pos (List.getElem?_eq_some_iff.1 hr).1] at hs
      obtain rfl := Option.some.inj hs
      rcases hm with e | ⟨g', e, hg'⟩
      · exact .inl (.inr (.inr (.inl ⟨i, r, hr, by rw [← e]; exact hg⟩)))
      · rw [hg] at e
        obtain rfl := Option.some.inj e
        exact .inr hg'
    · rw [if_neg hk] at hs
      exact .inl (.inr (.inr (.inl ⟨k, s, hs, hg⟩)))
  · exact .inl (.inr (.inr (.inr hg)))
theorem FPd_nokeep {w : World} {p fb : Nat} {rs : List (Value × Fl)} {kv kv' : Value} (hm : ∀ g, kv'.ownBlock = some g → kv.ownBlock = some g ∨ w.heap.size ≤ g) : New w (FPd p fb rs kv) (FPd p fb rs kv') := by
  rintro g (h | h | h | h)
  · exact .inl (.inl h)
  · exact .inl (.inr (.inl h))
  · exact .inl (.inr (.inr (.inl h)))
  · rcases hm g h with k | k
    · exact .inl (.inr (.inr (.inr k)))
    · exact .inr k

/-- A disk, as it is told. -/
def Dk (dt ft : TypeId) (w : World) (p : Nat) (F : Nat → Prop) (S : St) : Prop :=
  ∃ fb fc rs set ops kv kl, DR dt ft w p fb fc rs S.on S.falls set ops kv kl ∧ S.L = rs.map (·.2) ∧ S.fuse = fuseOf set ops kl rs.length ∧ F = FPd p fb rs kv
theorem Dk.lt {dt ft : TypeId} {w : World} {p : Nat} {F : Nat → Prop} {S : St} (h : Dk dt ft w p F S) : ∀ i, F i → i < w.heap.size := by
  obtain ⟨fb, fc, rs, set, ops, kv, kl, h, _, _, rfl⟩ := h
  exact h.lt
theorem Dk.self {dt ft : TypeId} {w : World} {p : Nat} {F : Nat → Prop} {S : St} (h : Dk dt ft w p F S) : F p := by
  obtain ⟨fb, fc, rs, set, ops, kv, kl, h, _, _, rfl⟩ := h
  exact .inl rfl
theorem Dk.chg {dt ft : TypeId} {w w' : World} {p : Nat} {F G : Nat → Prop} {S : St} (h : Dk dt ft w p F S) (hc : Chg G w w') (hF : ∀ i, F i → ¬ G i) : Dk dt ft w' p F S := by
  obtain ⟨fb, fc, rs, set, ops, kv, kl, h, h1, h2, rfl⟩ := h
  exact ⟨fb, fc, rs, set, ops, kv, kl, h.chg hc hF, h1, h2, rfl⟩
theorem Dk.tg {dt ft : TypeId} {w : World} {p : Nat} {F : Nat → Prop} {S : St} (h : Dk dt ft w p F S) : ∀ i, F i → Tg w i dt ∨ Tg w i ft ∨ Tg w i 5 ∨ Tg w i 3 := by
  obtain ⟨fb, fc, rs, set, ops, kv, kl, h, h1, h2, rfl⟩ := h
  rintro i (rfl | rfl | ⟨k, r, hr, hg⟩ | hg)
  · exact .inl h.tgp
  · exact .inr (.inl h.tgf)
  · exact .inr (.inr (.inl (h.tgr k r hr _ hg)))
  · exact .inr (.inr (.inr (h.tgk _ hg)))
/-- What a call does to a disk. -/
def Dks (dt ft : TypeId) (w w' : World) (p : Nat) (F : Nat → Prop) (S' : St) : Prop := ∃ F', Dk dt ft w' p F' S' ∧ Chg F w w' ∧ New w F F'
theorem Dks.trans {dt ft : TypeId} {a b c : World} {p : Nat} {F G : Nat → Prop} {S : St} (h : Chg F a b) (hn : New a F G) (k : Dks dt ft b c p G S) : Dks dt ft a c p F S := by
  obtain ⟨F', h1, h2, h3⟩ := k
  exact ⟨F', h1, h.new h2 hn, hn.trans h3 h.size⟩

/-- What is meant. -/
def Fl.lose (f : Fl) (k : Int) : Fl := ⟨f.b.take (f.n + min k.toNat (f.b.length - f.n)), f.n + min k.toNat (f.b.length - f.n)⟩
def loseAll : List Fl → List Int → List Fl
  | [], _ => []
  | f :: L, K => f.lose (K.getD 0 0) :: loseAll L (K.drop 1)
def St.fail (S : St) (K : List Int) : St := ⟨loseAll S.L K, false, S.falls + 1, none⟩
def St.op (S : St) : Int × St := match S.fuse with
  | none => (0, S)
  | some (0, K) => (40, S.fail K)
  | some (n + 1, K) => (0, { S with fuse := some (n, K) })
def St.refuse (S : St) (f : Int) : Int := if S.on = false then 40 else if 0 ≤ f ∧ f < S.L.length then 0 else 1
def St.append (S : St) (f : Int) (b : List Int) : Int × St :=
  if S.refuse f ≠ 0 then (S.refuse f, S) else match S.L[f.toNat]? with
  | none => (0, S)
  | some x => if 16777216 < x.b.length + b.length then (41, S) else ({ S with L := S.L.set f.toNat ⟨x.b ++ b, x.n⟩ } : St).op
def St.sync (S : St) (f : Int) : Int × St :=
  if S.refuse f ≠ 0 then (S.refuse f, S) else if S.op.1 ≠ 0 then S.op else match S.op.2.L[f.toNat]? with
  | none => (0, S)
  | some x => (0, { S.op.2 with L := S.op.2.L.set f.toNat ⟨x.b, x.b.length⟩ })
def St.truncate (S : St) (f : Int) (n : Int) : Int × St :=
  if S.refuse f ≠ 0 then (S.refuse f, S) else match S.L[f.toNat]? with
  | none => (0, S)
  | some x => if n < 0 ∨ (x.b.length : Int) < n then (1, S) else if S.op.1 ≠ 0 then S.op else (0, { S.op.2 with L := S.op.2.L.set f.toNat ⟨x.b.take n.toNat, min x.n n.toNat⟩ })
def St.read (S : St) (f at_ n : Int) : Int × List Int :=
  if S.refuse f ≠ 0 then (S.refuse f, []) else match S.L[f.toNat]? with
  | none => (0, [])
  | some x => if at_ < 0 ∨ n < 0 ∨ (x.b.length : Int) < at_ + n then (1, []) else (0, (x.b.drop at_.toNat).take n.toNat)
def St.size (S : St) (f : Int) : Int := if 0 ≤ f ∧ f < S.L.length then match S.L[f.toNat]? with | none => 0 | some x => (x.b.length : Int) else -1
def St.lasts (S : St) (f : Int) : Int := if 0 ≤ f ∧ f < S.L.length then match S.L[f.toNat]? with | none => 0 | some x => (x.n : Int) else -1
def St.setFuse (S : St) (ops : Int) (K : List Int) : Int × St := if S.on = false then (40, S) else if ops < 0 then (1, S) else (0, { S with fuse := some (ops.toNat, K.take S.L.length) })
def St.crash (S : St) (K : List Int) : St := if S.on = true then S.fail K else S
def St.restart (S : St) : St := { S with on := true, fuse := none }
def St.fresh (n : Nat) : St := ⟨List.replicate n ⟨[], 0⟩, true, 0, none⟩

theorem loseAll_length : ∀ (L : List Fl) (K : List Int), (loseAll L K).length = L.length
  | [], _ => rfl
  | f :: L, K => by simp [loseAll, loseAll_length L]
theorem loseAll_at : ∀ (L : List Fl) (K : List Int) (i : Nat), (loseAll L K)[i]? = L[i]?.map (fun f => f.lose (K.getD i 0))
  | [], K, i => by simp [loseAll]
  | f :: L, K, 0 => by simp [loseAll]
  | f :: L, K, i + 1 => by
    have := loseAll_at L (K.drop 1) i
    simp only [loseAll, List.getElem?_cons_succ, this]
    congr 1
    funext f
    congr 1
    simp [List.getD, List.getElem?_drop, Nat.add_comm]
theorem loseAll_take (L : List Fl) (K : List Int) (n : Nat) (h : L.length ≤ n) : loseAll L (K.take n) = loseAll L K := by
  apply List.ext_getElem?
  intro i
  rw [loseAll_at, loseAll_at]
  by_cases hi : i < L.length
  · have : (K.take n).getD i 0 = K.getD i 0 := by simp [List.getD, List.getElem?_take, show i < n by omega]
    rw [this]
  · simp [List.getElem?_eq_none (by omega : L.length ≤ i)]

/-- What is read of a file. -/
theorem Dk.at {dt ft : TypeId} {w : World} {p : Nat} {F : Nat → Prop} {S : St} (h : Dk dt ft w p F S) (i : Nat) (hi : i < S.L.length) :
    ∃ fb fc ad c x, S.L[i]? = some x ∧ w.cell? ⟨p, 0, none⟩ = some (.slice (some ⟨fb, 0, none⟩) S.L.length fc) ∧ w.cell? ⟨fb, i * 2, none⟩ = some (.slice ad x.b.length c) ∧ w.cell? ⟨fb, i * 2 + 1, none⟩ = some (.int .i64 (x.n : Int)) ∧
      w.ownsRow 0 5 1 (.slice ad x.b.length c) x.b.length (cells8 x.b) ∧ Byte x.b ∧ x.b.length ≤ 16777216 ∧ x.n ≤ x.b.length ∧ S.L.length ≤ 8 ∧ (∀ g, (Value.slice ad x.b.length c).ownBlock = some g → F g) := by
  obtain ⟨fb, fc, rs, set, ops, kv, kl, h, hL, _, rfl⟩ := h
  have hn : S.L.length = rs.length := by rw [hL]; simp
  have hi2 : i < rs.length := by omega
  obtain ⟨r, hr⟩ : ∃ r, rs[i]? = some r := ⟨_, List.getElem?_eq_getElem hi2⟩
  obtain ⟨ad, c, hv⟩ := owns_form (h.row i r hr).row
  have hR := h.row i r hr
  have h1 := hR.row
  have h2 := owns_cell h.files _ _ (fcells_row rs i r hr)
  rw [hv] at h1 h2
  refine ⟨fb, fc, ad, c, r.2, by rw [hL]; simp [hr], ?_, h2, owns_cell h.files _ _ (fcells_n rs i r hr), h1, hR.byte, hR.top, hR.le, by rw [hn]; exact h.n8, ?_⟩
  · rw [hn]
    exact h.blk.cell 0
  · intro g hg
    exact .inr (.inr (.inl ⟨i, r, hr, by rw [hv]; exact hg⟩))
theorem Dk.head {dt ft : TypeId} {w : World} {p : Nat} {F : Nat → Prop} {S : St} (h : Dk dt ft w p F S) : ∃ fb fc set ops ka kn kc, w.cell? ⟨p, 0, none⟩ = some (.slice (some ⟨fb, 0, none⟩) S.L.length fc) ∧ w.cell? ⟨p, 1, none⟩ = some (.bool S.on) ∧ w.cell? ⟨p, 2, none⟩ = some (.int .i64 (S.falls : Int)) ∧ w.cell? ⟨p, 3, none⟩ = some (.bool set) ∧ w.cell? ⟨p, 4, none⟩ = some (.int .i64 ops) ∧ w.cell? ⟨p, 5, none⟩ = some (.slice ka kn kc) ∧ S.L.length ≤ 8 ∧ 0 < S.L.length := by
  obtain ⟨fb, fc, rs, set, ops, kv, kl, h, hL, _, rfl⟩ := h
  have hn : S.L.length = rs.length := by rw [hL]; simp
  obtain ⟨ad, c, rfl⟩ := owns_form h.keep
  rw [hn]
  exact ⟨fb, fc, set, _, ad, _, c, h.blk.cell 0, h.blk.cell 1, h.blk.cell 2, h.blk.cell 3, h.blk.cell 4, h.blk.cell 5, h.n8, h.n1⟩

end Go.Proofs.YtnfjhdedcnbdbaaGreat
