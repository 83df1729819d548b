/-
  The machine in memory.
-/
import Derived.Test.YtanlgplgplncdaaDoorPuA
import Derived.Laws.OwnMore
namespace Go.Proofs.YtanlgplgplncdaaDoor
open Go.RowKit
set_option linter.unusedVariables false
set_option linter.unusedSimpArgs false

theorem info102 : (Tryd.prog.info? 145).map (fun i => (i.zero, i.size, i.bytes)) = some (some (.agg #[.slice none 0 0, .int .u64 0]), 2, 32) := by kernel_rfl

/-- What a spot takes, as a value. -/
def TkV (F : Nat → Prop) (w : World) (v : Value) (l : Sn) : Prop := ∃ ad c, v = .slice ad l.length c ∧ Ss w ad l ∧ (∀ y, l ≠ [] → ad = some y → F y.block) ∧ l.length ≤ 2000
theorem TkV.mono {F G : Nat → Prop} {w : World} {v : Value} {l : Sn} (h : TkV F w v l) (hFG : ∀ b, F b → G b) : TkV G w v l := by
  obtain ⟨ad, c, e, h1, h2, h3⟩ := h
  exact ⟨ad, c, e, h1, fun y h0 e => hFG _ (h2 y h0 e), h3⟩
theorem TkV.keep {F G : Nat → Prop} {w w' : World} {v : Value} {l : Sn} (h : TkV F w v l) (hc : Chg G w w') (hd : ∀ b, F b → ¬ G b) : TkV F w' v l := by
  obtain ⟨ad, c, e, hs, hf, h3⟩ := h
  refine ⟨ad, c, e, ⟨hs.sz, fun h0 => ?_⟩, hf, h3⟩
  obtain ⟨b, off, e1, hlt, hcell⟩ := hs.at' h0
  have hbk := hc.block b hlt (hd b (hf _ h0 e1))
  refine ⟨b, off, e1, Nat.lt_of_lt_of_le hlt hc.size, fun k x hx => ?_⟩
  rw [show w'.cell? ⟨b, off + k * 2, none⟩ = w.cell? ⟨b, off + k * 2, none⟩ from World.cell?_of_block hbk, show w'.cell? ⟨b, off + k * 2 + 1, none⟩ = w.cell? ⟨b, off + k * 2 + 1, none⟩ from World.cell?_of_block hbk]
  exact hcell k x hx

def cQ (l : List (Value × Nat)) : List Value := l.flatMap (fun x => [x.1, .int .u64 (x.2 : Int)])
theorem cQ_cons (x : Value × Nat) (l : List (Value × Nat)) : cQ (x :: l) = x.1 :: .int .u64 (x.2 : Int) :: cQ l := by simp [cQ]
theorem cQ_length : ∀ l : List (Value × Nat), (cQ l).length = l.length * 2
  | [] => rfl
  | x :: t => by rw [cQ_cons]; simp only [List.length_cons]; rw [cQ_length t]; omega
theorem cQ_append (l m : List (Value × Nat)) : cQ (l ++ m) = cQ l ++ cQ m := by simp [cQ]
theorem cQ_get : ∀ (l : List (Value × Nat)) (i : Nat) (x : Value × Nat), l[i]? = some x → (cQ l)[i * 2]? = some x.1 ∧ (cQ l)[i * 2 + 1]? = some (.int .u64 (x.2 : Int))
  | [], i, x, h => by simp at h
  | y :: t, 0, x, h => by simp at h; subst h; rw [cQ_cons]; exact ⟨rfl, rfl⟩
  | y :: t, i + 1, x, h => by
    rw [cQ_cons, show (i + 1) * 2 = i * 2 + 1 + 1 by omega, show i * 2 + 1 + 1 + 1 = (i * 2 + 1) + 1 + 1 by omega]
    simp only [List.getElem?_cons_succ] at h ⊢
    exact cQ_get t i x h
theorem cQ_set : ∀ (l : List (Value × Nat)) (i : Nat) (x : Value × Nat) (n : Nat), l[i]? = some x → (cQ l).set (i * 2 + 1) (.int .u64 (n : Int)) = cQ (l.set i (x.1, n))
  | [], i, x, n, h => by simp at h
  | y :: t, 0, x, n, h => by simp at h; subst h; simp [cQ_cons]
  | y :: t, i + 1, x, n, h => by
    rw [cQ_cons, show (i + 1) * 2 + 1 = (i * 2 + 1) + 1 + 1 by omega]
    simp only [List.getElem?_cons_succ] at h
    simp only [List.set_cons_succ, cQ_cons]
    rw [cQ_set t i x n h]

/-- Spots and their values. -/
structure SpL (F : Nat → Prop) (w : World) (vs : List (Value × Nat)) (M : List Sp) : Prop where
  len : vs.length = M.length
  tk : ∀ (i : Nat) (x : Value × Nat) (s : Sp), vs[i]? = some x → M[i]? = some s → x.2 = s.next ∧ TkV F w x.1 s.takes
theorem SpL.mono {F G : Nat → Prop} {w : World} {vs : List (Value × Nat)} {M : List Sp} (h : SpL F w vs M) (hFG : ∀ b, F b → G b) : SpL G w vs M :=
  ⟨h.len, fun i x s h1 h2 => ⟨(h.tk i x s h1 h2).1, (h.tk i x s h1 h2).2.mono hFG⟩⟩
theorem SpL.keep {F G : Nat → Prop} {w w' : World} {vs : List (Value × Nat)} {M : List Sp} (h : SpL F w vs M) (hc : Chg G w w') (hd : ∀ b, F b → ¬ G b) : SpL F w' vs M :=
  ⟨h.len, fun i x s h1 h2 => ⟨(h.tk i x s h1 h2).1, (h.tk i x s h1 h2).2.keep hc hd⟩⟩
theorem SpL.get {F : Nat → Prop} {w : World} {vs : List (Value × Nat)} {M : List Sp} (h : SpL F w vs M) {i : Nat} {s : Sp} (hs : M[i]? = some s) : ∃ v, vs[i]? = some (v, s.next) ∧ TkV F w v s.takes := by
  have hl : i < vs.length := by rw [h.len]; exact (List.getElem?_eq_some_iff.1 hs).1
  have := h.tk i vs[i] s (by simp) hs
  exact ⟨vs[i].1, by rw [List.getElem?_eq_getElem hl, ← this.1], this.2⟩
theorem SpL.snoc {F : Nat → Prop} {w : World} {vs : List (Value × Nat)} {M : List Sp} (h : SpL F w vs M) {v : Value} {l : Sn} (hv : TkV F w v l) : SpL F w (vs ++ [(v, 0)]) (M ++ [⟨l, 0⟩]) := by
  refine ⟨by simp [h.len], fun i x s h1 h2 => ?_⟩
  rcases Nat.lt_or_ge i M.length with hl | hl
  · rw [List.getElem?_append_left hl] at h2
    rw [List.getElem?_append_left (by rw [h.len]; exact hl)] at h1
    exact h.tk i x s h1 h2
  · rw [List.getElem?_append_right hl] at h2
    rw [List.getElem?_append_right (by rw [h.len]; exact hl), h.len] at h1
    have hi : i - M.length = 0 := by
      have := (List.getElem?_eq_some_iff.1 h2).1
      simp at this
      omega
    rw [hi] at h1 h2
    simp at h1 h2
    subst h1 h2
    exact ⟨rfl, hv⟩
theorem SpL.set {F : Nat → Prop} {w : World} {vs : List (Value × Nat)} {M : List Sp} (h : SpL F w vs M) {i n : Nat} {v : Value} {s : Sp} (hv : vs[i]? = some (v, s.next)) (hs : M[i]? = some s) : SpL F w (vs.set i (v, n)) (M.set i ⟨s.takes, n⟩) := by
  refine ⟨by simp [h.len], fun j x t h1 h2 => ?_⟩
  by_cases hij : i = j
  · subst hij
    rw [List.getElem?_set_self (List.getElem?_eq_some_iff.1 hv).1] at h1
    rw [List.getElem?_set_self (List.getElem?_eq_some_iff.1 hs).1] at h2
    injection h1 with h1
    injection h2 with h2
    subst h1 h2
    exact ⟨rfl, (h.tk i _ s hv hs).2⟩
  · rw [List.getElem?_set_ne hij] at h1 h2
    exact h.tk j x t h1 h2

/-- A store in a row that is owned. -/
theorem owns_setV {w : World} {base : Nat} {e : TypeId} {size g n cap : Nat} {xs : List Value} (hO : w.ownsRow base e size (.slice (some ⟨g, 0, none⟩) n cap) n xs) (q : Nat) (u : Value) :
    (w.setCell ⟨g, q, none⟩ u).ownsRow base e size (.slice (some ⟨g, 0, none⟩) n cap) n (xs.set q u) := by
  have hl := hO.1
  rcases hO.2 with ⟨h0, _⟩ | ⟨g', cap', cur, hv, hb, hh, hn, hc, hs, ht⟩
  · cases h0
  · simp only [Value.slice.injEq, Option.some.injEq, Addr.mk.injEq] at hv
    obtain ⟨⟨rfl, _⟩, _, rfl⟩ := hv
    refine ⟨by rw [List.length_set]; exact hl, .inr ⟨g, cap, cur.setIfInBounds q u, rfl, hb, ?_, hn, hc, by simpa using hs, ?_⟩⟩
    · simp [World.setCell, Array.getElem?_modify, hh]
    · rw [Array.toList_setIfInBounds, List.take_set, ht]

structure Mc (F : Nat → Prop) (w : World) (r : Nat) (E : Es) (M : List Sp) (ad : Option Addr) (c : Nat) (vs : List (Value × Nat)) : Prop where
  blk : Blk w r 113 [.slice ad M.length c, .int .u64 (E.first : Int), .int .u64 (E.last : Int), .bool E.emp]
  own : w.ownsRow 0 145 2 (.slice ad M.length c) M.length (cQ vs)
  sp : SpL F w vs M
  nr : ¬ F r
  no : ∀ b, F b → (Value.slice ad M.length c).ownBlock ≠ some b
  ne : (Value.slice ad M.length c).ownBlock ≠ some r
  lt : ∀ b, F b → b < w.heap.size
  b64 : ∀ (i : Nat) (s : Sp), M[i]? = some s → s.next < 18446744073709551616
/-- A machine: its row of spots lies in o. -/
def Mch (F : Nat → Prop) (w : World) (r : Nat) (E : Es) (M : List Sp) (o : Option Nat) : Prop := ∃ ad c vs, Mc F w r E M ad c vs ∧ (Value.slice ad M.length c).ownBlock = o
theorem Mc.keep {F G : Nat → Prop} {w w' : World} {r : Nat} {E : Es} {M : List Sp} {ad : Option Addr} {c : Nat} {vs : List (Value × Nat)} (h : Mc F w r E M ad c vs) (hc : Chg G w w') (hr : ¬ G r) (ho : ∀ b, (Value.slice ad M.length c).ownBlock = some b → ¬ G b) (hF : ∀ b, F b → ¬ G b) : Mc F w' r E M ad c vs :=
  ⟨hc.blk h.blk hr, hc.owns h.own ho, h.sp.keep hc hF, h.nr, h.no, h.ne, fun b hb => Nat.lt_of_lt_of_le (h.lt b hb) hc.size, h.b64⟩
theorem Mch.keep {F G : Nat → Prop} {w w' : World} {r : Nat} {E : Es} {M : List Sp} {o : Option Nat} (h : Mch F w r E M o) (hc : Chg G w w') (hr : ¬ G r) (ho : ∀ b, o = some b → ¬ G b) (hF : ∀ b, F b → ¬ G b) : Mch F w' r E M o := by
  obtain ⟨ad, c, vs, h1, h2⟩ := h
  exact ⟨ad, c, vs, h1.keep hc hr (fun b hb => ho b (by rw [← h2]; exact hb)) hF, h2⟩
theorem Mch.later {F : Nat → Prop} {w w' : World} {r : Nat} {E : Es} {M : List Sp} {o : Option Nat} (h : Mch F w r E M o) (hb : Below w.heap.size w w') : Mch F w' r E M o :=
  h.keep (Chg.of_below (F := fun _ => False) hb) (fun h => h) (fun _ _ h => h) (fun _ _ h => h)
/-- More blocks that are not the machine's. -/
theorem Mch.more {F G : Nat → Prop} {w : World} {r : Nat} {E : Es} {M : List Sp} {o : Option Nat} (h : Mch F w r E M o) (hFG : ∀ b, F b → G b) (hr : ¬ G r) (ho : ∀ b, G b → o ≠ some b) (hl : ∀ b, G b → b < w.heap.size) : Mch G w r E M o := by
  obtain ⟨ad, c, vs, h1, h2⟩ := h
  exact ⟨ad, c, vs, ⟨h1.blk, h1.own, h1.sp.mono hFG, hr, fun b hb => by rw [h2]; exact ho b hb, h1.ne, hl, h1.b64⟩, h2⟩
theorem Mch.rlt {F : Nat → Prop} {w : World} {r : Nat} {E : Es} {M : List Sp} {o : Option Nat} (h : Mch F w r E M o) : r < w.heap.size := by
  obtain ⟨ad, c, vs, h1, h2⟩ := h
  exact h1.blk.lt
theorem Mch.olt {F : Nat → Prop} {w : World} {r : Nat} {E : Es} {M : List Sp} {o : Option Nat} (h : Mch F w r E M o) : ∀ b, o = some b → b < w.heap.size := by
  obtain ⟨ad, c, vs, h1, rfl⟩ := h
  exact owns_lt h1.own
/-- What a call does to a machine: its own blocks alone change; blocks that are not its own, of which it tells, are those or new. -/
structure Mv (F F' : Nat → Prop) (w w' : World) (r : Nat) (o o' : Option Nat) : Prop where
  chg : Chg (fun b => b = r ∨ o = some b) w w'
  mv : Moved w o o'
  sub : ∀ b, F b → F' b
  new : ∀ b, F' b → F b ∨ w.heap.size ≤ b
theorem Mv.refl (F : Nat → Prop) (w : World) (r : Nat) (o : Option Nat) : Mv F F w w r o o := ⟨Chg.refl _ _, .inl rfl, fun _ h => h, fun _ h => .inl h⟩
theorem Mv.below {F : Nat → Prop} {w w' : World} {r : Nat} {o : Option Nat} (h : Below w.heap.size w w') : Mv F F w w' r o o := ⟨Chg.of_below h, .inl rfl, fun _ h => h, fun _ h => .inl h⟩
theorem Mv.trans {F F1 F2 : Nat → Prop} {w w1 w2 : World} {r : Nat} {o o1 o2 : Option Nat} (h : Mv F F1 w w1 r o o1) (k : Mv F1 F2 w1 w2 r o1 o2) : Mv F F2 w w2 r o o2 := by
  refine ⟨h.chg.trans k.chg (fun i hi hg => ?_), h.mv.trans k.mv h.chg.size, fun b hb => k.sub b (h.sub b hb), fun b hb => ?_⟩
  · rcases hg with hg | hg
    · exact .inl hg
    · rcases h.mv with e | ⟨g, e, hlt⟩
      · rw [e] at hg; exact .inr hg
      · rw [e] at hg; injection hg with hg; omega
  · rcases k.new b hb with h1 | h1
    · exact h.new b h1
    · exact .inr (Nat.le_trans h.chg.size h1)
/-- Parts stay. -/
theorem Mv.part {F F' : Nat → Prop} {w w' : World} {r : Nat} {o o' : Option Nat} (h : Mv F F' w w' r o o') (hr : ¬ F r) (ho : ∀ b, F b → o ≠ some b) : ∀ b, F b → ¬ (b = r ∨ o = some b) := by
  rintro b hb (rfl | e)
  · exact hr hb
  · exact ho b hb e

end Go.Proofs.YtanlgplgplncdaaDoor
