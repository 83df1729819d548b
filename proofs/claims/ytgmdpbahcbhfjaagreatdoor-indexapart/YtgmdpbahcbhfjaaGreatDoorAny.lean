import Derived.Test.YtgmdpbahcbhfjaaGreatDoorRow
import Derived.Orders
import Derived.Deep.MidRow
import Derived.ArgAppend
import Derived.OneCell
set_option linter.unusedSimpArgs false
set_option linter.unusedVariables false
set_option maxHeartbeats 40000000
set_option maxRecDepth 100000
/-
  A region that draws its order, walked in no order at all: each operation is shown once, from what the operations that it waits for have left. Nothing of the program.
-/
namespace Go.Proofs.YtgmdpbahcbhfjaaGreatDoor
open Go.RowKit

section
variable {P : Program} {ops : Array Oper} {Q : Exit → Act → World → Prop} {Later : World → World → Prop} {T : Nat → Value → World → Prop} {a0 : Act} {w0 : World}

/-- What stands where an operation has left its value. -/
def valOf (a : Act) (o : Oper) : Value :=
  match o.dst with
  | some d => a.tmps.getD d undef
  | none => undef
/-- All places that the region writes. -/
def dsts (ops : Array Oper) : List Tmp := ops.toList.filterMap (fun o => o.dst)

/-- What the rest of the frame is. -/
structure Same (ops : Array Oper) (a0 a : Act) : Prop where
  size : a.tmps.size = a0.tmps.size
  defers : a.defers = a0.defers
  slot : ∀ t, (dsts ops).contains t = false → a.tmps.getD t undef = a0.tmps.getD t undef

/-- One operation, whenever it comes up. -/
def StepOk (P : Program) (ops : Array Oper) (Q : Exit → Act → World → Prop) (Later : World → World → Prop) (T : Nat → Value → World → Prop) (a0 : Act) (w0 : World) (i : Nat) (o : Oper) : Prop :=
  ∀ (a : Act) (w : World), Later w0 w → Same ops a0 a →
    (∀ e ∈ o.after, Region.binds .any e = true → ∀ oj, ops[e.on]? = some oj → T e.on (valOf a oj) w) →
    if Region.wanted o (yielded ops a.tmps) = true then o.wp P a w (fun a' w' => ∃ v, a' = a.put o.dst v ∧ Later w w' ∧ T i v w') Q else T i undef w

theorem put_slot (a : Act) (d t : Tmp) (v : Value) (h : t ≠ d) : (a.put (some d) v).tmps.getD t undef = a.tmps.getD t undef := by
  have : (a.put (some d) v).tmps = a.tmps.setIfInBounds d v := rfl
  rw [this, Array.getD_eq_getD_getElem?, Array.getD_eq_getD_getElem?, Array.getElem?_setIfInBounds, if_neg (fun e => h e.symm)]
theorem put_same (a : Act) (d : Tmp) (v : Value) (h : d < a.tmps.size) : (a.put (some d) v).tmps.getD d undef = v := by
  have : (a.put (some d) v).tmps = a.tmps.setIfInBounds d v := rfl
  rw [this, Array.getD_eq_getD_getElem?, Array.getElem?_setIfInBounds]
  simp [h]

theorem same_put {a : Act} {i : Nat} {o : Oper} {v : Value} (hi : ops[i]? = some o) (h : Same ops a0 a) : Same ops a0 (a.put o.dst v) := by
  cases hd : o.dst with
  | none => exact h
  | some d =>
    refine ⟨?_, h.defers, fun t ht => ?_⟩
    · have : (a.put (some d) v).tmps = a.tmps.setIfInBounds d v := rfl
      rw [this, Array.size_setIfInBounds]; exact h.size
    · rw [put_slot a d t v ?_]
      · exact h.slot t ht
      · intro e
        subst e
        have : t ∈ dsts ops := List.mem_filterMap.2 ⟨o, by
          rw [Array.mem_toList_iff]
          exact Array.mem_of_getElem? hi, hd⟩
        simp [this] at ht

/-- No two write one place. -/
def apartAll (ops : Array Oper) : Bool := (List.range ops.size).all fun i => (List.range ops.size).all fun j => i == j || match ops[i]?, ops[j]? with
  | some x, some y => x.dst.isNone || x.dst != y.dst
  | _, _ => true
theorem apartAll_spec (h : apartAll ops = true) {i j : Nat} {x y : Oper} (hi : ops[i]? = some x) (hj : ops[j]? = some y) (hij : i ≠ j) {d : Tmp} (hd : x.dst = some d) : y.dst ≠ some d := by
  have h1 := (Array.getElem?_eq_some_iff.1 hi).1
  have h2 := (Array.getElem?_eq_some_iff.1 hj).1
  have := List.all_eq_true.1 (List.all_eq_true.1 h i (List.mem_range.2 h1)) j (List.mem_range.2 h2)
  simp only [hi, hj, hd] at this
  simp [hij] at this
  intro e
  exact this e.symm
/-- Whoever is waited for stands ahead. -/
def forward (ops : Array Oper) : Bool := (List.range ops.size).all fun i => match ops[i]? with
  | some o => o.after.all fun e => !Region.binds .any e || decide (e.on < i)
  | none => true
theorem forward_spec (h : forward ops = true) {i : Nat} {o : Oper} (hi : ops[i]? = some o) : ∀ e ∈ o.after, Region.binds .any e = true → e.on < i := by
  intro e he hb
  have h1 := (Array.getElem?_eq_some_iff.1 hi).1
  have := List.all_eq_true.1 h i (List.mem_range.2 h1)
  simp only [hi] at this
  have := Array.all_eq_true_iff_forall_mem.1 this e he
  simpa [hb] using this
def within (ops : Array Oper) (n : Nat) : Bool := ops.all fun o => match o.dst with
  | some d => decide (d < n)
  | none => true
theorem within_spec {n : Nat} (h : within ops n = true) {i : Nat} {o : Oper} (hi : ops[i]? = some o) {d : Tmp} (hd : o.dst = some d) : d < n := by
  have := Array.all_eq_true_iff_forall_mem.1 h o (Array.mem_of_getElem? hi)
  simpa [hd] using this

theorem valOf_put {a : Act} {i j : Nat} {x y : Oper} {v : Value} (hap : apartAll ops = true) (hi : ops[i]? = some x) (hj : ops[j]? = some y) (hij : i ≠ j) : valOf (a.put x.dst v) y = valOf a y := by
  unfold valOf
  cases hy : y.dst with
  | none => rfl
  | some d =>
    cases hx : x.dst with
    | none => rfl
    | some c =>
      simp only
      refine put_slot a c d v (fun e => ?_)
      subst e
      exact apartAll_spec hap hi hj hij hx hy
theorem valOf_put_same {a : Act} {i : Nat} {x : Oper} {v : Value} (hsz : within ops a.tmps.size = true) (hi : ops[i]? = some x) (hx : x.dst.isSome = true) : valOf (a.put x.dst v) x = v := by
  unfold valOf
  obtain ⟨d, hd⟩ := Option.isSome_iff_exists.1 hx
  rw [hd]
  exact put_same a d v (within_spec hsz hi hd)

theorem not_ready (hf : forward ops = true) {listed : Array Bool} (hl : listed.size = ops.size) (h : Region.ready .any ops listed = []) : ∀ i, i < ops.size → listed.getD i true = true := by
  intro i
  induction i using Nat.strongRecOn with
  | ind i ih =>
    intro hi
    cases hc : listed.getD i true with
    | true => rfl
    | false =>
      exfalso
      have : i ∈ Region.ready .any ops listed := by
        rw [mem_ready]
        refine ⟨hc, ops[i], by simp [hi], fun e he hb => ?_⟩
        have hlt := forward_spec hf (i := i) (o := ops[i]) (by simp [hi]) e he hb
        have := ih e.on hlt (by omega)
        rw [Array.getD_eq_getD_getElem?] at this ⊢
        have hb2 : e.on < listed.size := by omega
        simpa [hb2] using this
      rw [h] at this
      cases this

/-- THE RULE. -/
theorem wpAny_inv (hap : apartAll ops = true) (hf : forward ops = true) (hsz : within ops a0.tmps.size = true) (hall : (ops.all fun o => o.dst.isSome) = true)
    (hrf : ∀ a, Later a a) (htr : ∀ a b c, Later a b → Later b c → Later a c) (hst : ∀ i v w w', T i v w → Later w w' → T i v w')
    (hop : ∀ i o, ops[i]? = some o → StepOk P ops Q Later T a0 w0 i o)
    (hdone : ∀ a w, Later w0 w → Same ops a0 a → (∀ i o, ops[i]? = some o → T i (valOf a o) w) → Q .normal a w) :
    ∀ (fuel : Nat) (listed : Array Bool) (a : Act) (w : World), listed.size = ops.size → listed.toList.countP id + fuel = ops.size → Later w0 w → Same ops a0 a →
      (∀ i o, ops[i]? = some o → listed.getD i true = true → T i (valOf a o) w) → wpAny P .any ops Q fuel listed a w := by
  intro fuel
  induction fuel with
  | zero =>
    intro listed a w hl hc hw hs hT
    have hall2 : ∀ i, i < ops.size → listed.getD i true = true := by
      intro i hi
      have := List.countP_eq_length.1 (show listed.toList.countP id = listed.toList.length by rw [Array.length_toList]; omega) listed[i] (by simp)
      rw [Array.getD_eq_getD_getElem?]
      simpa [show i < listed.size by omega] using this
    refine ⟨?_, hdone a w hw hs fun i o hi => hT i o hi (hall2 i (Array.getElem?_eq_some_iff.1 hi).1)⟩
    cases hr : Region.ready .any ops listed with
    | nil => rfl
    | cons j t =>
      exfalso
      have hj : j ∈ Region.ready .any ops listed := by rw [hr]; simp
      rw [mem_ready] at hj
      obtain ⟨h0, o, ho, _⟩ := hj
      rw [hall2 j (Array.getElem?_eq_some_iff.1 ho).1] at h0
      cases h0
  | succ fuel ih =>
    intro listed a w hl hc hw hs hT
    refine ⟨fun hr => hdone a w hw hs fun i o hi => hT i o hi (not_ready hf hl hr i (Array.getElem?_eq_some_iff.1 hi).1), fun i hi => ?_⟩
    rw [mem_ready] at hi
    obtain ⟨h0, o, ho, hdeps⟩ := hi
    have hlt := (Array.getElem?_eq_some_iff.1 ho).1
    have step := hop i o ho a w hw hs (fun e he hb oj hoj => hT e.on oj hoj (by
      have := hdeps e he hb
      have hlt2 := (Array.getElem?_eq_some_iff.1 hoj).1
      rw [Array.getD_eq_getD_getElem?] at this ⊢
      have hb2 : e.on < listed.size := by omega
      simpa [hb2] using this))
    have hsome : o.dst.isSome = true := Array.all_eq_true_iff_forall_mem.1 hall o (Array.mem_of_getElem? ho)
    have next : ∀ v w', Later w w' → T i v w' → wpAny P .any ops Q fuel (listed.setIfInBounds i true) (a.put o.dst v) w' := by
      intro v w' hl2 hT2
      refine ih _ _ _ (by rw [Array.size_setIfInBounds]; exact hl) ?_ (htr _ _ _ hw hl2) (same_put ho hs) ?_
      · rw [Array.toList_setIfInBounds, List.countP_set (by rw [Array.length_toList]; omega)]
        have hf0 : listed.toList[i]'(by rw [Array.length_toList]; omega) = false := by
          rw [Array.getD_eq_getD_getElem?] at h0
          simpa [show i < listed.size by omega] using h0
        rw [hf0]
        show listed.toList.countP id - 0 + 1 + fuel = ops.size
        omega
      · intro j oj hj hjl
        by_cases hij : i = j
        · subst hij
          rw [ho] at hj
          obtain rfl := Option.some.inj hj
          rw [valOf_put_same (by rw [hs.size]; exact hsz) ho hsome]
          exact hT2
        · rw [valOf_put hap ho hj hij]
          refine hst _ _ _ _ (hT j oj hj ?_) hl2
          rw [Array.getD_eq_getD_getElem?, Array.getElem?_setIfInBounds, if_neg hij] at hjl
          rw [Array.getD_eq_getD_getElem?]
          exact hjl
    unfold wpOp
    simp only [ho]
    split
    · rename_i hwant
      rw [if_pos hwant] at step
      left
      refine Oper.wp_mono (fun a' w' h' => ?_) step
      obtain ⟨v, rfl, h1, h2⟩ := h'
      exact next v w' h1 h2
    · rename_i hwant
      rw [if_neg hwant] at step
      exact next undef w (hrf w) step

theorem step_yes {i : Nat} {o : Oper} {a : Act} {w : World} (hw : Region.wanted o (yielded ops a.tmps) = true) (h : o.wp P a w (fun a' w' => ∃ v, a' = a.put o.dst v ∧ Later w w' ∧ T i v w') Q) :
    if Region.wanted o (yielded ops a.tmps) = true then o.wp P a w (fun a' w' => ∃ v, a' = a.put o.dst v ∧ Later w w' ∧ T i v w') Q else T i undef w := by rw [if_pos hw]; exact h
theorem ok_value {i : Nat} {o : Oper} {a : Act} {w : World} (hrf : ∀ a, Later a a) (v : Value) (h : (execOp a.eval o).run P w = .ok (.value v) w) (hT : T i v w) : o.wp P a w (fun a' w' => ∃ v, a' = a.put o.dst v ∧ Later w w' ∧ T i v w') Q := by
  unfold Oper.wp
  rw [h]
  exact ⟨v, rfl, hrf w, hT⟩
theorem ok_call {i : Nat} {o : Oper} {a : Act} {w : World} {f : FuncId} {args : Array Value} (h : (execOp a.eval o).run P w = .ok (.enter f args) w) (hc : Calls P f args w fun e w' => ∃ v, e = .returned v ∧ Later w w' ∧ T i v w') : o.wp P a w (fun a' w' => ∃ v, a' = a.put o.dst v ∧ Later w w' ∧ T i v w') Q := by
  unfold Oper.wp
  rw [h]
  refine Calls.mono hc ?_
  rintro e w' ⟨v, rfl, hl, ht⟩
  exact ⟨v, rfl, hl, ht⟩

/-- A region that draws its order: each operation once. 'w1': the world behind the draw. -/
theorem wp_region_inv (Later : World → World → Prop) (T : Nat → Value → World → Prop) {id : Nat} {a : Act} {w : World} (hm : P.follows .mixedOrders = true)
    (hap : apartAll ops = true) (hf : forward ops = true) (hsz : within ops a.tmps.size = true) (hall : (ops.all fun o => o.dst.isSome) = true)
    (hrf : ∀ a, Later a a) (htr : ∀ a b c, Later a b → Later b c → Later a c) (hst : ∀ i v w w', T i v w → Later w w' → T i v w')
    (hdr : Later w { w with drawn := w.drawn + 1 })
    (hop : ∀ i o, ops[i]? = some o → StepOk P ops Q Later T a w i o)
    (hdone : ∀ a' w', Later w w' → Same ops a a' → (∀ i o, ops[i]? = some o → T i (valOf a' o) w') → Q .normal a' w') : (Code.region id ops true).wp P Q a w :=
  wp_region_any hm (wpAny_inv (a0 := a) (w0 := w) hap hf hsz hall hrf htr hst hop hdone ops.size (Array.replicate ops.size false) a _ (by simp) (by simp) hdr ⟨rfl, rfl, fun _ _ => rfl⟩ (fun i o hi hl => by
    have := (Array.getElem?_eq_some_iff.1 hi).1
    rw [Array.getD_eq_getD_getElem?] at hl
    simp [this] at hl))

end

end Go.Proofs.YtgmdpbahcbhfjaaGreatDoor

/-
  The rule of ..Any for a region whose last operation waits for all others (a store): what that one turns, no other sees. Nothing of the program.
-/
namespace Go.Proofs.YtgmdpbahcbhfjaaGreatDoor
open Go.RowKit

section
variable {P : Program} {ops : Array Oper} {Q : Exit → Act → World → Prop} {Later : World → World → Prop} {T : Nat → Value → World → Prop} {a0 : Act} {w0 : World}

end

end Go.Proofs.YtgmdpbahcbhfjaaGreatDoor

/-
  Blocks that are known whole: array variables. Nothing of the program.
-/
namespace Go.Proofs.YtgmdpbahcbhfjaaGreatDoor
open Go.RowKit

/-- A block of cells that may be written. -/
def Blk (w : World) (b : Nat) (ty : TypeId) (l : List Value) : Prop := w.heap[b]? = some (.cells l.toArray ty (0, 0))

theorem Blk.lt {w : World} {b : Nat} {ty : TypeId} {l : List Value} (h : Blk w b ty l) : b < w.heap.size := (Array.getElem?_eq_some_iff.1 h).1
theorem Blk.cell {w : World} {b : Nat} {ty : TypeId} {l : List Value} (h : Blk w b ty l) (i : Nat) : w.cell? ⟨b, i, none⟩ = l[i]? := by
  rw [cell_of_row w b i _ ty (0, 0) h]; simp
theorem Blk.frozen {w : World} {b : Nat} {ty : TypeId} {l : List Value} (h : Blk w b ty l) (i : Nat) : w.frozen? ⟨b, i, none⟩ = false := frozen_of_row w b i _ ty h
theorem Blk.set {w : World} {b : Nat} {ty : TypeId} {l : List Value} (h : Blk w b ty l) (i : Nat) (v : Value) : Blk (w.setCell ⟨b, i, none⟩ v) b ty (l.set i v) := by
  unfold Blk at *
  simp [World.setCell, Array.getElem?_modify, h]
theorem Blk.setOff {w : World} {b : Nat} {ty : TypeId} {l : List Value} (h : Blk w b ty l) (a : Addr) (v : Value) (hne : b ≠ a.block) : Blk (w.setCell a v) b ty l := by
  unfold Blk at *
  rw [heap_setCell_other w a b v hne]; exact h
theorem Blk.alloc {w : World} {b : Nat} {ty : TypeId} {l : List Value} (h : Blk w b ty l) (o : Obj) : Blk (w.alloc o) b ty l := by
  have hl := h.lt
  unfold Blk at *
  rw [Below.heap_alloc _ _ _ hl]; exact h
theorem Blk.new (w : World) (ty : TypeId) (l : List Value) : Blk (w.alloc (.cells l.toArray ty)) w.heap.size ty l := by
  unfold Blk
  rw [heap_alloc_new w]
theorem Blk.drew {w : World} {b : Nat} {ty : TypeId} {l : List Value} (h : Blk w b ty l) : Blk w.drew b ty l := h
theorem Blk.drewN {w : World} {b : Nat} {ty : TypeId} {l : List Value} (h : Blk w b ty l) (n : Nat) : Blk (w.drewN n) b ty l := by
  exact h
theorem Blk.below {w w' : World} {b B : Nat} {ty : TypeId} {l : List Value} (h : Blk w b ty l) (hb : Below B w w') (hlt : b < B) : Blk w' b ty l := by
  unfold Blk at *
  rw [hb.block b hlt]; exact h
theorem Blk.later {w w' : World} {b : Nat} {ty : TypeId} {l : List Value} (h : Blk w b ty l) (hb : Below w.heap.size w w') : Blk w' b ty l := h.below hb h.lt
theorem Blk.all {w : World} {b : Nat} {ty : TypeId} {l : List Value} (h : Blk w b ty l) : w.rangeAt b 0 l := by
  intro j v hv
  rw [h.cell]
  simpa using hv
theorem Blk.there {w : World} {b : Nat} {ty : TypeId} {l : List Value} (h : Blk w b ty l) (o n : Nat) (hn : o + n ≤ l.length) : w.there b o n := by
  intro j hj
  rw [h.cell, h.frozen]
  simp
  omega
/-- What many stores leave. -/
theorem Blk.sets {b : Nat} {ty : TypeId} : ∀ (vs : List Value) (o : Nat) (w : World) (l : List Value), Blk w b ty l → o + vs.length ≤ l.length → Blk (w.setCells b o vs) b ty (l.take o ++ vs ++ l.drop (o + vs.length))
  | [], o, w, l, h, hn => by simpa [World.setCells] using h
  | v :: r, o, w, l, h, hn => by
    simp only [List.length_cons] at hn
    rw [World.setCells]
    have := Blk.sets r (o + 1) _ _ (h.set o v) (by simp; omega)
    have e : (l.set o v).take (o + 1) ++ r ++ (l.set o v).drop (o + 1 + r.length) = l.take o ++ (v :: r) ++ l.drop (o + (v :: r).length) := by
      rw [List.drop_set_of_lt (by omega), List.take_set, List.take_add_one, List.getElem?_eq_getElem (by omega : o < l.length)]
      rw [List.set_append, if_neg (by simp; omega)]
      simp
      rw [show o - min o l.length = 0 by omega]
      simp [Nat.add_comm, Nat.add_left_comm]
    rw [e] at this
    exact this
theorem size_setCells (b : Nat) : ∀ (vs : List Value) (o : Nat) (w : World), (w.setCells b o vs).heap.size = w.heap.size
  | [], o, w => rfl
  | v :: r, o, w => by
    rw [World.setCells, size_setCells b r]
    simp [World.setCell]
theorem below_sets {B b : Nat} (hb : B ≤ b) : ∀ (vs : List Value) (o : Nat) (w : World), Below B w (w.setCells b o vs)
  | [], o, w => Below.refl _ _
  | v :: r, o, w => by
    rw [World.setCells]
    exact ((Below.refl B w).setCell hb v).trans (below_sets hb r (o + 1) _)
theorem below_drewN {B : Nat} {a w : World} (h : Below B a w) (n : Nat) : Below B a (w.drewN n) :=
  h.trans ⟨rfl, rfl, rfl, Nat.le_refl _, fun _ _ => rfl⟩

theorem setCells_new (w : World) (t : TypeId) : ∀ (vs : List Value) (o : Nat) (C : Array Value), o + vs.length ≤ C.size →
    (w.alloc (.cells C t)).setCells w.heap.size o vs = w.alloc (.cells (C.toList.take o ++ (vs ++ C.toList.drop (o + vs.length))).toArray t)
  | [], o, C, h => by simp [World.setCells]
  | v :: r, o, C, h => by
    simp only [List.length_cons] at h
    rw [World.setCells, World.setCell_alloc_new, setCells_new w t r (o + 1) (C.setIfInBounds o v) (by simp; omega)]
    congr 2
    apply Array.toList_inj.1
    have e1 : (C.setIfInBounds o v).toList = C.toList.set o v := Array.toList_setIfInBounds
    simp only [e1, List.length_cons]
    apply List.ext_getElem?
    intro j
    have hl : C.toList.length = C.size := Array.length_toList
    by_cases h1 : j < o
    · simp [List.getElem?_append, h1, show j < o + 1 by omega, show ¬ o = j by omega, show o ≤ C.size by omega, show o + 1 ≤ C.size by omega]
    · by_cases h2 : j = o
      · subst h2
        simp [List.getElem?_append, show min j C.size = j by omega, show min (j + 1) C.size = j + 1 by omega]
      · have e3 : j - o = (j - (o + 1)) + 1 := by omega
        simp [List.getElem?_append, List.getElem?_set, List.getElem?_drop, show ¬ j < o by omega, show ¬ j < o + 1 by omega, show min o C.size = o by omega, show min (o + 1) C.size = o + 1 by omega, e3, show o + 1 + r.length = o + (r.length + 1) by omega]
        split
        · rfl
        · rw [if_neg (by omega)]

theorem wpList_alloc_store {P : Program} {w : World} {ops : Array Oper} {rest : List Oper} {o1 o2 : Oper} {a : Act} {Q : Exit → Act → World → Prop} (g1 : o1.guard = none) (g2 : o2.guard = none) (ty : TypeId) (d : Tmp) (y : Operand)
    (h1 : o1.op = .alloc ty) (hd1 : o1.dst = some d) (h2 : o2.op = .store ty (.tmp d) y) (hd2 : o2.dst = none) (i : TypeInfo) (z : Value) (hi : P.info? ty = some i) (hz : i.zero = some z) (cells : Array Value)
    (hzs : z.cells.size = cells.size) (hsz : i.size = cells.size) (hone : cells.all (·.oneCell') = true) (hdl : d < a.tmps.size)
    (hy : (a.put (some d) (.pointer (some ⟨w.heap.size, 0, none⟩))).eval y = .agg cells)
    (h : wpList P ops Q rest (a.put (some d) (.pointer (some ⟨w.heap.size, 0, none⟩))) (w.alloc (.cells cells ty))) : wpList P ops Q (o1 :: o2 :: rest) a w := by
  have hr : (Instr.alloc ty true (.tuple #[])).run P w = .ok (.pointer (some ⟨w.heap.size, 0, none⟩)) (w.alloc (.cells z.cells ty)) := by
    simp [Instr.alloc, zeroValue, typeInfo, hi, hz, newVar, newRow]
  refine wpList_plain g1 fun K hK => ?_
  unfold Oper.wp
  simp only [execOp, h1, Sem.run_bind, hr, Result.andThen_ok, Sem.run_pure, Oper.upon, hd1]
  refine hK _ _ ?_
  refine wpList_store_mid g2 ty (.tmp d) y h2 w.heap.size 0 cells ?_ hy ?_ ?_ hone ?_
  · show ((a.put (some d) _).tmps.getD d undef) = _
    have : (a.put (some d) (.pointer (some ⟨w.heap.size, 0, none⟩))).tmps = a.tmps.setIfInBounds d (.pointer (some ⟨w.heap.size, 0, none⟩)) := rfl
    rw [this, Array.getD_eq_getD_getElem?, Array.getElem?_setIfInBounds]
    simp [hdl]
  · intro j hj
    rw [World.cell?_alloc_mark]
    exact ⟨by simp; omega, by simp⟩
  · simp [hi, hsz]
  · rw [hd2, setCells_new w ty cells.toList 0 z.cells (by simp; omega)]
    have e : (z.cells.toList.take 0 ++ (cells.toList ++ z.cells.toList.drop (0 + cells.toList.length))).toArray = cells := by
      simp [List.drop_eq_nil_of_le, hzs]
    rw [e]
    exact h


/-- A variable that is made and filled at once. -/
theorem wpList_new_var {P : Program} {w : World} {ops : Array Oper} {rest : List Oper} {o1 o2 : Oper} {a : Act} {Q : Exit → Act → World → Prop} (g1 : o1.guard = none) (g2 : o2.guard = none) (ty : TypeId) (d : Tmp) (y : Operand)
    (h1 : o1.op = .alloc ty) (hd1 : o1.dst = some d) (h2 : o2.op = .store ty (.tmp d) y) (hd2 : o2.dst = none) (n : Nat) (hi : (P.info? ty).map (fun i => (i.zero.map (·.cells.size), i.size)) = some (some n, n)) (l : List Value)
    (hl : l.length = n) (hone : ∀ v ∈ l, v.oneCell' = true) (hdl : d < a.tmps.size)
    (hy : (a.put (some d) (.pointer (some ⟨w.heap.size, 0, none⟩))).eval y = .agg l.toArray)
    (h : ∀ w2, Blk w2 w.heap.size ty l → Below w.heap.size w w2 → w2.heap.size = w.heap.size + 1 → wpList P ops Q rest (a.put (some d) (.pointer (some ⟨w.heap.size, 0, none⟩))) w2) : wpList P ops Q (o1 :: o2 :: rest) a w := by
  cases hq : P.info? ty with
  | none => simp [hq] at hi
  | some i =>
    rw [hq] at hi
    simp only [Option.map_some, Option.some.injEq, Prod.mk.injEq] at hi
    obtain ⟨hz, hs⟩ := hi
    cases hzz : i.zero with
    | none => rw [hzz] at hz; cases hz
    | some z =>
      rw [hzz] at hz
      simp only [Option.map_some, Option.some.injEq] at hz
      refine wpList_alloc_store g1 g2 ty d y h1 hd1 h2 hd2 i z hq hzz l.toArray (by simp [hz, hl]) (by simp [hs, hl]) (all_oneCell_toArray hone) hdl hy ?_
      exact h _ (Blk.new w ty l) ((Below.refl _ w).alloc (Nat.le_refl _) _) (by simp)
/-- A new variable: the world becomes a letter. -/
theorem wpList_alloc_blk {P : Program} {w : World} {ops : Array Oper} {rest : List Oper} {o : Oper} {a : Act} {Q : Exit → Act → World → Prop} (g : o.guard = none) (ty : TypeId) (ho : o.op = .alloc ty) (d : Tmp) (hd : o.dst = some d) (l : List Value) (hi : (P.info? ty).map (fun i => i.zero.map (·.cells)) = some (some l.toArray))
    (h : ∀ w2, Blk w2 w.heap.size ty l → Below w.heap.size w w2 → w2.heap.size = w.heap.size + 1 → wpList P ops Q rest (a.put (some d) (.pointer (some ⟨w.heap.size, 0, none⟩))) w2) : wpList P ops Q (o :: rest) a w := by
  cases hq : P.info? ty with
  | none => simp [hq] at hi
  | some i =>
    rw [hq] at hi
    simp only [Option.map_some, Option.some.injEq] at hi
    cases hzz : i.zero with
    | none => rw [hzz] at hi; cases hi
    | some z =>
      rw [hzz] at hi
      simp only [Option.map_some, Option.some.injEq] at hi
      have hr : (Instr.alloc ty true (.tuple #[])).run P w = .ok (.pointer (some ⟨w.heap.size, 0, none⟩)) (w.alloc (.cells z.cells ty)) := by
        simp [Instr.alloc, zeroValue, typeInfo, hq, hzz, newVar, newRow]
      rw [hi] at hr
      refine wpList_plain g fun K hK => ?_
      unfold Oper.wp
      simp only [execOp, ho, Sem.run_bind, hr, Result.andThen_ok, Sem.run_pure, Oper.upon, hd]
      exact hK _ _ (h _ (Blk.new w ty l) ((Below.refl _ w).alloc (Nat.le_refl _) _) (by simp))
/-- A variable that a value is laid into. -/
theorem wpList_box_blk {P : Program} {w : World} {ops : Array Oper} {rest : List Oper} {o : Oper} {a : Act} {Q : Exit → Act → World → Prop} (g : o.guard = none) (ty : TypeId) (x : Operand) (ho : o.op = .box ty x) (l : List Value) (hx : a.eval x = .agg l.toArray)
    (h : ∀ w2, Blk w2 w.heap.size ty l → Below w.heap.size w w2 → w2.heap.size = w.heap.size + 1 → wpList P ops Q rest (a.put o.dst (.pointer (some ⟨w.heap.size, 0, none⟩))) w2) : wpList P ops Q (o :: rest) a w := by
  refine wpList_plain g fun K hK => ?_
  unfold Oper.wp execOp
  simp only [ho, hx, Sem.run_bind, Instr.box, newVar, newRow, run_newObj_alloc, Sem.run_pure, Result.andThen_ok]
  exact hK _ _ (h _ (Blk.new w ty l) ((Below.refl _ w).alloc (Nat.le_refl _) _) (by simp))
/-- A whole variable read. -/
theorem wpList_load_blk {P : Program} {w : World} {ops : Array Oper} {rest : List Oper} {o : Oper} {a : Act} {Q : Exit → Act → World → Prop} (hg : o.guard = none) (ty : TypeId) (x : Operand) (ho : o.op = .load ty x) (b : Nat) {t : TypeId} {l : List Value} {d : TypeDesc} (hB : Blk w b t l)
    (hx : a.eval x = .pointer (some ⟨b, 0, none⟩)) (hu : P.underlying ty = some d) (hd : d.isRow = true) (hi : (P.info? ty).map (·.size) = some l.length) (h : wpList P ops Q rest (a.put o.dst (.agg l.toArray)) w) : wpList P ops Q (o :: rest) a w :=
  wpList_load_mid hg ty x ho b 0 hx l d hB.all hu hd hi h
/-- A whole variable written. -/
theorem wpList_store_blk {P : Program} {w : World} {ops : Array Oper} {rest : List Oper} {o : Oper} {a : Act} {Q : Exit → Act → World → Prop} (hg : o.guard = none) (ty : TypeId) (x y : Operand) (ho : o.op = .store ty x y) (hd : o.dst = none) (b : Nat) {t : TypeId} {l l0 : List Value} (hB : Blk w b t l0)
    (hx : a.eval x = .pointer (some ⟨b, 0, none⟩)) (hy : a.eval y = .agg l.toArray) (hl : l.length = l0.length) (hi : (P.info? ty).map (·.size) = some l.length) (hone : ∀ v ∈ l, v.oneCell' = true) (h : wpList P ops Q rest a (w.setCells b 0 l)) : wpList P ops Q (o :: rest) a w := by
  refine wpList_store_mid hg ty x y ho b 0 l.toArray hx hy (hB.there 0 _ (by simp [hl])) (by simpa using hi) (all_oneCell_toArray hone) ?_
  rw [hd]
  exact h
theorem blk_stored {w : World} {b : Nat} {t : TypeId} {l0 l : List Value} (h : Blk w b t l0) (hl : l.length = l0.length) : Blk (w.setCells b 0 l) b t l := by
  have := Blk.sets l 0 w l0 h (by omega)
  simpa [hl] using this

theorem one_new (w : World) (t1 : TypeId) (l1 : List Value) : ∃ w2, w.alloc (.cells l1.toArray t1) = w2 ∧ Blk w2 w.heap.size t1 l1 ∧ Below w.heap.size w w2 ∧ w2.heap.size = w.heap.size + 1 :=
  ⟨_, rfl, Blk.new w t1 l1, (Below.refl _ w).alloc (Nat.le_refl _) _, by simp⟩

end Go.Proofs.YtgmdpbahcbhfjaaGreatDoor

/-
  Regions that draw their order and whose operations leave plain values. Nothing of the program.
-/
namespace Go.Proofs.YtgmdpbahcbhfjaaGreatDoor
open Go.RowKit

theorem getD_put (b : Act) (d t : Tmp) (v : Value) (hv : b.tmps.size ≤ d → v = undef) : (b.put (some d) v).tmps.getD t undef = if t = d then v else b.tmps.getD t undef := by
  by_cases h : t = d
  · subst h
    rw [if_pos rfl]
    by_cases h2 : t < b.tmps.size
    · exact put_same b t v h2
    · rw [hv (Nat.le_of_not_lt h2)]
      have e : (b.put (some t) undef).tmps = b.tmps.setIfInBounds t undef := rfl
      rw [e, Array.getD_eq_getD_getElem?, Array.getElem?_setIfInBounds]
      simp [h2]
  · rw [if_neg h]
    exact put_slot b d t v h

theorem frame_eq {a b : Act} (hs : b.tmps.size = a.tmps.size) (hd : b.defers = a.defers) (h : ∀ t, b.tmps.getD t undef = a.tmps.getD t undef) : b = a := by
  cases a with
  | mk ta da =>
    cases b with
    | mk tb db =>
      simp only at hs hd h
      subst hd
      congr 1
      refine Array.ext hs (fun i h1 h2 => ?_)
      have := h i
      simpa [Array.getD_eq_getD_getElem?, h1, h2] using this

/-- The frame behind a region, written out. -/
theorem same_puts {ops : Array Oper} {a0 a : Act} (h : Same ops a0 a) : a = (dsts ops).foldl (fun b d => b.put (some d) (a.tmps.getD d undef)) a0 := by
  have key : ∀ (l : List Tmp) (b : Act), b.tmps.size = a.tmps.size → b.defers = a.defers → (∀ t, l.contains t = false → b.tmps.getD t undef = a.tmps.getD t undef) → l.foldl (fun b d => b.put (some d) (a.tmps.getD d undef)) b = a := by
    intro l
    induction l with
    | nil => intro b h1 h2 h3; exact frame_eq h1 h2 (fun t => h3 t (by simp))
    | cons d l ih =>
      intro b h1 h2 h3
      rw [List.foldl_cons]
      refine ih _ ?_ h2 (fun t ht => ?_)
      · have e : (b.put (some d) (a.tmps.getD d undef)).tmps = b.tmps.setIfInBounds d (a.tmps.getD d undef) := rfl
        rw [e, Array.size_setIfInBounds]; exact h1
      · rw [getD_put b d t _ (fun hge => by simp [Array.getD_eq_getD_getElem?, show a.tmps.size ≤ d by omega])]
        by_cases e : t = d
        · rw [if_pos e, e]
        · rw [if_neg e]
          exact h3 t (by
            have : ¬ t ∈ l := by simpa using ht
            simp [e, this])
  exact (key (dsts ops) a0 h.size.symm h.defers.symm (fun t ht => (h.slot t ht).symm)).symm


def findRegion (n : Nat) : Code → Option Code
  | .region id ops b => if id = n then some (.region id ops b) else none
  | .seq a b => match findRegion n a with
    | some c => some c
    | none => findRegion n b
  | .block _ c => findRegion n c
  | .scope c => findRegion n c
  | .loop c => findRegion n c
  | .cond _ a b => match findRegion n a with
    | some c => some c
    | none => findRegion n b
  | _ => none

/-- Nothing that was there has turned. -/
def Lat (u v : World) : Prop := Below u.heap.size u v
theorem Lat.refl (w : World) : Lat w w := Below.refl _ _
theorem Lat.trans (a b c : World) (h : Lat a b) (k : Lat b c) : Lat a c := Below.trans h (Below.mono k h.size)
theorem Lat.draw (w : World) : Lat w { w with drawn := w.drawn + 1 } := ⟨rfl, rfl, rfl, Nat.le_refl _, fun _ _ => rfl⟩
/-- What each operation leaves. -/
def TV (tab : List Value) (i : Nat) (v : Value) (w : World) : Prop := ∀ c, tab[i]? = some c → v = c
theorem TV.stable (tab : List Value) : ∀ i v w w', TV tab i v w → Lat w w' → TV tab i v w' := fun _ _ _ _ h _ => h
theorem TV.mk {tab : List Value} {i : Nat} {v : Value} {w : World} (h : tab[i]? = some v) : TV tab i v w := fun c hc => by rw [h] at hc; exact Option.some.inj hc

end Go.Proofs.YtgmdpbahcbhfjaaGreatDoor

/-
  One element behind a row that a call owns: in its place, or in a new row, and nothing else. Nothing of the program.
-/
namespace Go.Proofs.YtgmdpbahcbhfjaaGreatDoor
open Go.RowKit

/-- What a push leaves of the rest. -/
def Pushed (w w' : World) (v : Value) (g' : Nat) : Prop := (v.ownBlock = some g' ∧ w.grownBy w' (some g')) ∨ (w.heap.size ≤ g' ∧ w.grownBy w' none)

theorem run_push {P : Program} (w : World) (t ty e : TypeId) (i : TypeInfo) (z : Value) (bytes : Nat) (ht : P.underlying t = some (.slice e)) (hi : P.info? e = some i) (hz : i.zero = some z)
    (hsize : i.size = 1) (hby : i.bytes = bytes) (hzs : z.cells.size = 1) (base : Nat) (v : Value) (n : Nat) (xs : List Value) (hown : w.ownsRow base e 1 v n xs)
    (ad : Addr) (u : Value) (hc : w.cell? ad = some u) (h1 : u.oneCell' = true) (h63 : n + 1 ≤ maxLen) (hbytes : (n + 1) * bytes ≤ 140737488355328) (hbase : base ≤ w.heap.size) :
    ∃ g' c' w', (Builtin.append_ #[t, t] ty #[v, .slice (some ad) 1 1]).run P w = .ok (.slice (some ⟨g', 0, none⟩) (n + 1) c') w' ∧
      w'.ownsRow base e 1 (.slice (some ⟨g', 0, none⟩) (n + 1) c') (n + 1) (xs ++ [u]) ∧ Pushed w w' v g' := by
  have hspot := World.cell?_spot hc
  have hnews : ∀ j x, [u][j]? = some x → w.cell? (ad.add j) = some x := by
    intro j x hj
    match j, hj with
    | 0, hj =>
      simp at hj
      subst hj
      obtain ⟨b, o, s⟩ := ad
      simp only at hspot
      subst hspot
      rw [Addr.add_lit]
      exact hc
  have hone : ∀ x ∈ [u], x.oneCell' = true := by intro x hx; simp at hx; subst hx; exact h1
  rcases hown.2 with ⟨rfl, rfl⟩ | ⟨g, cap, cur, rfl, hbg, hg, hnc, hcm, hcs, htake⟩
  · have hxs : xs = [] := List.eq_nil_of_length_eq_zero (by simpa using hown.1)
    subst hxs
    obtain ⟨v', w', hr, ho, hgr, hiff⟩ := run_append_own (P := P) w w.heap.size t ty e i z 1 bytes ht hi hz hsize hby hzs (by omega) (.slice none 0 0) 0 [] (World.ownsRow_nil _ _ _ _) ad 1 1 [u] rfl hnews hone h63 hbytes (Nat.le_refl _)
    rcases ho.2 with ⟨_, h0⟩ | ⟨g', c', cur', rfl, hb', hh, hrest⟩
    · omega
    · exact ⟨g', c', w', by simpa using hr, ⟨by simp, .inr ⟨g', c', cur', rfl, by omega, hh, by simpa using hrest⟩⟩, .inr ⟨hb', by simpa [Value.ownBlock] using hgr⟩⟩
  · by_cases hroom : n + 1 ≤ cap
    · obtain ⟨w', hr, ho, hgr⟩ := run_append_fits (P := P) w base t ty e i 1 ht hi hsize g n cap xs hown ad 1 1 [u] rfl hnews hone hroom
      exact ⟨g, cap, w', hr, ho, .inl ⟨rfl, hgr⟩⟩
    · obtain ⟨v', w', hr, ho, hgr⟩ := run_append_arg_grows (P := P) w t ty e i z 1 bytes ht hi hz hsize hby hzs (by omega) ⟨g, 0, none⟩ n cap xs hown.1 (hown.cells rfl) ad 1 1 [u] rfl hnews (by omega) h63 hbytes
      rcases ho.2 with ⟨_, h0⟩ | ⟨g', c', cur', rfl, hb', hh, hrest⟩
      · omega
      · exact ⟨g', c', w', hr, ⟨by simp [hown.1], .inr ⟨g', c', cur', rfl, by omega, hh, hrest⟩⟩, .inr ⟨hb', hgr⟩⟩

theorem wp_push {P : Program} (w : World) {o : Oper} {a : Act} {K : Act → World → Prop} {Q : Exit → Act → World → Prop} (s x : Operand) (t : TypeId)
    (ho : o.op = .call { callee := .builtin .append, args := #[s, x], argTypes := #[t, t] }) (e : TypeId) (i : TypeInfo) (z : Value) (bytes : Nat) (ht : P.underlying t = some (.slice e)) (hi : P.info? e = some i) (hz : i.zero = some z)
    (hsize : i.size = 1) (hby : i.bytes = bytes) (hzs : z.cells.size = 1) (base : Nat) (v : Value) (n : Nat) (xs : List Value) (hs : a.eval s = v) (hown : w.ownsRow base e 1 v n xs)
    (ad : Addr) (u : Value) (hx : a.eval x = .slice (some ad) 1 1) (hc : w.cell? ad = some u) (h1 : u.oneCell' = true) (h63 : n + 1 ≤ maxLen) (hbytes : (n + 1) * bytes ≤ 140737488355328) (hbase : base ≤ w.heap.size)
    (h : ∀ g' c' w', w'.ownsRow base e 1 (.slice (some ⟨g', 0, none⟩) (n + 1) c') (n + 1) (xs ++ [u]) → Pushed w w' v g' → K (a.put o.dst (.slice (some ⟨g', 0, none⟩) (n + 1) c')) w') : o.wp P a w K Q := by
  obtain ⟨g', c', w', hr, h2, h3⟩ := run_push (P := P) w t o.type e i z bytes ht hi hz hsize hby hzs base v n xs hown ad u hc h1 h63 hbytes hbase
  unfold Oper.wp
  simp [execOp, ho, resolve, invoke, builtin, hs, hx, hr, Result.andThen]
  exact h g' c' w' h2 h3

theorem wpList_push {P : Program} (w : World) {ops : Array Oper} {rest : List Oper} {o : Oper} {a : Act} {Q : Exit → Act → World → Prop} (hgd : o.guard = none) (s x : Operand) (t : TypeId)
    (ho : o.op = .call { callee := .builtin .append, args := #[s, x], argTypes := #[t, t] }) (e : TypeId) (i : TypeInfo) (z : Value) (bytes : Nat) (ht : P.underlying t = some (.slice e)) (hi : P.info? e = some i) (hz : i.zero = some z)
    (hsize : i.size = 1) (hby : i.bytes = bytes) (hzs : z.cells.size = 1) (base : Nat) (v : Value) (n : Nat) (xs : List Value) (hs : a.eval s = v) (hown : w.ownsRow base e 1 v n xs)
    (ad : Addr) (u : Value) (hx : a.eval x = .slice (some ad) 1 1) (hc : w.cell? ad = some u) (h1 : u.oneCell' = true) (h63 : n + 1 ≤ maxLen) (hbytes : (n + 1) * bytes ≤ 140737488355328) (hbase : base ≤ w.heap.size)
    (h : ∀ g' c' w', w'.ownsRow base e 1 (.slice (some ⟨g', 0, none⟩) (n + 1) c') (n + 1) (xs ++ [u]) → Pushed w w' v g' → wpList P ops Q rest (a.put o.dst (.slice (some ⟨g', 0, none⟩) (n + 1) c')) w') : wpList P ops Q (o :: rest) a w :=
  wpList_plain hgd fun _ hK => wp_push w s x t ho e i z bytes ht hi hz hsize hby hzs base v n xs hs hown ad u hx hc h1 h63 hbytes hbase fun g' c' w' h2 h3 => hK _ _ (h g' c' w' h2 h3)

theorem step_push {P : Program} (w : World) {ops : Array Oper} {o : Oper} {a : Act} {K : Act → World → Prop} {Q : Exit → Act → World → Prop} {E : Prop} (hgd : o.guard = none) (s x : Operand) (t : TypeId)
    (ho : o.op = .call { callee := .builtin .append, args := #[s, x], argTypes := #[t, t] }) (e : TypeId) (i : TypeInfo) (z : Value) (bytes : Nat) (ht : P.underlying t = some (.slice e)) (hi : P.info? e = some i) (hz : i.zero = some z)
    (hsize : i.size = 1) (hby : i.bytes = bytes) (hzs : z.cells.size = 1) (base : Nat) (v : Value) (n : Nat) (xs : List Value) (hs : a.eval s = v) (hown : w.ownsRow base e 1 v n xs)
    (ad : Addr) (u : Value) (hx : a.eval x = .slice (some ad) 1 1) (hc : w.cell? ad = some u) (h1 : u.oneCell' = true) (h63 : n + 1 ≤ maxLen) (hbytes : (n + 1) * bytes ≤ 140737488355328) (hbase : base ≤ w.heap.size)
    (h : ∀ g' c' w', w'.ownsRow base e 1 (.slice (some ⟨g', 0, none⟩) (n + 1) c') (n + 1) (xs ++ [u]) → Pushed w w' v g' → K (a.put o.dst (.slice (some ⟨g', 0, none⟩) (n + 1) c')) w') :
    if Region.wanted o (yielded ops a.tmps) = true then Oper.wp P o a w K Q else E := by
  have hw : Region.wanted o (yielded ops a.tmps) = true := by simp [Region.wanted, hgd]
  rw [if_pos hw]
  exact wp_push w s x t ho e i z bytes ht hi hz hsize hby hzs base v n xs hs hown ad u hx hc h1 h63 hbytes hbase h

end Go.Proofs.YtgmdpbahcbhfjaaGreatDoor

/-
  Worlds of which some blocks may have changed. Nothing of the program.
-/
namespace Go.Proofs.YtgmdpbahcbhfjaaGreatDoor
open Go.RowKit

theorem hidden {p : Prop} (h : p) : Hid p := h

/-- All blocks but these are as they were. -/
structure Chg (F : Nat → Prop) (w w' : World) : Prop where
  os : w'.os = w.os
  tape : w'.tape = w.tape
  output : w'.output = w.output
  size : w.heap.size ≤ w'.heap.size
  block : ∀ k, k < w.heap.size → ¬ F k → w'.heap[k]? = w.heap[k]?

theorem Chg.refl (F : Nat → Prop) (w : World) : Chg F w w := ⟨rfl, rfl, rfl, Nat.le_refl _, fun _ _ _ => rfl⟩
theorem Chg.trans {F G : Nat → Prop} {a b c : World} (h : Chg F a b) (k : Chg G b c) (hs : ∀ i, i < a.heap.size → G i → F i) : Chg F a c :=
  ⟨k.os.trans h.os, k.tape.trans h.tape, k.output.trans h.output, Nat.le_trans h.size k.size, fun i hi hF => (k.block i (Nat.lt_of_lt_of_le hi h.size) (fun g => hF (hs i hi g))).trans (h.block i hi hF)⟩
theorem Chg.mono {F G : Nat → Prop} {a b : World} (h : Chg F a b) (hs : ∀ i, i < a.heap.size → F i → G i) : Chg G a b :=
  ⟨h.os, h.tape, h.output, h.size, fun i hi hG => h.block i hi (fun f => hG (hs i hi f))⟩
theorem Chg.below {F : Nat → Prop} {B : Nat} {a b : World} (h : Chg F a b) (hB : B ≤ a.heap.size) (hs : ∀ i, F i → B ≤ i) : Below B a b :=
  ⟨h.os, h.tape, h.output, h.size, fun i hi => h.block i (Nat.lt_of_lt_of_le hi hB) (fun f => by have := hs i f; omega)⟩
theorem Chg.of_below {F : Nat → Prop} {a b : World} (h : Below a.heap.size a b) : Chg F a b := ⟨h.os, h.tape, h.output, h.size, fun i hi _ => h.block i hi⟩
theorem Chg.of_grown {F : Nat → Prop} {a b : World} {row : Option Nat} (h : a.grownBy b row) (hs : ∀ i, row = some i → F i) : Chg F a b :=
  ⟨h.os, h.tape, h.output, h.size, fun i hi hF => h.block i hi (fun e => hF (hs i e.symm))⟩
theorem Chg.set (p : Addr) (v : Value) (w : World) : Chg (fun i => i = p.block) w (w.setCell p v) :=
  ⟨rfl, rfl, rfl, by simp [World.setCell], fun k _ hk => heap_setCell_other w p k v (fun e => hk (by simp [e]))⟩
theorem Chg.drew (F : Nat → Prop) (w : World) : Chg F w w.drew := ⟨rfl, rfl, rfl, Nat.le_refl _, fun _ _ _ => rfl⟩
theorem Chg.drewN (F : Nat → Prop) (w : World) (n : Nat) : Chg F w (w.drewN n) := Chg.of_below (below_drewN (Below.refl _ _) n)
theorem Chg.blk {F : Nat → Prop} {a b : World} {g : Nat} {ty : TypeId} {l : List Value} (h : Chg F a b) (hB : Blk a g ty l) (hF : ¬ F g) : Blk b g ty l := by
  unfold Blk at *
  rw [h.block g (Blk.lt hB) hF]
  exact hB
theorem Chg.owns {F : Nat → Prop} {a b : World} {base : Nat} {e : TypeId} {size : Nat} {v : Value} {n : Nat} {xs : List Value} (h : Chg F a b) (hO : a.ownsRow base e size v n xs) (hF : ∀ g, v.ownBlock = some g → ¬ F g) : b.ownsRow base e size v n xs := by
  refine ⟨hO.1, ?_⟩
  rcases hO.2 with h0 | ⟨g, cap, cur, rfl, hb, hh, r⟩
  · exact .inl h0
  · refine .inr ⟨g, cap, cur, rfl, hb, ?_, r⟩
    rw [h.block g (Array.getElem?_eq_some_iff.1 hh).1 (hF g rfl)]
    exact hh
theorem owns_lt {w : World} {base : Nat} {e : TypeId} {size : Nat} {v : Value} {n : Nat} {xs : List Value} (hO : w.ownsRow base e size v n xs) : ∀ g, v.ownBlock = some g → g < w.heap.size := by
  intro g hg
  rcases hO.2 with ⟨rfl, _⟩ | ⟨g', cap, cur, rfl, hb, hh, r⟩
  · cases hg
  · obtain rfl : g' = g := by simpa [Value.ownBlock] using hg
    exact (Array.getElem?_eq_some_iff.1 hh).1
/-- A new row's block is the old one or new. -/
def Moved (w : World) (rb rb' : Option Nat) : Prop := rb' = rb ∨ ∃ g, rb' = some g ∧ w.heap.size ≤ g
theorem Moved.trans {a b : World} {r s t : Option Nat} (h : Moved a r s) (k : Moved b s t) (hs : a.heap.size ≤ b.heap.size) : Moved a r t := by
  rcases k with rfl | ⟨g, rfl, hg⟩
  · exact h
  · exact .inr ⟨g, rfl, by omega⟩
theorem Chg.alloc (F : Nat → Prop) (w : World) (o : Obj) : Chg F w (w.alloc o) := Chg.of_below ((Below.refl _ _).alloc (Nat.le_refl _) _)
theorem Pushed.chg {w w6 : World} {v : Value} {g6 : Nat} {o : Obj} (hp : Pushed (w.alloc o) w6 v g6) : Chg (fun i => v.ownBlock = some i) w w6 ∧ Moved w v.ownBlock (some g6) := by
  rcases hp with ⟨h1, h2⟩ | ⟨h1, h2⟩
  · exact ⟨(Chg.alloc _ w o).trans (Chg.of_grown (F := fun i => v.ownBlock = some i) h2 (fun i hi => by rw [h1]; exact hi)) (fun i _ hi => hi), .inl h1.symm⟩
  · refine ⟨(Chg.alloc _ w o).trans (Chg.of_grown (F := fun i => v.ownBlock = some i) h2 (fun i hi => by cases hi)) (fun i _ hi => hi), .inr ⟨g6, rfl, ?_⟩⟩
    have : w.heap.size ≤ (w.alloc o).heap.size := by simp
    omega
/-- The type of a block's cells. -/
def Tg (w : World) (i : Nat) (t : TypeId) : Prop := ∃ cs fr, w.heap[i]? = some (.cells cs t fr)
theorem Tg.one {w : World} {i : Nat} {s t : TypeId} (h : Tg w i s) (k : Tg w i t) : s = t := by
  obtain ⟨c1, f1, h⟩ := h
  obtain ⟨c2, f2, k⟩ := k
  rw [h] at k
  cases k
  rfl
theorem Blk.tg {w : World} {i : Nat} {t : TypeId} {l : List Value} (h : Blk w i t l) : Tg w i t := ⟨_, _, h⟩
theorem owns_tg {w : World} {base : Nat} {e : TypeId} {size : Nat} {v : Value} {n : Nat} {xs : List Value} (h : w.ownsRow base e size v n xs) : ∀ i, v.ownBlock = some i → Tg w i e := by
  intro i hi
  rcases h.2 with ⟨rfl, _⟩ | ⟨g', cap, cur, rfl, hb, hh, r⟩
  · cases hi
  · obtain rfl : g' = i := by simpa [Value.ownBlock] using hi
    exact ⟨_, _, hh⟩

end Go.Proofs.YtgmdpbahcbhfjaaGreatDoor
/-
  The rule of ..Any for a region whose last operations wait for all others: they come in the text's order. Nothing of the program.
-/
namespace Go.Proofs.YtgmdpbahcbhfjaaGreatDoor
open Go.RowKit

section
variable {P : Program} {ops : Array Oper} {Q : Exit → Act → World → Prop} {Later : World → World → Prop} {T : Nat → Value → World → Prop} {a0 : Act} {w0 : World}

end

end Go.Proofs.YtgmdpbahcbhfjaaGreatDoor

/-
  As ..AnyW: a region whose last operations wait for all others but one, which may be any; and operations that have guards. Nothing of the program.
-/
namespace Go.Proofs.YtgmdpbahcbhfjaaGreatDoor
open Go.RowKit

section
variable {P : Program} {ops : Array Oper} {Q : Exit → Act → World → Prop} {Later : World → World → Prop} {T : Nat → Value → World → Prop} {a0 : Act} {w0 : World}

end

end Go.Proofs.YtgmdpbahcbhfjaaGreatDoor

/-
  The rule of ..Any, wider: a store's place is where its address lies; rows that calls of the region make are no two the same. Nothing of the program.
-/
namespace Go.Proofs.YtgmdpbahcbhfjaaGreatDoor
open Go.RowKit

/-- Where what an operation tells is looked for: what it writes, or a store's address. -/
def place (o : Oper) : Option Tmp :=
  match o.dst with
  | some d => some d
  | none => match o.op with
    | .store _ (.tmp t) _ => some t
    | _ => none
def valAt (a : Act) (o : Oper) : Value :=
  match place o with
  | some d => a.tmps.getD d undef
  | none => undef
/-- What is told behind a step. -/
def told (o : Oper) (a : Act) (v : Value) : Value :=
  match o.dst with
  | some _ => v
  | none => valAt a o

/-- A row that this step has made. -/
def Newly (w w' : World) (v : Value) : Prop := ∀ x, v.ownBlock = some x → w.heap.size ≤ x ∧ x < w'.heap.size
def Apart (v u : Value) : Prop := ∀ x, v.ownBlock = some x → u.ownBlock ≠ some x
theorem Apart.symm {v u : Value} (h : Apart v u) : Apart u v := fun x hx e => h x e hx

def placesOk (ops : Array Oper) : Bool := (List.range ops.size).all fun i => (List.range ops.size).all fun j => i == j || match ops[i]?, ops[j]? with
  | some x, some y => y.dst.isNone || place x != y.dst || (x.dst.isNone && x.after.any fun e => Region.binds .any e && e.on == j)
  | _, _ => true

section
variable {P : Program} {ops : Array Oper} {Q : Exit → Act → World → Prop} {Later : World → World → Prop} {T : Nat → Value → World → Prop} {S : Nat → Bool} {a0 : Act} {w0 : World}

theorem placesOk_spec (h : placesOk ops = true) {i j : Nat} {x y : Oper} (hi : ops[i]? = some x) (hj : ops[j]? = some y) (hij : i ≠ j) {d : Tmp} (hd : y.dst = some d) (hp : place x = some d) : ∃ e ∈ x.after, Region.binds .any e = true ∧ e.on = j := by
  have h1 := (Array.getElem?_eq_some_iff.1 hi).1
  have h2 := (Array.getElem?_eq_some_iff.1 hj).1
  have := List.all_eq_true.1 (List.all_eq_true.1 h i (List.mem_range.2 h1)) j (List.mem_range.2 h2)
  simp only [hi, hj, hd, hp] at this
  simp [hij] at this
  obtain ⟨_, k, hk, hb, he⟩ := this
  exact ⟨x.after[k], by simp, hb, he⟩

theorem valAt_put {a : Act} {i j : Nat} {x y : Oper} {v : Value} (hi : ops[i]? = some x) (hj : ops[j]? = some y) (hne : ∀ d, y.dst = some d → place x ≠ some d) : valAt (a.put y.dst v) x = valAt a x := by
  unfold valAt
  cases hx : place x with
  | none => rfl
  | some d =>
    cases hy : y.dst with
    | none => rfl
    | some c =>
      simp only
      refine put_slot a c d v (fun e => ?_)
      subst e
      exact hne _ hy hx

theorem valAt_put_same {a : Act} {i : Nat} {x : Oper} {v : Value} (hsz : within ops a.tmps.size = true) (hi : ops[i]? = some x) : valAt (a.put x.dst v) x = told x a v := by
  unfold told
  cases hd : x.dst with
  | none => rfl
  | some d =>
    unfold valAt
    have : place x = some d := by unfold place; rw [hd]
    rw [this]
    exact put_same a d v (within_spec hsz hi hd)

end

/-- What an operation leaves, with the reason why it lasts. -/
structure Ent (Later : World → World → Prop) where
  p : Value → World → Prop
  st : ∀ v w w', p v w → Later w w' → p v w'
def Ent.val {Later : World → World → Prop} (c : Value) : Ent Later := ⟨fun v _ => v = c, fun _ _ _ h _ => h⟩
def TE {Later : World → World → Prop} (tab : List (Ent Later)) (i : Nat) (v : Value) (w : World) : Prop :=
  match tab[i]? with
  | some e => e.p v w
  | none => True
theorem TE_stable {Later : World → World → Prop} (tab : List (Ent Later)) : ∀ i v w w', TE tab i v w → Later w w' → TE tab i v w' := by
  intro i v w w' h hb
  unfold TE at *
  split at h
  · rename_i e _
    exact e.st _ _ _ h hb
  · trivial

end Go.Proofs.YtgmdpbahcbhfjaaGreatDoor

/-
  The rule of ..AnyB with a relation for each operation's step: what an operation has left must outlast those steps alone that may come behind it. Nothing of the program.
-/
namespace Go.Proofs.YtgmdpbahcbhfjaaGreatDoor
open Go.RowKit

theorem placesOk_apart {ops : Array Oper} (h : placesOk ops = true) {i j : Nat} {x y : Oper} (hi : ops[i]? = some x) (hj : ops[j]? = some y) (hij : i ≠ j) {d : Tmp} (hx : x.dst = some d) (hy : y.dst = some d) : False := by
  have h1 := (Array.getElem?_eq_some_iff.1 hi).1
  have h2 := (Array.getElem?_eq_some_iff.1 hj).1
  have := List.all_eq_true.1 (List.all_eq_true.1 h i (List.mem_range.2 h1)) j (List.mem_range.2 h2)
  have hp : place x = some d := by unfold place; rw [hx]
  simp only [hi, hj, hy, hp, hx] at this
  simp [hij] at this

section
variable {P : Program} {ops : Array Oper} {Q : Exit → Act → World → Prop} {Later : World → World → Prop} {Ls : Nat → World → World → Prop} {Early : World → Prop} {q : Nat} {T : Nat → Value → World → Prop} {S : Nat → Bool} {a0 : Act} {w0 : World}

end


end Go.Proofs.YtgmdpbahcbhfjaaGreatDoor
/-
  A drawn region, each operation shown once; what holds ahead of each of them may end by it. Nothing of the program. (As AnyW's rule with one such operation.)
-/
namespace Go.Proofs.YtgmdpbahcbhfjaaGreatDoor
open Go.RowKit

section
variable {P : Program} {ops : Array Oper} {Q : Exit → Act → World → Prop} {Later : World → World → Prop} {Ls : Nat → World → World → Prop} {Early : Nat → World → Prop} {T : Nat → Value → World → Prop} {S : Nat → Bool} {a0 : Act} {w0 : World}

def StepOkE (P : Program) (ops : Array Oper) (Q : Exit → Act → World → Prop) (Later : World → World → Prop) (Ls : Nat → World → World → Prop) (Early : Nat → World → Prop) (T : Nat → Value → World → Prop) (S : Nat → Bool) (a0 : Act) (w0 : World) (i : Nat) (o : Oper) : Prop :=
  ∀ (a : Act) (w : World), Later w0 w → Early i w → (∀ (j : Nat) (oj : Oper) (d : Tmp), ops[j]? = some oj → oj.dst = some d → (∃ e ∈ oj.after, Region.binds .any e = true ∧ e.on = i) → a.tmps.getD d undef = a0.tmps.getD d undef) → Same ops a0 a →
    (∀ e ∈ o.after, Region.binds .any e = true → ∀ oj, ops[e.on]? = some oj → T e.on (valAt a oj) w) →
    (∀ e ∈ o.after, ∀ f ∈ o.after, Region.binds .any e = true → Region.binds .any f = true → e.on ≠ f.on → S e.on = true → S f.on = true → ∀ oj ok, ops[e.on]? = some oj → ops[f.on]? = some ok → Apart (valAt a oj) (valAt a ok)) →
    if Region.wanted o (yielded ops a.tmps) = true then o.wp P a w (fun a' w' => ∃ v, a' = a.put o.dst v ∧ Ls i w w' ∧ T i (told o a v) w' ∧ (S i = true → Newly w w' (told o a v))) Q else T i (told o a undef) w ∧ (S i = true → Newly w w (told o a undef))

/-- THE RULE. -/
theorem wpAny_invE (hap : placesOk ops = true) (hf : forward ops = true) (hsz : within ops a0.tmps.size = true)
    (hrl : ∀ i a, Ls i a a) (htr : ∀ a b c, Later a b → Later b c → Later a c) (hsub : ∀ i w w', Ls i w w' → Later w w') (hE : ∀ i j oj w w', ops[j]? = some oj → j ≠ i → (∀ e ∈ oj.after, Region.binds .any e = true → e.on ≠ i ∧ ∀ oe, ops[e.on]? = some oe → ∀ f ∈ oe.after, Region.binds .any f = true → f.on ≠ i) → Ls j w w' → Early i w → Early i w') (hst : ∀ i j oi, ops[i]? = some oi → i ≠ j → (∀ e ∈ oi.after, Region.binds .any e = true → e.on ≠ j) → ∀ v w w', T i v w → Ls j w w' → T i v w') (hls : ∀ w w', Later w w' → w.heap.size ≤ w'.heap.size)
    (hop : ∀ i o, ops[i]? = some o → StepOkE P ops Q Later Ls Early T S a0 w0 i o)
    (hdone : ∀ a w, Later w0 w → Same ops a0 a → (∀ i o, ops[i]? = some o → T i (valAt a o) w) → Q .normal a w) :
    ∀ (fuel : Nat) (listed : Array Bool) (a : Act) (w : World), listed.size = ops.size → listed.toList.countP id + fuel = ops.size → Later w0 w → (∀ q, listed.getD q true = false → Early q w) → (∀ (j : Nat) (oj : Oper) (d : Tmp), ops[j]? = some oj → oj.dst = some d → listed.getD j true = false → a.tmps.getD d undef = a0.tmps.getD d undef) → Same ops a0 a →
      (∀ i o, ops[i]? = some o → listed.getD i true = true → T i (valAt a o) w ∧ (S i = true → ∀ x, (valAt a o).ownBlock = some x → x < w.heap.size) ∧ ∀ e ∈ o.after, Region.binds .any e = true → listed.getD e.on false = true) →
      (∀ i j oi oj, ops[i]? = some oi → ops[j]? = some oj → listed.getD i true = true → listed.getD j true = true → i ≠ j → S i = true → S j = true → Apart (valAt a oi) (valAt a oj)) → wpAny P .any ops Q fuel listed a w := by
  intro fuel
  induction fuel with
  | zero =>
    intro listed a w hl hc hw hEw hU hs hT hX
    have hall2 : ∀ i, i < ops.size → listed.getD i true = true := by
      intro i hi
      have := List.countP_eq_length.1 (show listed.toList.countP id = listed.toList.length by rw [Array.length_toList]; omega) listed[i] (by simp)
      rw [Array.getD_eq_getD_getElem?]
      simpa [show i < listed.size by omega] using this
    refine ⟨?_, hdone a w hw hs fun i o hi => (hT i o hi (hall2 i (Array.getElem?_eq_some_iff.1 hi).1)).1⟩
    cases hr : Region.ready .any ops listed with
    | nil => rfl
    | cons j t =>
      exfalso
      have hj : j ∈ Region.ready .any ops listed := by rw [hr]; simp
      rw [mem_ready] at hj
      obtain ⟨h0, o, ho, _⟩ := hj
      rw [hall2 j (Array.getElem?_eq_some_iff.1 ho).1] at h0
      cases h0
  | succ fuel ih =>
    intro listed a w hl hc hw hEw hU hs hT hX
    refine ⟨fun hr => hdone a w hw hs fun i o hi => (hT i o hi (not_ready hf hl hr i (Array.getElem?_eq_some_iff.1 hi).1)).1, fun i hi => ?_⟩
    rw [mem_ready] at hi
    obtain ⟨h0, o, ho, hdeps⟩ := hi
    have hlt := (Array.getElem?_eq_some_iff.1 ho).1
    have hyes : ∀ k ok, ops[k]? = some ok → listed.getD k false = true → listed.getD k true = true := by
      intro k ok hk this
      have hlt2 := (Array.getElem?_eq_some_iff.1 hk).1
      rw [Array.getD_eq_getD_getElem?] at this ⊢
      have hb2 : k < listed.size := by omega
      simpa [hb2] using this
    have step := hop i o ho a w hw (hEw i h0) (fun j oj d hj hd hex => hU j oj d hj hd (by
      cases hc : listed.getD j true with
      | false => rfl
      | true =>
        exfalso
        obtain ⟨e, he, hb, hon2⟩ := hex
        have h3 := (hT j oj hj hc).2.2 e he hb
        rw [hon2] at h3
        rw [hyes i o ho h3] at h0
        cases h0)) hs (fun e he hb oj hoj => (hT e.on oj hoj (hyes _ _ hoj (hdeps e he hb))).1)
      (fun e he f hf2 hb hb2 hne hS1 hS2 oj ok hoj hok => hX _ _ _ _ hoj hok (hyes _ _ hoj (hdeps e he hb)) (hyes _ _ hok (hdeps f hf2 hb2)) hne hS1 hS2)
    have next : ∀ v w', Ls i w w' → T i (told o a v) w' → (S i = true → Newly w w' (told o a v)) → wpAny P .any ops Q fuel (listed.setIfInBounds i true) (a.put o.dst v) w' := by
      intro v w' hls2 hT2 hN2
      have hl2 := hsub _ _ _ hls2
      have hback : ∀ j, i ≠ j → (listed.setIfInBounds i true).getD j true = true → listed.getD j true = true := by
        intro j hij hjl
        rw [Array.getD_eq_getD_getElem?, Array.getElem?_setIfInBounds, if_neg hij] at hjl
        rw [Array.getD_eq_getD_getElem?]
        exact hjl
      have hon : ∀ k, listed.getD k false = true → (listed.setIfInBounds i true).getD k false = true := by
        intro k hk
        rw [Array.getD_eq_getD_getElem?] at hk ⊢
        rw [Array.getElem?_setIfInBounds]
        by_cases hik : i = k
        · simp [hik, show k < listed.size by omega]
        · rw [if_neg hik]; exact hk
      have hval : ∀ j oj, ops[j]? = some oj → i ≠ j → listed.getD j true = true → valAt (a.put o.dst v) oj = valAt a oj := by
        intro j oj hj hij hjl
        refine valAt_put hj ho (fun d hd hp => ?_)
        obtain ⟨e, he, hb, hon2⟩ := placesOk_spec hap hj ho (fun h => hij h.symm) hd hp
        have := (hT j oj hj hjl).2.2 e he hb
        rw [hon2] at this
        have h3 := hyes i o ho this
        rw [h3] at h0
        cases h0
      refine ih _ _ _ (by rw [Array.size_setIfInBounds]; exact hl) ?_ (htr _ _ _ hw hl2) ?hearly ?hunt (same_put ho hs) ?_ ?_
      case hunt =>
        intro j oj d hj hd hjl
        have hij : i ≠ j := by
          intro e
          subst e
          rw [Array.getD_eq_getD_getElem?, Array.getElem?_setIfInBounds] at hjl
          simp [show i < listed.size by omega] at hjl
        rw [Array.getD_eq_getD_getElem?, Array.getElem?_setIfInBounds, if_neg hij, ← Array.getD_eq_getD_getElem?] at hjl
        refine Eq.trans ?_ (hU j oj d hj hd hjl)
        cases hod : o.dst with
        | none => rfl
        | some c => exact put_slot a c d v (fun e => placesOk_apart hap hj ho (fun h => hij h.symm) hd (by rw [hod, e]))
      case hearly =>
        intro q hq
        rw [Array.getD_eq_getD_getElem?, Array.getElem?_setIfInBounds] at hq
        by_cases hiq : i = q
        · simp [hiq, show q < listed.size by omega] at hq
        · rw [if_neg hiq] at hq
          have hno : listed.getD q false = true → False := fun hh => by
            rw [Array.getD_eq_getD_getElem?] at hh
            cases hc2 : listed[q]? with
            | none => rw [hc2] at hq; cases hq
            | some b => rw [hc2] at hq hh; simp at hq hh; rw [hq] at hh; cases hh
          exact hE q i o w w' ho hiq (fun e he hb => ⟨fun heq => hno (by rw [← heq]; exact hdeps e he hb), fun oe hoe f hf hb2 heq => hno (by rw [← heq]; exact (hT e.on oe hoe (hyes _ _ hoe (hdeps e he hb))).2.2 f hf hb2)⟩) hls2 (hEw q (by rw [Array.getD_eq_getD_getElem?]; exact hq))
      · rw [Array.toList_setIfInBounds, List.countP_set (by rw [Array.length_toList]; omega)]
        have hf0 : listed.toList[i]'(by rw [Array.length_toList]; omega) = false := by
          rw [Array.getD_eq_getD_getElem?] at h0
          simpa [show i < listed.size by omega] using h0
        rw [hf0]
        show listed.toList.countP id - 0 + 1 + fuel = ops.size
        omega
      · intro j oj hj hjl
        by_cases hij : i = j
        · subst hij
          rw [ho] at hj
          obtain rfl := Option.some.inj hj
          rw [valAt_put_same (by rw [hs.size]; exact hsz) ho]
          exact ⟨hT2, fun hS x hx => (hN2 hS x hx).2, fun e he hb => hon _ (hdeps e he hb)⟩
        · have hjl2 := hback j hij hjl
          rw [hval j oj hj hij hjl2]
          obtain ⟨q1, q2, q3⟩ := hT j oj hj hjl2
          exact ⟨hst j i oj hj (fun h => hij h.symm) (fun e he hb hon2 => by
            have h3 := q3 e he hb
            rw [hon2] at h3
            rw [hyes i o ho h3] at h0
            cases h0) _ _ _ q1 hls2, fun hS x hx => Nat.lt_of_lt_of_le (q2 hS x hx) (hls _ _ hl2), fun e he hb => hon _ (q3 e he hb)⟩
      · have key : ∀ j oj, ops[j]? = some oj → i ≠ j → listed.getD j true = true → S i = true → S j = true → Apart (told o a v) (valAt a oj) := by
          intro j oj hj hij hjl hS1 hS2 x hx e
          have h3 := (hN2 hS1 x hx).1
          have h4 := (hT j oj hj hjl).2.1 hS2 x e
          omega
        intro j k oj ok hj hk hjl hkl hjk hS1 hS2
        by_cases hij : i = j
        · subst hij
          rw [ho] at hj
          obtain rfl := Option.some.inj hj
          have hkl2 := hback k hjk hkl
          rw [valAt_put_same (by rw [hs.size]; exact hsz) ho, hval k ok hk hjk hkl2]
          exact key k ok hk hjk hkl2 hS1 hS2
        · have hjl2 := hback j hij hjl
          rw [hval j oj hj hij hjl2]
          by_cases hik : i = k
          · subst hik
            rw [ho] at hk
            obtain rfl := Option.some.inj hk
            rw [valAt_put_same (by rw [hs.size]; exact hsz) ho]
            exact (key j oj hj hij hjl2 hS2 hS1).symm
          · have hkl2 := hback k hik hkl
            rw [hval k ok hk hik hkl2]
            exact hX j k oj ok hj hk hjl2 hkl2 hjk hS1 hS2
    unfold wpOp
    simp only [ho]
    split
    · rename_i hwant
      rw [if_pos hwant] at step
      left
      refine Oper.wp_mono (fun a' w' h' => ?_) step
      obtain ⟨v, rfl, h1, h2, h3⟩ := h'
      exact next v w' h1 h2 h3
    · rename_i hwant
      rw [if_neg hwant] at step
      exact next undef w (hrl i w) step.1 step.2

theorem wp_region_invE (Later : World → World → Prop) (Ls : Nat → World → World → Prop) (Early : Nat → World → Prop) (T : Nat → Value → World → Prop) (S : Nat → Bool) {id : Nat} {a : Act} {w : World} (hm : P.follows .mixedOrders = true)
    (hap : placesOk ops = true) (hf : forward ops = true) (hsz : within ops a.tmps.size = true)
    (hrl : ∀ i a, Ls i a a) (htr : ∀ a b c, Later a b → Later b c → Later a c) (hsub : ∀ i w w', Ls i w w' → Later w w') (hE : ∀ i j oj w w', ops[j]? = some oj → j ≠ i → (∀ e ∈ oj.after, Region.binds .any e = true → e.on ≠ i ∧ ∀ oe, ops[e.on]? = some oe → ∀ f ∈ oe.after, Region.binds .any f = true → f.on ≠ i) → Ls j w w' → Early i w → Early i w') (hst : ∀ i j oi, ops[i]? = some oi → i ≠ j → (∀ e ∈ oi.after, Region.binds .any e = true → e.on ≠ j) → ∀ v w w', T i v w → Ls j w w' → T i v w') (hls : ∀ w w', Later w w' → w.heap.size ≤ w'.heap.size)
    (hdr : Later w { w with drawn := w.drawn + 1 }) (hE0 : ∀ i, Early i { w with drawn := w.drawn + 1 })
    (hop : ∀ i o, ops[i]? = some o → StepOkE P ops Q Later Ls Early T S a w i o)
    (hdone : ∀ a' w', Later w w' → Same ops a a' → (∀ i o, ops[i]? = some o → T i (valAt a' o) w') → Q .normal a' w') : (Code.region id ops true).wp P Q a w :=
  wp_region_any hm (wpAny_invE (a0 := a) (w0 := w) hap hf hsz hrl htr hsub hE hst hls hop hdone ops.size (Array.replicate ops.size false) a _ (by simp) (by simp) hdr (fun q _ => hE0 q) (fun _ _ _ _ _ _ => rfl) ⟨rfl, rfl, fun _ _ => rfl⟩ (fun i o hi hl => by
    have := (Array.getElem?_eq_some_iff.1 hi).1
    rw [Array.getD_eq_getD_getElem?] at hl
    simp [this] at hl) (fun i j oi oj hi hj hl => by
    have := (Array.getElem?_eq_some_iff.1 hi).1
    rw [Array.getD_eq_getD_getElem?] at hl
    simp [this] at hl))

theorem stepE_yes {i : Nat} {o : Oper} {a : Act} {w : World} (hw : Region.wanted o (yielded ops a.tmps) = true) (h : o.wp P a w (fun a' w' => ∃ v, a' = a.put o.dst v ∧ Ls i w w' ∧ T i (told o a v) w' ∧ (S i = true → Newly w w' (told o a v))) Q) :
    if Region.wanted o (yielded ops a.tmps) = true then o.wp P a w (fun a' w' => ∃ v, a' = a.put o.dst v ∧ Ls i w w' ∧ T i (told o a v) w' ∧ (S i = true → Newly w w' (told o a v))) Q else T i (told o a undef) w ∧ (S i = true → Newly w w (told o a undef)) := by rw [if_pos hw]; exact h

theorem okE_value {i : Nat} {o : Oper} {a : Act} {w : World} (hrl : ∀ i a, Ls i a a) (hS : S i = false) (v : Value) (h : (execOp a.eval o).run P w = .ok (.value v) w) (hT : T i (told o a v) w) : o.wp P a w (fun a' w' => ∃ v, a' = a.put o.dst v ∧ Ls i w w' ∧ T i (told o a v) w' ∧ (S i = true → Newly w w' (told o a v))) Q := by
  unfold Oper.wp
  rw [h]
  exact ⟨v, rfl, hrl i w, hT, fun e => by rw [hS] at e; cases e⟩
end
end Go.Proofs.YtgmdpbahcbhfjaaGreatDoor
