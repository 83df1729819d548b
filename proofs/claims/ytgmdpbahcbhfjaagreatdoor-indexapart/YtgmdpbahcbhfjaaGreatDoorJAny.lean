import Derived.WalkKit
import Derived.Orders
set_option linter.unusedSimpArgs false
set_option linter.unusedVariables false
set_option maxHeartbeats 40000000
set_option maxRecDepth 100000
/-
  A region that draws its order, walked in no order at all: each operation is shown once, from what the operations that it waits for have left. Nothing of the program.
-/
namespace Go.Proofs.YtgmdpbahcbhfjaaGreatDoor.J
open Go.RowKit

section
variable {P : Program} {ops : Array Oper} {Q : Exit → Act → World → Prop} {Later : World → World → Prop} {T : Nat → Value → World → Prop} {a0 : Act} {w0 : World}

/-- What stands where an operation has left its value. -/
def valOf (a : Act) (o : Oper) : Value :=
  match o.dst with
  | some d => a.tmps.getD d undef
  | none => undef
/-- All places that the region writes. -/
def dsts (ops : Array Oper) : List Tmp := ops.toList.filterMap (fun o => o.dst)

/-- What the rest of the frame is. -/
structure Same (ops : Array Oper) (a0 a : Act) : Prop where
  size : a.tmps.size = a0.tmps.size
  defers : a.defers = a0.defers
  slot : ∀ t, (dsts ops).contains t = false → a.tmps.getD t undef = a0.tmps.getD t undef

/-- One operation, whenever it comes up. -/
def StepOk (P : Program) (ops : Array Oper) (Q : Exit → Act → World → Prop) (Later : World → World → Prop) (T : Nat → Value → World → Prop) (a0 : Act) (w0 : World) (i : Nat) (o : Oper) : Prop :=
  ∀ (a : Act) (w : World), Later w0 w → Same ops a0 a →
    (∀ e ∈ o.after, Region.binds .any e = true → ∀ oj, ops[e.on]? = some oj → T e.on (valOf a oj) w) →
    if Region.wanted o (yielded ops a.tmps) = true then o.wp P a w (fun a' w' => ∃ v, a' = a.put o.dst v ∧ Later w w' ∧ T i v w') Q else T i undef w

theorem put_slot (a : Act) (d t : Tmp) (v : Value) (h : t ≠ d) : (a.put (some d) v).tmps.getD t undef = a.tmps.getD t undef := by
  have : (a.put (some d) v).tmps = a.tmps.setIfInBounds d v := rfl
  rw [this, Array.getD_eq_getD_getElem?, Array.getD_eq_getD_getElem?, Array.getElem?_setIfInBounds, if_neg (fun e => h e.symm)]
theorem put_same (a : Act) (d : Tmp) (v : Value) (h : d < a.tmps.size) : (a.put (some d) v).tmps.getD d undef = v := by
  have : (a.put (some d) v).tmps = a.tmps.setIfInBounds d v := rfl
  rw [this, Array.getD_eq_getD_getElem?, Array.getElem?_setIfInBounds]
  simp [h]

theorem same_put {a : Act} {i : Nat} {o : Oper} {v : Value} (hi : ops[i]? = some o) (h : Same ops a0 a) : Same ops a0 (a.put o.dst v) := by
  cases hd : o.dst with
  | none => exact h
  | some d =>
    refine ⟨?_, h.defers, fun t ht => ?_⟩
    · have : (a.put (some d) v).tmps = a.tmps.setIfInBounds d v := rfl
      rw [this, Array.size_setIfInBounds]; exact h.size
    · rw [put_slot a d t v ?_]
      · exact h.slot t ht
      · intro e
        subst e
        have : t ∈ dsts ops := List.mem_filterMap.2 ⟨o, by
          rw [Array.mem_toList_iff]
          exact Array.mem_of_getElem? hi, hd⟩
        simp [this] at ht

/-- No two write one place. -/
def apartAll (ops : Array Oper) : Bool := (List.range ops.size).all fun i => (List.range ops.size).all fun j => i == j || match ops[i]?, ops[j]? with
  | some x, some y => x.dst.isNone || x.dst != y.dst
  | _, _ => true
theorem apartAll_spec (h : apartAll ops = true) {i j : Nat} {x y : Oper} (hi : ops[i]? = some x) (hj : ops[j]? = some y) (hij : i ≠ j) {d : Tmp} (hd : x.dst = some d) : y.dst ≠ some d := by
  have h1 := (Array.getElem?_eq_some_iff.1 hi).1
  have h2 := (Array.getElem?_eq_some_iff.1 hj).1
  have := List.all_eq_true.1 (List.all_eq_true.1 h i (List.mem_range.2 h1)) j (List.mem_range.2 h2)
  simp only [hi, hj, hd] at this
  simp [hij] at this
  intro e
  exact this e.symm
/-- Whoever is waited for stands ahead. -/
def forward (ops : Array Oper) : Bool := (List.range ops.size).all fun i => match ops[i]? with
  | some o => o.after.all fun e => !Region.binds .any e || decide (e.on < i)
  | none => true
theorem forward_spec (h : forward ops = true) {i : Nat} {o : Oper} (hi : ops[i]? = some o) : ∀ e ∈ o.after, Region.binds .any e = true → e.on < i := by
  intro e he hb
  have h1 := (Array.getElem?_eq_some_iff.1 hi).1
  have := List.all_eq_true.1 h i (List.mem_range.2 h1)
  simp only [hi] at this
  have := Array.all_eq_true_iff_forall_mem.1 this e he
  simpa [hb] using this
def within (ops : Array Oper) (n : Nat) : Bool := ops.all fun o => match o.dst with
  | some d => decide (d < n)
  | none => true
theorem within_spec {n : Nat} (h : within ops n = true) {i : Nat} {o : Oper} (hi : ops[i]? = some o) {d : Tmp} (hd : o.dst = some d) : d < n := by
  have := Array.all_eq_true_iff_forall_mem.1 h o (Array.mem_of_getElem? hi)
  simpa [hd] using this

theorem valOf_put {a : Act} {i j : Nat} {x y : Oper} {v : Value} (hap : apartAll ops = true) (hi : ops[i]? = some x) (hj : ops[j]? = some y) (hij : i ≠ j) : valOf (a.put x.dst v) y = valOf a y := by
  unfold valOf
  cases hy : y.dst with
  | none => rfl
  | some d =>
    cases hx : x.dst with
    | none => rfl
    | some c =>
      simp only
      refine put_slot a c d v (fun e => ?_)
      subst e
      exact apartAll_spec hap hi hj hij hx hy
theorem valOf_put_same {a : Act} {i : Nat} {x : Oper} {v : Value} (hsz : within ops a.tmps.size = true) (hi : ops[i]? = some x) (hx : x.dst.isSome = true) : valOf (a.put x.dst v) x = v := by
  unfold valOf
  obtain ⟨d, hd⟩ := Option.isSome_iff_exists.1 hx
  rw [hd]
  exact put_same a d v (within_spec hsz hi hd)

theorem not_ready (hf : forward ops = true) {listed : Array Bool} (hl : listed.size = ops.size) (h : Region.ready .any ops listed = []) : ∀ i, i < ops.size → listed.getD i true = true := by
  intro i
  induction i using Nat.strongRecOn with
  | ind i ih =>
    intro hi
    cases hc : listed.getD i true with
    | true => rfl
    | false =>
      exfalso
      have : i ∈ Region.ready .any ops listed := by
        rw [mem_ready]
        refine ⟨hc, ops[i], by simp [hi], fun e he hb => ?_⟩
        have hlt := forward_spec hf (i := i) (o := ops[i]) (by simp [hi]) e he hb
        have := ih e.on hlt (by omega)
        rw [Array.getD_eq_getD_getElem?] at this ⊢
        have hb2 : e.on < listed.size := by omega
        simpa [hb2] using this
      rw [h] at this
      cases this

/-- THE RULE. -/
theorem wpAny_inv (hap : apartAll ops = true) (hf : forward ops = true) (hsz : within ops a0.tmps.size = true) (hall : (ops.all fun o => o.dst.isSome) = true)
    (hrf : ∀ a, Later a a) (htr : ∀ a b c, Later a b → Later b c → Later a c) (hst : ∀ i v w w', T i v w → Later w w' → T i v w')
    (hop : ∀ i o, ops[i]? = some o → StepOk P ops Q Later T a0 w0 i o)
    (hdone : ∀ a w, Later w0 w → Same ops a0 a → (∀ i o, ops[i]? = some o → T i (valOf a o) w) → Q .normal a w) :
    ∀ (fuel : Nat) (listed : Array Bool) (a : Act) (w : World), listed.size = ops.size → listed.toList.countP id + fuel = ops.size → Later w0 w → Same ops a0 a →
      (∀ i o, ops[i]? = some o → listed.getD i true = true → T i (valOf a o) w) → wpAny P .any ops Q fuel listed a w := by
  intro fuel
  induction fuel with
  | zero =>
    intro listed a w hl hc hw hs hT
    have hall2 : ∀ i, i < ops.size → listed.getD i true = true := by
      intro i hi
      have := List.countP_eq_length.1 (show listed.toList.countP id = listed.toList.length by rw [Array.length_toList]; omega) listed[i] (by simp)
      rw [Array.getD_eq_getD_getElem?]
      simpa [show i < listed.size by omega] using this
    refine ⟨?_, hdone a w hw hs fun i o hi => hT i o hi (hall2 i (Array.getElem?_eq_some_iff.1 hi).1)⟩
    cases hr : Region.ready .any ops listed with
    | nil => rfl
    | cons j t =>
      exfalso
      have hj : j ∈ Region.ready .any ops listed := by rw [hr]; simp
      rw [mem_ready] at hj
      obtain ⟨h0, o, ho, _⟩ := hj
      rw [hall2 j (Array.getElem?_eq_some_iff.1 ho).1] at h0
      cases h0
  | succ fuel ih =>
    intro listed a w hl hc hw hs hT
    refine ⟨fun hr => hdone a w hw hs fun i o hi => hT i o hi (not_ready hf hl hr i (Array.getElem?_eq_some_iff.1 hi).1), fun i hi => ?_⟩
    rw [mem_ready] at hi
    obtain ⟨h0, o, ho, hdeps⟩ := hi
    have hlt := (Array.getElem?_eq_some_iff.1 ho).1
    have step := hop i o ho a w hw hs (fun e he hb oj hoj => hT e.on oj hoj (by
      have := hdeps e he hb
      have hlt2 := (Array.getElem?_eq_some_iff.1 hoj).1
      rw [Array.getD_eq_getD_getElem?] at this ⊢
      have hb2 : e.on < listed.size := by omega
      simpa [hb2] using this))
    have hsome : o.dst.isSome = true := Array.all_eq_true_iff_forall_mem.1 hall o (Array.mem_of_getElem? ho)
    have next : ∀ v w', Later w w' → T i v w' → wpAny P .any ops Q fuel (listed.setIfInBounds i true) (a.put o.dst v) w' := by
      intro v w' hl2 hT2
      refine ih _ _ _ (by rw [Array.size_setIfInBounds]; exact hl) ?_ (htr _ _ _ hw hl2) (same_put ho hs) ?_
      · rw [Array.toList_setIfInBounds, List.countP_set (by rw [Array.length_toList]; omega)]
        have hf0 : listed.toList[i]'(by rw [Array.length_toList]; omega) = false := by
          rw [Array.getD_eq_getD_getElem?] at h0
          simpa [show i < listed.size by omega] using h0
        rw [hf0]
        show listed.toList.countP id - 0 + 1 + fuel = ops.size
        omega
      · intro j oj hj hjl
        by_cases hij : i = j
        · subst hij
          rw [ho] at hj
          obtain rfl := Option.some.inj hj
          rw [valOf_put_same (by rw [hs.size]; exact hsz) ho hsome]
          exact hT2
        · rw [valOf_put hap ho hj hij]
          refine hst _ _ _ _ (hT j oj hj ?_) hl2
          rw [Array.getD_eq_getD_getElem?, Array.getElem?_setIfInBounds, if_neg hij] at hjl
          rw [Array.getD_eq_getD_getElem?]
          exact hjl
    unfold wpOp
    simp only [ho]
    split
    · rename_i hwant
      rw [if_pos hwant] at step
      left
      refine Oper.wp_mono (fun a' w' h' => ?_) step
      obtain ⟨v, rfl, h1, h2⟩ := h'
      exact next v w' h1 h2
    · rename_i hwant
      rw [if_neg hwant] at step
      exact next undef w (hrf w) step

theorem step_yes {i : Nat} {o : Oper} {a : Act} {w : World} (hw : Region.wanted o (yielded ops a.tmps) = true) (h : o.wp P a w (fun a' w' => ∃ v, a' = a.put o.dst v ∧ Later w w' ∧ T i v w') Q) :
    if Region.wanted o (yielded ops a.tmps) = true then o.wp P a w (fun a' w' => ∃ v, a' = a.put o.dst v ∧ Later w w' ∧ T i v w') Q else T i undef w := by rw [if_pos hw]; exact h
theorem ok_value {i : Nat} {o : Oper} {a : Act} {w : World} (hrf : ∀ a, Later a a) (v : Value) (h : (execOp a.eval o).run P w = .ok (.value v) w) (hT : T i v w) : o.wp P a w (fun a' w' => ∃ v, a' = a.put o.dst v ∧ Later w w' ∧ T i v w') Q := by
  unfold Oper.wp
  rw [h]
  exact ⟨v, rfl, hrf w, hT⟩
theorem ok_call {i : Nat} {o : Oper} {a : Act} {w : World} {f : FuncId} {args : Array Value} (h : (execOp a.eval o).run P w = .ok (.enter f args) w) (hc : Calls P f args w fun e w' => ∃ v, e = .returned v ∧ Later w w' ∧ T i v w') : o.wp P a w (fun a' w' => ∃ v, a' = a.put o.dst v ∧ Later w w' ∧ T i v w') Q := by
  unfold Oper.wp
  rw [h]
  refine Calls.mono hc ?_
  rintro e w' ⟨v, rfl, hl, ht⟩
  exact ⟨v, rfl, hl, ht⟩

/-- A region that draws its order: each operation once. 'w1': the world behind the draw. -/
theorem wp_region_inv (Later : World → World → Prop) (T : Nat → Value → World → Prop) {id : Nat} {a : Act} {w : World} (hm : P.follows .mixedOrders = true)
    (hap : apartAll ops = true) (hf : forward ops = true) (hsz : within ops a.tmps.size = true) (hall : (ops.all fun o => o.dst.isSome) = true)
    (hrf : ∀ a, Later a a) (htr : ∀ a b c, Later a b → Later b c → Later a c) (hst : ∀ i v w w', T i v w → Later w w' → T i v w')
    (hdr : Later w { w with drawn := w.drawn + 1 })
    (hop : ∀ i o, ops[i]? = some o → StepOk P ops Q Later T a w i o)
    (hdone : ∀ a' w', Later w w' → Same ops a a' → (∀ i o, ops[i]? = some o → T i (valOf a' o) w') → Q .normal a' w') : (Code.region id ops true).wp P Q a w :=
  wp_region_any hm (wpAny_inv (a0 := a) (w0 := w) hap hf hsz hall hrf htr hst hop hdone ops.size (Array.replicate ops.size false) a _ (by simp) (by simp) hdr ⟨rfl, rfl, fun _ _ => rfl⟩ (fun i o hi hl => by
    have := (Array.getElem?_eq_some_iff.1 hi).1
    rw [Array.getD_eq_getD_getElem?] at hl
    simp [this] at hl))

end

end Go.Proofs.YtgmdpbahcbhfjaaGreatDoor.J
/-
  The rule of ..Any, wider: a store's place is where its address lies; rows that calls of the region make are no two the same. Nothing of the program.
-/
namespace Go.Proofs.YtgmdpbahcbhfjaaGreatDoor.J
open Go.RowKit

/-- Where what an operation tells is looked for: what it writes, or a store's address. -/
def place (o : Oper) : Option Tmp :=
  match o.dst with
  | some d => some d
  | none => match o.op with
    | .store _ (.tmp t) _ => some t
    | _ => none
def valAt (a : Act) (o : Oper) : Value :=
  match place o with
  | some d => a.tmps.getD d undef
  | none => undef
/-- What is told behind a step. -/
def told (o : Oper) (a : Act) (v : Value) : Value :=
  match o.dst with
  | some _ => v
  | none => valAt a o

/-- A row that this step has made. -/
def Newly (w w' : World) (v : Value) : Prop := ∀ x, v.ownBlock = some x → w.heap.size ≤ x ∧ x < w'.heap.size
def Apart (v u : Value) : Prop := ∀ x, v.ownBlock = some x → u.ownBlock ≠ some x
theorem Apart.symm {v u : Value} (h : Apart v u) : Apart u v := fun x hx e => h x e hx

def placesOk (ops : Array Oper) : Bool := (List.range ops.size).all fun i => (List.range ops.size).all fun j => i == j || match ops[i]?, ops[j]? with
  | some x, some y => y.dst.isNone || place x != y.dst || (x.dst.isNone && x.after.any fun e => Region.binds .any e && e.on == j)
  | _, _ => true

section
variable {P : Program} {ops : Array Oper} {Q : Exit → Act → World → Prop} {Later : World → World → Prop} {T : Nat → Value → World → Prop} {S : Nat → Bool} {a0 : Act} {w0 : World}

theorem placesOk_spec (h : placesOk ops = true) {i j : Nat} {x y : Oper} (hi : ops[i]? = some x) (hj : ops[j]? = some y) (hij : i ≠ j) {d : Tmp} (hd : y.dst = some d) (hp : place x = some d) : ∃ e ∈ x.after, Region.binds .any e = true ∧ e.on = j := by
  have h1 := (Array.getElem?_eq_some_iff.1 hi).1
  have h2 := (Array.getElem?_eq_some_iff.1 hj).1
  have := List.all_eq_true.1 (List.all_eq_true.1 h i (List.mem_range.2 h1)) j (List.mem_range.2 h2)
  simp only [hi, hj, hd, hp] at this
  simp [hij] at this
  obtain ⟨_, k, hk, hb, he⟩ := this
  exact ⟨x.after[k], by simp, hb, he⟩

theorem valAt_put {a : Act} {i j : Nat} {x y : Oper} {v : Value} (hi : ops[i]? = some x) (hj : ops[j]? = some y) (hne : ∀ d, y.dst = some d → place x ≠ some d) : valAt (a.put y.dst v) x = valAt a x := by
  unfold valAt
  cases hx : place x with
  | none => rfl
  | some d =>
    cases hy : y.dst with
    | none => rfl
    | some c =>
      simp only
      refine put_slot a c d v (fun e => ?_)
      subst e
      exact hne _ hy hx

theorem valAt_put_same {a : Act} {i : Nat} {x : Oper} {v : Value} (hsz : within ops a.tmps.size = true) (hi : ops[i]? = some x) : valAt (a.put x.dst v) x = told x a v := by
  unfold told
  cases hd : x.dst with
  | none => rfl
  | some d =>
    unfold valAt
    have : place x = some d := by unfold place; rw [hd]
    rw [this]
    exact put_same a d v (within_spec hsz hi hd)

end

/-- What an operation leaves, with the reason why it lasts. -/
structure Ent (Later : World → World → Prop) where
  p : Value → World → Prop
  st : ∀ v w w', p v w → Later w w' → p v w'
def Ent.val {Later : World → World → Prop} (c : Value) : Ent Later := ⟨fun v _ => v = c, fun _ _ _ h _ => h⟩
def TE {Later : World → World → Prop} (tab : List (Ent Later)) (i : Nat) (v : Value) (w : World) : Prop :=
  match tab[i]? with
  | some e => e.p v w
  | none => True
theorem TE_stable {Later : World → World → Prop} (tab : List (Ent Later)) : ∀ i v w w', TE tab i v w → Later w w' → TE tab i v w' := by
  intro i v w w' h hb
  unfold TE at *
  split at h
  · rename_i e _
    exact e.st _ _ _ h hb
  · trivial

end Go.Proofs.YtgmdpbahcbhfjaaGreatDoor.J
/-
  The rule of ..AnyB with a relation for each operation's step: what an operation has left must outlast those steps alone that may come behind it. Nothing of the program.
-/
namespace Go.Proofs.YtgmdpbahcbhfjaaGreatDoor.J
open Go.RowKit

theorem placesOk_apart {ops : Array Oper} (h : placesOk ops = true) {i j : Nat} {x y : Oper} (hi : ops[i]? = some x) (hj : ops[j]? = some y) (hij : i ≠ j) {d : Tmp} (hx : x.dst = some d) (hy : y.dst = some d) : False := by
  have h1 := (Array.getElem?_eq_some_iff.1 hi).1
  have h2 := (Array.getElem?_eq_some_iff.1 hj).1
  have := List.all_eq_true.1 (List.all_eq_true.1 h i (List.mem_range.2 h1)) j (List.mem_range.2 h2)
  have hp : place x = some d := by unfold place; rw [hx]
  simp only [hi, hj, hy, hp, hx] at this
  simp [hij] at this

section
variable {P : Program} {ops : Array Oper} {Q : Exit → Act → World → Prop} {Later : World → World → Prop} {Ls : Nat → World → World → Prop} {Early : World → Prop} {q : Nat} {T : Nat → Value → World → Prop} {S : Nat → Bool} {a0 : Act} {w0 : World}

end


end Go.Proofs.YtgmdpbahcbhfjaaGreatDoor.J
/-
  The rule of ..Any for a region whose last operation waits for all others (a store): what that one turns, no other sees. Nothing of the program.
-/
namespace Go.Proofs.YtgmdpbahcbhfjaaGreatDoor.J
open Go.RowKit

section
variable {P : Program} {ops : Array Oper} {Q : Exit → Act → World → Prop} {Later : World → World → Prop} {T : Nat → Value → World → Prop} {a0 : Act} {w0 : World}

end

end Go.Proofs.YtgmdpbahcbhfjaaGreatDoor.J
