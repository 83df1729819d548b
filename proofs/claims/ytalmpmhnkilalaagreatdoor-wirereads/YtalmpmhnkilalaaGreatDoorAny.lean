import Derived.WalkKit
import Derived.Orders
/-
  A region that draws its order, walked in no order at all: each operation is shown once, from what the operations that it waits for have left. Nothing of the program.
-/
namespace Go.Proofs.YtalmpmhnkilalaaGreatDoor
open Go.RowKit
set_option linter.unusedVariables false

section
variable {P : Program} {ops : Array Oper} {Q : Exit → Act → World → Prop} {Later : World → World → Prop} {T : Nat → Value → World → Prop} {a0 : Act} {w0 : World}

/-- What stands where an operation has left its value. -/
def valOf (a : Act) (o : Oper) : Value :=
  match o.dst with
  | some d => a.tmps.getD d undef
  | none => undef
/-- All places that the region writes. -/
def dsts (ops : Array Oper) : List Tmp := ops.toList.filterMap (fun o => o.dst)

/-- What the rest of the frame is. -/
structure Same (ops : Array Oper) (a0 a : Act) : Prop where
  size : a.tmps.size = a0.tmps.size
  defers : a.defers = a0.defers
  slot : ∀ t, (dsts ops).contains t = false → a.tmps.getD t undef = a0.tmps.getD t undef

/-- One operation, whenever it comes up. -/
def StepOk (P : Program) (ops : Array Oper) (Q : Exit → Act → World → Prop) (Later : World → World → Prop) (T : Nat → Value → World → Prop) (a0 : Act) (w0 : World) (i : Nat) (o : Oper) : Prop :=
  ∀ (a : Act) (w : World), Later w0 w → Same ops a0 a →
    (∀ e ∈ o.after, Region.binds .any e = true → ∀ oj, ops[e.on]? = some oj → T e.on (valOf a oj) w) →
    if Region.wanted o (yielded ops a.tmps) = true then o.wp P a w (fun a' w' => ∃ v, a' = a.put o.dst v ∧ Later w w' ∧ T i v w') Q else T i undef w

theorem put_slot (a : Act) (d t : Tmp) (v : Value) (h : t ≠ d) : (a.put (some d) v).tmps.getD t undef = a.tmps.getD t undef := by
  have : (a.put (some d) v).tmps = a.tmps.setIfInBounds d v := rfl
  rw [this, Array.getD_eq_getD_getElem?, Array.getD_eq_getD_getElem?, Array.getElem?_setIfInBounds, if_neg (fun e => h e.symm)]
theorem put_same (a : Act) (d : Tmp) (v : Value) (h : d < a.tmps.size) : (a.put (some d) v).tmps.getD d undef = v := by
  have : (a.put (some d) v).tmps = a.tmps.setIfInBounds d v := rfl
  rw [this, Array.getD_eq_getD_getElem?, Array.getElem?_setIfInBounds]
  simp [h]

theorem same_put {a : Act} {i : Nat} {o : Oper} {v : Value} (hi : ops[i]? = some o) (h : Same ops a0 a) : Same ops a0 (a.put o.dst v) := by
  cases hd : o.dst with
  | none => exact h
  | some d =>
    refine ⟨?_, h.defers, fun t ht => ?_⟩
    · have : (a.put (some d) v).tmps = a.tmps.setIfInBounds d v := rfl
      rw [this, Array.size_setIfInBounds]; exact h.size
    · rw [put_slot a d t v ?_]
      · exact h.slot t ht
      · intro e
        subst e
        have : t ∈ dsts ops := List.mem_filterMap.2 ⟨o, by
          rw [Array.mem_toList_iff]
          exact Array.mem_of_getElem? hi, hd⟩
        simp [this] at ht

/-- No two write one place. -/
def apartAll (ops : Array Oper) : Bool := (List.range ops.size).all fun i => (List.range ops.size).all fun j => i == j || match ops[i]?, ops[j]? with
  | some x, some y => x.dst.isNone || x.dst != y.dst
  | _, _ => true
theorem apartAll_spec (h : apartAll ops = true) {i j : Nat} {x y : Oper} (hi : ops[i]? = some x) (hj : ops[j]? = some y) (hij : i ≠ j) {d : Tmp} (hd : x.dst = some d) : y.dst ≠ some d := by
  have h1 := (Array.getElem?_eq_some_iff.1 hi).1
  have h2 := (Array.getElem?_eq_some_iff.1 hj).1
  have := List.all_eq_true.1 (List.all_eq_true.1 h i (List.mem_range.2 h1)) j (List.mem_range.2 h2)
  simp only [hi, hj, hd] at this
  simp [hij] at this
  intro e
  exact this e.symm
/-- Whoever is waited for stands ahead. -/
def forward (ops : Array Oper) : Bool := (List.range ops.size).all fun i => match ops[i]? with
  | some o => o.after.all fun e => !Region.binds .any e || decide (e.on < i)
  | none => true
theorem forward_spec (h : forward ops = true) {i : Nat} {o : Oper} (hi : ops[i]? = some o) : ∀ e ∈ o.after, Region.binds .any e = true → e.on < i := by
  intro e he hb
  have h1 := (Array.getElem?_eq_some_iff.1 hi).1
  have := List.all_eq_true.1 h i (List.mem_range.2 h1)
  simp only [hi] at this
  have := Array.all_eq_true_iff_forall_mem.1 this e he
  simpa [hb] using this
def within (ops : Array Oper) (n : Nat) : Bool := ops.all fun o => match o.dst with
  | some d => decide (d < n)
  | none => true
theorem within_spec {n : Nat} (h : within ops n = true) {i : Nat} {o : Oper} (hi : ops[i]? = some o) {d : Tmp} (hd : o.dst = some d) : d < n := by
  have := Array.all_eq_true_iff_forall_mem.1 h o (Array.mem_of_getElem? hi)
  simpa [hd] using this

theorem valOf_put {a : Act} {i j : Nat} {x y : Oper} {v : Value} (hap : apartAll ops = true) (hi : ops[i]? = some x) (hj : ops[j]? = some y) (hij : i ≠ j) : valOf (a.put x.dst v) y = valOf a y := by
  unfold valOf
  cases hy : y.dst with
  | none => rfl
  | some d =>
    cases hx : x.dst with
    | none => rfl
    | some c =>
      simp only
      refine put_slot a c d v (fun e => ?_)
      subst e
      exact apartAll_spec hap hi hj hij hx hy
theorem valOf_put_same {a : Act} {i : Nat} {x : Oper} {v : Value} (hsz : within ops a.tmps.size = true) (hi : ops[i]? = some x) (hx : x.dst.isSome = true) : valOf (a.put x.dst v) x = v := by
  unfold valOf
  obtain ⟨d, hd⟩ := Option.isSome_iff_exists.1 hx
  rw [hd]
  exact put_same a d v (within_spec hsz hi hd)

theorem not_ready (hf : forward ops = true) {listed : Array Bool} (hl : listed.size = ops.size) (h : Region.ready .any ops listed = []) : ∀ i, i < ops.size → listed.getD i true = true := by
  intro i
  induction i using Nat.strongRecOn with
  | ind i ih =>
    intro hi
    cases hc : listed.getD i true with
    | true => rfl
    | false =>
      exfalso
      have : i ∈ Region.ready .any ops listed := by
        rw [mem_ready]
        refine ⟨hc, ops[i], by simp [hi], fun e he hb => ?_⟩
        have hlt := forward_spec hf (i := i) (o := ops[i]) (by simp [hi]) e he hb
        have := ih e.on hlt (by omega)
        rw [Array.getD_eq_getD_getElem?] at this ⊢
        have hb2 : e.on < listed.size := by omega
        simpa [hb2] using this
      rw [h] at this
      cases this

/-- THE RULE. -/
theorem wpAny_inv (hap : apartAll ops = true) (hf : forward ops = true) (hsz : within ops a0.tmps.size = true) (hall : (ops.all fun o => o.dst.isSome) = true)
    (hrf : ∀ a, Later a a) (htr : ∀ a b c, Later a b → Later b c → Later a c) (hst : ∀ i v w w', T i v w → Later w w' → T i v w')
    (hop : ∀ i o, ops[i]? = some o → StepOk P ops Q Later T a0 w0 i o)
    (hdone : ∀ a w, Later w0 w → Same ops a0 a → (∀ i o, ops[i]? = some o → T i (valOf a o) w) → Q .normal a w) :
    ∀ (fuel : Nat) (listed : Array Bool) (a : Act) (w : World), listed.size = ops.size → listed.toList.countP id + fuel = ops.size → Later w0 w → Same ops a0 a →
      (∀ i o, ops[i]? = some o → listed.getD i true = true → T i (valOf a o) w) → wpAny P .any ops Q fuel listed a w := by
  intro fuel
  induction fuel with
  | zero =>
    intro listed a w hl hc hw hs hT
    have hall2 : ∀ i, i < ops.size → listed.getD i true = true := by
      intro i hi
      have := List.countP_eq_length.1 (show listed.toList.countP id = listed.toList.length by rw [Array.length_toList]; omega) listed[i] (by simp)
      rw [Array.getD_eq_getD_getElem?]
      simpa [show i < listed.size by omega] using this
    refine ⟨?_, hdone a w hw hs fun i o hi => hT i o hi (hall2 i (Array.getElem?_eq_some_iff.1 hi).1)⟩
    cases hr : Region.ready .any ops listed with
    | nil => rfl
    | cons j t =>
      exfalso
      have hj : j ∈ Region.ready .any ops listed := by rw [hr]; simp
      rw [mem_ready] at hj
      obtain ⟨h0, o, ho, _⟩ := hj
      rw [hall2 j (Array.getElem?_eq_some_iff.1 ho).1] at h0
      cases h0
  | succ fuel ih =>
    intro listed a w hl hc hw hs hT
    refine ⟨fun hr => hdone a w hw hs fun i o hi => hT i o hi (not_ready hf hl hr i (Array.getElem?_eq_some_iff.1 hi).1), fun i hi => ?_⟩
    rw [mem_ready] at hi
    obtain ⟨h0, o, ho, hdeps⟩ := hi
    have hlt := (Array.getElem?_eq_some_iff.1 ho).1
    have step := hop i o ho a w hw hs (fun e he hb oj hoj => hT e.on oj hoj (by
      have := hdeps e he hb
      have hlt2 := (Array.getElem?_eq_some_iff.1 hoj).1
      rw [Array.getD_eq_getD_getElem?] at this ⊢
      have hb2 : e.on < listed.size := by omega
      simpa [hb2] using this))
    have hsome : o.dst.isSome = true := Array.all_eq_true_iff_forall_mem.1 hall o (Array.mem_of_getElem? ho)
    have next : ∀ v w', Later w w' → T i v w' → wpAny P .any ops Q fuel (listed.setIfInBounds i true) (a.put o.dst v) w' := by
      intro v w' hl2 hT2
      refine ih _ _ _ (by rw [Array.size_setIfInBounds]; exact hl) ?_ (htr _ _ _ hw hl2) (same_put ho hs) ?_
      · rw [Array.toList_setIfInBounds, List.countP_set (by rw [Array.length_toList]; omega)]
        have hf0 : listed.toList[i]'(by rw [Array.length_toList]; omega) = false := by
          rw [Array.getD_eq_getD_getElem?] at h0
          simpa [show i < listed.size by omega] using h0
        rw [hf0]
        show listed.toList.countP id - 0 + 1 + fuel = ops.size
        omega
      · intro j oj hj hjl
        by_cases hij : i = j
        · subst hij
          rw [ho] at hj
          obtain rfl := Option.some.inj hj
          rw [valOf_put_same (by rw [hs.size]; exact hsz) ho hsome]
          exact hT2
        · rw [valOf_put hap ho hj hij]
          refine hst _ _ _ _ (hT j oj hj ?_) hl2
          rw [Array.getD_eq_getD_getElem?, Array.getElem?_setIfInBounds, if_neg hij] at hjl
          rw [Array.getD_eq_getD_getElem?]
          exact hjl
    unfold wpOp
    simp only [ho]
    split
    · rename_i hwant
      rw [if_pos hwant] at step
      left
      refine Oper.wp_mono (fun a' w' h' => ?_) step
      obtain ⟨v, rfl, h1, h2⟩ := h'
      exact next v w' h1 h2
    · rename_i hwant
      rw [if_neg hwant] at step
      exact next undef w (hrf w) step

theorem step_yes {i : Nat} {o : Oper} {a : Act} {w : World} (hw : Region.wanted o (yielded ops a.tmps) = true) (h : o.wp P a w (fun a' w' => ∃ v, a' = a.put o.dst v ∧ Later w w' ∧ T i v w') Q) :
    if Region.wanted o (yielded ops a.tmps) = true then o.wp P a w (fun a' w' => ∃ v, a' = a.put o.dst v ∧ Later w w' ∧ T i v w') Q else T i undef w := by rw [if_pos hw]; exact h
theorem step_no {i : Nat} {o : Oper} {a : Act} {w : World} (hw : Region.wanted o (yielded ops a.tmps) = false) (h : T i undef w) :
    if Region.wanted o (yielded ops a.tmps) = true then o.wp P a w (fun a' w' => ∃ v, a' = a.put o.dst v ∧ Later w w' ∧ T i v w') Q else T i undef w := by rw [if_neg (by rw [hw]; simp)]; exact h

theorem getD_bool {t : Array Value} {d : Nat} {b : Bool} (h : t.getD d undef = .bool b) : t[d]? = some (.bool b) := by
  rw [Array.getD_eq_getD_getElem?] at h
  cases hc : t[d]? with
  | none => rw [hc] at h; simp [undef] at h
  | some v => rw [hc] at h; simpa using h
theorem wanted_yes {o oj : Oper} {a : Act} {j : Nat} {d : Tmp} {b : Bool} (hg : o.guard = some (j, b)) (hj : ops[j]? = some oj) (hd : oj.dst = some d) (h : a.tmps.getD d undef = .bool b) : Region.wanted o (yielded ops a.tmps) = true := by
  simp [Region.wanted, hg, yielded, hj, hd, getD_bool h]
theorem wanted_no {o oj : Oper} {a : Act} {j : Nat} {d : Tmp} {b c : Bool} (hg : o.guard = some (j, b)) (hj : ops[j]? = some oj) (hd : oj.dst = some d) (h : a.tmps.getD d undef = .bool c) (hc : (c == b) = false) : Region.wanted o (yielded ops a.tmps) = false := by
  simp [Region.wanted, hg, yielded, hj, hd, getD_bool h]
  simpa using hc
/-- A guard whose own guard said no. -/
theorem wanted_undef {o oj : Oper} {a : Act} {j : Nat} {d : Tmp} {b : Bool} (hg : o.guard = some (j, b)) (hj : ops[j]? = some oj) (hd : oj.dst = some d) (h : a.tmps.getD d undef = undef) : Region.wanted o (yielded ops a.tmps) = false := by
  have : ∀ c, a.tmps[d]? ≠ some (.bool c) := by
    intro c hc
    rw [Array.getD_eq_getD_getElem?, hc] at h
    simp [undef] at h
  simp only [Region.wanted, hg, yielded, hj, hd, Option.bind_some]
  cases hc : a.tmps[d]? with
  | none => simp
  | some v =>
    cases v with
    | bool c => exact absurd hc (this c)
    | _ => simp

theorem ok_value {i : Nat} {o : Oper} {a : Act} {w : World} (hrf : ∀ a, Later a a) (v : Value) (h : (execOp a.eval o).run P w = .ok (.value v) w) (hT : T i v w) : o.wp P a w (fun a' w' => ∃ v, a' = a.put o.dst v ∧ Later w w' ∧ T i v w') Q := by
  unfold Oper.wp
  rw [h]
  exact ⟨v, rfl, hrf w, hT⟩
theorem ok_call {i : Nat} {o : Oper} {a : Act} {w : World} {f : FuncId} {args : Array Value} (h : (execOp a.eval o).run P w = .ok (.enter f args) w) (hc : Calls P f args w fun e w' => ∃ v, e = .returned v ∧ Later w w' ∧ T i v w') : o.wp P a w (fun a' w' => ∃ v, a' = a.put o.dst v ∧ Later w w' ∧ T i v w') Q := by
  unfold Oper.wp
  rw [h]
  refine Calls.mono hc ?_
  rintro e w' ⟨v, rfl, hl, ht⟩
  exact ⟨v, rfl, hl, ht⟩

/-- A region that draws its order: each operation once. 'w1': the world behind the draw. -/
theorem wp_region_inv (Later : World → World → Prop) (T : Nat → Value → World → Prop) {id : Nat} {a : Act} {w : World} (hm : P.follows .mixedOrders = true)
    (hap : apartAll ops = true) (hf : forward ops = true) (hsz : within ops a.tmps.size = true) (hall : (ops.all fun o => o.dst.isSome) = true)
    (hrf : ∀ a, Later a a) (htr : ∀ a b c, Later a b → Later b c → Later a c) (hst : ∀ i v w w', T i v w → Later w w' → T i v w')
    (hdr : Later w { w with drawn := w.drawn + 1 })
    (hop : ∀ i o, ops[i]? = some o → StepOk P ops Q Later T a w i o)
    (hdone : ∀ a' w', Later w w' → Same ops a a' → (∀ i o, ops[i]? = some o → T i (valOf a' o) w') → Q .normal a' w') : (Code.region id ops true).wp P Q a w :=
  wp_region_any hm (wpAny_inv (a0 := a) (w0 := w) hap hf hsz hall hrf htr hst hop hdone ops.size (Array.replicate ops.size false) a _ (by simp) (by simp) hdr ⟨rfl, rfl, fun _ _ => rfl⟩ (fun i o hi hl => by
    have := (Array.getElem?_eq_some_iff.1 hi).1
    rw [Array.getD_eq_getD_getElem?] at hl
    simp [this] at hl))

end

end Go.Proofs.YtalmpmhnkilalaaGreatDoor

/-
  The rule of ..Any for a region whose last operation waits for all others (a store): what that one turns, no other sees. Nothing of the program.
-/
namespace Go.Proofs.YtalmpmhnkilalaaGreatDoor
open Go.RowKit
set_option linter.unusedVariables false

section
variable {P : Program} {ops : Array Oper} {Q : Exit → Act → World → Prop} {Later : World → World → Prop} {T : Nat → Value → World → Prop} {a0 : Act} {w0 : World}

/-- It waits for it, by however many others. -/
def waitsOn (ops : Array Oper) : Nat → Nat → Nat → Bool
  | 0, _, _ => false
  | n + 1, i, j => match ops[i]? with
    | some o => o.after.any fun e => Region.binds .any e && (e.on == j || waitsOn ops n e.on j)
    | none => false
theorem waitsOn_listed {ops : Array Oper} {listed : Array Bool} (hcl : ∀ k o, ops[k]? = some o → listed.getD k true = true → ∀ e ∈ o.after, Region.binds .any e = true → ∀ oj, ops[e.on]? = some oj → listed.getD e.on true = true) :
    ∀ (n i : Nat) (o : Oper), ops[i]? = some o → (∀ e ∈ o.after, Region.binds .any e = true → ∀ oj, ops[e.on]? = some oj → listed.getD e.on true = true) → ∀ j, j < ops.size → waitsOn ops n i j = true → listed.getD j true = true
  | 0, i, o, ho, hd, j, hj, h => by cases h
  | n + 1, i, o, ho, hd, j, hj, h => by
    unfold waitsOn at h
    rw [ho] at h
    obtain ⟨e, he, hb⟩ := Array.any_eq_true'.1 h
    simp only [Bool.and_eq_true, Bool.or_eq_true, beq_iff_eq] at hb
    obtain ⟨hb1, hb2⟩ := hb
    rcases hb2 with hb2 | hb2
    · have hjs : ops[e.on]? = some (ops[j]'(by omega)) := by rw [hb2]; simp [show j < ops.size by omega]
      have := hd e he hb1 _ hjs
      rw [hb2] at this
      exact this
    · cases hk : ops[e.on]? with
      | none =>
        cases n with
        | zero => cases hb2
        | succ n => unfold waitsOn at hb2; rw [hk] at hb2; cases hb2
      | some ok => exact waitsOn_listed hcl n e.on ok hk (hcl e.on ok hk (hd e he hb1 _ hk)) j hj hb2
/-- The last waits for all. -/
def waitsAll (ops : Array Oper) (L : Nat) : Bool := decide (L + 1 = ops.size) && match ops[L]? with
  | some o => o.guard.isNone && (List.range L).all fun j => waitsOn ops 12 L j
  | none => false
/-- All but the last leave a value. -/
def allBut (ops : Array Oper) (L : Nat) : Bool := (List.range L).all fun i => match ops[i]? with
  | some o => o.dst.isSome
  | none => true

theorem wpAny_invL (L : Nat) (hap : apartAll ops = true) (hf : forward ops = true) (hsz : within ops a0.tmps.size = true) (hwt : waitsAll ops L = true) (hall : allBut ops L = true)
    (hrf : ∀ a, Later a a) (htr : ∀ a b c, Later a b → Later b c → Later a c) (hst : ∀ i v w w', T i v w → Later w w' → T i v w')
    (hop : ∀ i o, i < L → ops[i]? = some o → StepOk P ops Q Later T a0 w0 i o)
    (hlast : ∀ o a w, ops[L]? = some o → Later w0 w → Same ops a0 a → (∀ i oi, i < L → ops[i]? = some oi → T i (valOf a oi) w) → o.wp P a w (fun a' w' => Q .normal a' w') Q) :
    ∀ (fuel : Nat) (listed : Array Bool) (a : Act) (w : World), listed.size = ops.size → listed.toList.countP id + fuel = ops.size → listed.getD L true = false → (∀ k o, ops[k]? = some o → listed.getD k true = true → ∀ e ∈ o.after, Region.binds .any e = true → ∀ oj, ops[e.on]? = some oj → listed.getD e.on true = true) → Later w0 w → Same ops a0 a →
      (∀ i o, ops[i]? = some o → listed.getD i true = true → T i (valOf a o) w) → wpAny P .any ops Q fuel listed a w := by
  simp only [waitsAll, Bool.and_eq_true, decide_eq_true_eq] at hwt
  obtain ⟨hLs, hwt⟩ := hwt
  intro fuel
  induction fuel with
  | zero =>
    intro listed a w hl hc hnot hcl hw hs hT
    exfalso
    have := List.countP_eq_length.1 (show listed.toList.countP id = listed.toList.length by rw [Array.length_toList]; omega) (listed[L]'(by omega)) (by simp)
    rw [Array.getD_eq_getD_getElem?] at hnot
    simp [show L < listed.size by omega] at hnot
    simp [hnot] at this
  | succ fuel ih =>
    intro listed a w hl hc hnot hcl hw hs hT
    refine ⟨fun hr => ?_, fun i hi => ?_⟩
    · exfalso
      have := not_ready hf hl hr L (by omega)
      rw [this] at hnot
      cases hnot
    rw [mem_ready] at hi
    obtain ⟨h0, o, ho, hdeps⟩ := hi
    have hlt := (Array.getElem?_eq_some_iff.1 ho).1
    have hdone : ∀ e ∈ o.after, Region.binds .any e = true → ∀ oj, ops[e.on]? = some oj → listed.getD e.on true = true := by
      intro e he hb oj hoj
      have := hdeps e he hb
      have hlt2 := (Array.getElem?_eq_some_iff.1 hoj).1
      rw [Array.getD_eq_getD_getElem?] at this ⊢
      have hb2 : e.on < listed.size := by omega
      simpa [hb2] using this
    by_cases hiL : i = L
    · subst hiL
      rw [ho] at hwt
      simp only [Bool.and_eq_true] at hwt
      obtain ⟨hg, hwt⟩ := hwt
      have hprev : ∀ j, j < i → listed.getD j true = true := by
        intro j hj
        exact waitsOn_listed hcl 12 i o ho hdone j (by omega) (List.all_eq_true.1 hwt j (List.mem_range.2 hj))
      have step := hlast o a w ho hw hs (fun j oj hj hoj => hT j oj hoj (hprev j hj))
      have hcount : listed.toList.countP id = i := by
        have h1 : listed.toList = listed.toList.take i ++ [false] := by
          have hlen : listed.toList.length = i + 1 := by rw [Array.length_toList]; omega
          rw [Array.getD_eq_getD_getElem?] at hnot
          simp [show i < listed.size by omega] at hnot
          apply List.ext_getElem?
          intro k
          rcases Nat.lt_trichotomy k i with h | h | h
          · rw [List.getElem?_append_left (by simp; omega)]
            simp [h]
          · subst h
            rw [List.getElem?_append_right (by simp; omega)]
            simp [show min k listed.size = k by omega, show k < listed.size by omega, hnot]
          · rw [List.getElem?_eq_none (by omega), List.getElem?_eq_none (by simp; omega)]
        rw [h1, List.countP_append]
        have h2 : (listed.toList.take i).countP id = (listed.toList.take i).length := by
          rw [List.countP_eq_length]
          intro b hb
          obtain ⟨k, hk, rfl⟩ := List.getElem_of_mem hb
          simp only [List.length_take, Array.length_toList] at hk
          have := hprev k (by omega)
          rw [Array.getD_eq_getD_getElem?] at this
          simpa [show k < listed.size by omega] using this
        rw [h2]
        simp
        omega
      have hfuel : fuel = 0 := by omega
      subst hfuel
      have next : ∀ a' w', Q .normal a' w' → wpAny P .any ops Q 0 (listed.setIfInBounds i true) a' w' := by
        intro a' w' hq
        refine ⟨?_, hq⟩
        cases hr : Region.ready .any ops (listed.setIfInBounds i true) with
        | nil => rfl
        | cons j t =>
          exfalso
          have hj : j ∈ Region.ready .any ops (listed.setIfInBounds i true) := by rw [hr]; simp
          rw [mem_ready] at hj
          obtain ⟨hj0, oj, hoj, _⟩ := hj
          have hjs := (Array.getElem?_eq_some_iff.1 hoj).1
          rw [Array.getD_eq_getD_getElem?, Array.getElem?_setIfInBounds] at hj0
          by_cases hij : i = j
          · simp [hij, show j < listed.size by omega] at hj0
          · rw [if_neg hij] at hj0
            have := hprev j (by omega)
            rw [Array.getD_eq_getD_getElem?] at this
            rw [this] at hj0
            cases hj0
      unfold wpOp
      simp only [ho]
      have hwant : Region.wanted o (yielded ops a.tmps) = true := by
        cases hgg : o.guard with
        | none => simp [Region.wanted, hgg]
        | some x => rw [hgg] at hg; cases hg
      rw [if_pos hwant]
      left
      exact Oper.wp_mono (fun a' w' h' => next a' w' h') step
    · have hiL2 : i < L := by omega
      have step := hop i o hiL2 ho a w hw hs (fun e he hb oj hoj => hT e.on oj hoj (hdone e he hb oj hoj))
      have hsome : o.dst.isSome = true := by
        have := List.all_eq_true.1 hall i (List.mem_range.2 hiL2)
        rw [ho] at this
        exact this
      have next : ∀ v w', Later w w' → T i v w' → wpAny P .any ops Q fuel (listed.setIfInBounds i true) (a.put o.dst v) w' := by
        intro v w' hl2 hT2
        refine ih _ _ _ (by rw [Array.size_setIfInBounds]; exact hl) ?_ ?_ ?_ (htr _ _ _ hw hl2) (same_put ho hs) ?_
        · rw [Array.toList_setIfInBounds, List.countP_set (by rw [Array.length_toList]; omega)]
          have hf0 : listed.toList[i]'(by rw [Array.length_toList]; omega) = false := by
            rw [Array.getD_eq_getD_getElem?] at h0
            simpa [show i < listed.size by omega] using h0
          rw [hf0]
          show listed.toList.countP id - 0 + 1 + fuel = ops.size
          omega
        · rw [Array.getD_eq_getD_getElem?, Array.getElem?_setIfInBounds, if_neg hiL, ← Array.getD_eq_getD_getElem?]
          exact hnot
        · intro k ok hk hkl e he hb oj hoj
          rw [Array.getD_eq_getD_getElem?, Array.getElem?_setIfInBounds]
          by_cases hie : i = e.on
          · rw [if_pos hie]
            split <;> rfl
          · rw [if_neg hie, ← Array.getD_eq_getD_getElem?]
            by_cases hik : i = k
            · subst hik
              rw [ho] at hk
              obtain rfl := Option.some.inj hk
              exact hdone e he hb oj hoj
            · rw [Array.getD_eq_getD_getElem?, Array.getElem?_setIfInBounds, if_neg hik, ← Array.getD_eq_getD_getElem?] at hkl
              exact hcl k ok hk hkl e he hb oj hoj
        · intro j oj hj hjl
          by_cases hij : i = j
          · subst hij
            rw [ho] at hj
            obtain rfl := Option.some.inj hj
            rw [valOf_put_same (by rw [hs.size]; exact hsz) ho hsome]
            exact hT2
          · rw [valOf_put hap ho hj hij]
            refine hst _ _ _ _ (hT j oj hj ?_) hl2
            rw [Array.getD_eq_getD_getElem?, Array.getElem?_setIfInBounds, if_neg hij] at hjl
            rw [Array.getD_eq_getD_getElem?]
            exact hjl
      unfold wpOp
      simp only [ho]
      split
      · rename_i hwant
        rw [if_pos hwant] at step
        left
        refine Oper.wp_mono (fun a' w' h' => ?_) step
        obtain ⟨v, rfl, h1, h2⟩ := h'
        exact next v w' h1 h2
      · rename_i hwant
        rw [if_neg hwant] at step
        exact next undef w (hrf w) step

/-- A region that draws its order, whose last operation waits for all others. -/
theorem wp_region_last (L : Nat) (Later : World → World → Prop) (T : Nat → Value → World → Prop) {id : Nat} {a : Act} {w : World} (hm : P.follows .mixedOrders = true)
    (hap : apartAll ops = true) (hf : forward ops = true) (hsz : within ops a.tmps.size = true) (hwt : waitsAll ops L = true) (hall : allBut ops L = true)
    (hrf : ∀ a, Later a a) (htr : ∀ a b c, Later a b → Later b c → Later a c) (hst : ∀ i v w w', T i v w → Later w w' → T i v w')
    (hdr : Later w { w with drawn := w.drawn + 1 })
    (hop : ∀ i o, i < L → ops[i]? = some o → StepOk P ops Q Later T a w i o)
    (hlast : ∀ o a' w', ops[L]? = some o → Later w w' → Same ops a a' → (∀ i oi, i < L → ops[i]? = some oi → T i (valOf a' oi) w') → o.wp P a' w' (fun a'' w'' => Q .normal a'' w'') Q) : (Code.region id ops true).wp P Q a w := by
  have hLs : L + 1 = ops.size := by
    simp only [waitsAll, Bool.and_eq_true, decide_eq_true_eq] at hwt
    exact hwt.1
  exact wp_region_any hm (wpAny_invL L (a0 := a) (w0 := w) hap hf hsz hwt hall hrf htr hst hop hlast ops.size (Array.replicate ops.size false) a _ (by simp) (by simp) (by rw [Array.getD_eq_getD_getElem?]; simp [show L < ops.size by omega]) (fun k o hk hl => by
    have := (Array.getElem?_eq_some_iff.1 hk).1
    rw [Array.getD_eq_getD_getElem?] at hl
    simp [this] at hl) hdr ⟨rfl, rfl, fun _ _ => rfl⟩ (fun i o hi hl => by
    have := (Array.getElem?_eq_some_iff.1 hi).1
    rw [Array.getD_eq_getD_getElem?] at hl
    simp [this] at hl))

end

end Go.Proofs.YtalmpmhnkilalaaGreatDoor
