/-
  The rule of ..AnyB with a relation for each operation's step: what an operation has left must outlast those steps alone that may come behind it. Nothing of the program.
-/
import Derived.Test.YtjpelnbffodaiaaAnyB
namespace Go.Proofs.Ytjpelnbffodaiaa
open Go.RowKit
set_option linter.unusedVariables false

theorem placesOk_apart {ops : Array Oper} (h : placesOk ops = true) {i j : Nat} {x y : Oper} (hi : ops[i]? = some x) (hj : ops[j]? = some y) (hij : i ≠ j) {d : Tmp} (hx : x.dst = some d) (hy : y.dst = some d) : False := by
  have h1 := (Array.getElem?_eq_some_iff.1 hi).1
  have h2 := (Array.getElem?_eq_some_iff.1 hj).1
  have := List.all_eq_true.1 (List.all_eq_true.1 h i (List.mem_range.2 h1)) j (List.mem_range.2 h2)
  have hp : place x = some d := by unfold place; rw [hx]
  simp only [hi, hj, hy, hp, hx] at this
  simp [hij] at this

section
variable {P : Program} {ops : Array Oper} {Q : Exit → Act → World → Prop} {Later : World → World → Prop} {Ls : Nat → World → World → Prop} {Early : World → Prop} {q : Nat} {T : Nat → Value → World → Prop} {S : Nat → Bool} {a0 : Act} {w0 : World}

def StepOkC (P : Program) (ops : Array Oper) (Q : Exit → Act → World → Prop) (Later : World → World → Prop) (Ls : Nat → World → World → Prop) (Early : World → Prop) (q : Nat) (T : Nat → Value → World → Prop) (S : Nat → Bool) (a0 : Act) (w0 : World) (i : Nat) (o : Oper) : Prop :=
  ∀ (a : Act) (w : World), Later w0 w → (i = q → Early w) → (∀ (j : Nat) (oj : Oper) (d : Tmp), ops[j]? = some oj → oj.dst = some d → (∃ e ∈ oj.after, Region.binds .any e = true ∧ e.on = i) → a.tmps.getD d undef = a0.tmps.getD d undef) → Same ops a0 a →
    (∀ e ∈ o.after, Region.binds .any e = true → ∀ oj, ops[e.on]? = some oj → T e.on (valAt a oj) w) →
    (∀ e ∈ o.after, ∀ f ∈ o.after, Region.binds .any e = true → Region.binds .any f = true → e.on ≠ f.on → S e.on = true → S f.on = true → ∀ oj ok, ops[e.on]? = some oj → ops[f.on]? = some ok → Apart (valAt a oj) (valAt a ok)) →
    if Region.wanted o (yielded ops a.tmps) = true then o.wp P a w (fun a' w' => ∃ v, a' = a.put o.dst v ∧ Ls i w w' ∧ T i (told o a v) w' ∧ (S i = true → Newly w w' (told o a v))) Q else T i (told o a undef) w ∧ (S i = true → Newly w w (told o a undef))

/-- THE RULE. -/
theorem wpAny_invC (hap : placesOk ops = true) (hf : forward ops = true) (hsz : within ops a0.tmps.size = true)
    (hrl : ∀ i a, Ls i a a) (htr : ∀ a b c, Later a b → Later b c → Later a c) (hsub : ∀ i w w', Ls i w w' → Later w w') (hE : ∀ j w w', j ≠ q → Ls j w w' → Early w → Early w') (hst : ∀ i j oi, ops[i]? = some oi → i ≠ j → (∀ e ∈ oi.after, Region.binds .any e = true → e.on ≠ j) → ∀ v w w', T i v w → Ls j w w' → T i v w') (hls : ∀ w w', Later w w' → w.heap.size ≤ w'.heap.size)
    (hop : ∀ i o, ops[i]? = some o → StepOkC P ops Q Later Ls Early q T S a0 w0 i o)
    (hdone : ∀ a w, Later w0 w → Same ops a0 a → (∀ i o, ops[i]? = some o → T i (valAt a o) w) → Q .normal a w) :
    ∀ (fuel : Nat) (listed : Array Bool) (a : Act) (w : World), listed.size = ops.size → listed.toList.countP id + fuel = ops.size → Later w0 w → (listed.getD q true = false → Early w) → (∀ (j : Nat) (oj : Oper) (d : Tmp), ops[j]? = some oj → oj.dst = some d → listed.getD j true = false → a.tmps.getD d undef = a0.tmps.getD d undef) → Same ops a0 a →
      (∀ i o, ops[i]? = some o → listed.getD i true = true → T i (valAt a o) w ∧ (S i = true → ∀ x, (valAt a o).ownBlock = some x → x < w.heap.size) ∧ ∀ e ∈ o.after, Region.binds .any e = true → listed.getD e.on false = true) →
      (∀ i j oi oj, ops[i]? = some oi → ops[j]? = some oj → listed.getD i true = true → listed.getD j true = true → i ≠ j → S i = true → S j = true → Apart (valAt a oi) (valAt a oj)) → wpAny P .any ops Q fuel listed a w := by
  intro fuel
  induction fuel with
  | zero =>
    intro listed a w hl hc hw hEw hU hs hT hX
    have hall2 : ∀ i, i < ops.size → listed.getD i true = true := by
      intro i hi
      have := List.countP_eq_length.1 (show listed.toList.countP id = listed.toList.length by rw [Array.length_toList]; omega) listed[i] (by simp)
      rw [Array.getD_eq_getD_getElem?]
      simpa [show i < listed.size by omega] using this
    refine ⟨?_, hdone a w hw hs fun i o hi => (hT i o hi (hall2 i (Array.getElem?_eq_some_iff.1 hi).1)).1⟩
    cases hr : Region.ready .any ops listed with
    | nil => rfl
    | cons j t =>
      exfalso
      have hj : j ∈ Region.ready .any ops listed := by rw [hr]; simp
      rw [mem_ready] at hj
      obtain ⟨h0, o, ho, _⟩ := hj
      rw [hall2 j (Array.getElem?_eq_some_iff.1 ho).1] at h0
      cases h0
  | succ fuel ih =>
    intro listed a w hl hc hw hEw hU hs hT hX
    refine ⟨fun hr => hdone a w hw hs fun i o hi => (hT i o hi (not_ready hf hl hr i (Array.getElem?_eq_some_iff.1 hi).1)).1, fun i hi => ?_⟩
    rw [mem_ready] at hi
    obtain ⟨h0, o, ho, hdeps⟩ := hi
    have hlt := (Array.getElem?_eq_some_iff.1 ho).1
    have hyes : ∀ k ok, ops[k]? = some ok → listed.getD k false = true → listed.getD k true = true := by
      intro k ok hk this
      have hlt2 := (Array.getElem?_eq_some_iff.1 hk).1
      rw [Array.getD_eq_getD_getElem?] at this ⊢
      have hb2 : k < listed.size := by omega
      simpa [hb2] using this
    have step := hop i o ho a w hw (fun hq => hEw (by rw [← hq]; exact h0)) (fun j oj d hj hd hex => hU j oj d hj hd (by
      cases hc : listed.getD j true with
      | false => rfl
      | true =>
        exfalso
        obtain ⟨e, he, hb, hon2⟩ := hex
        have h3 := (hT j oj hj hc).2.2 e he hb
        rw [hon2] at h3
        rw [hyes i o ho h3] at h0
        cases h0)) hs (fun e he hb oj hoj => (hT e.on oj hoj (hyes _ _ hoj (hdeps e he hb))).1)
      (fun e he f hf2 hb hb2 hne hS1 hS2 oj ok hoj hok => hX _ _ _ _ hoj hok (hyes _ _ hoj (hdeps e he hb)) (hyes _ _ hok (hdeps f hf2 hb2)) hne hS1 hS2)
    have next : ∀ v w', Ls i w w' → T i (told o a v) w' → (S i = true → Newly w w' (told o a v)) → wpAny P .any ops Q fuel (listed.setIfInBounds i true) (a.put o.dst v) w' := by
      intro v w' hls2 hT2 hN2
      have hl2 := hsub _ _ _ hls2
      have hback : ∀ j, i ≠ j → (listed.setIfInBounds i true).getD j true = true → listed.getD j true = true := by
        intro j hij hjl
        rw [Array.getD_eq_getD_getElem?, Array.getElem?_setIfInBounds, if_neg hij] at hjl
        rw [Array.getD_eq_getD_getElem?]
        exact hjl
      have hon : ∀ k, listed.getD k false = true → (listed.setIfInBounds i true).getD k false = true := by
        intro k hk
        rw [Array.getD_eq_getD_getElem?] at hk ⊢
        rw [Array.getElem?_setIfInBounds]
        by_cases hik : i = k
        · simp [hik, show k < listed.size by omega]
        · rw [if_neg hik]; exact hk
      have hval : ∀ j oj, ops[j]? = some oj → i ≠ j → listed.getD j true = true → valAt (a.put o.dst v) oj = valAt a oj := by
        intro j oj hj hij hjl
        refine valAt_put hj ho (fun d hd hp => ?_)
        obtain ⟨e, he, hb, hon2⟩ := placesOk_spec hap hj ho (fun h => hij h.symm) hd hp
        have := (hT j oj hj hjl).2.2 e he hb
        rw [hon2] at this
        have h3 := hyes i o ho this
        rw [h3] at h0
        cases h0
      refine ih _ _ _ (by rw [Array.size_setIfInBounds]; exact hl) ?_ (htr _ _ _ hw hl2) ?hearly ?hunt (same_put ho hs) ?_ ?_
      case hunt =>
        intro j oj d hj hd hjl
        have hij : i ≠ j := by
          intro e
          subst e
          rw [Array.getD_eq_getD_getElem?, Array.getElem?_setIfInBounds] at hjl
          simp [show i < listed.size by omega] at hjl
        rw [Array.getD_eq_getD_getElem?, Array.getElem?_setIfInBounds, if_neg hij, ← Array.getD_eq_getD_getElem?] at hjl
        refine Eq.trans ?_ (hU j oj d hj hd hjl)
        cases hod : o.dst with
        | none => rfl
        | some c => exact put_slot a c d v (fun e => placesOk_apart hap hj ho (fun h => hij h.symm) hd (by rw [hod, e]))
      case hearly =>
        intro hq
        rw [Array.getD_eq_getD_getElem?, Array.getElem?_setIfInBounds] at hq
        by_cases hiq : i = q
        · simp [hiq, show q < listed.size by omega] at hq
        · rw [if_neg hiq] at hq
          exact hE i w w' hiq hls2 (hEw (by rw [Array.getD_eq_getD_getElem?]; exact hq))
      · rw [Array.toList_setIfInBounds, List.countP_set (by rw [Array.length_toList]; omega)]
        have hf0 : listed.toList[i]'(by rw [Array.length_toList]; omega) = false := by
          rw [Array.getD_eq_getD_getElem?] at h0
          simpa [show i < listed.size by omega] using h0
        rw [hf0]
        show listed.toList.countP id - 0 + 1 + fuel = ops.size
        omega
      · intro j oj hj hjl
        by_cases hij : i = j
        · subst hij
          rw [ho] at hj
          obtain rfl := Option.some.inj hj
          rw [valAt_put_same (by rw [hs.size]; exact hsz) ho]
          exact ⟨hT2, fun hS x hx => (hN2 hS x hx).2, fun e he hb => hon _ (hdeps e he hb)⟩
        · have hjl2 := hback j hij hjl
          rw [hval j oj hj hij hjl2]
          obtain ⟨q1, q2, q3⟩ := hT j oj hj hjl2
          exact ⟨hst j i oj hj (fun h => hij h.symm) (fun e he hb hon2 => by
            have h3 := q3 e he hb
            rw [hon2] at h3
            rw [hyes i o ho h3] at h0
            cases h0) _ _ _ q1 hls2, fun hS x hx => Nat.lt_of_lt_of_le (q2 hS x hx) (hls _ _ hl2), fun e he hb => hon _ (q3 e he hb)⟩
      · have key : ∀ j oj, ops[j]? = some oj → i ≠ j → listed.getD j true = true → S i = true → S j = true → Apart (told o a v) (valAt a oj) := by
          intro j oj hj hij hjl hS1 hS2 x hx e
          have h3 := (hN2 hS1 x hx).1
          have h4 := (hT j oj hj hjl).2.1 hS2 x e
          omega
        intro j k oj ok hj hk hjl hkl hjk hS1 hS2
        by_cases hij : i = j
        · subst hij
          rw [ho] at hj
          obtain rfl := Option.some.inj hj
          have hkl2 := hback k hjk hkl
          rw [valAt_put_same (by rw [hs.size]; exact hsz) ho, hval k ok hk hjk hkl2]
          exact key k ok hk hjk hkl2 hS1 hS2
        · have hjl2 := hback j hij hjl
          rw [hval j oj hj hij hjl2]
          by_cases hik : i = k
          · subst hik
            rw [ho] at hk
            obtain rfl := Option.some.inj hk
            rw [valAt_put_same (by rw [hs.size]; exact hsz) ho]
            exact (key j oj hj hij hjl2 hS2 hS1).symm
          · have hkl2 := hback k hik hkl
            rw [hval k ok hk hik hkl2]
            exact hX j k oj ok hj hk hjl2 hkl2 hjk hS1 hS2
    unfold wpOp
    simp only [ho]
    split
    · rename_i hwant
      rw [if_pos hwant] at step
      left
      refine Oper.wp_mono (fun a' w' h' => ?_) step
      obtain ⟨v, rfl, h1, h2, h3⟩ := h'
      exact next v w' h1 h2 h3
    · rename_i hwant
      rw [if_neg hwant] at step
      exact next undef w (hrl i w) step.1 step.2

theorem wp_region_invC (Later : World → World → Prop) (Ls : Nat → World → World → Prop) (Early : World → Prop) (q : Nat) (T : Nat → Value → World → Prop) (S : Nat → Bool) {id : Nat} {a : Act} {w : World} (hm : P.follows .mixedOrders = true)
    (hap : placesOk ops = true) (hf : forward ops = true) (hsz : within ops a.tmps.size = true)
    (hrl : ∀ i a, Ls i a a) (htr : ∀ a b c, Later a b → Later b c → Later a c) (hsub : ∀ i w w', Ls i w w' → Later w w') (hE : ∀ j w w', j ≠ q → Ls j w w' → Early w → Early w') (hst : ∀ i j oi, ops[i]? = some oi → i ≠ j → (∀ e ∈ oi.after, Region.binds .any e = true → e.on ≠ j) → ∀ v w w', T i v w → Ls j w w' → T i v w') (hls : ∀ w w', Later w w' → w.heap.size ≤ w'.heap.size)
    (hdr : Later w { w with drawn := w.drawn + 1 }) (hE0 : Early { w with drawn := w.drawn + 1 })
    (hop : ∀ i o, ops[i]? = some o → StepOkC P ops Q Later Ls Early q T S a w i o)
    (hdone : ∀ a' w', Later w w' → Same ops a a' → (∀ i o, ops[i]? = some o → T i (valAt a' o) w') → Q .normal a' w') : (Code.region id ops true).wp P Q a w :=
  wp_region_any hm (wpAny_invC (a0 := a) (w0 := w) hap hf hsz hrl htr hsub hE hst hls hop hdone ops.size (Array.replicate ops.size false) a _ (by simp) (by simp) hdr (fun _ => hE0) (fun _ _ _ _ _ _ => rfl) ⟨rfl, rfl, fun _ _ => rfl⟩ (fun i o hi hl => by
    have := (Array.getElem?_eq_some_iff.1 hi).1
    rw [Array.getD_eq_getD_getElem?] at hl
    simp [this] at hl) (fun i j oi oj hi hj hl => by
    have := (Array.getElem?_eq_some_iff.1 hi).1
    rw [Array.getD_eq_getD_getElem?] at hl
    simp [this] at hl))

theorem stepC_yes {i : Nat} {o : Oper} {a : Act} {w : World} (hw : Region.wanted o (yielded ops a.tmps) = true) (h : o.wp P a w (fun a' w' => ∃ v, a' = a.put o.dst v ∧ Ls i w w' ∧ T i (told o a v) w' ∧ (S i = true → Newly w w' (told o a v))) Q) :
    if Region.wanted o (yielded ops a.tmps) = true then o.wp P a w (fun a' w' => ∃ v, a' = a.put o.dst v ∧ Ls i w w' ∧ T i (told o a v) w' ∧ (S i = true → Newly w w' (told o a v))) Q else T i (told o a undef) w ∧ (S i = true → Newly w w (told o a undef)) := by rw [if_pos hw]; exact h

theorem okC_value {i : Nat} {o : Oper} {a : Act} {w : World} (hrl : ∀ i a, Ls i a a) (hS : S i = false) (v : Value) (h : (execOp a.eval o).run P w = .ok (.value v) w) (hT : T i (told o a v) w) : o.wp P a w (fun a' w' => ∃ v, a' = a.put o.dst v ∧ Ls i w w' ∧ T i (told o a v) w' ∧ (S i = true → Newly w w' (told o a v))) Q := by
  unfold Oper.wp
  rw [h]
  exact ⟨v, rfl, hrl i w, hT, fun e => by rw [hS] at e; cases e⟩
theorem okC_call {i : Nat} {o : Oper} {a : Act} {w : World} {f : FuncId} {args : Array Value} (h : (execOp a.eval o).run P w = .ok (.enter f args) w) (hc : Calls P f args w fun e w' => ∃ v, e = .returned v ∧ Ls i w w' ∧ T i (told o a v) w' ∧ (S i = true → Newly w w' (told o a v))) : o.wp P a w (fun a' w' => ∃ v, a' = a.put o.dst v ∧ Ls i w w' ∧ T i (told o a v) w' ∧ (S i = true → Newly w w' (told o a v))) Q := by
  unfold Oper.wp
  rw [h]
  refine Calls.mono hc ?_
  rintro e w' ⟨v, rfl, hl, ht⟩
  exact ⟨v, rfl, hl, ht⟩

end


end Go.Proofs.Ytjpelnbffodaiaa
