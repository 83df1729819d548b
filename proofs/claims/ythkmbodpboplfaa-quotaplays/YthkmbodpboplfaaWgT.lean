/-
  A region that draws its order and holds two calls that change memory, the second behind the first; all else only reads. Nothing of the program.
-/
import Derived.Test.YthkmbodpboplfaaAnyW
import Derived.Test.YthkmbodpboplfaaAnyC
import Derived.Test.YthkmbodpboplfaaAnyM
namespace Go.Proofs.Ythkmbodpboplfaa
open Go.RowKit
set_option linter.unusedVariables false
set_option linter.unusedSimpArgs false

section
variable {P : Program} {ops : Array Oper} {Q : Exit → Act → World → Prop} {V : Nat → Value} {I0 I1 I2 : World → Prop} {qA qB : Nat} {a0 : Act}

/-- A step that only reads. -/
def ReadOk (P : Program) (ops : Array Oper) (V : Nat → Value) (I : World → Prop) (a0 : Act) (i : Nat) (o : Oper) : Prop :=
  ∀ (a : Act) (w : World), I w → Same ops a0 a → (∀ e ∈ o.after, Region.binds .any e = true → ∀ oj, ops[e.on]? = some oj → valAt a oj = V e.on) →
    Region.wanted o (yielded ops a.tmps) = true ∧ ∃ v, (execOp a.eval o).run P w = .ok (.value v) w ∧ told o a v = V i
/-- A call. -/
def CallOk (P : Program) (ops : Array Oper) (Q : Exit → Act → World → Prop) (V : Nat → Value) (I J : World → Prop) (a0 : Act) (i : Nat) (o : Oper) : Prop :=
  ∀ (a : Act) (w : World), I w → Same ops a0 a → (∀ e ∈ o.after, Region.binds .any e = true → ∀ oj, ops[e.on]? = some oj → valAt a oj = V e.on) →
    Region.wanted o (yielded ops a.tmps) = true ∧ o.wp P a w (fun a' w' => ∃ v, a' = a.put o.dst v ∧ J w' ∧ told o a v = V i) Q

theorem wpAny_pair (hap : placesOk ops = true) (hf : forward ops = true) (hsz : within ops a0.tmps.size = true) (hne : qA ≠ qB) (hAs : qA < ops.size) (hBs : qB < ops.size)
    (hwait : ∀ oB, ops[qB]? = some oB → ∃ e ∈ oB.after, Region.binds .any e = true ∧ e.on = qA)
    (hop : ∀ i o, ops[i]? = some o → i ≠ qA → i ≠ qB → ReadOk P ops V (fun w => I0 w ∨ I1 w ∨ I2 w) a0 i o)
    (hA : ∀ o, ops[qA]? = some o → CallOk P ops Q V I0 I1 a0 qA o) (hB : ∀ o, ops[qB]? = some o → CallOk P ops Q V I1 I2 a0 qB o)
    (hdone : ∀ a w, I2 w → Same ops a0 a → (∀ i o, ops[i]? = some o → valAt a o = V i) → Q .normal a w) :
    ∀ (fuel : Nat) (listed : Array Bool) (a : Act) (w : World), listed.size = ops.size → listed.toList.countP id + fuel = ops.size →
      ((listed.getD qB true = true → I2 w) ∧ (listed.getD qB true = false → listed.getD qA true = true → I1 w) ∧ (listed.getD qA true = false → I0 w)) → Same ops a0 a →
      (∀ i o, ops[i]? = some o → listed.getD i true = true → valAt a o = V i ∧ ∀ e ∈ o.after, Region.binds .any e = true → listed.getD e.on false = true) → wpAny P .any ops Q fuel listed a w := by
  intro fuel
  induction fuel with
  | zero =>
    intro listed a w hl hc hph hs hT
    have hall2 : ∀ i, i < ops.size → listed.getD i true = true := by
      intro i hi
      have := List.countP_eq_length.1 (show listed.toList.countP id = listed.toList.length by rw [Array.length_toList]; omega) listed[i] (by simp)
      rw [Array.getD_eq_getD_getElem?]
      simpa [show i < listed.size by omega] using this
    refine ⟨?_, hdone a w (hph.1 (hall2 qB hBs)) hs fun i o hi => (hT i o hi (hall2 i (Array.getElem?_eq_some_iff.1 hi).1)).1⟩
    cases hr : Region.ready .any ops listed with
    | nil => rfl
    | cons j t =>
      exfalso
      have hj : j ∈ Region.ready .any ops listed := by rw [hr]; simp
      rw [mem_ready] at hj
      obtain ⟨h0, o, ho, _⟩ := hj
      rw [hall2 j (Array.getElem?_eq_some_iff.1 ho).1] at h0
      cases h0
  | succ fuel ih =>
    intro listed a w hl hc hph hs hT
    refine ⟨fun hr => hdone a w (hph.1 (not_ready hf hl hr qB hBs)) hs fun i o hi => (hT i o hi (not_ready hf hl hr i (Array.getElem?_eq_some_iff.1 hi).1)).1, fun i hi => ?_⟩
    rw [mem_ready] at hi
    obtain ⟨h0, o, ho, hdeps⟩ := hi
    have hlt := (Array.getElem?_eq_some_iff.1 ho).1
    have hyes : ∀ k ok, ops[k]? = some ok → listed.getD k false = true → listed.getD k true = true := by
      intro k ok hk this
      have hlt2 := (Array.getElem?_eq_some_iff.1 hk).1
      rw [Array.getD_eq_getD_getElem?] at this ⊢
      have hb2 : k < listed.size := by omega
      simpa [hb2] using this
    have hany : I0 w ∨ I1 w ∨ I2 w := by
      cases hb : listed.getD qB true with
      | true => exact .inr (.inr (hph.1 hb))
      | false =>
        cases ha : listed.getD qA true with
        | true => exact .inr (.inl (hph.2.1 hb ha))
        | false => exact .inl (hph.2.2 ha)
    have hdv : ∀ e ∈ o.after, Region.binds .any e = true → ∀ oj, ops[e.on]? = some oj → valAt a oj = V e.on := fun e he hb oj hoj => (hT e.on oj hoj (hyes _ _ hoj (hdeps e he hb))).1
    have hkeep : ∀ j, i ≠ j → (listed.setIfInBounds i true).getD j true = listed.getD j true := by
      intro j hij
      rw [Array.getD_eq_getD_getElem?, Array.getElem?_setIfInBounds, if_neg hij, ← Array.getD_eq_getD_getElem?]
    have hself : (listed.setIfInBounds i true).getD i true = true := by
      rw [Array.getD_eq_getD_getElem?, Array.getElem?_setIfInBounds]
      simp [show i < listed.size by omega]
    have next : ∀ v w', told o a v = V i → (((listed.setIfInBounds i true).getD qB true = true → I2 w') ∧ ((listed.setIfInBounds i true).getD qB true = false → (listed.setIfInBounds i true).getD qA true = true → I1 w') ∧ ((listed.setIfInBounds i true).getD qA true = false → I0 w')) → wpAny P .any ops Q fuel (listed.setIfInBounds i true) (a.put o.dst v) w' := by
      intro v w' hv hph2
      have hback : ∀ j, i ≠ j → (listed.setIfInBounds i true).getD j true = true → listed.getD j true = true := fun j hij hjl => by rw [hkeep j hij] at hjl; exact hjl
      have hon : ∀ k, listed.getD k false = true → (listed.setIfInBounds i true).getD k false = true := by
        intro k hk
        rw [Array.getD_eq_getD_getElem?] at hk ⊢
        rw [Array.getElem?_setIfInBounds]
        by_cases hik : i = k
        · simp [hik, show k < listed.size by omega]
        · rw [if_neg hik]; exact hk
      have hval : ∀ j oj, ops[j]? = some oj → i ≠ j → listed.getD j true = true → valAt (a.put o.dst v) oj = valAt a oj := by
        intro j oj hj hij hjl
        refine valAt_put hj ho (fun d hd hp => ?_)
        obtain ⟨e, he, hb, hon2⟩ := placesOk_spec hap hj ho (fun h => hij h.symm) hd hp
        have := (hT j oj hj hjl).2 e he hb
        rw [hon2] at this
        have h3 := hyes i o ho this
        rw [h3] at h0
        cases h0
      refine ih _ _ _ (by rw [Array.size_setIfInBounds]; exact hl) ?_ hph2 (same_put ho hs) ?_
      · rw [Array.toList_setIfInBounds, List.countP_set (by rw [Array.length_toList]; omega)]
        have hf0 : listed.toList[i]'(by rw [Array.length_toList]; omega) = false := by
          rw [Array.getD_eq_getD_getElem?] at h0
          simpa [show i < listed.size by omega] using h0
        rw [hf0]
        show listed.toList.countP id - 0 + 1 + fuel = ops.size
        omega
      · intro j oj hj hjl
        by_cases hij : i = j
        · subst hij
          rw [ho] at hj
          obtain rfl := Option.some.inj hj
          rw [valAt_put_same (by rw [hs.size]; exact hsz) ho]
          exact ⟨hv, fun e he hb => hon _ (hdeps e he hb)⟩
        · have hjl2 := hback j hij hjl
          rw [hval j oj hj hij hjl2]
          obtain ⟨q1, q3⟩ := hT j oj hj hjl2
          exact ⟨q1, fun e he hb => hon _ (q3 e he hb)⟩
    by_cases hiA : i = qA
    · subst hiA
      have hBl : listed.getD qB true = false := by
        cases hb : listed.getD qB true with
        | false => rfl
        | true =>
          exfalso
          obtain ⟨oB, hoB⟩ : ∃ oB, ops[qB]? = some oB := ⟨_, Array.getElem?_eq_getElem hBs⟩
          obtain ⟨e, he, hb2, hon2⟩ := hwait oB hoB
          have h3 := (hT qB oB hoB hb).2 e he hb2
          rw [hon2] at h3
          rw [hyes i o ho h3] at h0
          cases h0
      obtain ⟨hwant, step⟩ := hA o ho a w (hph.2.2 h0) hs hdv
      unfold wpOp
      simp only [ho]
      rw [if_pos hwant]
      left
      refine Oper.wp_mono (fun a' w' h' => ?_) step
      obtain ⟨v, rfl, h1, h2⟩ := h'
      refine next v w' h2 ⟨fun h => ?_, fun _ _ => h1, fun h => ?_⟩
      · rw [hkeep qB hne, hBl] at h; cases h
      · rw [hself] at h; cases h
    · by_cases hiB : i = qB
      · subst hiB
        have hAl : listed.getD qA true = true := by
          obtain ⟨e, he, hb2, hon2⟩ := hwait o ho
          have h3 := hdeps e he hb2
          rw [hon2] at h3
          exact hyes qA _ (Array.getElem?_eq_getElem hAs) h3
        obtain ⟨hwant, step⟩ := hB o ho a w (hph.2.1 h0 hAl) hs hdv
        unfold wpOp
        simp only [ho]
        rw [if_pos hwant]
        left
        refine Oper.wp_mono (fun a' w' h' => ?_) step
        obtain ⟨v, rfl, h1, h2⟩ := h'
        refine next v w' h2 ⟨fun _ => h1, fun h => ?_, fun h => ?_⟩
        · rw [hself] at h; cases h
        · rw [hkeep qA hiA, hAl] at h; cases h
      · obtain ⟨hwant, v, hr, hv⟩ := hop i o ho hiA hiB a w hany hs hdv
        unfold wpOp
        simp only [ho]
        rw [if_pos hwant]
        left
        unfold Oper.wp
        rw [hr]
        refine next v w hv ?_
        rw [hkeep qB hiB, hkeep qA hiA]
        exact hph

theorem wp_region_pair (V : Nat → Value) (I0 I1 I2 : World → Prop) (qA qB : Nat) {id : Nat} {a : Act} {w : World} (hm : P.follows .mixedOrders = true)
    (hap : placesOk ops = true) (hf : forward ops = true) (hsz : within ops a.tmps.size = true) (hne : qA ≠ qB) (hAs : qA < ops.size) (hBs : qB < ops.size)
    (hwait : ∀ oB, ops[qB]? = some oB → ∃ e ∈ oB.after, Region.binds .any e = true ∧ e.on = qA)
    (h0 : I0 { w with drawn := w.drawn + 1 })
    (hop : ∀ i o, ops[i]? = some o → i ≠ qA → i ≠ qB → ReadOk P ops V (fun w => I0 w ∨ I1 w ∨ I2 w) a i o)
    (hA : ∀ o, ops[qA]? = some o → CallOk P ops Q V I0 I1 a qA o) (hB : ∀ o, ops[qB]? = some o → CallOk P ops Q V I1 I2 a qB o)
    (hdone : ∀ a' w', I2 w' → Same ops a a' → (∀ i o, ops[i]? = some o → valAt a' o = V i) → Q .normal a' w') : (Code.region id ops true).wp P Q a w :=
  wp_region_any hm (wpAny_pair (a0 := a) hap hf hsz hne hAs hBs hwait hop hA hB hdone ops.size (Array.replicate ops.size false) a _ (by simp) (by simp)
    ⟨fun h => by rw [Array.getD_eq_getD_getElem?] at h; simp [hBs] at h, fun _ h => by rw [Array.getD_eq_getD_getElem?] at h; simp [hAs] at h, fun _ => h0⟩ ⟨rfl, rfl, fun _ _ => rfl⟩ (fun i o hi hl => by
    have := (Array.getElem?_eq_some_iff.1 hi).1
    rw [Array.getD_eq_getD_getElem?] at hl
    simp [this] at hl))
end

end Go.Proofs.Ythkmbodpboplfaa
