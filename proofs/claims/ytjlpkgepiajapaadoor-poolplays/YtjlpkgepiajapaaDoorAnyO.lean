/-
  A region that draws its order and holds one call that changes memory; all else leaves things as they are, calls too. Nothing of the program.
-/
import Derived.Test.YtjlpkgepiajapaaDoorAnyB
import Derived.Test.YtjlpkgepiajapaaDoorAnyM
namespace Go.Proofs.YtjlpkgepiajapaaDoor
open Go.RowKit
set_option linter.unusedVariables false
set_option linter.unusedSimpArgs false

section
variable {P : Program} {ops : Array Oper} {Q : Exit → Act → World → Prop} {T : Nat → Value → World → Prop} {R : World → World → Prop} {I0 I1 : World → Prop} {qA : Nat} {a0 : Act}

/-- A step that leaves things as they are. -/
def ReadOkW (P : Program) (ops : Array Oper) (Q : Exit → Act → World → Prop) (T : Nat → Value → World → Prop) (R : World → World → Prop) (I0 I1 : World → Prop) (a0 : Act) (i : Nat) (o : Oper) : Prop :=
  ∀ (a : Act) (w : World), I0 w ∨ I1 w → Same ops a0 a → (∀ e ∈ o.after, Region.binds .any e = true → ∀ oj, ops[e.on]? = some oj → T e.on (valAt a oj) w) →
    Region.wanted o (yielded ops a.tmps) = true ∧ o.wp P a w (fun a' w' => ∃ v, a' = a.put o.dst v ∧ R w w' ∧ (I0 w → I0 w') ∧ (I1 w → I1 w') ∧ T i (told o a v) w') Q
/-- The call. -/
def CallOkW (P : Program) (ops : Array Oper) (Q : Exit → Act → World → Prop) (T : Nat → Value → World → Prop) (R : World → World → Prop) (I J : World → Prop) (a0 : Act) (i : Nat) (o : Oper) : Prop :=
  ∀ (a : Act) (w : World), I w → Same ops a0 a → (∀ e ∈ o.after, Region.binds .any e = true → ∀ oj, ops[e.on]? = some oj → T e.on (valAt a oj) w) →
    Region.wanted o (yielded ops a.tmps) = true ∧ o.wp P a w (fun a' w' => ∃ v, a' = a.put o.dst v ∧ J w' ∧ R w w' ∧ T i (told o a v) w') Q

theorem wpAny_oneW (hap : placesOk ops = true) (hf : forward ops = true) (hsz : within ops a0.tmps.size = true) (hAs : qA < ops.size)
    (hst : ∀ i v w w', T i v w → R w w' → T i v w')
    (hop : ∀ i o, ops[i]? = some o → i ≠ qA → ReadOkW P ops Q T R I0 I1 a0 i o)
    (hA : ∀ o, ops[qA]? = some o → CallOkW P ops Q T R I0 I1 a0 qA o)
    (hdone : ∀ a w, I1 w → Same ops a0 a → (∀ i o, ops[i]? = some o → T i (valAt a o) w) → Q .normal a w) :
    ∀ (fuel : Nat) (listed : Array Bool) (a : Act) (w : World), listed.size = ops.size → listed.toList.countP id + fuel = ops.size →
      ((listed.getD qA true = true → I1 w) ∧ (listed.getD qA true = false → I0 w)) → Same ops a0 a →
      (∀ i o, ops[i]? = some o → listed.getD i true = true → T i (valAt a o) w ∧ ∀ e ∈ o.after, Region.binds .any e = true → listed.getD e.on false = true) → wpAny P .any ops Q fuel listed a w := by
  intro fuel
  induction fuel with
  | zero =>
    intro listed a w hl hc hph hs hT
    have hall2 : ∀ i, i < ops.size → listed.getD i true = true := by
      intro i hi
      have := List.countP_eq_length.1 (show listed.toList.countP id = listed.toList.length by rw [Array.length_toList]; omega) listed[i] (by simp)
      rw [Array.getD_eq_getD_getElem?]
      simpa [show i < listed.size by omega] using this
    refine ⟨?_, hdone a w (hph.1 (hall2 qA hAs)) hs fun i o hi => (hT i o hi (hall2 i (Array.getElem?_eq_some_iff.1 hi).1)).1⟩
    cases hr : Region.ready .any ops listed with
    | nil => rfl
    | cons j t =>
      exfalso
      have hj : j ∈ Region.ready .any ops listed := by rw [hr]; simp
      rw [mem_ready] at hj
      obtain ⟨h0, o, ho, _⟩ := hj
      rw [hall2 j (Array.getElem?_eq_some_iff.1 ho).1] at h0
      cases h0
  | succ fuel ih =>
    intro listed a w hl hc hph hs hT
    refine ⟨fun hr => hdone a w (hph.1 (not_ready hf hl hr qA hAs)) hs fun i o hi => (hT i o hi (not_ready hf hl hr i (Array.getElem?_eq_some_iff.1 hi).1)).1, fun i hi => ?_⟩
    rw [mem_ready] at hi
    obtain ⟨h0, o, ho, hdeps⟩ := hi
    have hlt := (Array.getElem?_eq_some_iff.1 ho).1
    have hyes : ∀ k ok, ops[k]? = some ok → listed.getD k false = true → listed.getD k true = true := by
      intro k ok hk this
      have hlt2 := (Array.getElem?_eq_some_iff.1 hk).1
      rw [Array.getD_eq_getD_getElem?] at this ⊢
      have hb2 : k < listed.size := by omega
      simpa [hb2] using this
    have hany : I0 w ∨ I1 w := by
      cases ha : listed.getD qA true with
      | true => exact .inr (hph.1 ha)
      | false => exact .inl (hph.2 ha)
    have hdv : ∀ e ∈ o.after, Region.binds .any e = true → ∀ oj, ops[e.on]? = some oj → T e.on (valAt a oj) w := fun e he hb oj hoj => (hT e.on oj hoj (hyes _ _ hoj (hdeps e he hb))).1
    have hkeep : ∀ j, i ≠ j → (listed.setIfInBounds i true).getD j true = listed.getD j true := by
      intro j hij
      rw [Array.getD_eq_getD_getElem?, Array.getElem?_setIfInBounds, if_neg hij, ← Array.getD_eq_getD_getElem?]
    have hself : (listed.setIfInBounds i true).getD i true = true := by
      rw [Array.getD_eq_getD_getElem?, Array.getElem?_setIfInBounds]
      simp [show i < listed.size by omega]
    have next : ∀ v w', R w w' → T i (told o a v) w' → (((listed.setIfInBounds i true).getD qA true = true → I1 w') ∧ ((listed.setIfInBounds i true).getD qA true = false → I0 w')) → wpAny P .any ops Q fuel (listed.setIfInBounds i true) (a.put o.dst v) w' := by
      intro v w' hR hv hph2
      have hback : ∀ j, i ≠ j → (listed.setIfInBounds i true).getD j true = true → listed.getD j true = true := fun j hij hjl => by rw [hkeep j hij] at hjl; exact hjl
      have hon : ∀ k, listed.getD k false = true → (listed.setIfInBounds i true).getD k false = true := by
        intro k hk
        rw [Array.getD_eq_getD_getElem?] at hk ⊢
        rw [Array.getElem?_setIfInBounds]
        by_cases hik : i = k
        · simp [hik, show k < listed.size by omega]
        · rw [if_neg hik]; exact hk
      have hval : ∀ j oj, ops[j]? = some oj → i ≠ j → listed.getD j true = true → valAt (a.put o.dst v) oj = valAt a oj := by
        intro j oj hj hij hjl
        refine valAt_put hj ho (fun d hd hp => ?_)
        obtain ⟨e, he, hb, hon2⟩ := placesOk_spec hap hj ho (fun h => hij h.symm) hd hp
        have := (hT j oj hj hjl).2 e he hb
        rw [hon2] at this
        have h3 := hyes i o ho this
        rw [h3] at h0
        cases h0
      refine ih _ _ _ (by rw [Array.size_setIfInBounds]; exact hl) ?_ hph2 (same_put ho hs) ?_
      · rw [Array.toList_setIfInBounds, List.countP_set (by rw [Array.length_toList]; omega)]
        have hf0 : listed.toList[i]'(by rw [Array.length_toList]; omega) = false := by
          rw [Array.getD_eq_getD_getElem?] at h0
          simpa [show i < listed.size by omega] using h0
        rw [hf0]
        show listed.toList.countP id - 0 + 1 + fuel = ops.size
        omega
      · intro j oj hj hjl
        by_cases hij : i = j
        · subst hij
          rw [ho] at hj
          obtain rfl := Option.some.inj hj
          rw [valAt_put_same (by rw [hs.size]; exact hsz) ho]
          exact ⟨hv, fun e he hb => hon _ (hdeps e he hb)⟩
        · have hjl2 := hback j hij hjl
          rw [hval j oj hj hij hjl2]
          obtain ⟨q1, q3⟩ := hT j oj hj hjl2
          exact ⟨hst _ _ _ _ q1 hR, fun e he hb => hon _ (q3 e he hb)⟩
    by_cases hiA : i = qA
    · subst hiA
      obtain ⟨hwant, step⟩ := hA o ho a w (hph.2 h0) hs hdv
      unfold wpOp
      simp only [ho]
      rw [if_pos hwant]
      left
      refine Oper.wp_mono (fun a' w' h' => ?_) step
      obtain ⟨v, rfl, h1, hR, h2⟩ := h'
      refine next v w' hR h2 ⟨fun _ => h1, fun h => ?_⟩
      rw [hself] at h; cases h
    · obtain ⟨hwant, step⟩ := hop i o ho hiA a w hany hs hdv
      unfold wpOp
      simp only [ho]
      rw [if_pos hwant]
      left
      refine Oper.wp_mono (fun a' w' h' => ?_) step
      obtain ⟨v, rfl, hR, i0, i1, hv⟩ := h'
      refine next v w' hR hv ?_
      rw [hkeep qA hiA]
      exact ⟨fun h => i1 (hph.1 h), fun h => i0 (hph.2 h)⟩

theorem wp_region_oneW (T : Nat → Value → World → Prop) (R : World → World → Prop) (I0 I1 : World → Prop) (qA : Nat) {id : Nat} {a : Act} {w : World} (hm : P.follows .mixedOrders = true)
    (hap : placesOk ops = true) (hf : forward ops = true) (hsz : within ops a.tmps.size = true) (hAs : qA < ops.size)
    (h0 : I0 { w with drawn := w.drawn + 1 })
    (hst : ∀ i v w w', T i v w → R w w' → T i v w')
    (hop : ∀ i o, ops[i]? = some o → i ≠ qA → ReadOkW P ops Q T R I0 I1 a i o)
    (hA : ∀ o, ops[qA]? = some o → CallOkW P ops Q T R I0 I1 a qA o)
    (hdone : ∀ a' w', I1 w' → Same ops a a' → (∀ i o, ops[i]? = some o → T i (valAt a' o) w') → Q .normal a' w') : (Code.region id ops true).wp P Q a w :=
  wp_region_any hm (wpAny_oneW (a0 := a) hap hf hsz hAs hst hop hA hdone ops.size (Array.replicate ops.size false) a _ (by simp) (by simp)
    ⟨fun h => by rw [Array.getD_eq_getD_getElem?] at h; simp [hAs] at h, fun _ => h0⟩ ⟨rfl, rfl, fun _ _ => rfl⟩ (fun i o hi hl => by
    have := (Array.getElem?_eq_some_iff.1 hi).1
    rw [Array.getD_eq_getD_getElem?] at hl
    simp [this] at hl))
end

end Go.Proofs.YtjlpkgepiajapaaDoor
