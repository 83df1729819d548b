/-
  A region that draws its order and holds calls that change memory, each behind the one ahead of it; all else only reads. Nothing of the program.
-/
import Derived.Test.YtlppibigceeimaaDoorAnyB
import Derived.Test.YtlppibigceeimaaDoorBlk
namespace Go.Proofs.YtlppibigceeimaaDoor
open Go.RowKit
set_option linter.unusedVariables false
set_option linter.unusedSimpArgs false

section
variable {P : Program} {ops : Array Oper} {Q : Exit → Act → World → Prop} {V : Nat → Value} {I : Nat → World → Prop} {q : Nat → Nat} {m : Nat} {a0 : Act}

/-- A step that only reads. -/
def ReadOkC (P : Program) (ops : Array Oper) (V : Nat → Value) (I : World → Prop) (a0 : Act) (i : Nat) (o : Oper) : Prop :=
  ∀ (a : Act) (w : World), I w → Same ops a0 a → (∀ e ∈ o.after, Region.binds .any e = true → ∀ oj, ops[e.on]? = some oj → valAt a oj = V e.on) →
    Region.wanted o (yielded ops a.tmps) = true ∧ ∃ v, (execOp a.eval o).run P w = .ok (.value v) w ∧ told o a v = V i
/-- A call. -/
def CallOkC (P : Program) (ops : Array Oper) (Q : Exit → Act → World → Prop) (V : Nat → Value) (I J : World → Prop) (a0 : Act) (i : Nat) (o : Oper) : Prop :=
  ∀ (a : Act) (w : World), I w → Same ops a0 a → (∀ e ∈ o.after, Region.binds .any e = true → ∀ oj, ops[e.on]? = some oj → valAt a oj = V e.on) →
    Region.wanted o (yielded ops a.tmps) = true ∧ o.wp P a w (fun a' w' => ∃ v, a' = a.put o.dst v ∧ J w' ∧ told o a v = V i) Q

theorem wpAny_calls (hap : placesOk ops = true) (hf : forward ops = true) (hsz : within ops a0.tmps.size = true) (hinj : ∀ j k, j < m → k < m → q j = q k → j = k) (hqs : ∀ j, j < m → q j < ops.size)
    (hwait : ∀ j, j + 1 < m → ∀ oB, ops[q (j + 1)]? = some oB → ∃ e ∈ oB.after, Region.binds .any e = true ∧ e.on = q j)
    (hop : ∀ i o, ops[i]? = some o → (∀ j, j < m → i ≠ q j) → ReadOkC P ops V (fun w => ∃ k, k ≤ m ∧ I k w) a0 i o)
    (hA : ∀ k, k < m → ∀ o, ops[q k]? = some o → CallOkC P ops Q V (I k) (I (k + 1)) a0 (q k) o)
    (hdone : ∀ a w, I m w → Same ops a0 a → (∀ i o, ops[i]? = some o → valAt a o = V i) → Q .normal a w) :
    ∀ (fuel : Nat) (listed : Array Bool) (a : Act) (w : World), listed.size = ops.size → listed.toList.countP id + fuel = ops.size →
      (∃ k, k ≤ m ∧ I k w ∧ ∀ j, j < m → listed.getD (q j) true = decide (j < k)) → Same ops a0 a →
      (∀ i o, ops[i]? = some o → listed.getD i true = true → valAt a o = V i ∧ ∀ e ∈ o.after, Region.binds .any e = true → listed.getD e.on false = true) → wpAny P .any ops Q fuel listed a w := by
  have hfull : ∀ (listed : Array Bool) (w : World), (∃ k, k ≤ m ∧ I k w ∧ ∀ j, j < m → listed.getD (q j) true = decide (j < k)) → (∀ i, i < ops.size → listed.getD i true = true) → I m w := by
    rintro listed w ⟨k, hk, hI, hj⟩ hall
    by_cases e : k = m
    · rw [← e]; exact hI
    · have h1 := hj k (by omega)
      rw [hall (q k) (hqs k (by omega))] at h1
      simp at h1
  intro fuel
  induction fuel with
  | zero =>
    intro listed a w hl hc hph hs hT
    have hall2 : ∀ i, i < ops.size → listed.getD i true = true := by
      intro i hi
      have := List.countP_eq_length.1 (show listed.toList.countP id = listed.toList.length by rw [Array.length_toList]; omega) listed[i] (by simp)
      rw [Array.getD_eq_getD_getElem?]
      simpa [show i < listed.size by omega] using this
    refine ⟨?_, hdone a w (hfull listed w hph hall2) hs fun i o hi => (hT i o hi (hall2 i (Array.getElem?_eq_some_iff.1 hi).1)).1⟩
    cases hr : Region.ready .any ops listed with
    | nil => rfl
    | cons j t =>
      exfalso
      have hj : j ∈ Region.ready .any ops listed := by rw [hr]; simp
      rw [mem_ready] at hj
      obtain ⟨h0, o, ho, _⟩ := hj
      rw [hall2 j (Array.getElem?_eq_some_iff.1 ho).1] at h0
      cases h0
  | succ fuel ih =>
    intro listed a w hl hc hph hs hT
    refine ⟨fun hr => hdone a w (hfull listed w hph (fun i hi => not_ready hf hl hr i hi)) hs fun i o hi => (hT i o hi (not_ready hf hl hr i (Array.getElem?_eq_some_iff.1 hi).1)).1, fun i hi => ?_⟩
    rw [mem_ready] at hi
    obtain ⟨h0, o, ho, hdeps⟩ := hi
    have hlt := (Array.getElem?_eq_some_iff.1 ho).1
    have hyes : ∀ k ok, ops[k]? = some ok → listed.getD k false = true → listed.getD k true = true := by
      intro k ok hk this
      have hlt2 := (Array.getElem?_eq_some_iff.1 hk).1
      rw [Array.getD_eq_getD_getElem?] at this ⊢
      have hb2 : k < listed.size := by omega
      simpa [hb2] using this
    have hdv : ∀ e ∈ o.after, Region.binds .any e = true → ∀ oj, ops[e.on]? = some oj → valAt a oj = V e.on := fun e he hb oj hoj => (hT e.on oj hoj (hyes _ _ hoj (hdeps e he hb))).1
    have hkeep : ∀ j, i ≠ j → (listed.setIfInBounds i true).getD j true = listed.getD j true := by
      intro j hij
      rw [Array.getD_eq_getD_getElem?, Array.getElem?_setIfInBounds, if_neg hij, ← Array.getD_eq_getD_getElem?]
    have hself : (listed.setIfInBounds i true).getD i true = true := by
      rw [Array.getD_eq_getD_getElem?, Array.getElem?_setIfInBounds]
      simp [show i < listed.size by omega]
    have next : ∀ v w', told o a v = V i → (∃ k, k ≤ m ∧ I k w' ∧ ∀ j, j < m → (listed.setIfInBounds i true).getD (q j) true = decide (j < k)) → wpAny P .any ops Q fuel (listed.setIfInBounds i true) (a.put o.dst v) w' := by
      intro v w' hv hph2
      have hback : ∀ j, i ≠ j → (listed.setIfInBounds i true).getD j true = true → listed.getD j true = true := fun j hij hjl => by rw [hkeep j hij] at hjl; exact hjl
      have hon : ∀ k, listed.getD k false = true → (listed.setIfInBounds i true).getD k false = true := by
        intro k hk
        rw [Array.getD_eq_getD_getElem?] at hk ⊢
        rw [Array.getElem?_setIfInBounds]
        by_cases hik : i = k
        · simp [hik, show k < listed.size by omega]
        · rw [if_neg hik]; exact hk
      have hval : ∀ j oj, ops[j]? = some oj → i ≠ j → listed.getD j true = true → valAt (a.put o.dst v) oj = valAt a oj := by
        intro j oj hj hij hjl
        refine valAt_put hj ho (fun d hd hp => ?_)
        obtain ⟨e, he, hb, hon2⟩ := placesOk_spec hap hj ho (fun h => hij h.symm) hd hp
        have := (hT j oj hj hjl).2 e he hb
        rw [hon2] at this
        have h3 := hyes i o ho this
        rw [h3] at h0
        cases h0
      refine ih _ _ _ (by rw [Array.size_setIfInBounds]; exact hl) ?_ hph2 (same_put ho hs) ?_
      · rw [Array.toList_setIfInBounds, List.countP_set (by rw [Array.length_toList]; omega)]
        have hf0 : listed.toList[i]'(by rw [Array.length_toList]; omega) = false := by
          rw [Array.getD_eq_getD_getElem?] at h0
          simpa [show i < listed.size by omega] using h0
        rw [hf0]
        show listed.toList.countP id - 0 + 1 + fuel = ops.size
        omega
      · intro j oj hj hjl
        by_cases hij : i = j
        · subst hij
          rw [ho] at hj
          obtain rfl := Option.some.inj hj
          rw [valAt_put_same (by rw [hs.size]; exact hsz) ho]
          exact ⟨hv, fun e he hb => hon _ (hdeps e he hb)⟩
        · have hjl2 := hback j hij hjl
          rw [hval j oj hj hij hjl2]
          obtain ⟨q1, q3⟩ := hT j oj hj hjl2
          exact ⟨q1, fun e he hb => hon _ (q3 e he hb)⟩
    obtain ⟨k, hk, hI, hj⟩ := hph
    by_cases hq : ∃ j, j < m ∧ i = q j
    · obtain ⟨j, hjm, rfl⟩ := hq
      have hjk : k ≤ j := by
        have h1 := hj j hjm
        rw [h0] at h1
        have := h1.symm
        simp at this
        exact this
      have hkj : j ≤ k := by
        cases j with
        | zero => omega
        | succ j =>
          obtain ⟨e, he, hb2, hon2⟩ := hwait j hjm o ho
          have h3 := hdeps e he hb2
          rw [hon2] at h3
          have h4 := hyes (q j) _ (Array.getElem?_eq_getElem (hqs j (by omega))) h3
          rw [hj j (by omega)] at h4
          simp at h4
          omega
      obtain rfl : j = k := by omega
      obtain ⟨hwant, step⟩ := hA j hjm o ho a w hI hs hdv
      unfold wpOp
      simp only [ho]
      rw [if_pos hwant]
      left
      refine Oper.wp_mono (fun a' w' h' => ?_) step
      obtain ⟨v, rfl, h1, h2⟩ := h'
      refine next v w' h2 ⟨j + 1, hjm, h1, fun z hz => ?_⟩
      by_cases e : z = j
      · subst e; rw [hself]; simp
      · rw [hkeep (q z) (fun h => e (hinj j z hjm hz h).symm), hj z hz]
        simp only [decide_eq_decide]
        omega
    · obtain ⟨hwant, v, hr, hv⟩ := hop i o ho (fun j hjm e => hq ⟨j, hjm, e⟩) a w ⟨k, hk, hI⟩ hs hdv
      unfold wpOp
      simp only [ho]
      rw [if_pos hwant]
      left
      unfold Oper.wp
      rw [hr]
      refine next v w hv ⟨k, hk, hI, fun z hz => ?_⟩
      rw [hkeep (q z) (fun h => hq ⟨z, hz, h⟩)]
      exact hj z hz

theorem wp_region_calls (V : Nat → Value) (I : Nat → World → Prop) (q : Nat → Nat) (m : Nat) {id : Nat} {a : Act} {w : World} (hm : P.follows .mixedOrders = true)
    (hap : placesOk ops = true) (hf : forward ops = true) (hsz : within ops a.tmps.size = true) (hinj : ∀ j k, j < m → k < m → q j = q k → j = k) (hqs : ∀ j, j < m → q j < ops.size)
    (hwait : ∀ j, j + 1 < m → ∀ oB, ops[q (j + 1)]? = some oB → ∃ e ∈ oB.after, Region.binds .any e = true ∧ e.on = q j)
    (h0 : I 0 { w with drawn := w.drawn + 1 })
    (hop : ∀ i o, ops[i]? = some o → (∀ j, j < m → i ≠ q j) → ReadOkC P ops V (fun w => ∃ k, k ≤ m ∧ I k w) a i o)
    (hA : ∀ k, k < m → ∀ o, ops[q k]? = some o → CallOkC P ops Q V (I k) (I (k + 1)) a (q k) o)
    (hdone : ∀ a' w', I m w' → Same ops a a' → (∀ i o, ops[i]? = some o → valAt a' o = V i) → Q .normal a' w') : (Code.region id ops true).wp P Q a w :=
  wp_region_any hm (wpAny_calls (a0 := a) hap hf hsz hinj hqs hwait hop hA hdone ops.size (Array.replicate ops.size false) a _ (by simp) (by simp)
    ⟨0, Nat.zero_le _, h0, fun j hj => by rw [Array.getD_eq_getD_getElem?]; simp [hqs j hj]⟩ ⟨rfl, rfl, fun _ _ => rfl⟩ (fun i o hi hl => by
    have := (Array.getElem?_eq_some_iff.1 hi).1
    rw [Array.getD_eq_getD_getElem?] at hl
    simp [this] at hl))
end

end Go.Proofs.YtlppibigceeimaaDoor
