/-
  The rule of ..Any for a region whose last operations wait for all others: they come in the text's order. Nothing of the program.
-/
import Derived.Test.YthkmbodpboplfaaAnyL
namespace Go.Proofs.Ythkmbodpboplfaa
open Go.RowKit
set_option linter.unusedVariables false
set_option linter.unusedSimpArgs false

section
variable {P : Program} {ops : Array Oper} {Q : Exit → Act → World → Prop} {Later : World → World → Prop} {T : Nat → Value → World → Prop} {a0 : Act} {w0 : World}

/-- From L on each waits for all ahead of L. -/
def waitsTail (ops : Array Oper) (L : Nat) : Bool := decide (L < ops.size) && (List.range ops.size).all fun k => decide (k < L) || (List.range L).all fun j => waitsOn ops 12 k j
/-- What is listed when the tail begins. -/
def headOf (n L : Nat) : Array Bool := (List.replicate L true ++ List.replicate (n - L) false).toArray

theorem wpAny_invT (L : Nat) (hap : apartAll ops = true) (hf : forward ops = true) (hsz : within ops a0.tmps.size = true) (hwt : waitsTail ops L = true) (hall : allBut ops L = true)
    (hrf : ∀ a, Later a a) (htr : ∀ a b c, Later a b → Later b c → Later a c) (hst : ∀ i v w w', T i v w → Later w w' → T i v w')
    (hop : ∀ i o, i < L → ops[i]? = some o → StepOk P ops Q Later T a0 w0 i o)
    (hlast : ∀ a w, Later w0 w → Same ops a0 a → (∀ i oi, i < L → ops[i]? = some oi → T i (valOf a oi) w) → wpAny P .any ops Q (ops.size - L) (headOf ops.size L) a w) :
    ∀ (fuel : Nat) (listed : Array Bool) (a : Act) (w : World), listed.size = ops.size → listed.toList.countP id + fuel = ops.size → (∀ k, L ≤ k → k < ops.size → listed.getD k true = false) → (∀ k o, ops[k]? = some o → listed.getD k true = true → ∀ e ∈ o.after, Region.binds .any e = true → ∀ oj, ops[e.on]? = some oj → listed.getD e.on true = true) → Later w0 w → Same ops a0 a →
      (∀ i o, ops[i]? = some o → listed.getD i true = true → T i (valOf a o) w) → wpAny P .any ops Q fuel listed a w := by
  simp only [waitsTail, Bool.and_eq_true, decide_eq_true_eq] at hwt
  obtain ⟨hLs, hwt⟩ := hwt
  intro fuel
  induction fuel with
  | zero =>
    intro listed a w hl hc hnot hcl hw hs hT
    exfalso
    have hnot := hnot L (Nat.le_refl _) hLs
    have := List.countP_eq_length.1 (show listed.toList.countP id = listed.toList.length by rw [Array.length_toList]; omega) (listed[L]'(by omega)) (by simp)
    rw [Array.getD_eq_getD_getElem?] at hnot
    simp [show L < listed.size by omega] at hnot
    simp [hnot] at this
  | succ fuel ih =>
    intro listed a w hl hc hnot hcl hw hs hT
    refine ⟨fun hr => ?_, fun i hi => ?_⟩
    · exfalso
      have := not_ready hf hl hr L (by omega)
      rw [hnot L (Nat.le_refl _) hLs] at this
      cases this
    rw [mem_ready] at hi
    obtain ⟨h0, o, ho, hdeps⟩ := hi
    have hlt := (Array.getElem?_eq_some_iff.1 ho).1
    have hdone : ∀ e ∈ o.after, Region.binds .any e = true → ∀ oj, ops[e.on]? = some oj → listed.getD e.on true = true := by
      intro e he hb oj hoj
      have := hdeps e he hb
      have hlt2 := (Array.getElem?_eq_some_iff.1 hoj).1
      rw [Array.getD_eq_getD_getElem?] at this ⊢
      have hb2 : e.on < listed.size := by omega
      simpa [hb2] using this
    by_cases hiL : L ≤ i
    · have hwi := List.all_eq_true.1 hwt i (List.mem_range.2 hlt)
      simp only [Bool.or_eq_true, decide_eq_true_eq] at hwi
      have hwi2 : ((List.range L).all fun j => waitsOn ops 12 i j) = true := by
        rcases hwi with h | h
        · omega
        · exact h
      have hprev : ∀ j, j < L → listed.getD j true = true := fun j hj => waitsOn_listed hcl 12 i o ho hdone j (by omega) (List.all_eq_true.1 hwi2 j (List.mem_range.2 hj))
      have hlst : listed = headOf ops.size L := by
        apply Array.ext'
        apply List.ext_getElem?
        intro k
        unfold headOf
        simp only [List.toList_toArray]
        by_cases hk : k < L
        · rw [List.getElem?_append_left (by simpa using hk)]
          have := hprev k hk
          rw [Array.getD_eq_getD_getElem?] at this
          have hks : k < listed.size := by omega
          simp [hks] at this
          simp [hk, hks, this]
        · rw [List.getElem?_append_right (by simp; omega)]
          by_cases hkn : k < ops.size
          · have := hnot k (by omega) hkn
            rw [Array.getD_eq_getD_getElem?] at this
            have hks : k < listed.size := by omega
            simp [hks] at this
            simp [hks, this, show k - L < ops.size - L by omega]
          · rw [List.getElem?_eq_none (by rw [Array.length_toList]; omega), List.getElem?_eq_none (by simp; omega)]
      have hcount : listed.toList.countP id = L := by
        rw [hlst]
        unfold headOf
        simp [List.countP_append, List.countP_replicate]
      have step := hlast a w hw hs (fun j oj hj hoj => hT j oj hoj (hprev j hj))
      rw [show ops.size - L = fuel + 1 by omega, ← hlst] at step
      exact step.2 i (by rw [mem_ready]; exact ⟨h0, o, ho, hdeps⟩)
    · have hiL2 : i < L := by omega
      have step := hop i o hiL2 ho a w hw hs (fun e he hb oj hoj => hT e.on oj hoj (hdone e he hb oj hoj))
      have hsome : o.dst.isSome = true := by
        have := List.all_eq_true.1 hall i (List.mem_range.2 hiL2)
        rw [ho] at this
        exact this
      have next : ∀ v w', Later w w' → T i v w' → wpAny P .any ops Q fuel (listed.setIfInBounds i true) (a.put o.dst v) w' := by
        intro v w' hl2 hT2
        refine ih _ _ _ (by rw [Array.size_setIfInBounds]; exact hl) ?_ ?_ ?_ (htr _ _ _ hw hl2) (same_put ho hs) ?_
        · rw [Array.toList_setIfInBounds, List.countP_set (by rw [Array.length_toList]; omega)]
          have hf0 : listed.toList[i]'(by rw [Array.length_toList]; omega) = false := by
            rw [Array.getD_eq_getD_getElem?] at h0
            simpa [show i < listed.size by omega] using h0
          rw [hf0]
          show listed.toList.countP id - 0 + 1 + fuel = ops.size
          omega
        · intro k hk hkn
          rw [Array.getD_eq_getD_getElem?, Array.getElem?_setIfInBounds, if_neg (by omega), ← Array.getD_eq_getD_getElem?]
          exact hnot k hk hkn
        · intro k ok hk hkl e he hb oj hoj
          rw [Array.getD_eq_getD_getElem?, Array.getElem?_setIfInBounds]
          by_cases hie : i = e.on
          · rw [if_pos hie]
            split <;> rfl
          · rw [if_neg hie, ← Array.getD_eq_getD_getElem?]
            by_cases hik : i = k
            · subst hik
              rw [ho] at hk
              obtain rfl := Option.some.inj hk
              exact hdone e he hb oj hoj
            · rw [Array.getD_eq_getD_getElem?, Array.getElem?_setIfInBounds, if_neg hik, ← Array.getD_eq_getD_getElem?] at hkl
              exact hcl k ok hk hkl e he hb oj hoj
        · intro j oj hj hjl
          by_cases hij : i = j
          · subst hij
            rw [ho] at hj
            obtain rfl := Option.some.inj hj
            rw [valOf_put_same (by rw [hs.size]; exact hsz) ho hsome]
            exact hT2
          · rw [valOf_put hap ho hj hij]
            refine hst _ _ _ _ (hT j oj hj ?_) hl2
            rw [Array.getD_eq_getD_getElem?, Array.getElem?_setIfInBounds, if_neg hij] at hjl
            rw [Array.getD_eq_getD_getElem?]
            exact hjl
      unfold wpOp
      simp only [ho]
      split
      · rename_i hwant
        rw [if_pos hwant] at step
        left
        refine Oper.wp_mono (fun a' w' h' => ?_) step
        obtain ⟨v, rfl, h1, h2⟩ := h'
        exact next v w' h1 h2
      · rename_i hwant
        rw [if_neg hwant] at step
        exact next undef w (hrf w) step


/-- A region that draws its order, whose tail does not. -/
theorem wp_region_tail (L : Nat) (Later : World → World → Prop) (T : Nat → Value → World → Prop) {id : Nat} {a : Act} {w : World} (hm : P.follows .mixedOrders = true)
    (hap : apartAll ops = true) (hf : forward ops = true) (hsz : within ops a.tmps.size = true) (hwt : waitsTail ops L = true) (hall : allBut ops L = true)
    (hrf : ∀ a, Later a a) (htr : ∀ a b c, Later a b → Later b c → Later a c) (hst : ∀ i v w w', T i v w → Later w w' → T i v w')
    (hdr : Later w { w with drawn := w.drawn + 1 })
    (hop : ∀ i o, i < L → ops[i]? = some o → StepOk P ops Q Later T a w i o)
    (hlast : ∀ a' w', Later w w' → Same ops a a' → (∀ i oi, i < L → ops[i]? = some oi → T i (valOf a' oi) w') → wpAny P .any ops Q (ops.size - L) (headOf ops.size L) a' w') : (Code.region id ops true).wp P Q a w := by
  exact wp_region_any hm (wpAny_invT L (a0 := a) (w0 := w) hap hf hsz hwt hall hrf htr hst hop hlast ops.size (Array.replicate ops.size false) a _ (by simp) (by simp) (fun k hk hkn => by rw [Array.getD_eq_getD_getElem?]; simp [hkn]) (fun k o hk hl => by
    have := (Array.getElem?_eq_some_iff.1 hk).1
    rw [Array.getD_eq_getD_getElem?] at hl
    simp [this] at hl) hdr ⟨rfl, rfl, fun _ _ => rfl⟩ (fun i o hi hl => by
    have := (Array.getElem?_eq_some_iff.1 hi).1
    rw [Array.getD_eq_getD_getElem?] at hl
    simp [this] at hl))
/-- From L on each waits for all ahead of L, but perhaps for the first. -/
def waitsTailU (ops : Array Oper) (L : Nat) : Bool := (decide (L < ops.size) && decide (0 < L)) && (List.range ops.size).all fun k => decide (k < L) || (List.range L).all fun j => (j == 0 || waitsOn ops 12 k j)
theorem wpAny_invU (L : Nat) (hap : apartAll ops = true) (hf : forward ops = true) (hsz : within ops a0.tmps.size = true) (hwt : waitsTailU ops L = true) (hall : allBut ops L = true)
    (hrf : ∀ a, Later a a) (htr : ∀ a b c, Later a b → Later b c → Later a c) (hst : ∀ i v w w', T i v w → Later w w' → T i v w')
    (hop : ∀ i o, i < L → ops[i]? = some o → StepOk P ops Q Later T a0 w0 i o)
    (hlast : ∀ a w, Later w0 w → Same ops a0 a → (∀ i oi, i < L → ops[i]? = some oi → T i (valOf a oi) w) → wpAny P .any ops Q (ops.size - L) (headOf ops.size L) a w)
    (hlate : ∀ a w, Later w0 w → Same ops a0 a → (∀ i oi, 0 < i → i < L → ops[i]? = some oi → T i (valOf a oi) w) → wpAny P .any ops Q (ops.size - L + 1) ((headOf ops.size L).setIfInBounds 0 false) a w) :
    ∀ (fuel : Nat) (listed : Array Bool) (a : Act) (w : World), listed.size = ops.size → listed.toList.countP id + fuel = ops.size → (∀ k, L ≤ k → k < ops.size → listed.getD k true = false) → (∀ k o, ops[k]? = some o → listed.getD k true = true → ∀ e ∈ o.after, Region.binds .any e = true → ∀ oj, ops[e.on]? = some oj → listed.getD e.on true = true) → Later w0 w → Same ops a0 a →
      (∀ i o, ops[i]? = some o → listed.getD i true = true → T i (valOf a o) w) → wpAny P .any ops Q fuel listed a w := by
  simp only [waitsTailU, Bool.and_eq_true, decide_eq_true_eq] at hwt
  obtain ⟨⟨hLs, hL0⟩, hwt2⟩ := hwt
  have hwt := And.intro hLs hwt2
  intro fuel
  induction fuel with
  | zero =>
    intro listed a w hl hc hnot hcl hw hs hT
    exfalso
    have hnot := hnot L (Nat.le_refl _) hLs
    have := List.countP_eq_length.1 (show listed.toList.countP id = listed.toList.length by rw [Array.length_toList]; omega) (listed[L]'(by omega)) (by simp)
    rw [Array.getD_eq_getD_getElem?] at hnot
    simp [show L < listed.size by omega] at hnot
    simp [hnot] at this
  | succ fuel ih =>
    intro listed a w hl hc hnot hcl hw hs hT
    refine ⟨fun hr => ?_, fun i hi => ?_⟩
    · exfalso
      have := not_ready hf hl hr L (by omega)
      rw [hnot L (Nat.le_refl _) hLs] at this
      cases this
    rw [mem_ready] at hi
    obtain ⟨h0, o, ho, hdeps⟩ := hi
    have hlt := (Array.getElem?_eq_some_iff.1 ho).1
    have hdone : ∀ e ∈ o.after, Region.binds .any e = true → ∀ oj, ops[e.on]? = some oj → listed.getD e.on true = true := by
      intro e he hb oj hoj
      have := hdeps e he hb
      have hlt2 := (Array.getElem?_eq_some_iff.1 hoj).1
      rw [Array.getD_eq_getD_getElem?] at this ⊢
      have hb2 : e.on < listed.size := by omega
      simpa [hb2] using this
    by_cases hiL : L ≤ i
    · have hprev : ∀ j, 0 < j → j < L → listed.getD j true = true := by
        intro j hj0 hj
        have hwi := List.all_eq_true.1 hwt.2 i (List.mem_range.2 hlt)
        simp only [Bool.or_eq_true, decide_eq_true_eq] at hwi
        rcases hwi with h | h
        · omega
        · have := List.all_eq_true.1 h j (List.mem_range.2 hj)
          simp only [Bool.or_eq_true, beq_iff_eq] at this
          rcases this with e | e
          · omega
          · exact waitsOn_listed hcl 12 i o ho hdone j (by omega) e
      have hgen : ∀ b : Bool, listed.getD 0 true = b → listed = (headOf ops.size L).setIfInBounds 0 b := by
        intro b hb
        apply Array.ext'
        apply List.ext_getElem?
        intro k
        unfold headOf
        rw [Array.toList_setIfInBounds]
        simp only [List.toList_toArray]
        rw [Array.getD_eq_getD_getElem?] at hb
        have h0s : 0 < listed.size := by omega
        simp [h0s] at hb
        rw [List.getElem?_set]
        by_cases hk0 : 0 = k
        · subst hk0
          rw [if_pos rfl, if_pos (by simp; omega)]
          simp [h0s, hb]
        · rw [if_neg hk0]
          by_cases hk : k < L
          · rw [List.getElem?_append_left (by simpa using hk)]
            have := hprev k (by omega) hk
            rw [Array.getD_eq_getD_getElem?] at this
            have hks : k < listed.size := by omega
            simp [hks] at this
            simp [hk, hks, this]
          · rw [List.getElem?_append_right (by simp; omega)]
            by_cases hkn : k < ops.size
            · have := hnot k (by omega) hkn
              rw [Array.getD_eq_getD_getElem?] at this
              have hks : k < listed.size := by omega
              simp [hks] at this
              simp [hks, this, show k - L < ops.size - L by omega]
            · rw [List.getElem?_eq_none (by rw [Array.length_toList]; omega), List.getElem?_eq_none (by simp; omega)]
      have hset : (headOf ops.size L).setIfInBounds 0 true = headOf ops.size L := by
        apply Array.ext'
        unfold headOf
        rw [Array.toList_setIfInBounds]
        simp only [List.toList_toArray]
        obtain ⟨L', rfl⟩ : ∃ L', L = L' + 1 := ⟨L - 1, by omega⟩
        simp [List.replicate_succ]
      have hcnt : (headOf ops.size L).toList.countP id = L := by
        unfold headOf
        simp [List.countP_append, List.countP_replicate]
      cases hb : listed.getD 0 true with
      | true =>
        have hlst := (hgen true hb).trans hset
        have hcount : listed.toList.countP id = L := by rw [hlst]; exact hcnt
        have step := hlast a w hw hs (fun j oj hj hoj => hT j oj hoj (by
          rcases Nat.eq_zero_or_pos j with e | e
          · subst e; exact hb
          · exact hprev j e hj))
        rw [show ops.size - L = fuel + 1 by omega, ← hlst] at step
        exact step.2 i (by rw [mem_ready]; exact ⟨h0, o, ho, hdeps⟩)
      | false =>
        have hlst := hgen false hb
        have hcount : listed.toList.countP id = L - 1 := by
          rw [hlst]
          unfold headOf
          rw [Array.toList_setIfInBounds]
          simp only [List.toList_toArray]
          obtain ⟨L', rfl⟩ : ∃ L', L = L' + 1 := ⟨L - 1, by omega⟩
          simp [List.replicate_succ, List.countP_append, List.countP_replicate]
        have step := hlate a w hw hs (fun j oj hj0 hj hoj => hT j oj hoj (hprev j hj0 hj))
        rw [show ops.size - L + 1 = fuel + 1 by omega, ← hlst] at step
        exact step.2 i (by rw [mem_ready]; exact ⟨h0, o, ho, hdeps⟩)
    · have hiL2 : i < L := by omega
      have step := hop i o hiL2 ho a w hw hs (fun e he hb oj hoj => hT e.on oj hoj (hdone e he hb oj hoj))
      have hsome : o.dst.isSome = true := by
        have := List.all_eq_true.1 hall i (List.mem_range.2 hiL2)
        rw [ho] at this
        exact this
      have next : ∀ v w', Later w w' → T i v w' → wpAny P .any ops Q fuel (listed.setIfInBounds i true) (a.put o.dst v) w' := by
        intro v w' hl2 hT2
        refine ih _ _ _ (by rw [Array.size_setIfInBounds]; exact hl) ?_ ?_ ?_ (htr _ _ _ hw hl2) (same_put ho hs) ?_
        · rw [Array.toList_setIfInBounds, List.countP_set (by rw [Array.length_toList]; omega)]
          have hf0 : listed.toList[i]'(by rw [Array.length_toList]; omega) = false := by
            rw [Array.getD_eq_getD_getElem?] at h0
            simpa [show i < listed.size by omega] using h0
          rw [hf0]
          show listed.toList.countP id - 0 + 1 + fuel = ops.size
          omega
        · intro k hk hkn
          rw [Array.getD_eq_getD_getElem?, Array.getElem?_setIfInBounds, if_neg (by omega), ← Array.getD_eq_getD_getElem?]
          exact hnot k hk hkn
        · intro k ok hk hkl e he hb oj hoj
          rw [Array.getD_eq_getD_getElem?, Array.getElem?_setIfInBounds]
          by_cases hie : i = e.on
          · rw [if_pos hie]
            split <;> rfl
          · rw [if_neg hie, ← Array.getD_eq_getD_getElem?]
            by_cases hik : i = k
            · subst hik
              rw [ho] at hk
              obtain rfl := Option.some.inj hk
              exact hdone e he hb oj hoj
            · rw [Array.getD_eq_getD_getElem?, Array.getElem?_setIfInBounds, if_neg hik, ← Array.getD_eq_getD_getElem?] at hkl
              exact hcl k ok hk hkl e he hb oj hoj
        · intro j oj hj hjl
          by_cases hij : i = j
          · subst hij
            rw [ho] at hj
            obtain rfl := Option.some.inj hj
            rw [valOf_put_same (by rw [hs.size]; exact hsz) ho hsome]
            exact hT2
          · rw [valOf_put hap ho hj hij]
            refine hst _ _ _ _ (hT j oj hj ?_) hl2
            rw [Array.getD_eq_getD_getElem?, Array.getElem?_setIfInBounds, if_neg hij] at hjl
            rw [Array.getD_eq_getD_getElem?]
            exact hjl
      unfold wpOp
      simp only [ho]
      split
      · rename_i hwant
        rw [if_pos hwant] at step
        left
        refine Oper.wp_mono (fun a' w' h' => ?_) step
        obtain ⟨v, rfl, h1, h2⟩ := h'
        exact next v w' h1 h2
      · rename_i hwant
        rw [if_neg hwant] at step
        exact next undef w (hrf w) step


/-- The same, where the first operation may come late. -/
theorem wp_region_late (L : Nat) (Later : World → World → Prop) (T : Nat → Value → World → Prop) {id : Nat} {a : Act} {w : World} (hm : P.follows .mixedOrders = true)
    (hap : apartAll ops = true) (hf : forward ops = true) (hsz : within ops a.tmps.size = true) (hwt : waitsTailU ops L = true) (hall : allBut ops L = true)
    (hrf : ∀ a, Later a a) (htr : ∀ a b c, Later a b → Later b c → Later a c) (hst : ∀ i v w w', T i v w → Later w w' → T i v w')
    (hdr : Later w { w with drawn := w.drawn + 1 })
    (hop : ∀ i o, i < L → ops[i]? = some o → StepOk P ops Q Later T a w i o)
    (hlast : ∀ a' w', Later w w' → Same ops a a' → (∀ i oi, i < L → ops[i]? = some oi → T i (valOf a' oi) w') → wpAny P .any ops Q (ops.size - L) (headOf ops.size L) a' w')
    (hlate : ∀ a' w', Later w w' → Same ops a a' → (∀ i oi, 0 < i → i < L → ops[i]? = some oi → T i (valOf a' oi) w') → wpAny P .any ops Q (ops.size - L + 1) ((headOf ops.size L).setIfInBounds 0 false) a' w') : (Code.region id ops true).wp P Q a w := by
  exact wp_region_any hm (wpAny_invU L (a0 := a) (w0 := w) hap hf hsz hwt hall hrf htr hst hop hlast hlate ops.size (Array.replicate ops.size false) a _ (by simp) (by simp) (fun k hk hkn => by rw [Array.getD_eq_getD_getElem?]; simp [hkn]) (fun k o hk hl => by
    have := (Array.getElem?_eq_some_iff.1 hk).1
    rw [Array.getD_eq_getD_getElem?] at hl
    simp [this] at hl) hdr ⟨rfl, rfl, fun _ _ => rfl⟩ (fun i o hi hl => by
    have := (Array.getElem?_eq_some_iff.1 hi).1
    rw [Array.getD_eq_getD_getElem?] at hl
    simp [this] at hl))
/-- One operation of the tail. -/
theorem wpAny_one {fuel : Nat} {listed : Array Bool} {a : Act} {w : World} (i : Nat) (o : Oper) (ho : ops[i]? = some o) (hg : o.guard = none) (hr : Region.ready .any ops listed = [i]) (h : o.wp P a w (fun a' w' => wpAny P .any ops Q fuel (listed.setIfInBounds i true) a' w') Q) : wpAny P .any ops Q (fuel + 1) listed a w := by
  refine ⟨fun e => (by rw [hr] at e; cases e), fun j hj => ?_⟩
  rw [hr] at hj
  simp at hj
  subst hj
  unfold wpOp
  simp only [ho]
  rw [if_pos (by simp [Region.wanted, hg])]
  exact .inl h
/-- Two that may come: both ways. -/
theorem wpAny_two {fuel : Nat} {listed : Array Bool} {a : Act} {w : World} (i j : Nat) (oi oj : Oper) (hi : ops[i]? = some oi) (hj : ops[j]? = some oj) (gi : oi.guard = none) (gj : oj.guard = none) (hr : Region.ready .any ops listed = [i, j]) (h1 : oi.wp P a w (fun a' w' => wpAny P .any ops Q fuel (listed.setIfInBounds i true) a' w') Q) (h2 : oj.wp P a w (fun a' w' => wpAny P .any ops Q fuel (listed.setIfInBounds j true) a' w') Q) : wpAny P .any ops Q (fuel + 1) listed a w := by
  refine ⟨fun e => (by rw [hr] at e; cases e), fun k hk => ?_⟩
  rw [hr] at hk
  simp at hk
  rcases hk with rfl | rfl
  · unfold wpOp
    simp only [hi]
    rw [if_pos (by simp [Region.wanted, gi])]
    exact .inl h1
  · unfold wpOp
    simp only [hj]
    rw [if_pos (by simp [Region.wanted, gj])]
    exact .inl h2
theorem wpAny_nil {listed : Array Bool} {a : Act} {w : World} (hr : Region.ready .any ops listed = []) (h : Q .normal a w) : wpAny P .any ops Q 0 listed a w := ⟨hr, h⟩
end

end Go.Proofs.Ythkmbodpboplfaa
