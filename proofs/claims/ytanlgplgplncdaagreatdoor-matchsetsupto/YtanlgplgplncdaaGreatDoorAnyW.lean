import Derived.Test.YtanlgplgplncdaaGreatDoorAny
/-
  The rule of ..Any for a region whose last operations wait for all others: they come in the text's order. Nothing of the program.
-/
namespace Go.Proofs.YtanlgplgplncdaaGreatDoor
open Go.RowKit
set_option linter.unusedVariables false
set_option linter.unusedSimpArgs false

section
variable {P : Program} {ops : Array Oper} {Q : Exit → Act → World → Prop} {Later : World → World → Prop} {T : Nat → Value → World → Prop} {a0 : Act} {w0 : World}

/-- From L on each waits for all ahead of L. -/
def waitsTail (ops : Array Oper) (L : Nat) : Bool := decide (L < ops.size) && (List.range ops.size).all fun k => decide (k < L) || (List.range L).all fun j => waitsOn ops 12 k j
/-- What is listed when the tail begins. -/
def headOf (n L : Nat) : Array Bool := (List.replicate L true ++ List.replicate (n - L) false).toArray

theorem wpAny_invT (L : Nat) (hap : apartAll ops = true) (hf : forward ops = true) (hsz : within ops a0.tmps.size = true) (hwt : waitsTail ops L = true) (hall : allBut ops L = true)
    (hrf : ∀ a, Later a a) (htr : ∀ a b c, Later a b → Later b c → Later a c) (hst : ∀ i v w w', T i v w → Later w w' → T i v w')
    (hop : ∀ i o, i < L → ops[i]? = some o → StepOk P ops Q Later T a0 w0 i o)
    (hlast : ∀ a w, Later w0 w → Same ops a0 a → (∀ i oi, i < L → ops[i]? = some oi → T i (valOf a oi) w) → wpAny P .any ops Q (ops.size - L) (headOf ops.size L) a w) :
    ∀ (fuel : Nat) (listed : Array Bool) (a : Act) (w : World), listed.size = ops.size → listed.toList.countP id + fuel = ops.size → (∀ k, L ≤ k → k < ops.size → listed.getD k true = false) → (∀ k o, ops[k]? = some o → listed.getD k true = true → ∀ e ∈ o.after, Region.binds .any e = true → ∀ oj, ops[e.on]? = some oj → listed.getD e.on true = true) → Later w0 w → Same ops a0 a →
      (∀ i o, ops[i]? = some o → listed.getD i true = true → T i (valOf a o) w) → wpAny P .any ops Q fuel listed a w := by
  simp only [waitsTail, Bool.and_eq_true, decide_eq_true_eq] at hwt
  obtain ⟨hLs, hwt⟩ := hwt
  intro fuel
  induction fuel with
  | zero =>
    intro listed a w hl hc hnot hcl hw hs hT
    exfalso
    have hnot := hnot L (Nat.le_refl _) hLs
    have := List.countP_eq_length.1 (show listed.toList.countP id = listed.toList.length by rw [Array.length_toList]; omega) (listed[L]'(by omega)) (by simp)
    rw [Array.getD_eq_getD_getElem?] at hnot
    simp [show L < listed.size by omega] at hnot
    simp [hnot] at this
  | succ fuel ih =>
    intro listed a w hl hc hnot hcl hw hs hT
    refine ⟨fun hr => ?_, fun i hi => ?_⟩
    · exfalso
      have := not_ready hf hl hr L (by omega)
      rw [hnot L (Nat.le_refl _) hLs] at this
      cases this
    rw [mem_ready] at hi
    obtain ⟨h0, o, ho, hdeps⟩ := hi
    have hlt := (Array.getElem?_eq_some_iff.1 ho).1
    have hdone : ∀ e ∈ o.after, Region.binds .any e = true → ∀ oj, ops[e.on]? = some oj → listed.getD e.on true = true := by
      intro e he hb oj hoj
      have := hdeps e he hb
      have hlt2 := (Array.getElem?_eq_some_iff.1 hoj).1
      rw [Array.getD_eq_getD_getElem?] at this ⊢
      have hb2 : e.on < listed.size := by omega
      simpa [hb2] using this
    by_cases hiL : L ≤ i
    · have hwi := List.all_eq_true.1 hwt i (List.mem_range.2 hlt)
      simp only [Bool.or_eq_true, decide_eq_true_eq] at hwi
      have hwi2 : ((List.range L).all fun j => waitsOn ops 12 i j) = true := by
        rcases hwi with h | h
        · omega
        · exact h
      have hprev : ∀ j, j < L → listed.getD j true = true := fun j hj => waitsOn_listed hcl 12 i o ho hdone j (by omega) (List.all_eq_true.1 hwi2 j (List.mem_range.2 hj))
      have hlst : listed = headOf ops.size L := by
        apply Array.ext'
        apply List.ext_getElem?
        intro k
        unfold headOf
        simp only [List.toList_toArray]
        by_cases hk : k < L
        · rw [List.getElem?_append_left (by simpa using hk)]
          have := hprev k hk
          rw [Array.getD_eq_getD_getElem?] at this
          have hks : k < listed.size := by omega
          simp [hks] at this
          simp [hk, hks, this]
        · rw [List.getElem?_append_right (by simp; omega)]
          by_cases hkn : k < ops.size
          · have := hnot k (by omega) hkn
            rw [Array.getD_eq_getD_getElem?] at this
            have hks : k < listed.size := by omega
            simp [hks] at this
            simp [hks, this, show k - L < ops.size - L by omega]
          · rw [List.getElem?_eq_none (by rw [Array.length_toList]; omega), List.getElem?_eq_none (by simp; omega)]
      have hcount : listed.toList.countP id = L := by
        rw [hlst]
        unfold headOf
        simp [List.countP_append, List.countP_replicate]
      have step := hlast a w hw hs (fun j oj hj hoj => hT j oj hoj (hprev j hj))
      rw [show ops.size - L = fuel + 1 by omega, ← hlst] at step
      exact step.2 i (by rw [mem_ready]; exact ⟨h0, o, ho, hdeps⟩)
    · have hiL2 : i < L := by omega
      have step := hop i o hiL2 ho a w hw hs (fun e he hb oj hoj => hT e.on oj hoj (hdone e he hb oj hoj))
      have hsome : o.dst.isSome = true := by
        have := List.all_eq_true.1 hall i (List.mem_range.2 hiL2)
        rw [ho] at this
        exact this
      have next : ∀ v w', Later w w' → T i v w' → wpAny P .any ops Q fuel (listed.setIfInBounds i true) (a.put o.dst v) w' := by
        intro v w' hl2 hT2
        refine ih _ _ _ (by rw [Array.size_setIfInBounds]; exact hl) ?_ ?_ ?_ (htr _ _ _ hw hl2) (same_put ho hs) ?_
        · rw [Array.toList_setIfInBounds, List.countP_set (by rw [Array.length_toList]; omega)]
          have hf0 : listed.toList[i]'(by rw [Array.length_toList]; omega) = false := by
            rw [Array.getD_eq_getD_getElem?] at h0
            simpa [show i < listed.size by omega] using h0
          rw [hf0]
          show listed.toList.countP id - 0 + 1 + fuel = ops.size
          omega
        · intro k hk hkn
          rw [Array.getD_eq_getD_getElem?, Array.getElem?_setIfInBounds, if_neg (by omega), ← Array.getD_eq_getD_getElem?]
          exact hnot k hk hkn
        · intro k ok hk hkl e he hb oj hoj
          rw [Array.getD_eq_getD_getElem?, Array.getElem?_setIfInBounds]
          by_cases hie : i = e.on
          · rw [if_pos hie]
            split <;> rfl
          · rw [if_neg hie, ← Array.getD_eq_getD_getElem?]
            by_cases hik : i = k
            · subst hik
              rw [ho] at hk
              obtain rfl := Option.some.inj hk
              exact hdone e he hb oj hoj
            · rw [Array.getD_eq_getD_getElem?, Array.getElem?_setIfInBounds, if_neg hik, ← Array.getD_eq_getD_getElem?] at hkl
              exact hcl k ok hk hkl e he hb oj hoj
        · intro j oj hj hjl
          by_cases hij : i = j
          · subst hij
            rw [ho] at hj
            obtain rfl := Option.some.inj hj
            rw [valOf_put_same (by rw [hs.size]; exact hsz) ho hsome]
            exact hT2
          · rw [valOf_put hap ho hj hij]
            refine hst _ _ _ _ (hT j oj hj ?_) hl2
            rw [Array.getD_eq_getD_getElem?, Array.getElem?_setIfInBounds, if_neg hij] at hjl
            rw [Array.getD_eq_getD_getElem?]
            exact hjl
      unfold wpOp
      simp only [ho]
      split
      · rename_i hwant
        rw [if_pos hwant] at step
        left
        refine Oper.wp_mono (fun a' w' h' => ?_) step
        obtain ⟨v, rfl, h1, h2⟩ := h'
        exact next v w' h1 h2
      · rename_i hwant
        rw [if_neg hwant] at step
        exact next undef w (hrf w) step


/-- A region that draws its order, whose tail does not. -/
theorem wp_region_tail (L : Nat) (Later : World → World → Prop) (T : Nat → Value → World → Prop) {id : Nat} {a : Act} {w : World} (hm : P.follows .mixedOrders = true)
    (hap : apartAll ops = true) (hf : forward ops = true) (hsz : within ops a.tmps.size = true) (hwt : waitsTail ops L = true) (hall : allBut ops L = true)
    (hrf : ∀ a, Later a a) (htr : ∀ a b c, Later a b → Later b c → Later a c) (hst : ∀ i v w w', T i v w → Later w w' → T i v w')
    (hdr : Later w { w with drawn := w.drawn + 1 })
    (hop : ∀ i o, i < L → ops[i]? = some o → StepOk P ops Q Later T a w i o)
    (hlast : ∀ a' w', Later w w' → Same ops a a' → (∀ i oi, i < L → ops[i]? = some oi → T i (valOf a' oi) w') → wpAny P .any ops Q (ops.size - L) (headOf ops.size L) a' w') : (Code.region id ops true).wp P Q a w := by
  exact wp_region_any hm (wpAny_invT L (a0 := a) (w0 := w) hap hf hsz hwt hall hrf htr hst hop hlast ops.size (Array.replicate ops.size false) a _ (by simp) (by simp) (fun k hk hkn => by rw [Array.getD_eq_getD_getElem?]; simp [hkn]) (fun k o hk hl => by
    have := (Array.getElem?_eq_some_iff.1 hk).1
    rw [Array.getD_eq_getD_getElem?] at hl
    simp [this] at hl) hdr ⟨rfl, rfl, fun _ _ => rfl⟩ (fun i o hi hl => by
    have := (Array.getElem?_eq_some_iff.1 hi).1
    rw [Array.getD_eq_getD_getElem?] at hl
    simp [this] at hl))
/-- From L on each waits for all ahead of L, but perhaps for the first. -/
def waitsTailU (ops : Array Oper) (L : Nat) : Bool := (decide (L < ops.size) && decide (0 < L)) && (List.range ops.size).all fun k => decide (k < L) || (List.range L).all fun j => (j == 0 || waitsOn ops 12 k j)
theorem wpAny_invU (L : Nat) (hap : apartAll ops = true) (hf : forward ops = true) (hsz : within ops a0.tmps.size = true) (hwt : waitsTailU ops L = true) (hall : allBut ops L = true)
    (hrf : ∀ a, Later a a) (htr : ∀ a b c, Later a b → Later b c → Later a c) (hst : ∀ i v w w', T i v w → Later w w' → T i v w')
    (hop : ∀ i o, i < L → ops[i]? = some o → StepOk P ops Q Later T a0 w0 i o)
    (hlast : ∀ a w, Later w0 w → Same ops a0 a → (∀ i oi, i < L → ops[i]? = some oi → T i (valOf a oi) w) → wpAny P .any ops Q (ops.size - L) (headOf ops.size L) a w)
    (hlate : ∀ a w, Later w0 w → Same ops a0 a → (∀ i oi, 0 < i → i < L → ops[i]? = some oi → T i (valOf a oi) w) → wpAny P .any ops Q (ops.size - L + 1) ((headOf ops.size L).setIfInBounds 0 false) a w) :
    ∀ (fuel : Nat) (listed : Array Bool) (a : Act) (w : World), listed.size = ops.size → listed.toList.countP id + fuel = ops.size → (∀ k, L ≤ k → k < ops.size → listed.getD k true = false) → (∀ k o, ops[k]? = some o → listed.getD k true = true → ∀ e ∈ o.after, Region.binds .any e = true → ∀ oj, ops[e.on]? = some oj → listed.getD e.on true = true) → Later w0 w → Same ops a0 a →
      (∀ i o, ops[i]? = some o → listed.getD i true = true → T i (valOf a o) w) → wpAny P .any ops Q fuel listed a w := by
  simp only [waitsTailU, Bool.and_eq_true, decide_eq_true_eq] at hwt
  obtain ⟨⟨hLs, hL0⟩, hwt2⟩ := hwt
  have hwt := And.intro hLs hwt2
  intro fuel
  induction fuel with
  | zero =>
    intro listed a w hl hc hnot hcl hw hs hT
    exfalso
    have hnot := hnot L (Nat.le_refl _) hLs
    have := List.countP_eq_length.1 (show listed.toList.countP id = listed.toList.length by rw [Array.length_toList]; omega) (listed[L]'(by omega)) (by simp)
    rw [Array.getD_eq_getD_getElem?] at hnot
    simp [show L < listed.size by omega] at hnot
    simp [hnot] at this
  | succ fuel ih =>
    intro listed a w hl hc hnot hcl hw hs hT
    refine ⟨fun hr => ?_, fun i hi => ?_⟩
    · exfalso
      have := not_ready hf hl hr L (by omega)
      rw [hnot L (Nat.le_refl _) hLs] at this
      cases this
    rw [mem_ready] at hi
    obtain ⟨h0, o, ho, hdeps⟩ := hi
    have hlt := (Array.getElem?_eq_some_iff.1 ho).1
    have hdone : ∀ e ∈ o.after, Region.binds .any e = true → ∀ oj, ops[e.on]? = some oj → listed.getD e.on true = true := by
      intro e he hb oj hoj
      have := hdeps e he hb
      have hlt2 := (Array.getElem?_eq_some_iff.1 hoj).1
      rw [Array.getD_eq_getD_getElem?] at this ⊢
      have hb2 : e.on < listed.size := by omega
      simpa [hb2] using this
    by_cases hiL : L ≤ i
    · have hprev : ∀ j, 0 < j → j < L → listed.getD j true = true := by
        intro j hj0 hj
        have hwi := List.all_eq_true.1 hwt.2 i (List.mem_range.2 hlt)
        simp only [Bool.or_eq_true, decide_eq_true_eq] at hwi
        rcases hwi with h | h
        · omega
        · have := List.all_eq_true.1 h j (List.mem_range.2 hj)
          simp only [Bool.or_eq_true, beq_iff_eq] at this
          rcases this with e | e
          · omega
          · exact waitsOn_listed hcl 12 i o ho hdone j (by omega) e
      have hgen : ∀ b : Bool, listed.getD 0 true = b → listed = (headOf ops.size L).setIfInBounds 0 b := by
        intro b hb
        apply Array.ext'
        apply List.ext_getElem?
        intro k
        unfold headOf
        rw [Array.toList_setIfInBounds]
        simp only [List.toList_toArray]
        rw [Array.getD_eq_getD_getElem?] at hb
        have h0s : 0 < listed.size := by omega
        simp [h0s] at hb
        rw [List.getElem?_set]
        by_cases hk0 : 0 = k
        · subst hk0
          rw [if_pos rfl, if_pos (by simp; omega)]
          simp [h0s, hb]
        · rw [if_neg hk0]
          by_cases hk : k < L
          · rw [List.getElem?_append_left (by simpa using hk)]
            have := hprev k (by omega) hk
            rw [Array.getD_eq_getD_getElem?] at this
            have hks : k < listed.size := by omega
            simp [hks] at this
            simp [hk, hks, this]
          · rw [List.getElem?_append_right (by simp; omega)]
            by_cases hkn : k < ops.size
            · have := hnot k (by omega) hkn
              rw [Array.getD_eq_getD_getElem?] at this
              have hks : k < listed.size := by omega
              simp [hks] at this
              simp [hks, this, show k - L < ops.size - L by omega]
            · rw [List.getElem?_eq_none (by rw [Array.length_toList]; omega), List.getElem?_eq_none (by simp; omega)]
      have hset : (headOf ops.size L).setIfInBounds 0 true = headOf ops.size L := by
        apply Array.ext'
        unfold headOf
        rw [Array.toList_setIfInBounds]
        simp only [List.toList_toArray]
        obtain ⟨L', rfl⟩ : ∃ L', L = L' + 1 := ⟨L - 1, by omega⟩
        simp [List.replicate_succ]
      have hcnt : (headOf ops.size L).toList.countP id = L := by
        unfold headOf
        simp [List.countP_append, List.countP_replicate]
      cases hb : listed.getD 0 true with
      | true =>
        have hlst := (hgen true hb).trans hset
        have hcount : listed.toList.countP id = L := by rw [hlst]; exact hcnt
        have step := hlast a w hw hs (fun j oj hj hoj => hT j oj hoj (by
          rcases Nat.eq_zero_or_pos j with e | e
          · subst e; exact hb
          · exact hprev j e hj))
        rw [show ops.size - L = fuel + 1 by omega, ← hlst] at step
        exact step.2 i (by rw [mem_ready]; exact ⟨h0, o, ho, hdeps⟩)
      | false =>
        have hlst := hgen false hb
        have hcount : listed.toList.countP id = L - 1 := by
          rw [hlst]
          unfold headOf
          rw [Array.toList_setIfInBounds]
          simp only [List.toList_toArray]
          obtain ⟨L', rfl⟩ : ∃ L', L = L' + 1 := ⟨L - 1, by omega⟩
          simp [List.replicate_succ, List.countP_append, List.countP_replicate]
        have step := hlate a w hw hs (fun j oj hj0 hj hoj => hT j oj hoj (hprev j hj0 hj))
        rw [show ops.size - L + 1 = fuel + 1 by omega, ← hlst] at step
        exact step.2 i (by rw [mem_ready]; exact ⟨h0, o, ho, hdeps⟩)
    · have hiL2 : i < L := by omega
      have step := hop i o hiL2 ho a w hw hs (fun e he hb oj hoj => hT e.on oj hoj (hdone e he hb oj hoj))
      have hsome : o.dst.isSome = true := by
        have := List.all_eq_true.1 hall i (List.mem_range.2 hiL2)
        rw [ho] at this
        exact this
      have next : ∀ v w', Later w w' → T i v w' → wpAny P .any ops Q fuel (listed.setIfInBounds i true) (a.put o.dst v) w' := by
        intro v w' hl2 hT2
        refine ih _ _ _ (by rw [Array.size_setIfInBounds]; exact hl) ?_ ?_ ?_ (htr _ _ _ hw hl2) (same_put ho hs) ?_
        · rw [Array.toList_setIfInBounds, List.countP_set (by rw [Array.length_toList]; omega)]
          have hf0 : listed.toList[i]'(by rw [Array.length_toList]; omega) = false := by
            rw [Array.getD_eq_getD_getElem?] at h0
            simpa [show i < listed.size by omega] using h0
          rw [hf0]
          show listed.toList.countP id - 0 + 1 + fuel = ops.size
          omega
        · intro k hk hkn
          rw [Array.getD_eq_getD_getElem?, Array.getElem?_setIfInBounds, if_neg (by omega), ← Array.getD_eq_getD_getElem?]
          exact hnot k hk hkn
        · intro k ok hk hkl e he hb oj hoj
          rw [Array.getD_eq_getD_getElem?, Array.getElem?_setIfInBounds]
          by_cases hie : i = e.on
          · rw [if_pos hie]
            split <;> rfl
          · rw [if_neg hie, ← Array.getD_eq_getD_getElem?]
            by_cases hik : i = k
            · subst hik
              rw [ho] at hk
              obtain rfl := Option.some.inj hk
              exact hdone e he hb oj hoj
            · rw [Array.getD_eq_getD_getElem?, Array.getElem?_setIfInBounds, if_neg hik, ← Array.getD_eq_getD_getElem?] at hkl
              exact hcl k ok hk hkl e he hb oj hoj
        · intro j oj hj hjl
          by_cases hij : i = j
          · subst hij
            rw [ho] at hj
            obtain rfl := Option.some.inj hj
            rw [valOf_put_same (by rw [hs.size]; exact hsz) ho hsome]
            exact hT2
          · rw [valOf_put hap ho hj hij]
            refine hst _ _ _ _ (hT j oj hj ?_) hl2
            rw [Array.getD_eq_getD_getElem?, Array.getElem?_setIfInBounds, if_neg hij] at hjl
            rw [Array.getD_eq_getD_getElem?]
            exact hjl
      unfold wpOp
      simp only [ho]
      split
      · rename_i hwant
        rw [if_pos hwant] at step
        left
        refine Oper.wp_mono (fun a' w' h' => ?_) step
        obtain ⟨v, rfl, h1, h2⟩ := h'
        exact next v w' h1 h2
      · rename_i hwant
        rw [if_neg hwant] at step
        exact next undef w (hrf w) step


/-- The same, where the first operation may come late. -/
theorem wp_region_late (L : Nat) (Later : World → World → Prop) (T : Nat → Value → World → Prop) {id : Nat} {a : Act} {w : World} (hm : P.follows .mixedOrders = true)
    (hap : apartAll ops = true) (hf : forward ops = true) (hsz : within ops a.tmps.size = true) (hwt : waitsTailU ops L = true) (hall : allBut ops L = true)
    (hrf : ∀ a, Later a a) (htr : ∀ a b c, Later a b → Later b c → Later a c) (hst : ∀ i v w w', T i v w → Later w w' → T i v w')
    (hdr : Later w { w with drawn := w.drawn + 1 })
    (hop : ∀ i o, i < L → ops[i]? = some o → StepOk P ops Q Later T a w i o)
    (hlast : ∀ a' w', Later w w' → Same ops a a' → (∀ i oi, i < L → ops[i]? = some oi → T i (valOf a' oi) w') → wpAny P .any ops Q (ops.size - L) (headOf ops.size L) a' w')
    (hlate : ∀ a' w', Later w w' → Same ops a a' → (∀ i oi, 0 < i → i < L → ops[i]? = some oi → T i (valOf a' oi) w') → wpAny P .any ops Q (ops.size - L + 1) ((headOf ops.size L).setIfInBounds 0 false) a' w') : (Code.region id ops true).wp P Q a w := by
  exact wp_region_any hm (wpAny_invU L (a0 := a) (w0 := w) hap hf hsz hwt hall hrf htr hst hop hlast hlate ops.size (Array.replicate ops.size false) a _ (by simp) (by simp) (fun k hk hkn => by rw [Array.getD_eq_getD_getElem?]; simp [hkn]) (fun k o hk hl => by
    have := (Array.getElem?_eq_some_iff.1 hk).1
    rw [Array.getD_eq_getD_getElem?] at hl
    simp [this] at hl) hdr ⟨rfl, rfl, fun _ _ => rfl⟩ (fun i o hi hl => by
    have := (Array.getElem?_eq_some_iff.1 hi).1
    rw [Array.getD_eq_getD_getElem?] at hl
    simp [this] at hl))
/-- One operation of the tail. -/
theorem wpAny_one {fuel : Nat} {listed : Array Bool} {a : Act} {w : World} (i : Nat) (o : Oper) (ho : ops[i]? = some o) (hg : o.guard = none) (hr : Region.ready .any ops listed = [i]) (h : o.wp P a w (fun a' w' => wpAny P .any ops Q fuel (listed.setIfInBounds i true) a' w') Q) : wpAny P .any ops Q (fuel + 1) listed a w := by
  refine ⟨fun e => (by rw [hr] at e; cases e), fun j hj => ?_⟩
  rw [hr] at hj
  simp at hj
  subst hj
  unfold wpOp
  simp only [ho]
  rw [if_pos (by simp [Region.wanted, hg])]
  exact .inl h
/-- Two that may come: both ways. -/
theorem wpAny_two {fuel : Nat} {listed : Array Bool} {a : Act} {w : World} (i j : Nat) (oi oj : Oper) (hi : ops[i]? = some oi) (hj : ops[j]? = some oj) (gi : oi.guard = none) (gj : oj.guard = none) (hr : Region.ready .any ops listed = [i, j]) (h1 : oi.wp P a w (fun a' w' => wpAny P .any ops Q fuel (listed.setIfInBounds i true) a' w') Q) (h2 : oj.wp P a w (fun a' w' => wpAny P .any ops Q fuel (listed.setIfInBounds j true) a' w') Q) : wpAny P .any ops Q (fuel + 1) listed a w := by
  refine ⟨fun e => (by rw [hr] at e; cases e), fun k hk => ?_⟩
  rw [hr] at hk
  simp at hk
  rcases hk with rfl | rfl
  · unfold wpOp
    simp only [hi]
    rw [if_pos (by simp [Region.wanted, gi])]
    exact .inl h1
  · unfold wpOp
    simp only [hj]
    rw [if_pos (by simp [Region.wanted, gj])]
    exact .inl h2
theorem wpAny_nil {listed : Array Bool} {a : Act} {w : World} (hr : Region.ready .any ops listed = []) (h : Q .normal a w) : wpAny P .any ops Q 0 listed a w := ⟨hr, h⟩
end

end Go.Proofs.YtanlgplgplncdaaGreatDoor

/-
  As ..AnyW: a region whose last operations wait for all others but one, which may be any; and operations that have guards. Nothing of the program.
-/
namespace Go.Proofs.YtanlgplgplncdaaGreatDoor
open Go.RowKit
set_option linter.unusedVariables false
set_option linter.unusedSimpArgs false

section
variable {P : Program} {ops : Array Oper} {Q : Exit → Act → World → Prop} {Later : World → World → Prop} {T : Nat → Value → World → Prop} {a0 : Act} {w0 : World}

/-- One operation ahead of L, whenever it comes up: what L and those behind it write is as it was. -/
def StepOkV (P : Program) (ops : Array Oper) (L : Nat) (Q : Exit → Act → World → Prop) (Later : World → World → Prop) (T : Nat → Value → World → Prop) (a0 : Act) (w0 : World) (i : Nat) (o : Oper) : Prop :=
  ∀ (a : Act) (w : World), Later w0 w → Same ops a0 a → Same (ops.extract 0 L) a0 a →
    (∀ e ∈ o.after, Region.binds .any e = true → ∀ oj, ops[e.on]? = some oj → T e.on (valOf a oj) w) →
    if Region.wanted o (yielded ops a.tmps) = true then o.wp P a w (fun a' w' => ∃ v, a' = a.put o.dst v ∧ Later w w' ∧ T i v w') Q else T i undef w
/-- From L on each waits for all ahead of L, but perhaps for J. -/
def waitsTailV (ops : Array Oper) (L J : Nat) : Bool := (decide (L < ops.size) && decide (J < L)) && (List.range ops.size).all fun k => decide (k < L) || (List.range L).all fun j => (j == J || waitsOn ops 12 k j)
theorem wpAny_invV (L J : Nat) (hap : apartAll ops = true) (hf : forward ops = true) (hsz : within ops a0.tmps.size = true) (hwt : waitsTailV ops L J = true) (hall : allBut ops L = true)
    (hrf : ∀ a, Later a a) (htr : ∀ a b c, Later a b → Later b c → Later a c) (hst : ∀ i v w w', T i v w → Later w w' → T i v w')
    (hop : ∀ i o, i < L → ops[i]? = some o → StepOkV P ops L Q Later T a0 w0 i o)
    (hlast : ∀ a w, Later w0 w → Same ops a0 a → (∀ i oi, i < L → ops[i]? = some oi → T i (valOf a oi) w) → wpAny P .any ops Q (ops.size - L) (headOf ops.size L) a w)
    (hlate : ∀ a w, Later w0 w → Same ops a0 a → (∀ i oi, i ≠ J → i < L → ops[i]? = some oi → T i (valOf a oi) w) → wpAny P .any ops Q (ops.size - L + 1) ((headOf ops.size L).setIfInBounds J false) a w) :
    ∀ (fuel : Nat) (listed : Array Bool) (a : Act) (w : World), listed.size = ops.size → listed.toList.countP id + fuel = ops.size → (∀ k, L ≤ k → k < ops.size → listed.getD k true = false) → (∀ k o, ops[k]? = some o → listed.getD k true = true → ∀ e ∈ o.after, Region.binds .any e = true → ∀ oj, ops[e.on]? = some oj → listed.getD e.on true = true) → Later w0 w → Same ops a0 a → Same (ops.extract 0 L) a0 a →
      (∀ i o, ops[i]? = some o → listed.getD i true = true → T i (valOf a o) w) → wpAny P .any ops Q fuel listed a w := by
  simp only [waitsTailV, Bool.and_eq_true, decide_eq_true_eq] at hwt
  obtain ⟨⟨hLs, hL0⟩, hwt2⟩ := hwt
  have hwt := And.intro hLs hwt2
  intro fuel
  induction fuel with
  | zero =>
    intro listed a w hl hc hnot hcl hw hs hs2 hT
    exfalso
    have hnot := hnot L (Nat.le_refl _) hLs
    have := List.countP_eq_length.1 (show listed.toList.countP id = listed.toList.length by rw [Array.length_toList]; omega) (listed[L]'(by omega)) (by simp)
    rw [Array.getD_eq_getD_getElem?] at hnot
    simp [show L < listed.size by omega] at hnot
    simp [hnot] at this
  | succ fuel ih =>
    intro listed a w hl hc hnot hcl hw hs hs2 hT
    refine ⟨fun hr => ?_, fun i hi => ?_⟩
    · exfalso
      have := not_ready hf hl hr L (by omega)
      rw [hnot L (Nat.le_refl _) hLs] at this
      cases this
    rw [mem_ready] at hi
    obtain ⟨h0, o, ho, hdeps⟩ := hi
    have hlt := (Array.getElem?_eq_some_iff.1 ho).1
    have hdone : ∀ e ∈ o.after, Region.binds .any e = true → ∀ oj, ops[e.on]? = some oj → listed.getD e.on true = true := by
      intro e he hb oj hoj
      have := hdeps e he hb
      have hlt2 := (Array.getElem?_eq_some_iff.1 hoj).1
      rw [Array.getD_eq_getD_getElem?] at this ⊢
      have hb2 : e.on < listed.size := by omega
      simpa [hb2] using this
    by_cases hiL : L ≤ i
    · have hprev : ∀ j, j ≠ J → j < L → listed.getD j true = true := by
        intro j hj0 hj
        have hwi := List.all_eq_true.1 hwt.2 i (List.mem_range.2 hlt)
        simp only [Bool.or_eq_true, decide_eq_true_eq] at hwi
        rcases hwi with h | h
        · omega
        · have := List.all_eq_true.1 h j (List.mem_range.2 hj)
          simp only [Bool.or_eq_true, beq_iff_eq] at this
          rcases this with e | e
          · exact absurd e hj0
          · exact waitsOn_listed hcl 12 i o ho hdone j (by omega) e
      have hgen : ∀ b : Bool, listed.getD J true = b → listed = (headOf ops.size L).setIfInBounds J b := by
        intro b hb
        apply Array.ext'
        apply List.ext_getElem?
        intro k
        unfold headOf
        rw [Array.toList_setIfInBounds]
        simp only [List.toList_toArray]
        rw [Array.getD_eq_getD_getElem?] at hb
        have h0s : J < listed.size := by omega
        simp [h0s] at hb
        rw [List.getElem?_set]
        by_cases hk0 : J = k
        · subst hk0
          rw [if_pos rfl, if_pos (by simp; omega)]
          simp [h0s, hb]
        · rw [if_neg hk0]
          by_cases hk : k < L
          · rw [List.getElem?_append_left (by simpa using hk)]
            have := hprev k (fun e => hk0 e.symm) hk
            rw [Array.getD_eq_getD_getElem?] at this
            have hks : k < listed.size := by omega
            simp [hks] at this
            simp [hk, hks, this]
          · rw [List.getElem?_append_right (by simp; omega)]
            by_cases hkn : k < ops.size
            · have := hnot k (by omega) hkn
              rw [Array.getD_eq_getD_getElem?] at this
              have hks : k < listed.size := by omega
              simp [hks] at this
              simp [hks, this, show k - L < ops.size - L by omega]
            · rw [List.getElem?_eq_none (by rw [Array.length_toList]; omega), List.getElem?_eq_none (by simp; omega)]
      have hset : (headOf ops.size L).setIfInBounds J true = headOf ops.size L := by
        apply Array.ext'
        apply List.ext_getElem?
        intro k
        unfold headOf
        rw [Array.toList_setIfInBounds]
        simp only [List.toList_toArray]
        rw [List.getElem?_set]
        by_cases hk0 : J = k
        · subst hk0
          rw [if_pos rfl, if_pos (by simp; omega), List.getElem?_append_left (by simpa using hL0)]
          simp [hL0]
        · rw [if_neg hk0]
      have hcnt : (headOf ops.size L).toList.countP id = L := by
        unfold headOf
        simp [List.countP_append, List.countP_replicate]
      cases hb : listed.getD J true with
      | true =>
        have hlst := (hgen true hb).trans hset
        have hcount : listed.toList.countP id = L := by rw [hlst]; exact hcnt
        have step := hlast a w hw hs (fun j oj hj hoj => hT j oj hoj (by
          by_cases e : j = J
          · subst e; exact hb
          · exact hprev j e hj))
        rw [show ops.size - L = fuel + 1 by omega, ← hlst] at step
        exact step.2 i (by rw [mem_ready]; exact ⟨h0, o, ho, hdeps⟩)
      | false =>
        have hlst := hgen false hb
        have hcount : listed.toList.countP id = L - 1 := by
          rw [hlst]
          unfold headOf
          rw [Array.toList_setIfInBounds]
          simp only [List.toList_toArray]
          have hlJ : J < (List.replicate L true ++ List.replicate (ops.size - L) false).length := by simp; omega
          have hgJ : (List.replicate L true ++ List.replicate (ops.size - L) false)[J]'hlJ = true := by
            rw [List.getElem_append_left (by simpa using hL0)]
            simp
          rw [List.countP_set hlJ, hgJ]
          simp [List.countP_append, List.countP_replicate]
        have step := hlate a w hw hs (fun j oj hj0 hj hoj => hT j oj hoj (hprev j hj0 hj))
        rw [show ops.size - L + 1 = fuel + 1 by omega, ← hlst] at step
        exact step.2 i (by rw [mem_ready]; exact ⟨h0, o, ho, hdeps⟩)
    · have hiL2 : i < L := by omega
      have step := hop i o hiL2 ho a w hw hs hs2 (fun e he hb oj hoj => hT e.on oj hoj (hdone e he hb oj hoj))
      have hsome : o.dst.isSome = true := by
        have := List.all_eq_true.1 hall i (List.mem_range.2 hiL2)
        rw [ho] at this
        exact this
      have next : ∀ v w', Later w w' → T i v w' → wpAny P .any ops Q fuel (listed.setIfInBounds i true) (a.put o.dst v) w' := by
        intro v w' hl2 hT2
        refine ih _ _ _ (by rw [Array.size_setIfInBounds]; exact hl) ?_ ?_ ?_ (htr _ _ _ hw hl2) (same_put ho hs) (same_put (show (ops.extract 0 L)[i]? = some o by rw [Array.getElem?_extract, if_pos (by omega), Nat.zero_add]; exact ho) hs2) ?_
        · rw [Array.toList_setIfInBounds, List.countP_set (by rw [Array.length_toList]; omega)]
          have hf0 : listed.toList[i]'(by rw [Array.length_toList]; omega) = false := by
            rw [Array.getD_eq_getD_getElem?] at h0
            simpa [show i < listed.size by omega] using h0
          rw [hf0]
          show listed.toList.countP id - 0 + 1 + fuel = ops.size
          omega
        · intro k hk hkn
          rw [Array.getD_eq_getD_getElem?, Array.getElem?_setIfInBounds, if_neg (by omega), ← Array.getD_eq_getD_getElem?]
          exact hnot k hk hkn
        · intro k ok hk hkl e he hb oj hoj
          rw [Array.getD_eq_getD_getElem?, Array.getElem?_setIfInBounds]
          by_cases hie : i = e.on
          · rw [if_pos hie]
            split <;> rfl
          · rw [if_neg hie, ← Array.getD_eq_getD_getElem?]
            by_cases hik : i = k
            · subst hik
              rw [ho] at hk
              obtain rfl := Option.some.inj hk
              exact hdone e he hb oj hoj
            · rw [Array.getD_eq_getD_getElem?, Array.getElem?_setIfInBounds, if_neg hik, ← Array.getD_eq_getD_getElem?] at hkl
              exact hcl k ok hk hkl e he hb oj hoj
        · intro j oj hj hjl
          by_cases hij : i = j
          · subst hij
            rw [ho] at hj
            obtain rfl := Option.some.inj hj
            rw [valOf_put_same (by rw [hs.size]; exact hsz) ho hsome]
            exact hT2
          · rw [valOf_put hap ho hj hij]
            refine hst _ _ _ _ (hT j oj hj ?_) hl2
            rw [Array.getD_eq_getD_getElem?, Array.getElem?_setIfInBounds, if_neg hij] at hjl
            rw [Array.getD_eq_getD_getElem?]
            exact hjl
      unfold wpOp
      simp only [ho]
      split
      · rename_i hwant
        rw [if_pos hwant] at step
        left
        refine Oper.wp_mono (fun a' w' h' => ?_) step
        obtain ⟨v, rfl, h1, h2⟩ := h'
        exact next v w' h1 h2
      · rename_i hwant
        rw [if_neg hwant] at step
        exact next undef w (hrf w) step


/-- The same, where operation J may come late. -/
theorem wp_region_lateJ (L J : Nat) (Later : World → World → Prop) (T : Nat → Value → World → Prop) {id : Nat} {a : Act} {w : World} (hm : P.follows .mixedOrders = true)
    (hap : apartAll ops = true) (hf : forward ops = true) (hsz : within ops a.tmps.size = true) (hwt : waitsTailV ops L J = true) (hall : allBut ops L = true)
    (hrf : ∀ a, Later a a) (htr : ∀ a b c, Later a b → Later b c → Later a c) (hst : ∀ i v w w', T i v w → Later w w' → T i v w')
    (hdr : Later w { w with drawn := w.drawn + 1 })
    (hop : ∀ i o, i < L → ops[i]? = some o → StepOkV P ops L Q Later T a w i o)
    (hlast : ∀ a' w', Later w w' → Same ops a a' → (∀ i oi, i < L → ops[i]? = some oi → T i (valOf a' oi) w') → wpAny P .any ops Q (ops.size - L) (headOf ops.size L) a' w')
    (hlate : ∀ a' w', Later w w' → Same ops a a' → (∀ i oi, i ≠ J → i < L → ops[i]? = some oi → T i (valOf a' oi) w') → wpAny P .any ops Q (ops.size - L + 1) ((headOf ops.size L).setIfInBounds J false) a' w') : (Code.region id ops true).wp P Q a w := by
  exact wp_region_any hm (wpAny_invV L J (a0 := a) (w0 := w) hap hf hsz hwt hall hrf htr hst hop hlast hlate ops.size (Array.replicate ops.size false) a _ (by simp) (by simp) (fun k hk hkn => by rw [Array.getD_eq_getD_getElem?]; simp [hkn]) (fun k o hk hl => by
    have := (Array.getElem?_eq_some_iff.1 hk).1
    rw [Array.getD_eq_getD_getElem?] at hl
    simp [this] at hl) hdr ⟨rfl, rfl, fun _ _ => rfl⟩ ⟨rfl, rfl, fun _ _ => rfl⟩ (fun i o hi hl => by
    have := (Array.getElem?_eq_some_iff.1 hi).1
    rw [Array.getD_eq_getD_getElem?] at hl
    simp [this] at hl))
/-- One operation of the tail, its guard known. -/
theorem wpAny_oneW {fuel : Nat} {listed : Array Bool} {a : Act} {w : World} (i : Nat) (o : Oper) (ho : ops[i]? = some o) (hg : Region.wanted o (yielded ops a.tmps) = true) (hr : Region.ready .any ops listed = [i]) (h : o.wp P a w (fun a' w' => wpAny P .any ops Q fuel (listed.setIfInBounds i true) a' w') Q) : wpAny P .any ops Q (fuel + 1) listed a w := by
  refine ⟨fun e => (by rw [hr] at e; cases e), fun j hj => ?_⟩
  rw [hr] at hj
  simp at hj
  subst hj
  unfold wpOp
  simp only [ho]
  rw [if_pos hg]
  exact .inl h
/-- Two that may come: both ways. -/
theorem wpAny_twoW {fuel : Nat} {listed : Array Bool} {a : Act} {w : World} (i j : Nat) (oi oj : Oper) (hi : ops[i]? = some oi) (hj : ops[j]? = some oj) (gi : Region.wanted oi (yielded ops a.tmps) = true) (gj : Region.wanted oj (yielded ops a.tmps) = true) (hr : Region.ready .any ops listed = [i, j]) (h1 : oi.wp P a w (fun a' w' => wpAny P .any ops Q fuel (listed.setIfInBounds i true) a' w') Q) (h2 : oj.wp P a w (fun a' w' => wpAny P .any ops Q fuel (listed.setIfInBounds j true) a' w') Q) : wpAny P .any ops Q (fuel + 1) listed a w := by
  refine ⟨fun e => (by rw [hr] at e; cases e), fun k hk => ?_⟩
  rw [hr] at hk
  simp at hk
  rcases hk with rfl | rfl
  · unfold wpOp
    simp only [hi]
    rw [if_pos gi]
    exact .inl h1
  · unfold wpOp
    simp only [hj]
    rw [if_pos gj]
    exact .inl h2
end

end Go.Proofs.YtanlgplgplncdaaGreatDoor

/-
  The rule of ..Any, wider: a store's place is where its address lies; rows that calls of the region make are no two the same. Nothing of the program.
-/
namespace Go.Proofs.YtanlgplgplncdaaGreatDoor
open Go.RowKit
set_option linter.unusedVariables false

/-- Where what an operation tells is looked for: what it writes, or a store's address. -/
def place (o : Oper) : Option Tmp :=
  match o.dst with
  | some d => some d
  | none => match o.op with
    | .store _ (.tmp t) _ => some t
    | _ => none
def valAt (a : Act) (o : Oper) : Value :=
  match place o with
  | some d => a.tmps.getD d undef
  | none => undef
/-- What is told behind a step. -/
def told (o : Oper) (a : Act) (v : Value) : Value :=
  match o.dst with
  | some _ => v
  | none => valAt a o

/-- A row that this step has made. -/
def Newly (w w' : World) (v : Value) : Prop := ∀ x, v.ownBlock = some x → w.heap.size ≤ x ∧ x < w'.heap.size
def Apart (v u : Value) : Prop := ∀ x, v.ownBlock = some x → u.ownBlock ≠ some x
theorem Apart.symm {v u : Value} (h : Apart v u) : Apart u v := fun x hx e => h x e hx

def placesOk (ops : Array Oper) : Bool := (List.range ops.size).all fun i => (List.range ops.size).all fun j => i == j || match ops[i]?, ops[j]? with
  | some x, some y => y.dst.isNone || place x != y.dst || (x.dst.isNone && x.after.any fun e => Region.binds .any e && e.on == j)
  | _, _ => true

section
variable {P : Program} {ops : Array Oper} {Q : Exit → Act → World → Prop} {Later : World → World → Prop} {T : Nat → Value → World → Prop} {S : Nat → Bool} {a0 : Act} {w0 : World}

def StepOkB (P : Program) (ops : Array Oper) (Q : Exit → Act → World → Prop) (Later : World → World → Prop) (T : Nat → Value → World → Prop) (S : Nat → Bool) (a0 : Act) (w0 : World) (i : Nat) (o : Oper) : Prop :=
  ∀ (a : Act) (w : World), Later w0 w → Same ops a0 a →
    (∀ e ∈ o.after, Region.binds .any e = true → ∀ oj, ops[e.on]? = some oj → T e.on (valAt a oj) w) →
    (∀ e ∈ o.after, ∀ f ∈ o.after, Region.binds .any e = true → Region.binds .any f = true → e.on ≠ f.on → S e.on = true → S f.on = true → ∀ oj ok, ops[e.on]? = some oj → ops[f.on]? = some ok → Apart (valAt a oj) (valAt a ok)) →
    if Region.wanted o (yielded ops a.tmps) = true then o.wp P a w (fun a' w' => ∃ v, a' = a.put o.dst v ∧ Later w w' ∧ T i (told o a v) w' ∧ (S i = true → Newly w w' (told o a v))) Q else T i (told o a undef) w ∧ (S i = true → Newly w w (told o a undef))

theorem placesOk_spec (h : placesOk ops = true) {i j : Nat} {x y : Oper} (hi : ops[i]? = some x) (hj : ops[j]? = some y) (hij : i ≠ j) {d : Tmp} (hd : y.dst = some d) (hp : place x = some d) : ∃ e ∈ x.after, Region.binds .any e = true ∧ e.on = j := by
  have h1 := (Array.getElem?_eq_some_iff.1 hi).1
  have h2 := (Array.getElem?_eq_some_iff.1 hj).1
  have := List.all_eq_true.1 (List.all_eq_true.1 h i (List.mem_range.2 h1)) j (List.mem_range.2 h2)
  simp only [hi, hj, hd, hp] at this
  simp [hij] at this
  obtain ⟨_, k, hk, hb, he⟩ := this
  exact ⟨x.after[k], by simp, hb, he⟩

theorem valAt_put {a : Act} {i j : Nat} {x y : Oper} {v : Value} (hi : ops[i]? = some x) (hj : ops[j]? = some y) (hne : ∀ d, y.dst = some d → place x ≠ some d) : valAt (a.put y.dst v) x = valAt a x := by
  unfold valAt
  cases hx : place x with
  | none => rfl
  | some d =>
    cases hy : y.dst with
    | none => rfl
    | some c =>
      simp only
      refine put_slot a c d v (fun e => ?_)
      subst e
      exact hne _ hy hx

theorem valAt_put_same {a : Act} {i : Nat} {x : Oper} {v : Value} (hsz : within ops a.tmps.size = true) (hi : ops[i]? = some x) : valAt (a.put x.dst v) x = told x a v := by
  unfold told
  cases hd : x.dst with
  | none => rfl
  | some d =>
    unfold valAt
    have : place x = some d := by unfold place; rw [hd]
    rw [this]
    exact put_same a d v (within_spec hsz hi hd)

/-- THE RULE. -/
theorem wpAny_invB (hap : placesOk ops = true) (hf : forward ops = true) (hsz : within ops a0.tmps.size = true)
    (hrf : ∀ a, Later a a) (htr : ∀ a b c, Later a b → Later b c → Later a c) (hst : ∀ i v w w', T i v w → Later w w' → T i v w') (hls : ∀ w w', Later w w' → w.heap.size ≤ w'.heap.size)
    (hop : ∀ i o, ops[i]? = some o → StepOkB P ops Q Later T S a0 w0 i o)
    (hdone : ∀ a w, Later w0 w → Same ops a0 a → (∀ i o, ops[i]? = some o → T i (valAt a o) w) → Q .normal a w) :
    ∀ (fuel : Nat) (listed : Array Bool) (a : Act) (w : World), listed.size = ops.size → listed.toList.countP id + fuel = ops.size → Later w0 w → Same ops a0 a →
      (∀ i o, ops[i]? = some o → listed.getD i true = true → T i (valAt a o) w ∧ (S i = true → ∀ x, (valAt a o).ownBlock = some x → x < w.heap.size) ∧ ∀ e ∈ o.after, Region.binds .any e = true → listed.getD e.on false = true) →
      (∀ i j oi oj, ops[i]? = some oi → ops[j]? = some oj → listed.getD i true = true → listed.getD j true = true → i ≠ j → S i = true → S j = true → Apart (valAt a oi) (valAt a oj)) → wpAny P .any ops Q fuel listed a w := by
  intro fuel
  induction fuel with
  | zero =>
    intro listed a w hl hc hw hs hT hX
    have hall2 : ∀ i, i < ops.size → listed.getD i true = true := by
      intro i hi
      have := List.countP_eq_length.1 (show listed.toList.countP id = listed.toList.length by rw [Array.length_toList]; omega) listed[i] (by simp)
      rw [Array.getD_eq_getD_getElem?]
      simpa [show i < listed.size by omega] using this
    refine ⟨?_, hdone a w hw hs fun i o hi => (hT i o hi (hall2 i (Array.getElem?_eq_some_iff.1 hi).1)).1⟩
    cases hr : Region.ready .any ops listed with
    | nil => rfl
    | cons j t =>
      exfalso
      have hj : j ∈ Region.ready .any ops listed := by rw [hr]; simp
      rw [mem_ready] at hj
      obtain ⟨h0, o, ho, _⟩ := hj
      rw [hall2 j (Array.getElem?_eq_some_iff.1 ho).1] at h0
      cases h0
  | succ fuel ih =>
    intro listed a w hl hc hw hs hT hX
    refine ⟨fun hr => hdone a w hw hs fun i o hi => (hT i o hi (not_ready hf hl hr i (Array.getElem?_eq_some_iff.1 hi).1)).1, fun i hi => ?_⟩
    rw [mem_ready] at hi
    obtain ⟨h0, o, ho, hdeps⟩ := hi
    have hlt := (Array.getElem?_eq_some_iff.1 ho).1
    have hyes : ∀ k ok, ops[k]? = some ok → listed.getD k false = true → listed.getD k true = true := by
      intro k ok hk this
      have hlt2 := (Array.getElem?_eq_some_iff.1 hk).1
      rw [Array.getD_eq_getD_getElem?] at this ⊢
      have hb2 : k < listed.size := by omega
      simpa [hb2] using this
    have step := hop i o ho a w hw hs (fun e he hb oj hoj => (hT e.on oj hoj (hyes _ _ hoj (hdeps e he hb))).1)
      (fun e he f hf2 hb hb2 hne hS1 hS2 oj ok hoj hok => hX _ _ _ _ hoj hok (hyes _ _ hoj (hdeps e he hb)) (hyes _ _ hok (hdeps f hf2 hb2)) hne hS1 hS2)
    have next : ∀ v w', Later w w' → T i (told o a v) w' → (S i = true → Newly w w' (told o a v)) → wpAny P .any ops Q fuel (listed.setIfInBounds i true) (a.put o.dst v) w' := by
      intro v w' hl2 hT2 hN2
      have hback : ∀ j, i ≠ j → (listed.setIfInBounds i true).getD j true = true → listed.getD j true = true := by
        intro j hij hjl
        rw [Array.getD_eq_getD_getElem?, Array.getElem?_setIfInBounds, if_neg hij] at hjl
        rw [Array.getD_eq_getD_getElem?]
        exact hjl
      have hon : ∀ k, listed.getD k false = true → (listed.setIfInBounds i true).getD k false = true := by
        intro k hk
        rw [Array.getD_eq_getD_getElem?] at hk ⊢
        rw [Array.getElem?_setIfInBounds]
        by_cases hik : i = k
        · simp [hik, show k < listed.size by omega]
        · rw [if_neg hik]; exact hk
      have hval : ∀ j oj, ops[j]? = some oj → i ≠ j → listed.getD j true = true → valAt (a.put o.dst v) oj = valAt a oj := by
        intro j oj hj hij hjl
        refine valAt_put hj ho (fun d hd hp => ?_)
        obtain ⟨e, he, hb, hon2⟩ := placesOk_spec hap hj ho (fun h => hij h.symm) hd hp
        have := (hT j oj hj hjl).2.2 e he hb
        rw [hon2] at this
        have h3 := hyes i o ho this
        rw [h3] at h0
        cases h0
      refine ih _ _ _ (by rw [Array.size_setIfInBounds]; exact hl) ?_ (htr _ _ _ hw hl2) (same_put ho hs) ?_ ?_
      · rw [Array.toList_setIfInBounds, List.countP_set (by rw [Array.length_toList]; omega)]
        have hf0 : listed.toList[i]'(by rw [Array.length_toList]; omega) = false := by
          rw [Array.getD_eq_getD_getElem?] at h0
          simpa [show i < listed.size by omega] using h0
        rw [hf0]
        show listed.toList.countP id - 0 + 1 + fuel = ops.size
        omega
      · intro j oj hj hjl
        by_cases hij : i = j
        · subst hij
          rw [ho] at hj
          obtain rfl := Option.some.inj hj
          rw [valAt_put_same (by rw [hs.size]; exact hsz) ho]
          exact ⟨hT2, fun hS x hx => (hN2 hS x hx).2, fun e he hb => hon _ (hdeps e he hb)⟩
        · have hjl2 := hback j hij hjl
          rw [hval j oj hj hij hjl2]
          obtain ⟨q1, q2, q3⟩ := hT j oj hj hjl2
          exact ⟨hst _ _ _ _ q1 hl2, fun hS x hx => Nat.lt_of_lt_of_le (q2 hS x hx) (hls _ _ hl2), fun e he hb => hon _ (q3 e he hb)⟩
      · have key : ∀ j oj, ops[j]? = some oj → i ≠ j → listed.getD j true = true → S i = true → S j = true → Apart (told o a v) (valAt a oj) := by
          intro j oj hj hij hjl hS1 hS2 x hx e
          have h3 := (hN2 hS1 x hx).1
          have h4 := (hT j oj hj hjl).2.1 hS2 x e
          omega
        intro j k oj ok hj hk hjl hkl hjk hS1 hS2
        by_cases hij : i = j
        · subst hij
          rw [ho] at hj
          obtain rfl := Option.some.inj hj
          have hkl2 := hback k hjk hkl
          rw [valAt_put_same (by rw [hs.size]; exact hsz) ho, hval k ok hk hjk hkl2]
          exact key k ok hk hjk hkl2 hS1 hS2
        · have hjl2 := hback j hij hjl
          rw [hval j oj hj hij hjl2]
          by_cases hik : i = k
          · subst hik
            rw [ho] at hk
            obtain rfl := Option.some.inj hk
            rw [valAt_put_same (by rw [hs.size]; exact hsz) ho]
            exact (key j oj hj hij hjl2 hS2 hS1).symm
          · have hkl2 := hback k hik hkl
            rw [hval k ok hk hik hkl2]
            exact hX j k oj ok hj hk hjl2 hkl2 hjk hS1 hS2
    unfold wpOp
    simp only [ho]
    split
    · rename_i hwant
      rw [if_pos hwant] at step
      left
      refine Oper.wp_mono (fun a' w' h' => ?_) step
      obtain ⟨v, rfl, h1, h2, h3⟩ := h'
      exact next v w' h1 h2 h3
    · rename_i hwant
      rw [if_neg hwant] at step
      exact next undef w (hrf w) step.1 step.2

theorem wp_region_invB (Later : World → World → Prop) (T : Nat → Value → World → Prop) (S : Nat → Bool) {id : Nat} {a : Act} {w : World} (hm : P.follows .mixedOrders = true)
    (hap : placesOk ops = true) (hf : forward ops = true) (hsz : within ops a.tmps.size = true)
    (hrf : ∀ a, Later a a) (htr : ∀ a b c, Later a b → Later b c → Later a c) (hst : ∀ i v w w', T i v w → Later w w' → T i v w') (hls : ∀ w w', Later w w' → w.heap.size ≤ w'.heap.size)
    (hdr : Later w { w with drawn := w.drawn + 1 })
    (hop : ∀ i o, ops[i]? = some o → StepOkB P ops Q Later T S a w i o)
    (hdone : ∀ a' w', Later w w' → Same ops a a' → (∀ i o, ops[i]? = some o → T i (valAt a' o) w') → Q .normal a' w') : (Code.region id ops true).wp P Q a w :=
  wp_region_any hm (wpAny_invB (a0 := a) (w0 := w) hap hf hsz hrf htr hst hls hop hdone ops.size (Array.replicate ops.size false) a _ (by simp) (by simp) hdr ⟨rfl, rfl, fun _ _ => rfl⟩ (fun i o hi hl => by
    have := (Array.getElem?_eq_some_iff.1 hi).1
    rw [Array.getD_eq_getD_getElem?] at hl
    simp [this] at hl) (fun i j oi oj hi hj hl => by
    have := (Array.getElem?_eq_some_iff.1 hi).1
    rw [Array.getD_eq_getD_getElem?] at hl
    simp [this] at hl))

theorem stepB_yes {i : Nat} {o : Oper} {a : Act} {w : World} (hw : Region.wanted o (yielded ops a.tmps) = true) (h : o.wp P a w (fun a' w' => ∃ v, a' = a.put o.dst v ∧ Later w w' ∧ T i (told o a v) w' ∧ (S i = true → Newly w w' (told o a v))) Q) :
    if Region.wanted o (yielded ops a.tmps) = true then o.wp P a w (fun a' w' => ∃ v, a' = a.put o.dst v ∧ Later w w' ∧ T i (told o a v) w' ∧ (S i = true → Newly w w' (told o a v))) Q else T i (told o a undef) w ∧ (S i = true → Newly w w (told o a undef)) := by rw [if_pos hw]; exact h

theorem okB_value {i : Nat} {o : Oper} {a : Act} {w : World} (hrf : ∀ a, Later a a) (hS : S i = false) (v : Value) (h : (execOp a.eval o).run P w = .ok (.value v) w) (hT : T i (told o a v) w) : o.wp P a w (fun a' w' => ∃ v, a' = a.put o.dst v ∧ Later w w' ∧ T i (told o a v) w' ∧ (S i = true → Newly w w' (told o a v))) Q := by
  unfold Oper.wp
  rw [h]
  exact ⟨v, rfl, hrf w, hT, fun e => by rw [hS] at e; cases e⟩
theorem okB_call {i : Nat} {o : Oper} {a : Act} {w : World} {f : FuncId} {args : Array Value} (h : (execOp a.eval o).run P w = .ok (.enter f args) w) (hc : Calls P f args w fun e w' => ∃ v, e = .returned v ∧ Later w w' ∧ T i (told o a v) w' ∧ (S i = true → Newly w w' (told o a v))) : o.wp P a w (fun a' w' => ∃ v, a' = a.put o.dst v ∧ Later w w' ∧ T i (told o a v) w' ∧ (S i = true → Newly w w' (told o a v))) Q := by
  unfold Oper.wp
  rw [h]
  refine Calls.mono hc ?_
  rintro e w' ⟨v, rfl, hl, ht⟩
  exact ⟨v, rfl, hl, ht⟩

end

/-- What an operation leaves, with the reason why it lasts. -/
structure Ent (Later : World → World → Prop) where
  p : Value → World → Prop
  st : ∀ v w w', p v w → Later w w' → p v w'
def Ent.val {Later : World → World → Prop} (c : Value) : Ent Later := ⟨fun v _ => v = c, fun _ _ _ h _ => h⟩
def TE {Later : World → World → Prop} (tab : List (Ent Later)) (i : Nat) (v : Value) (w : World) : Prop :=
  match tab[i]? with
  | some e => e.p v w
  | none => True
theorem TE_stable {Later : World → World → Prop} (tab : List (Ent Later)) : ∀ i v w w', TE tab i v w → Later w w' → TE tab i v w' := by
  intro i v w w' h hb
  unfold TE at *
  split at h
  · rename_i e _
    exact e.st _ _ _ h hb
  · trivial

end Go.Proofs.YtanlgplgplncdaaGreatDoor

/-
  The rule of ..AnyB with a relation for each operation's step: what an operation has left must outlast those steps alone that may come behind it. Nothing of the program.
-/
namespace Go.Proofs.YtanlgplgplncdaaGreatDoor
open Go.RowKit
set_option linter.unusedVariables false

theorem placesOk_apart {ops : Array Oper} (h : placesOk ops = true) {i j : Nat} {x y : Oper} (hi : ops[i]? = some x) (hj : ops[j]? = some y) (hij : i ≠ j) {d : Tmp} (hx : x.dst = some d) (hy : y.dst = some d) : False := by
  have h1 := (Array.getElem?_eq_some_iff.1 hi).1
  have h2 := (Array.getElem?_eq_some_iff.1 hj).1
  have := List.all_eq_true.1 (List.all_eq_true.1 h i (List.mem_range.2 h1)) j (List.mem_range.2 h2)
  have hp : place x = some d := by unfold place; rw [hx]
  simp only [hi, hj, hy, hp, hx] at this
  simp [hij] at this

section
variable {P : Program} {ops : Array Oper} {Q : Exit → Act → World → Prop} {Later : World → World → Prop} {Ls : Nat → World → World → Prop} {Early : World → Prop} {q : Nat} {T : Nat → Value → World → Prop} {S : Nat → Bool} {a0 : Act} {w0 : World}

def StepOkC (P : Program) (ops : Array Oper) (Q : Exit → Act → World → Prop) (Later : World → World → Prop) (Ls : Nat → World → World → Prop) (Early : World → Prop) (q : Nat) (T : Nat → Value → World → Prop) (S : Nat → Bool) (a0 : Act) (w0 : World) (i : Nat) (o : Oper) : Prop :=
  ∀ (a : Act) (w : World), Later w0 w → (i = q → Early w) → (∀ (j : Nat) (oj : Oper) (d : Tmp), ops[j]? = some oj → oj.dst = some d → (∃ e ∈ oj.after, Region.binds .any e = true ∧ e.on = i) → a.tmps.getD d undef = a0.tmps.getD d undef) → Same ops a0 a →
    (∀ e ∈ o.after, Region.binds .any e = true → ∀ oj, ops[e.on]? = some oj → T e.on (valAt a oj) w) →
    (∀ e ∈ o.after, ∀ f ∈ o.after, Region.binds .any e = true → Region.binds .any f = true → e.on ≠ f.on → S e.on = true → S f.on = true → ∀ oj ok, ops[e.on]? = some oj → ops[f.on]? = some ok → Apart (valAt a oj) (valAt a ok)) →
    if Region.wanted o (yielded ops a.tmps) = true then o.wp P a w (fun a' w' => ∃ v, a' = a.put o.dst v ∧ Ls i w w' ∧ T i (told o a v) w' ∧ (S i = true → Newly w w' (told o a v))) Q else T i (told o a undef) w ∧ (S i = true → Newly w w (told o a undef))

/-- THE RULE. -/
theorem wpAny_invC (hap : placesOk ops = true) (hf : forward ops = true) (hsz : within ops a0.tmps.size = true)
    (hrl : ∀ i a, Ls i a a) (htr : ∀ a b c, Later a b → Later b c → Later a c) (hsub : ∀ i w w', Ls i w w' → Later w w') (hE : ∀ j w w', j ≠ q → Ls j w w' → Early w → Early w') (hst : ∀ i j oi, ops[i]? = some oi → i ≠ j → (∀ e ∈ oi.after, Region.binds .any e = true → e.on ≠ j) → ∀ v w w', T i v w → Ls j w w' → T i v w') (hls : ∀ w w', Later w w' → w.heap.size ≤ w'.heap.size)
    (hop : ∀ i o, ops[i]? = some o → StepOkC P ops Q Later Ls Early q T S a0 w0 i o)
    (hdone : ∀ a w, Later w0 w → Same ops a0 a → (∀ i o, ops[i]? = some o → T i (valAt a o) w) → Q .normal a w) :
    ∀ (fuel : Nat) (listed : Array Bool) (a : Act) (w : World), listed.size = ops.size → listed.toList.countP id + fuel = ops.size → Later w0 w → (listed.getD q true = false → Early w) → (∀ (j : Nat) (oj : Oper) (d : Tmp), ops[j]? = some oj → oj.dst = some d → listed.getD j true = false → a.tmps.getD d undef = a0.tmps.getD d undef) → Same ops a0 a →
      (∀ i o, ops[i]? = some o → listed.getD i true = true → T i (valAt a o) w ∧ (S i = true → ∀ x, (valAt a o).ownBlock = some x → x < w.heap.size) ∧ ∀ e ∈ o.after, Region.binds .any e = true → listed.getD e.on false = true) →
      (∀ i j oi oj, ops[i]? = some oi → ops[j]? = some oj → listed.getD i true = true → listed.getD j true = true → i ≠ j → S i = true → S j = true → Apart (valAt a oi) (valAt a oj)) → wpAny P .any ops Q fuel listed a w := by
  intro fuel
  induction fuel with
  | zero =>
    intro listed a w hl hc hw hEw hU hs hT hX
    have hall2 : ∀ i, i < ops.size → listed.getD i true = true := by
      intro i hi
      have := List.countP_eq_length.1 (show listed.toList.countP id = listed.toList.length by rw [Array.length_toList]; omega) listed[i] (by simp)
      rw [Array.getD_eq_getD_getElem?]
      simpa [show i < listed.size by omega] using this
    refine ⟨?_, hdone a w hw hs fun i o hi => (hT i o hi (hall2 i (Array.getElem?_eq_some_iff.1 hi).1)).1⟩
    cases hr : Region.ready .any ops listed with
    | nil => rfl
    | cons j t =>
      exfalso
      have hj : j ∈ Region.ready .any ops listed := by rw [hr]; simp
      rw [mem_ready] at hj
      obtain ⟨h0, o, ho, _⟩ := hj
      rw [hall2 j (Array.getElem?_eq_some_iff.1 ho).1] at h0
      cases h0
  | succ fuel ih =>
    intro listed a w hl hc hw hEw hU hs hT hX
    refine ⟨fun hr => hdone a w hw hs fun i o hi => (hT i o hi (not_ready hf hl hr i (Array.getElem?_eq_some_iff.1 hi).1)).1, fun i hi => ?_⟩
    rw [mem_ready] at hi
    obtain ⟨h0, o, ho, hdeps⟩ := hi
    have hlt := (Array.getElem?_eq_some_iff.1 ho).1
    have hyes : ∀ k ok, ops[k]? = some ok → listed.getD k false = true → listed.getD k true = true := by
      intro k ok hk this
      have hlt2 := (Array.getElem?_eq_some_iff.1 hk).1
      rw [Array.getD_eq_getD_getElem?] at this ⊢
      have hb2 : k < listed.size := by omega
      simpa [hb2] using this
    have step := hop i o ho a w hw (fun hq => hEw (by rw [← hq]; exact h0)) (fun j oj d hj hd hex => hU j oj d hj hd (by
      cases hc : listed.getD j true with
      | false => rfl
      | true =>
        exfalso
        obtain ⟨e, he, hb, hon2⟩ := hex
        have h3 := (hT j oj hj hc).2.2 e he hb
        rw [hon2] at h3
        rw [hyes i o ho h3] at h0
        cases h0)) hs (fun e he hb oj hoj => (hT e.on oj hoj (hyes _ _ hoj (hdeps e he hb))).1)
      (fun e he f hf2 hb hb2 hne hS1 hS2 oj ok hoj hok => hX _ _ _ _ hoj hok (hyes _ _ hoj (hdeps e he hb)) (hyes _ _ hok (hdeps f hf2 hb2)) hne hS1 hS2)
    have next : ∀ v w', Ls i w w' → T i (told o a v) w' → (S i = true → Newly w w' (told o a v)) → wpAny P .any ops Q fuel (listed.setIfInBounds i true) (a.put o.dst v) w' := by
      intro v w' hls2 hT2 hN2
      have hl2 := hsub _ _ _ hls2
      have hback : ∀ j, i ≠ j → (listed.setIfInBounds i true).getD j true = true → listed.getD j true = true := by
        intro j hij hjl
        rw [Array.getD_eq_getD_getElem?, Array.getElem?_setIfInBounds, if_neg hij] at hjl
        rw [Array.getD_eq_getD_getElem?]
        exact hjl
      have hon : ∀ k, listed.getD k false = true → (listed.setIfInBounds i true).getD k false = true := by
        intro k hk
        rw [Array.getD_eq_getD_getElem?] at hk ⊢
        rw [Array.getElem?_setIfInBounds]
        by_cases hik : i = k
        · simp [hik, show k < listed.size by omega]
        · rw [if_neg hik]; exact hk
      have hval : ∀ j oj, ops[j]? = some oj → i ≠ j → listed.getD j true = true → valAt (a.put o.dst v) oj = valAt a oj := by
        intro j oj hj hij hjl
        refine valAt_put hj ho (fun d hd hp => ?_)
        obtain ⟨e, he, hb, hon2⟩ := placesOk_spec hap hj ho (fun h => hij h.symm) hd hp
        have := (hT j oj hj hjl).2.2 e he hb
        rw [hon2] at this
        have h3 := hyes i o ho this
        rw [h3] at h0
        cases h0
      refine ih _ _ _ (by rw [Array.size_setIfInBounds]; exact hl) ?_ (htr _ _ _ hw hl2) ?hearly ?hunt (same_put ho hs) ?_ ?_
      case hunt =>
        intro j oj d hj hd hjl
        have hij : i ≠ j := by
          intro e
          subst e
          rw [Array.getD_eq_getD_getElem?, Array.getElem?_setIfInBounds] at hjl
          simp [show i < listed.size by omega] at hjl
        rw [Array.getD_eq_getD_getElem?, Array.getElem?_setIfInBounds, if_neg hij, ← Array.getD_eq_getD_getElem?] at hjl
        refine Eq.trans ?_ (hU j oj d hj hd hjl)
        cases hod : o.dst with
        | none => rfl
        | some c => exact put_slot a c d v (fun e => placesOk_apart hap hj ho (fun h => hij h.symm) hd (by rw [hod, e]))
      case hearly =>
        intro hq
        rw [Array.getD_eq_getD_getElem?, Array.getElem?_setIfInBounds] at hq
        by_cases hiq : i = q
        · simp [hiq, show q < listed.size by omega] at hq
        · rw [if_neg hiq] at hq
          exact hE i w w' hiq hls2 (hEw (by rw [Array.getD_eq_getD_getElem?]; exact hq))
      · rw [Array.toList_setIfInBounds, List.countP_set (by rw [Array.length_toList]; omega)]
        have hf0 : listed.toList[i]'(by rw [Array.length_toList]; omega) = false := by
          rw [Array.getD_eq_getD_getElem?] at h0
          simpa [show i < listed.size by omega] using h0
        rw [hf0]
        show listed.toList.countP id - 0 + 1 + fuel = ops.size
        omega
      · intro j oj hj hjl
        by_cases hij : i = j
        · subst hij
          rw [ho] at hj
          obtain rfl := Option.some.inj hj
          rw [valAt_put_same (by rw [hs.size]; exact hsz) ho]
          exact ⟨hT2, fun hS x hx => (hN2 hS x hx).2, fun e he hb => hon _ (hdeps e he hb)⟩
        · have hjl2 := hback j hij hjl
          rw [hval j oj hj hij hjl2]
          obtain ⟨q1, q2, q3⟩ := hT j oj hj hjl2
          exact ⟨hst j i oj hj (fun h => hij h.symm) (fun e he hb hon2 => by
            have h3 := q3 e he hb
            rw [hon2] at h3
            rw [hyes i o ho h3] at h0
            cases h0) _ _ _ q1 hls2, fun hS x hx => Nat.lt_of_lt_of_le (q2 hS x hx) (hls _ _ hl2), fun e he hb => hon _ (q3 e he hb)⟩
      · have key : ∀ j oj, ops[j]? = some oj → i ≠ j → listed.getD j true = true → S i = true → S j = true → Apart (told o a v) (valAt a oj) := by
          intro j oj hj hij hjl hS1 hS2 x hx e
          have h3 := (hN2 hS1 x hx).1
          have h4 := (hT j oj hj hjl).2.1 hS2 x e
          omega
        intro j k oj ok hj hk hjl hkl hjk hS1 hS2
        by_cases hij : i = j
        · subst hij
          rw [ho] at hj
          obtain rfl := Option.some.inj hj
          have hkl2 := hback k hjk hkl
          rw [valAt_put_same (by rw [hs.size]; exact hsz) ho, hval k ok hk hjk hkl2]
          exact key k ok hk hjk hkl2 hS1 hS2
        · have hjl2 := hback j hij hjl
          rw [hval j oj hj hij hjl2]
          by_cases hik : i = k
          · subst hik
            rw [ho] at hk
            obtain rfl := Option.some.inj hk
            rw [valAt_put_same (by rw [hs.size]; exact hsz) ho]
            exact (key j oj hj hij hjl2 hS2 hS1).symm
          · have hkl2 := hback k hik hkl
            rw [hval k ok hk hik hkl2]
            exact hX j k oj ok hj hk hjl2 hkl2 hjk hS1 hS2
    unfold wpOp
    simp only [ho]
    split
    · rename_i hwant
      rw [if_pos hwant] at step
      left
      refine Oper.wp_mono (fun a' w' h' => ?_) step
      obtain ⟨v, rfl, h1, h2, h3⟩ := h'
      exact next v w' h1 h2 h3
    · rename_i hwant
      rw [if_neg hwant] at step
      exact next undef w (hrl i w) step.1 step.2

theorem wp_region_invC (Later : World → World → Prop) (Ls : Nat → World → World → Prop) (Early : World → Prop) (q : Nat) (T : Nat → Value → World → Prop) (S : Nat → Bool) {id : Nat} {a : Act} {w : World} (hm : P.follows .mixedOrders = true)
    (hap : placesOk ops = true) (hf : forward ops = true) (hsz : within ops a.tmps.size = true)
    (hrl : ∀ i a, Ls i a a) (htr : ∀ a b c, Later a b → Later b c → Later a c) (hsub : ∀ i w w', Ls i w w' → Later w w') (hE : ∀ j w w', j ≠ q → Ls j w w' → Early w → Early w') (hst : ∀ i j oi, ops[i]? = some oi → i ≠ j → (∀ e ∈ oi.after, Region.binds .any e = true → e.on ≠ j) → ∀ v w w', T i v w → Ls j w w' → T i v w') (hls : ∀ w w', Later w w' → w.heap.size ≤ w'.heap.size)
    (hdr : Later w { w with drawn := w.drawn + 1 }) (hE0 : Early { w with drawn := w.drawn + 1 })
    (hop : ∀ i o, ops[i]? = some o → StepOkC P ops Q Later Ls Early q T S a w i o)
    (hdone : ∀ a' w', Later w w' → Same ops a a' → (∀ i o, ops[i]? = some o → T i (valAt a' o) w') → Q .normal a' w') : (Code.region id ops true).wp P Q a w :=
  wp_region_any hm (wpAny_invC (a0 := a) (w0 := w) hap hf hsz hrl htr hsub hE hst hls hop hdone ops.size (Array.replicate ops.size false) a _ (by simp) (by simp) hdr (fun _ => hE0) (fun _ _ _ _ _ _ => rfl) ⟨rfl, rfl, fun _ _ => rfl⟩ (fun i o hi hl => by
    have := (Array.getElem?_eq_some_iff.1 hi).1
    rw [Array.getD_eq_getD_getElem?] at hl
    simp [this] at hl) (fun i j oi oj hi hj hl => by
    have := (Array.getElem?_eq_some_iff.1 hi).1
    rw [Array.getD_eq_getD_getElem?] at hl
    simp [this] at hl))

theorem stepC_yes {i : Nat} {o : Oper} {a : Act} {w : World} (hw : Region.wanted o (yielded ops a.tmps) = true) (h : o.wp P a w (fun a' w' => ∃ v, a' = a.put o.dst v ∧ Ls i w w' ∧ T i (told o a v) w' ∧ (S i = true → Newly w w' (told o a v))) Q) :
    if Region.wanted o (yielded ops a.tmps) = true then o.wp P a w (fun a' w' => ∃ v, a' = a.put o.dst v ∧ Ls i w w' ∧ T i (told o a v) w' ∧ (S i = true → Newly w w' (told o a v))) Q else T i (told o a undef) w ∧ (S i = true → Newly w w (told o a undef)) := by rw [if_pos hw]; exact h

theorem okC_value {i : Nat} {o : Oper} {a : Act} {w : World} (hrl : ∀ i a, Ls i a a) (hS : S i = false) (v : Value) (h : (execOp a.eval o).run P w = .ok (.value v) w) (hT : T i (told o a v) w) : o.wp P a w (fun a' w' => ∃ v, a' = a.put o.dst v ∧ Ls i w w' ∧ T i (told o a v) w' ∧ (S i = true → Newly w w' (told o a v))) Q := by
  unfold Oper.wp
  rw [h]
  exact ⟨v, rfl, hrl i w, hT, fun e => by rw [hS] at e; cases e⟩
theorem okC_call {i : Nat} {o : Oper} {a : Act} {w : World} {f : FuncId} {args : Array Value} (h : (execOp a.eval o).run P w = .ok (.enter f args) w) (hc : Calls P f args w fun e w' => ∃ v, e = .returned v ∧ Ls i w w' ∧ T i (told o a v) w' ∧ (S i = true → Newly w w' (told o a v))) : o.wp P a w (fun a' w' => ∃ v, a' = a.put o.dst v ∧ Ls i w w' ∧ T i (told o a v) w' ∧ (S i = true → Newly w w' (told o a v))) Q := by
  unfold Oper.wp
  rw [h]
  refine Calls.mono hc ?_
  rintro e w' ⟨v, rfl, hl, ht⟩
  exact ⟨v, rfl, hl, ht⟩

end


end Go.Proofs.YtanlgplgplncdaaGreatDoor
