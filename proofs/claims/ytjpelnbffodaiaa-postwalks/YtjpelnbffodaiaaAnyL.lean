/-
  The rule of ..Any for a region whose last operation waits for all others (a store): what that one turns, no other sees. Nothing of the program.
-/
import Derived.Test.YtjpelnbffodaiaaAny
namespace Go.Proofs.Ytjpelnbffodaiaa
open Go.RowKit
set_option linter.unusedVariables false

section
variable {P : Program} {ops : Array Oper} {Q : Exit → Act → World → Prop} {Later : World → World → Prop} {T : Nat → Value → World → Prop} {a0 : Act} {w0 : World}

/-- It waits for it, by however many others. -/
def waitsOn (ops : Array Oper) : Nat → Nat → Nat → Bool
  | 0, _, _ => false
  | n + 1, i, j => match ops[i]? with
    | some o => o.after.any fun e => Region.binds .any e && (e.on == j || waitsOn ops n e.on j)
    | none => false
theorem waitsOn_listed {ops : Array Oper} {listed : Array Bool} (hcl : ∀ k o, ops[k]? = some o → listed.getD k true = true → ∀ e ∈ o.after, Region.binds .any e = true → ∀ oj, ops[e.on]? = some oj → listed.getD e.on true = true) :
    ∀ (n i : Nat) (o : Oper), ops[i]? = some o → (∀ e ∈ o.after, Region.binds .any e = true → ∀ oj, ops[e.on]? = some oj → listed.getD e.on true = true) → ∀ j, j < ops.size → waitsOn ops n i j = true → listed.getD j true = true
  | 0, i, o, ho, hd, j, hj, h => by cases h
  | n + 1, i, o, ho, hd, j, hj, h => by
    unfold waitsOn at h
    rw [ho] at h
    obtain ⟨e, he, hb⟩ := Array.any_eq_true'.1 h
    simp only [Bool.and_eq_true, Bool.or_eq_true, beq_iff_eq] at hb
    obtain ⟨hb1, hb2⟩ := hb
    rcases hb2 with hb2 | hb2
    · have hjs : ops[e.on]? = some (ops[j]'(by omega)) := by rw [hb2]; simp [show j < ops.size by omega]
      have := hd e he hb1 _ hjs
      rw [hb2] at this
      exact this
    · cases hk : ops[e.on]? with
      | none =>
        cases n with
        | zero => cases hb2
        | succ n => unfold waitsOn at hb2; rw [hk] at hb2; cases hb2
      | some ok => exact waitsOn_listed hcl n e.on ok hk (hcl e.on ok hk (hd e he hb1 _ hk)) j hj hb2
/-- The last waits for all. -/
def waitsAll (ops : Array Oper) (L : Nat) : Bool := decide (L + 1 = ops.size) && match ops[L]? with
  | some o => o.guard.isNone && (List.range L).all fun j => waitsOn ops 12 L j
  | none => false
/-- All but the last leave a value. -/
def allBut (ops : Array Oper) (L : Nat) : Bool := (List.range L).all fun i => match ops[i]? with
  | some o => o.dst.isSome
  | none => true

theorem wpAny_invL (L : Nat) (hap : apartAll ops = true) (hf : forward ops = true) (hsz : within ops a0.tmps.size = true) (hwt : waitsAll ops L = true) (hall : allBut ops L = true)
    (hrf : ∀ a, Later a a) (htr : ∀ a b c, Later a b → Later b c → Later a c) (hst : ∀ i v w w', T i v w → Later w w' → T i v w')
    (hop : ∀ i o, i < L → ops[i]? = some o → StepOk P ops Q Later T a0 w0 i o)
    (hlast : ∀ o a w, ops[L]? = some o → Later w0 w → Same ops a0 a → (∀ i oi, i < L → ops[i]? = some oi → T i (valOf a oi) w) → o.wp P a w (fun a' w' => Q .normal a' w') Q) :
    ∀ (fuel : Nat) (listed : Array Bool) (a : Act) (w : World), listed.size = ops.size → listed.toList.countP id + fuel = ops.size → listed.getD L true = false → (∀ k o, ops[k]? = some o → listed.getD k true = true → ∀ e ∈ o.after, Region.binds .any e = true → ∀ oj, ops[e.on]? = some oj → listed.getD e.on true = true) → Later w0 w → Same ops a0 a →
      (∀ i o, ops[i]? = some o → listed.getD i true = true → T i (valOf a o) w) → wpAny P .any ops Q fuel listed a w := by
  simp only [waitsAll, Bool.and_eq_true, decide_eq_true_eq] at hwt
  obtain ⟨hLs, hwt⟩ := hwt
  intro fuel
  induction fuel with
  | zero =>
    intro listed a w hl hc hnot hcl hw hs hT
    exfalso
    have := List.countP_eq_length.1 (show listed.toList.countP id = listed.toList.length by rw [Array.length_toList]; omega) (listed[L]'(by omega)) (by simp)
    rw [Array.getD_eq_getD_getElem?] at hnot
    simp [show L < listed.size by omega] at hnot
    simp [hnot] at this
  | succ fuel ih =>
    intro listed a w hl hc hnot hcl hw hs hT
    refine ⟨fun hr => ?_, fun i hi => ?_⟩
    · exfalso
      have := not_ready hf hl hr L (by omega)
      rw [this] at hnot
      cases hnot
    rw [mem_ready] at hi
    obtain ⟨h0, o, ho, hdeps⟩ := hi
    have hlt := (Array.getElem?_eq_some_iff.1 ho).1
    have hdone : ∀ e ∈ o.after, Region.binds .any e = true → ∀ oj, ops[e.on]? = some oj → listed.getD e.on true = true := by
      intro e he hb oj hoj
      have := hdeps e he hb
      have hlt2 := (Array.getElem?_eq_some_iff.1 hoj).1
      rw [Array.getD_eq_getD_getElem?] at this ⊢
      have hb2 : e.on < listed.size := by omega
      simpa [hb2] using this
    by_cases hiL : i = L
    · subst hiL
      rw [ho] at hwt
      simp only [Bool.and_eq_true] at hwt
      obtain ⟨hg, hwt⟩ := hwt
      have hprev : ∀ j, j < i → listed.getD j true = true := by
        intro j hj
        exact waitsOn_listed hcl 12 i o ho hdone j (by omega) (List.all_eq_true.1 hwt j (List.mem_range.2 hj))
      have step := hlast o a w ho hw hs (fun j oj hj hoj => hT j oj hoj (hprev j hj))
      have hcount : listed.toList.countP id = i := by
        have h1 : listed.toList = listed.toList.take i ++ [false] := by
          have hlen : listed.toList.length = i + 1 := by rw [Array.length_toList]; omega
          rw [Array.getD_eq_getD_getElem?] at hnot
          simp [show i < listed.size by omega] at hnot
          apply List.ext_getElem?
          intro k
          rcases Nat.lt_trichotomy k i with h | h | h
          · rw [List.getElem?_append_left (by simp; omega)]
            simp [h]
          · subst h
            rw [List.getElem?_append_right (by simp; omega)]
            simp [show min k listed.size = k by omega, show k < listed.size by omega, hnot]
          · rw [List.getElem?_eq_none (by omega), List.getElem?_eq_none (by simp; omega)]
        rw [h1, List.countP_append]
        have h2 : (listed.toList.take i).countP id = (listed.toList.take i).length := by
          rw [List.countP_eq_length]
          intro b hb
          obtain ⟨k, hk, rfl⟩ := List.getElem_of_mem hb
          simp only [List.length_take, Array.length_toList] at hk
          have := hprev k (by omega)
          rw [Array.getD_eq_getD_getElem?] at this
          simpa [show k < listed.size by omega] using this
        rw [h2]
        simp
        omega
      have hfuel : fuel = 0 := by omega
      subst hfuel
      have next : ∀ a' w', Q .normal a' w' → wpAny P .any ops Q 0 (listed.setIfInBounds i true) a' w' := by
        intro a' w' hq
        refine ⟨?_, hq⟩
        cases hr : Region.ready .any ops (listed.setIfInBounds i true) with
        | nil => rfl
        | cons j t =>
          exfalso
          have hj : j ∈ Region.ready .any ops (listed.setIfInBounds i true) := by rw [hr]; simp
          rw [mem_ready] at hj
          obtain ⟨hj0, oj, hoj, _⟩ := hj
          have hjs := (Array.getElem?_eq_some_iff.1 hoj).1
          rw [Array.getD_eq_getD_getElem?, Array.getElem?_setIfInBounds] at hj0
          by_cases hij : i = j
          · simp [hij, show j < listed.size by omega] at hj0
          · rw [if_neg hij] at hj0
            have := hprev j (by omega)
            rw [Array.getD_eq_getD_getElem?] at this
            rw [this] at hj0
            cases hj0
      unfold wpOp
      simp only [ho]
      have hwant : Region.wanted o (yielded ops a.tmps) = true := by
        cases hgg : o.guard with
        | none => simp [Region.wanted, hgg]
        | some x => rw [hgg] at hg; cases hg
      rw [if_pos hwant]
      left
      exact Oper.wp_mono (fun a' w' h' => next a' w' h') step
    · have hiL2 : i < L := by omega
      have step := hop i o hiL2 ho a w hw hs (fun e he hb oj hoj => hT e.on oj hoj (hdone e he hb oj hoj))
      have hsome : o.dst.isSome = true := by
        have := List.all_eq_true.1 hall i (List.mem_range.2 hiL2)
        rw [ho] at this
        exact this
      have next : ∀ v w', Later w w' → T i v w' → wpAny P .any ops Q fuel (listed.setIfInBounds i true) (a.put o.dst v) w' := by
        intro v w' hl2 hT2
        refine ih _ _ _ (by rw [Array.size_setIfInBounds]; exact hl) ?_ ?_ ?_ (htr _ _ _ hw hl2) (same_put ho hs) ?_
        · rw [Array.toList_setIfInBounds, List.countP_set (by rw [Array.length_toList]; omega)]
          have hf0 : listed.toList[i]'(by rw [Array.length_toList]; omega) = false := by
            rw [Array.getD_eq_getD_getElem?] at h0
            simpa [show i < listed.size by omega] using h0
          rw [hf0]
          show listed.toList.countP id - 0 + 1 + fuel = ops.size
          omega
        · rw [Array.getD_eq_getD_getElem?, Array.getElem?_setIfInBounds, if_neg hiL, ← Array.getD_eq_getD_getElem?]
          exact hnot
        · intro k ok hk hkl e he hb oj hoj
          rw [Array.getD_eq_getD_getElem?, Array.getElem?_setIfInBounds]
          by_cases hie : i = e.on
          · rw [if_pos hie]
            split <;> rfl
          · rw [if_neg hie, ← Array.getD_eq_getD_getElem?]
            by_cases hik : i = k
            · subst hik
              rw [ho] at hk
              obtain rfl := Option.some.inj hk
              exact hdone e he hb oj hoj
            · rw [Array.getD_eq_getD_getElem?, Array.getElem?_setIfInBounds, if_neg hik, ← Array.getD_eq_getD_getElem?] at hkl
              exact hcl k ok hk hkl e he hb oj hoj
        · intro j oj hj hjl
          by_cases hij : i = j
          · subst hij
            rw [ho] at hj
            obtain rfl := Option.some.inj hj
            rw [valOf_put_same (by rw [hs.size]; exact hsz) ho hsome]
            exact hT2
          · rw [valOf_put hap ho hj hij]
            refine hst _ _ _ _ (hT j oj hj ?_) hl2
            rw [Array.getD_eq_getD_getElem?, Array.getElem?_setIfInBounds, if_neg hij] at hjl
            rw [Array.getD_eq_getD_getElem?]
            exact hjl
      unfold wpOp
      simp only [ho]
      split
      · rename_i hwant
        rw [if_pos hwant] at step
        left
        refine Oper.wp_mono (fun a' w' h' => ?_) step
        obtain ⟨v, rfl, h1, h2⟩ := h'
        exact next v w' h1 h2
      · rename_i hwant
        rw [if_neg hwant] at step
        exact next undef w (hrf w) step

/-- A region that draws its order, whose last operation waits for all others. -/
theorem wp_region_last (L : Nat) (Later : World → World → Prop) (T : Nat → Value → World → Prop) {id : Nat} {a : Act} {w : World} (hm : P.follows .mixedOrders = true)
    (hap : apartAll ops = true) (hf : forward ops = true) (hsz : within ops a.tmps.size = true) (hwt : waitsAll ops L = true) (hall : allBut ops L = true)
    (hrf : ∀ a, Later a a) (htr : ∀ a b c, Later a b → Later b c → Later a c) (hst : ∀ i v w w', T i v w → Later w w' → T i v w')
    (hdr : Later w { w with drawn := w.drawn + 1 })
    (hop : ∀ i o, i < L → ops[i]? = some o → StepOk P ops Q Later T a w i o)
    (hlast : ∀ o a' w', ops[L]? = some o → Later w w' → Same ops a a' → (∀ i oi, i < L → ops[i]? = some oi → T i (valOf a' oi) w') → o.wp P a' w' (fun a'' w'' => Q .normal a'' w'') Q) : (Code.region id ops true).wp P Q a w := by
  have hLs : L + 1 = ops.size := by
    simp only [waitsAll, Bool.and_eq_true, decide_eq_true_eq] at hwt
    exact hwt.1
  exact wp_region_any hm (wpAny_invL L (a0 := a) (w0 := w) hap hf hsz hwt hall hrf htr hst hop hlast ops.size (Array.replicate ops.size false) a _ (by simp) (by simp) (by rw [Array.getD_eq_getD_getElem?]; simp [show L < ops.size by omega]) (fun k o hk hl => by
    have := (Array.getElem?_eq_some_iff.1 hk).1
    rw [Array.getD_eq_getD_getElem?] at hl
    simp [this] at hl) hdr ⟨rfl, rfl, fun _ _ => rfl⟩ (fun i o hi hl => by
    have := (Array.getElem?_eq_some_iff.1 hi).1
    rw [Array.getD_eq_getD_getElem?] at hl
    simp [this] at hl))

end

end Go.Proofs.Ytjpelnbffodaiaa
