/-
  The rule of ..Any for a region whose last operation waits for all others and may write over a place that others read. Nothing of the program.
-/
import Derived.Test.YtlppibigceeimaaDoorAny
import Derived.Test.YtlppibigceeimaaDoorAnyQ
namespace Go.Proofs.YtlppibigceeimaaDoor
open Go.RowKit
set_option linter.unusedVariables false

/-- All places that the region writes but the last operation's. -/
def dstsP (ops : Array Oper) (L : Nat) : List Tmp := (ops.toList.take L).filterMap (fun o => o.dst)
/-- What the rest of the frame is, ahead of the last operation. -/
structure SameP (ops : Array Oper) (L : Nat) (a0 a : Act) : Prop where
  size : a.tmps.size = a0.tmps.size
  defers : a.defers = a0.defers
  slot : ∀ t, (dstsP ops L).contains t = false → a.tmps.getD t undef = a0.tmps.getD t undef
def StepOkP (P : Program) (ops : Array Oper) (L : Nat) (Q : Exit → Act → World → Prop) (Later : World → World → Prop) (T : Nat → Value → World → Prop) (a0 : Act) (w0 : World) (i : Nat) (o : Oper) : Prop :=
  ∀ (a : Act) (w : World), Later w0 w → SameP ops L a0 a →
    (∀ e ∈ o.after, Region.binds .any e = true → ∀ oj, ops[e.on]? = some oj → T e.on (valOf a oj) w) →
    if Region.wanted o (yielded ops a.tmps) = true then o.wp P a w (fun a' w' => ∃ v, a' = a.put o.dst v ∧ Later w w' ∧ T i v w') Q else T i undef w

section
variable {P : Program} {ops : Array Oper} {Q : Exit → Act → World → Prop} {Later : World → World → Prop} {T : Nat → Value → World → Prop} {a0 : Act} {w0 : World}

theorem same_putP {a : Act} {i L : Nat} {o : Oper} {v : Value} (hL : i < L) (hi : ops[i]? = some o) (h : SameP ops L a0 a) : SameP ops L a0 (a.put o.dst v) := by
  cases hd : o.dst with
  | none => exact h
  | some d =>
    refine ⟨?_, h.defers, fun t ht => ?_⟩
    · have : (a.put (some d) v).tmps = a.tmps.setIfInBounds d v := rfl
      rw [this, Array.size_setIfInBounds]; exact h.size
    · rw [put_slot a d t v ?_]
      · exact h.slot t ht
      · intro e
        subst e
        have : t ∈ dstsP ops L := List.mem_filterMap.2 ⟨o, by
          refine List.mem_of_getElem? (i := i) ?_
          rw [List.getElem?_take, if_pos hL]
          simpa using hi, hd⟩
        simp [this] at ht

theorem wpAny_invP (L : Nat) (hap : apartAll ops = true) (hf : forward ops = true) (hsz : within ops a0.tmps.size = true) (hwt : waitsAll ops L = true) (hall : allBut ops L = true)
    (hrf : ∀ a, Later a a) (htr : ∀ a b c, Later a b → Later b c → Later a c) (hst : ∀ i v w w', T i v w → Later w w' → T i v w')
    (hop : ∀ i o, i < L → ops[i]? = some o → StepOkP P ops L Q Later T a0 w0 i o)
    (hlast : ∀ o a w, ops[L]? = some o → Later w0 w → SameP ops L a0 a → (∀ i oi, i < L → ops[i]? = some oi → T i (valOf a oi) w) → o.wp P a w (fun a' w' => Q .normal a' w') Q) :
    ∀ (fuel : Nat) (listed : Array Bool) (a : Act) (w : World), listed.size = ops.size → listed.toList.countP id + fuel = ops.size → listed.getD L true = false → (∀ k o, ops[k]? = some o → listed.getD k true = true → ∀ e ∈ o.after, Region.binds .any e = true → ∀ oj, ops[e.on]? = some oj → listed.getD e.on true = true) → Later w0 w → SameP ops L a0 a →
      (∀ i o, ops[i]? = some o → listed.getD i true = true → T i (valOf a o) w) → wpAny P .any ops Q fuel listed a w := by
  simp only [waitsAll, Bool.and_eq_true, decide_eq_true_eq] at hwt
  obtain ⟨hLs, hwt⟩ := hwt
  intro fuel
  induction fuel with
  | zero =>
    intro listed a w hl hc hnot hcl hw hs hT
    exfalso
    have := List.countP_eq_length.1 (show listed.toList.countP id = listed.toList.length by rw [Array.length_toList]; omega) (listed[L]'(by omega)) (by simp)
    rw [Array.getD_eq_getD_getElem?] at hnot
    simp [show L < listed.size by omega] at hnot
    simp [hnot] at this
  | succ fuel ih =>
    intro listed a w hl hc hnot hcl hw hs hT
    refine ⟨fun hr => ?_, fun i hi => ?_⟩
    · exfalso
      have := not_ready hf hl hr L (by omega)
      rw [this] at hnot
      cases hnot
    rw [mem_ready] at hi
    obtain ⟨h0, o, ho, hdeps⟩ := hi
    have hlt := (Array.getElem?_eq_some_iff.1 ho).1
    have hdone : ∀ e ∈ o.after, Region.binds .any e = true → ∀ oj, ops[e.on]? = some oj → listed.getD e.on true = true := by
      intro e he hb oj hoj
      have := hdeps e he hb
      have hlt2 := (Array.getElem?_eq_some_iff.1 hoj).1
      rw [Array.getD_eq_getD_getElem?] at this ⊢
      have hb2 : e.on < listed.size := by omega
      simpa [hb2] using this
    by_cases hiL : i = L
    · subst hiL
      rw [ho] at hwt
      simp only [Bool.and_eq_true] at hwt
      obtain ⟨hg, hwt⟩ := hwt
      have hprev : ∀ j, j < i → listed.getD j true = true := by
        intro j hj
        exact waitsOn_listed hcl 12 i o ho hdone j (by omega) (List.all_eq_true.1 hwt j (List.mem_range.2 hj))
      have step := hlast o a w ho hw hs (fun j oj hj hoj => hT j oj hoj (hprev j hj))
      have hcount : listed.toList.countP id = i := by
        have h1 : listed.toList = listed.toList.take i ++ [false] := by
          have hlen : listed.toList.length = i + 1 := by rw [Array.length_toList]; omega
          rw [Array.getD_eq_getD_getElem?] at hnot
          simp [show i < listed.size by omega] at hnot
          apply List.ext_getElem?
          intro k
          rcases Nat.lt_trichotomy k i with h | h | h
          · rw [List.getElem?_append_left (by simp; omega)]
            simp [h]
          · subst h
            rw [List.getElem?_append_right (by simp; omega)]
            simp [show min k listed.size = k by omega, show k < listed.size by omega, hnot]
          · rw [List.getElem?_eq_none (by omega), List.getElem?_eq_none (by simp; omega)]
        rw [h1, List.countP_append]
        have h2 : (listed.toList.take i).countP id = (listed.toList.take i).length := by
          rw [List.countP_eq_length]
          intro b hb
          obtain ⟨k, hk, rfl⟩ := List.getElem_of_mem hb
          simp only [List.length_take, Array.length_toList] at hk
          have := hprev k (by omega)
          rw [Array.getD_eq_getD_getElem?] at this
          simpa [show k < listed.size by omega] using this
        rw [h2]
        simp
        omega
      have hfuel : fuel = 0 := by omega
      subst hfuel
      have next : ∀ a' w', Q .normal a' w' → wpAny P .any ops Q 0 (listed.setIfInBounds i true) a' w' := by
        intro a' w' hq
        refine ⟨?_, hq⟩
        cases hr : Region.ready .any ops (listed.setIfInBounds i true) with
        | nil => rfl
        | cons j t =>
          exfalso
          have hj : j ∈ Region.ready .any ops (listed.setIfInBounds i true) := by rw [hr]; simp
          rw [mem_ready] at hj
          obtain ⟨hj0, oj, hoj, _⟩ := hj
          have hjs := (Array.getElem?_eq_some_iff.1 hoj).1
          rw [Array.getD_eq_getD_getElem?, Array.getElem?_setIfInBounds] at hj0
          by_cases hij : i = j
          · simp [hij, show j < listed.size by omega] at hj0
          · rw [if_neg hij] at hj0
            have := hprev j (by omega)
            rw [Array.getD_eq_getD_getElem?] at this
            rw [this] at hj0
            cases hj0
      unfold wpOp
      simp only [ho]
      have hwant : Region.wanted o (yielded ops a.tmps) = true := by
        cases hgg : o.guard with
        | none => simp [Region.wanted, hgg]
        | some x => rw [hgg] at hg; cases hg
      rw [if_pos hwant]
      left
      exact Oper.wp_mono (fun a' w' h' => next a' w' h') step
    · have hiL2 : i < L := by omega
      have step := hop i o hiL2 ho a w hw hs (fun e he hb oj hoj => hT e.on oj hoj (hdone e he hb oj hoj))
      have hsome : o.dst.isSome = true := by
        have := List.all_eq_true.1 hall i (List.mem_range.2 hiL2)
        rw [ho] at this
        exact this
      have next : ∀ v w', Later w w' → T i v w' → wpAny P .any ops Q fuel (listed.setIfInBounds i true) (a.put o.dst v) w' := by
        intro v w' hl2 hT2
        refine ih _ _ _ (by rw [Array.size_setIfInBounds]; exact hl) ?_ ?_ ?_ (htr _ _ _ hw hl2) (same_putP hiL2 ho hs) ?_
        · rw [Array.toList_setIfInBounds, List.countP_set (by rw [Array.length_toList]; omega)]
          have hf0 : listed.toList[i]'(by rw [Array.length_toList]; omega) = false := by
            rw [Array.getD_eq_getD_getElem?] at h0
            simpa [show i < listed.size by omega] using h0
          rw [hf0]
          show listed.toList.countP id - 0 + 1 + fuel = ops.size
          omega
        · rw [Array.getD_eq_getD_getElem?, Array.getElem?_setIfInBounds, if_neg hiL, ← Array.getD_eq_getD_getElem?]
          exact hnot
        · intro k ok hk hkl e he hb oj hoj
          rw [Array.getD_eq_getD_getElem?, Array.getElem?_setIfInBounds]
          by_cases hie : i = e.on
          · rw [if_pos hie]
            split <;> rfl
          · rw [if_neg hie, ← Array.getD_eq_getD_getElem?]
            by_cases hik : i = k
            · subst hik
              rw [ho] at hk
              obtain rfl := Option.some.inj hk
              exact hdone e he hb oj hoj
            · rw [Array.getD_eq_getD_getElem?, Array.getElem?_setIfInBounds, if_neg hik, ← Array.getD_eq_getD_getElem?] at hkl
              exact hcl k ok hk hkl e he hb oj hoj
        · intro j oj hj hjl
          by_cases hij : i = j
          · subst hij
            rw [ho] at hj
            obtain rfl := Option.some.inj hj
            rw [valOf_put_same (by rw [hs.size]; exact hsz) ho hsome]
            exact hT2
          · rw [valOf_put hap ho hj hij]
            refine hst _ _ _ _ (hT j oj hj ?_) hl2
            rw [Array.getD_eq_getD_getElem?, Array.getElem?_setIfInBounds, if_neg hij] at hjl
            rw [Array.getD_eq_getD_getElem?]
            exact hjl
      unfold wpOp
      simp only [ho]
      split
      · rename_i hwant
        rw [if_pos hwant] at step
        left
        refine Oper.wp_mono (fun a' w' h' => ?_) step
        obtain ⟨v, rfl, h1, h2⟩ := h'
        exact next v w' h1 h2
      · rename_i hwant
        rw [if_neg hwant] at step
        exact next undef w (hrf w) step

/-- A region that draws its order, whose last operation waits for all others. -/
theorem wp_region_lastP (L : Nat) (Later : World → World → Prop) (T : Nat → Value → World → Prop) {id : Nat} {a : Act} {w : World} (hm : P.follows .mixedOrders = true)
    (hap : apartAll ops = true) (hf : forward ops = true) (hsz : within ops a.tmps.size = true) (hwt : waitsAll ops L = true) (hall : allBut ops L = true)
    (hrf : ∀ a, Later a a) (htr : ∀ a b c, Later a b → Later b c → Later a c) (hst : ∀ i v w w', T i v w → Later w w' → T i v w')
    (hdr : Later w { w with drawn := w.drawn + 1 })
    (hop : ∀ i o, i < L → ops[i]? = some o → StepOkP P ops L Q Later T a w i o)
    (hlast : ∀ o a' w', ops[L]? = some o → Later w w' → SameP ops L a a' → (∀ i oi, i < L → ops[i]? = some oi → T i (valOf a' oi) w') → o.wp P a' w' (fun a'' w'' => Q .normal a'' w'') Q) : (Code.region id ops true).wp P Q a w := by
  have hLs : L + 1 = ops.size := by
    simp only [waitsAll, Bool.and_eq_true, decide_eq_true_eq] at hwt
    exact hwt.1
  exact wp_region_any hm (wpAny_invP L (a0 := a) (w0 := w) hap hf hsz hwt hall hrf htr hst hop hlast ops.size (Array.replicate ops.size false) a _ (by simp) (by simp) (by rw [Array.getD_eq_getD_getElem?]; simp [show L < ops.size by omega]) (fun k o hk hl => by
    have := (Array.getElem?_eq_some_iff.1 hk).1
    rw [Array.getD_eq_getD_getElem?] at hl
    simp [this] at hl) hdr ⟨rfl, rfl, fun _ _ => rfl⟩ (fun i o hi hl => by
    have := (Array.getElem?_eq_some_iff.1 hi).1
    rw [Array.getD_eq_getD_getElem?] at hl
    simp [this] at hl))

end

theorem same_putsP {ops : Array Oper} {L : Nat} {a0 a : Act} (h : SameP ops L a0 a) : a = (dstsP ops L).foldl (fun b d => b.put (some d) (a.tmps.getD d undef)) a0 := by
  have key : ∀ (l : List Tmp) (b : Act), b.tmps.size = a.tmps.size → b.defers = a.defers → (∀ t, l.contains t = false → b.tmps.getD t undef = a.tmps.getD t undef) → l.foldl (fun b d => b.put (some d) (a.tmps.getD d undef)) b = a := by
    intro l
    induction l with
    | nil => intro b h1 h2 h3; exact frame_eq h1 h2 (fun t => h3 t (by simp))
    | cons d l ih =>
      intro b h1 h2 h3
      rw [List.foldl_cons]
      refine ih _ ?_ h2 (fun t ht => ?_)
      · have e : (b.put (some d) (a.tmps.getD d undef)).tmps = b.tmps.setIfInBounds d (a.tmps.getD d undef) := rfl
        rw [e, Array.size_setIfInBounds]; exact h1
      · rw [getD_put b d t _ (fun hge => by simp [Array.getD_eq_getD_getElem?, show a.tmps.size ≤ d by omega])]
        by_cases e : t = d
        · rw [if_pos e, e]
        · rw [if_neg e]
          exact h3 t (by
            have : ¬ t ∈ l := by simpa using ht
            simp [e, this])
  exact (key (dstsP ops L) a0 h.size.symm h.defers.symm (fun t ht => (h.slot t ht).symm)).symm



end Go.Proofs.YtlppibigceeimaaDoor
