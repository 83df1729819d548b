import Derived.Test.YtgmdpbahcbhfjaaGreatDoorJWld
import Derived.RangeFuncWrites
import Derived.RangeFuncLeaves
import Derived.RangeFuncCalls
import Derived.OrdersIn
set_option linter.unusedSimpArgs false
set_option linter.unusedVariables false
set_option maxHeartbeats 40000000
set_option maxRecDepth 100000
/-
  A range over a function whose elements lie in memory: what an iterator owes ('Seqs'), and the statement's rule. Nothing of the program.
-/
namespace Go.Proofs.YtgmdpbahcbhfjaaGreatDoor.J
open Go Go.RowKit

/-- Blocks of cells, and all below B, are as they were: what the statement itself does. -/
def Bk (B : Nat) (w w' : World) : Prop := Chg (fun i => B ≤ i ∧ ∃ o, w.heap[i]? = some o ∧ o.isCells = false) w w'
theorem Bk.lat {B : Nat} {w w' : World} (h : Below w.heap.size w w') : Bk B w w' := Chg.of_below h
theorem Bk.put {B : Nat} {w : World} {l : Nat} {o : Obj} (o' : Obj) (hl : w.heap[l]? = some o) (hc : o.isCells = false) (hB : B ≤ l) : Bk B w (w.putObj l o') :=
  ⟨rfl, rfl, rfl, by simp [World.putObj], fun i hi hF => World.putObj_heap_other (fun e => hF ⟨by omega, o, by rw [e]; exact hl, hc⟩)⟩
theorem Bk.size {B : Nat} {w w' : World} (h : Bk B w w') : w.heap.size ≤ w'.heap.size := Chg.size h
/-- A block of cells stays. -/
theorem Bk.cells {B : Nat} {w w' : World} (h : Bk B w w') {g : Nat} {cs : Array Value} {t : TypeId} {fr : Nat × Nat} (hg : w.heap[g]? = some (.cells cs t fr)) : w'.heap[g]? = some (.cells cs t fr) := by
  rw [Chg.block h g (Array.getElem?_eq_some_iff.1 hg).1 (fun ⟨_, o, ho, hc⟩ => ?_)]
  · exact hg
  · rw [hg] at ho
    cases ho
    cases hc
theorem Bk.owns {B : Nat} {w w' : World} (h : Bk B w w') {base : Nat} {e : TypeId} {size : Nat} {v : Value} {n : Nat} {xs : List Value} (hO : w.ownsRow base e size v n xs) : w'.ownsRow base e size v n xs :=
  Chg.owns h hO (fun g hg ⟨_, o, ho, hc⟩ => by
    obtain ⟨cs, fr, hT⟩ := owns_tg hO g hg
    rw [hT] at ho
    cases ho
    cases hc)
theorem Bk.blk {B : Nat} {w w' : World} (h : Bk B w w') {g : Nat} {t : TypeId} {l : List Value} (hO : Blk w g t l) : Blk w' g t l := h.cells hO
theorem Bk.below {B b : Nat} {w0 w w' : World} (hb : Below b w0 w) (h : Bk B w w') (hB : b ≤ B) (hs : b ≤ w0.heap.size) : Below b w0 w' :=
  ⟨(Chg.os h).trans hb.os, (Chg.tape h).trans hb.tape, (Chg.output h).trans hb.output, Nat.le_trans hb.size h.size, fun i hi => by
    have hi2 : i < w.heap.size := by have := hb.size; omega
    exact (Chg.block h i hi2 (fun ⟨hh, _⟩ => by omega)).trans (hb.block i hi)⟩
section
variable {P : Program} {α : Type}

/-- What an iterator owes whoever goes through it: T, what it reads; R, what it tells of an element. -/
def Seqs (P : Program) (gf : Nat) (lb : Array Value) (encs : α → Array Value) (T : World → Prop) (R : List α → α → World → Prop) (S Sp : List α → Prop) (w : World) : Prop :=
  ∀ (n l : Nat) (J Jx : List α → World → Prop) (W : World), Below w.heap.size w W →
    (∀ pre A B, J pre A → Below A.heap.size A B → J pre B) → (∀ pre A B, Jx pre A → Below A.heap.size A B → Jx pre B) → (∀ pre A, J pre A → T A) →
    (∀ pre x A, J pre A → R pre x A → YieldAt Fence.wide (n - 1) P l (encs x) A fun e B => (e = .returned (.bool true) ∧ J (pre ++ [x]) B) ∨ (e = .returned (.bool false) ∧ Jx (pre ++ [x]) B)) →
    J [] W → CallsIn Fence.wide n P gf (#[.func (.yield l) #[] #[]] ++ lb) W fun e B => (∃ v, e = .returned v) ∧ ((∃ xs, S xs ∧ J xs B) ∨ (∃ pre, Sp pre ∧ Jx pre B))

theorem wp_range {g : Operand} {ps : Array Tmp} {assign body : Code} {Q : Exit → Act → World → Prop} {a : Act} {w : World} {gf : Nat} {lb : Array Value} (hg : a.eval g = .func (.func gf) #[] lb)
    (eg : ∀ args w, (callFunc gf args).run P w = .ok (.enter gf args) w) {encs : α → Array Value} {T : World → Prop} {R : List α → α → World → Prop} {S Sp : List α → Prop} {w0 : World} (hseq : Seqs P gf lb encs T R S Sp w0) (hw0 : Below w0.heap.size w0 w) (hps : ∀ x, (encs x).size = ps.size)
    (I : List α → World → Prop) (Ix : Code → List α → World → Prop) (hI : ∀ pre A B, I pre A → Bk w.heap.size A B → I pre B) (hIx : ∀ c pre A B, Ix c pre A → Bk w.heap.size A B → Ix c pre B) (hR : ∀ pre x A B, R pre x A → Bk w.heap.size A B → R pre x B)
    (hT : ∀ pre A, I pre A → T A) (h0 : I [] w) (a₁ : α → Act)
    (hassign : ∀ (n l : Nat) (x : α) (A : World) (K : Act → World → Prop), K (a₁ x) A →
      assign.wpIn (Fence.wide.inRound l) n P (Exit.then K (fun _ _ _ => False)) { tmps := (ps.zip (encs x)).foldl (fun t (p, v) => t.setIfInBounds p v) a.tmps, defers := [] } A)
    (hbody : ∀ (n l : Nat) (pre : List α) (x : α) (A : World), I pre A → R pre x A → body.wpIn (Fence.wide.inRound l) n P (ownPostG w.heap.size (fun _ _ => True) I Ix (pre ++ [x]) A) (a₁ x) A)
    (hdone : ∀ (D : Nat) (xs : List α) (A : World), w.heap.size ≤ D → S xs → I xs A → A.heap[D]? = some (.deferred (some [])) → Q .normal { a with defers := { target := .collected D, args := #[] } :: a.defers } A)
    (hstop : ∀ (D : Nat) (c : Code) (pre : List α) (A : World), w.heap.size ≤ D → Sp pre → Ix c pre A → A.heap[D]? = some (.deferred (some [])) → c.wp P Q { a with defers := { target := .collected D, args := #[] } :: a.defers } A) :
    (Code.rangeFunc g ps assign body).wp P Q a w := by
  refine (wpIn_wide (n := 3)).1 (wpIn_rangeFunc fun fn _ => ?_)
  -- the record of the loop, and its two blocks
  have hD : (w.alloc (.deferred (some []))).heap.size = w.heap.size + 1 := by simp
  let rc : LoopState → Option Code → Obj := fun st pe => .loop { state := st, pending := pe, fn, tmps := a.tmps, params := ps, assign, body, defers := w.heap.size }
  let book : World → LoopState → Option Code → Prop := fun A st pe => A.heap[w.heap.size + 1]? = some (rc st pe) ∧ A.heap[w.heap.size]? = some (.deferred (some []))
  have hbk : ∀ {A B : World} {st pe}, book A st pe → Below A.heap.size A B → book B st pe := fun h hb =>
    ⟨(hb.block _ (Array.getElem?_eq_some_iff.1 h.1).1).trans h.1, (hb.block _ (Array.getElem?_eq_some_iff.1 h.2).1).trans h.2⟩
  have hput : ∀ {A : World} {st pe} (st' pe'), book A st pe → book (A.putObj (w.heap.size + 1) (rc st' pe')) st' pe' := fun st' pe' h =>
    ⟨World.putObj_heap_same (Array.getElem?_eq_some_iff.1 h.1).1, (World.putObj_heap_other (by omega)).trans h.2⟩
  have hmv : ∀ {A : World} {st pe} (st' pe'), book A st pe → Bk w.heap.size A (A.putObj (w.heap.size + 1) (rc st' pe')) := fun st' pe' h => Bk.put _ h.1 rfl (by omega)
  have hlay : book ((w.alloc (.deferred (some []))).alloc (rc .ready none)) .ready none := by
    refine ⟨?_, ?_⟩
    · have := World.alloc_heap_new (w.alloc (.deferred (some []))) (rc .ready none)
      rwa [hD] at this
    · exact (Below.heap_alloc _ _ _ (by omega)).trans (World.alloc_heap_new w _)
  have hend : ∀ {A : World} (j : Option Code), book A .busy none → (Instr.endRound (w.heap.size + 1) j).run P A = .ok (.bool j.isNone) (A.putObj (w.heap.size + 1) (rc (if j.isNone then .ready else .done) j)) := fun j h => run_endRound (P := P) j h.1
  have hbel : Below w.heap.size w ((w.alloc (.deferred (some []))).alloc (rc .ready none)) := ((Below.refl _ w).alloc (Nat.le_refl _) _).alloc (by omega) _
  refine ⟨w.heap.size + 1, [{ target := .collected w.heap.size, args := #[] }], (w.alloc (.deferred (some []))).alloc (rc .ready none), { target := .fn (.func gf) lb, args := #[.func (.yield (w.heap.size + 1)) #[] #[]] }, (w.alloc (.deferred (some []))).alloc (rc .ready none), gf,
    #[.func (.yield (w.heap.size + 1)) #[] #[]] ++ lb, (w.alloc (.deferred (some []))).alloc (rc .ready none), run_enterLoop_outer fn a.tmps ps assign body, by simp only [resolve, hg]; simp [go_sem], fun _ _ => trivial, by simp [invoke, go_sem, eg], fun h => by simp [Fence.wide] at h, ?_⟩
  refine (hseq 2 (w.heap.size + 1) (fun pre A => I pre A ∧ book A .ready none) (fun pre A => ∃ c, Ix c pre A ∧ book A .done (some c)) _ (hw0.trans (hbel.mono hw0.size))
    (fun pre A B h hb => ⟨hI _ _ _ h.1 (Bk.lat hb), hbk h.2 hb⟩) (fun pre A B ⟨c, h, k⟩ hb => ⟨c, hIx _ _ _ _ h (Bk.lat hb), hbk k hb⟩) (fun pre A h => hT pre A h.1) ?round
    ⟨hI _ _ _ h0 (Chg.of_below hbel), hlay⟩).mono ?after
  case round =>
    rintro pre x A ⟨hi, hk⟩ hr
    refine ⟨fn, _, assign, body, run_yield (P := P) (args := encs x) hk.1 (hps x), roundIn_of_wpIn trivial (hassign _ _ x A _ ⟨_, run_beginRound hk.1 rfl, ?_⟩)⟩
    have hm := hmv .busy none hk
    refine wpIn_mono (hbody _ _ pre x _ (hI _ _ _ hi hm) (hR _ _ _ _ hr hm)) ?_
    have hk2 := hput .busy none hk
    intro e a3 A3 hp
    have keep : KeepsFrom w.heap.size (A.putObj (w.heap.size + 1) (rc .busy none)) A3 → book A3 .busy none := fun k => ⟨k.same _ _ (by omega) hk2.1 rfl, k.same _ _ (Nat.le_refl _) hk2.2 rfl⟩
    cases e with
    | normal => exact ⟨_, _, hend none (keep hp.1), .inl ⟨rfl, hI _ _ _ hp.2.2 (hmv _ _ (keep hp.1)), hput _ _ (keep hp.1)⟩⟩
    | ret => exact ⟨_, _, hend (some .ret) (keep hp.1), .inr ⟨rfl, .ret, hIx _ _ _ _ hp.2 (hmv _ _ (keep hp.1)), hput _ _ (keep hp.1)⟩⟩
    | exit id => exact ⟨_, _, hend (some (.exit id)) (keep hp.1), .inr ⟨rfl, .exit id, hIx _ _ _ _ hp.2 (hmv _ _ (keep hp.1)), hput _ _ (keep hp.1)⟩⟩
    | goto t => exact ⟨_, _, hend (some (.goto t)) (keep hp.1), .inr ⟨rfl, .goto t, hIx _ _ _ _ hp.2 (hmv _ _ (keep hp.1)), hput _ _ (keep hp.1)⟩⟩
    | panic ch => exact hp.elim
    | outgrown => exact hp.elim
  case after =>
    rintro e A ⟨⟨v, rfl⟩, ⟨xs, hS, hi, hk⟩ | ⟨pre, hSp, c, hi, hk⟩⟩
    · exact ⟨none, _, run_endLoop (P := P) hk.1 (by simp), hdone _ xs _ (Nat.le_refl _) hS (hI _ _ _ hi (hmv .exhausted none hk)) (hput .exhausted none hk).2⟩
    · exact ⟨some c, _, run_endLoop (P := P) hk.1 (by simp), wpIn_wide.2 (hstop _ c pre _ (Nat.le_refl _) hSp (hIx _ _ _ _ hi (hmv .exhausted (some c) hk)) (hput .exhausted (some c) hk).2)⟩

end

end Go.Proofs.YtgmdpbahcbhfjaaGreatDoor.J
