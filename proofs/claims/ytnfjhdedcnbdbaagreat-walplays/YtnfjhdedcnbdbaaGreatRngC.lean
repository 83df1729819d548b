/-
  Ranges over a function: more rules.
-/
import Derived.Test.YtnfjhdedcnbdbaaGreatFrK
import Derived.Test.YtnfjhdedcnbdbaaGreatRngB
import Derived.Deep.CutRange
namespace Go.Proofs.YtnfjhdedcnbdbaaGreat
open Go Go.RowKit Go.Shelf
set_option linter.unusedVariables false
set_option linter.unusedSimpArgs false
attribute [local go_sem] Oper.semAt_some

/-- A range that ends, or is left by its break: one way on. -/
theorem wp_range2 {P : Program} {α : Type} {g : Operand} {ps : Array Tmp} {assign body : Code} {Q : Exit → Act → World → Prop} {a : Act} {w : World} {gf : Nat} {lb : Array Value} (id : Nat) (hg : a.eval g = .func (.func gf) #[] lb)
    (eg : ∀ args w, (callFunc gf args).run P w = .ok (.enter gf args) w) {encs : α → Array Value} {T : World → Prop} {R : Nat → List α → α → World → Prop} {S Sp : List α → Prop} {w0 : World} (hseq : Seqs P gf lb encs T R S Sp w0) (hw0 : Below w0.heap.size w0 w) (hps : ∀ x, (encs x).size = ps.size)
    (I Ix : List α → World → Prop) (hI : ∀ pre A B, I pre A → Bk w.heap.size A B → I pre B) (hIx : ∀ pre A B, Ix pre A → Bk w.heap.size A B → Ix pre B) (hR : ∀ b pre x A B, R b pre x A → Bk w.heap.size A B → R b pre x B)
    (hT : ∀ pre A, I pre A → T A) (h0 : I [] w) (a₁ : α → Act) (hexit : ∀ a A, Q .normal a A → Q (.exit id) a A) (Post : World → Prop) (hp1 : ∀ xs A, S xs → I xs A → Post A) (hp2 : ∀ pre A, Sp pre → Ix pre A → Post A)
    (hassign : ∀ (n l : Nat) (x : α) (A : World) (K : Act → World → Prop), K (a₁ x) A →
      assign.wpIn (Fence.wide.inRound l) n P (Exit.then K (fun _ _ _ => False)) { tmps := (ps.zip (encs x)).foldl (fun t (p, v) => t.setIfInBounds p v) a.tmps, defers := [] } A)
    (hbody : ∀ (n l b : Nat) (pre : List α) (x : α) (A : World), (∃ A0, I pre A0 ∧ A0.heap.size = b) → I pre A → R b pre x A → body.wpIn (Fence.wide.inRound l) n P (ownPostG w.heap.size (fun _ _ => True) I (fun c p A => c = .exit id ∧ Ix p A) (pre ++ [x]) A) (a₁ x) A)
    (hend : ∀ (D : Nat) (A : World), w.heap.size ≤ D → Post A → A.heap[D]? = some (.deferred (some [])) → Q .normal { a with defers := { target := .collected D, args := #[] } :: a.defers } A) :
    (Code.rangeFunc g ps assign body).wp P Q a w :=
  wp_range hg eg hseq hw0 hps I (fun c p A => c = .exit id ∧ Ix p A) hI (fun c pre A B h hk => ⟨h.1, hIx _ _ _ h.2 hk⟩) hR hT h0 a₁ hassign hbody
    (fun D xs A hD hS hi hk => hend D A hD (hp1 xs A hS hi) hk)
    (fun D c pre A hD hS hi hk => by
      obtain ⟨rfl, hx⟩ := hi
      exact wp_exit (hexit _ _ (hend D A hD (hp2 pre A hS hx) hk)))

theorem res_cell {fn : Func} {p : Tmp} (h : fn.results = #[.cell p 4]) (tmps : Array Value) (w : World) (g : Nat) (b : Bool) (hp : tmps.getD p undef = .pointer (some ⟨g, 0, none⟩)) (hc : w.cell? ⟨g, 0, none⟩ = some (.bool b)) :
    (results fn tmps).run Tryz.prog w = .ok (.bool b) w := by
  have hp' : tmps[p]?.getD undef = .pointer (some ⟨g, 0, none⟩) := by simpa using hp
  simp [results, h, hp', asAddr, loadVar, hc, go_sem]
theorem Bk.low {B : Nat} {w w' : World} (h : Bk B w w') {i : Nat} {o : Obj} (hi : i < B) (ho : w.heap[i]? = some o) : w'.heap[i]? = some o :=
  (Chg.block h i (Array.getElem?_eq_some_iff.1 ho).1 (fun e => by omega)).trans ho


/-- As wp_region_last, in a round. -/
theorem wpIn_region_last {P : Program} {ops : Array Oper} {Q : Exit → Act → World → Prop} {l n : Nat} (L : Nat) (Later : World → World → Prop) (T : Nat → Value → World → Prop) {id : Nat} {a : Act} {w : World} (hd : noDefer ops = true) (hlo : ¬ LetsOut Q) (hm : P.follows .mixedOrders = true)
    (hap : apartAll ops = true) (hf : forward ops = true) (hsz : within ops a.tmps.size = true) (hwt : waitsAll ops L = true) (hall : allBut ops L = true)
    (hrf : ∀ a, Later a a) (htr : ∀ a b c, Later a b → Later b c → Later a c) (hst : ∀ i v w w', T i v w → Later w w' → T i v w')
    (hdr : Later w { w with drawn := w.drawn + 1 })
    (hop : ∀ i o, i < L → ops[i]? = some o → StepOk P ops Q Later T a w i o)
    (hlast : ∀ o a' w', ops[L]? = some o → Later w w' → Same ops a a' → (∀ i oi, i < L → ops[i]? = some oi → T i (valOf a' oi) w') → o.wp P a' w' (fun a'' w'' => Q .normal a'' w'') Q) : (Code.region id ops true).wpIn (Fence.wide.inRound l) n P Q a w := by
  have hLs : L + 1 = ops.size := by
    simp only [waitsAll, Bool.and_eq_true, decide_eq_true_eq] at hwt
    exact hwt.1
  exact wpIn_region_any hm (wpAnyIn_of hd hlo _ _ _ _ (wpAny_invL L (a0 := a) (w0 := w) hap hf hsz hwt hall hrf htr hst hop hlast ops.size (Array.replicate ops.size false) a _ (by simp) (by simp) (by rw [Array.getD_eq_getD_getElem?]; simp [show L < ops.size by omega]) (fun k o hk hl => by
    have := (Array.getElem?_eq_some_iff.1 hk).1
    rw [Array.getD_eq_getD_getElem?] at hl
    simp [this] at hl) hdr ⟨rfl, rfl, fun _ _ => rfl⟩ (fun i o hi hl => by
    have := (Array.getElem?_eq_some_iff.1 hi).1
    rw [Array.getD_eq_getD_getElem?] at hl
    simp [this] at hl)))

end Go.Proofs.YtnfjhdedcnbdbaaGreat
