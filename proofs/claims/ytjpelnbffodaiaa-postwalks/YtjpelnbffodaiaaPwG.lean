/-
  PostWalks: what lies there while it goes through what Walk gave.
-/
import Derived.Test.YtjpelnbffodaiaaPwE
namespace Go.Proofs.Ytjpelnbffodaiaa
open Go Go.RowKit Go.Shelf
set_option linter.unusedVariables false
set_option linter.unusedSimpArgs false

/-- A range that ends, or is left by its break: one way on. -/
theorem wp_range2 {P : Program} {α : Type} {g : Operand} {ps : Array Tmp} {assign body : Code} {Q : Exit → Act → World → Prop} {a : Act} {w : World} {gf : Nat} {lb : Array Value} (id : Nat) (hg : a.eval g = .func (.func gf) #[] lb)
    (eg : ∀ args w, (callFunc gf args).run P w = .ok (.enter gf args) w) {encs : α → Array Value} {T : World → Prop} {R : List α → α → World → Prop} {S Sp : List α → Prop} {w0 : World} (hseq : Seqs P gf lb encs T R S Sp w0) (hw0 : Below w0.heap.size w0 w) (hps : ∀ x, (encs x).size = ps.size)
    (I Ix : List α → World → Prop) (hI : ∀ pre A B, I pre A → Bk w.heap.size A B → I pre B) (hIx : ∀ pre A B, Ix pre A → Bk w.heap.size A B → Ix pre B) (hR : ∀ pre x A B, R pre x A → Bk w.heap.size A B → R pre x B)
    (hT : ∀ pre A, I pre A → T A) (h0 : I [] w) (a₁ : α → Act) (hexit : ∀ a A, Q .normal a A → Q (.exit id) a A) (Post : World → Prop) (hp1 : ∀ xs A, S xs → I xs A → Post A) (hp2 : ∀ pre A, Sp pre → Ix pre A → Post A)
    (hassign : ∀ (n l : Nat) (x : α) (A : World) (K : Act → World → Prop), K (a₁ x) A →
      assign.wpIn (Fence.wide.inRound l) n P (Exit.then K (fun _ _ _ => False)) { tmps := (ps.zip (encs x)).foldl (fun t (p, v) => t.setIfInBounds p v) a.tmps, defers := [] } A)
    (hbody : ∀ (n l : Nat) (pre : List α) (x : α) (A : World), I pre A → R pre x A → body.wpIn (Fence.wide.inRound l) n P (ownPostG w.heap.size (fun _ _ => True) I (fun c p A => c = .exit id ∧ Ix p A) (pre ++ [x]) A) (a₁ x) A)
    (hend : ∀ (D : Nat) (A : World), w.heap.size ≤ D → Post A → A.heap[D]? = some (.deferred (some [])) → Q .normal { a with defers := { target := .collected D, args := #[] } :: a.defers } A) :
    (Code.rangeFunc g ps assign body).wp P Q a w :=
  wp_range hg eg hseq hw0 hps I (fun c p A => c = .exit id ∧ Ix p A) hI (fun c pre A B h hk => ⟨h.1, hIx _ _ _ h.2 hk⟩) hR hT h0 a₁ hassign hbody
    (fun D xs A hD hS hi hk => hend D A hD (hp1 xs A hS hi) hk)
    (fun D c pre A hD hS hi hk => by
      obtain ⟨rfl, hx⟩ := hi
      exact wp_exit (hexit _ _ (hend D A hD (hp2 pre A hS hx) hk)))

theorem res_cell {fn : Func} {p : Tmp} (h : fn.results = #[.cell p 4]) (tmps : Array Value) (w : World) (g : Nat) (b : Bool) (hp : tmps.getD p undef = .pointer (some ⟨g, 0, none⟩)) (hc : w.cell? ⟨g, 0, none⟩ = some (.bool b)) :
    (results fn tmps).run Try.prog w = .ok (.bool b) w := by
  have hp' : tmps[p]?.getD undef = .pointer (some ⟨g, 0, none⟩) := by simpa using hp
  simp [results, h, hp', asAddr, loadVar, hc, go_sem]
theorem Bk.low {B : Nat} {w w' : World} (h : Bk B w w') {i : Nat} {o : Obj} (hi : i < B) (ho : w.heap[i]? = some o) : w'.heap[i]? = some o :=
  (Chg.block h i (Array.getElem?_eq_some_iff.1 ho).1 (fun e => by omega)).trans ho


structure ScD (w : World) (S T bx : Nat) (stop : Int) (am : Option Addr) (m cm : Nat) (L : List Nat) (ao am2 : Option Addr) (M co cm2 : Nat) (W : List (Nat × Nat)) (A : World) : Prop where
  s : Blk A S 3 [.int .i64 stop]
  r : Blk A (S + 1) 4 [.bool false]
  b10 : Blk A T 22 [.slice ao M co]
  b11 : Blk A (T + 1) 34 [.slice am2 M cm2]
  bb : Blk A bx 22 [.slice am m cm]
  ol : A.ownsRow (S + 2) 23 1 (.slice am m cm) m (cells32 L)
  o1 : A.ownsRow (S + 2) 23 1 (.slice ao M co) M (cells32 (W.map Prod.fst))
  o2 : A.ownsRow (S + 2) 3 1 (.slice am2 M cm2) M (cellsI (W.map Prod.snd))
  bel : Below S w A
section
variable {w : World} {S T bx : Nat} {stop : Int} {am : Option Addr} {m cm : Nat} {L : List Nat} {ao am2 : Option Addr} {M co cm2 : Nat} {W : List (Nat × Nat)} {A A' : World}
theorem ScD.bk (h : ScD w S T bx stop am m cm L ao am2 M co cm2 W A) {B : Nat} (hk : Bk B A A') (hB : S ≤ B) (hS : S ≤ w.heap.size) : ScD w S T bx stop am m cm L ao am2 M co cm2 W A' :=
  ⟨hk.blk h.s, hk.blk h.r, hk.blk h.b10, hk.blk h.b11, hk.blk h.bb, hk.owns h.ol, hk.owns h.o1, hk.owns h.o2, Bk.below h.bel hk hB hS⟩
/-- A block that is none of these. -/
def Fr (S T bx : Nat) (am : Option Addr) (m cm : Nat) (ao am2 : Option Addr) (M co cm2 B : Nat) : Prop :=
  S + 1 < B ∧ T + 1 < B ∧ bx < B ∧ (∀ g, Value.ownBlock (.slice am m cm) = some g → g < B) ∧ (∀ g, Value.ownBlock (.slice ao M co) = some g → g < B) ∧ ∀ g, Value.ownBlock (.slice am2 M cm2) = some g → g < B
theorem ScD.fresh (h : ScD w S T bx stop am m cm L ao am2 M co cm2 W A) : Fr S T bx am m cm ao am2 M co cm2 A.heap.size :=
  ⟨Blk.lt h.r, Blk.lt h.b11, Blk.lt h.bb, fun g hg => owns_lt h.ol g hg, fun g hg => owns_lt h.o1 g hg, fun g hg => owns_lt h.o2 g hg⟩
theorem ScD.chg (h : ScD w S T bx stop am m cm L ao am2 M co cm2 W A) {B : Nat} (hf : Fr S T bx am m cm ao am2 M co cm2 B) (hc : Chg (fun b => B ≤ b) A A') (hS : S ≤ w.heap.size) : ScD w S T bx stop am m cm L ao am2 M co cm2 W A' := by
  obtain ⟨f1, f2, f3, f4, f5, f6⟩ := hf
  exact ⟨hc.blk h.s (fun e => by have : B ≤ S := e; omega), hc.blk h.r (fun e => by have : B ≤ S + 1 := e; omega), hc.blk h.b10 (fun e => by have : B ≤ T := e; omega), hc.blk h.b11 (fun e => by have : B ≤ T + 1 := e; omega), hc.blk h.bb (fun e => by have : B ≤ bx := e; omega),
    hc.owns h.ol (fun g hg e => by have := f4 g hg; have : B ≤ g := e; omega), hc.owns h.o1 (fun g hg e => by have := f5 g hg; have : B ≤ g := e; omega), hc.owns h.o2 (fun g hg e => by have := f6 g hg; have : B ≤ g := e; omega),
    h.bel.trans (hc.below (Nat.le_trans hS h.bel.size) (fun i (e : B ≤ i) => by omega))⟩
theorem ScD.read (h : ScD w S T bx stop am m cm L ao am2 M co cm2 W A) (hw : Wrd L) : ReadR bx am m cm L A := ⟨h.bb.cell 0, sw_of_owns h.ol hw⟩
end
/-- The cells of what is wanted. -/
theorem want_cells {A : World} {B1 B2 : Nat} {ao am2 : Option Addr} {M co cm2 : Nat} {W : List (Nat × Nat)} (h1 : A.ownsRow B1 23 1 (.slice ao M co) M (cells32 (W.map Prod.fst))) (h2 : A.ownsRow B2 3 1 (.slice am2 M cm2) M (cellsI (W.map Prod.snd)))
    {k : Nat} {x : Nat × Nat} (hx : W[k]? = some x) : ∃ g1 g2, ao = some ⟨g1, 0, none⟩ ∧ am2 = some ⟨g2, 0, none⟩ ∧ k < M ∧ A.cell? ⟨g1, k, none⟩ = some (.int .u32 (x.1 : Int)) ∧ A.cell? ⟨g2, k, none⟩ = some (.int .i64 (x.2 : Int)) := by
  have hk := (List.getElem?_eq_some_iff.1 hx).1
  have hl := h1.1
  rw [cells32_length, List.length_map] at hl
  obtain ⟨g1, rfl, _⟩ := owns_at h1 (by omega)
  obtain ⟨g2, rfl, _⟩ := owns_at h2 (by omega)
  refine ⟨g1, g2, rfl, rfl, by omega, ?_, ?_⟩
  · rw [h1.cellAt k (by omega)]
    simp [cells32, hx]
  · rw [h2.cellAt k (by omega)]
    simp [cellsI, hx]
end Go.Proofs.Ytjpelnbffodaiaa
