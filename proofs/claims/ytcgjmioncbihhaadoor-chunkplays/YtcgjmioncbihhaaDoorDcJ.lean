/-
  ChunkPlays: two pairs of chunks, apart.
-/
import Derived.Test.YtcgjmioncbihhaaDoorDcI
namespace Go.Proofs.YtcgjmioncbihhaaDoor
open Go.RowKit
set_option linter.unusedVariables false
set_option linter.unusedSimpArgs false

theorem blk_ty {w : World} {g : Nat} {t1 t2 : TypeId} {l1 l2 : List Value} (h1 : Blk w g t1 l1) (h2 : Blk w g t2 l2) : t1 = t2 := by
  have := h1.symm.trans h2
  injection this with this
  injection this
theorem fc_ne {w : World} {c p g : Nat} {rb : Option Nat} {most : Int} {l : List Sm} {ty : TypeId} {vs : List Value} (h : CS w c p rb most l) (hB : Blk w g ty vs) (h5 : ty ≠ 5) (h81 : ty ≠ 81) (h58 : ty ≠ 58) : ¬ FC c p rb g := by
  rintro (hF | rfl)
  · exact ws_ne h.ws hB h5 h81 hF
  · exact h58 (blk_ty hB h.blk)
theorem fx_blk {w : World} {x i : Nat} {rx : Option Nat} {most : Int} {l : List Sm} (h : XC w x rx most l) (hi : FX x rx i) : ∃ ty vs, Blk w i ty vs ∧ (ty = 63 ∨ ty = 32) := by
  obtain ⟨ad, c, h1, h2, h3⟩ := h.blk
  rcases hi with rfl | hi
  · exact ⟨63, _, h1, .inl rfl⟩
  · rw [← h3] at hi
    rcases h2.2 with ⟨e, _⟩ | ⟨g, cap, cur, e, _, hh, _⟩
    · rw [e] at hi; exact absurd hi (by simp [Value.ownBlock])
    · rw [e] at hi
      simp [Value.ownBlock] at hi
      subst hi
      exact ⟨32, cur.toList, by unfold Blk; simpa using hh, .inr rfl⟩
theorem fcfx {w : World} {c p x i : Nat} {rb rx : Option Nat} {m1 m2 : Int} {l1 l2 : List Sm} (h : CS w c p rb m1 l1) (k : XC w x rx m2 l2) (hi : FX x rx i) : ¬ FC c p rb i := by
  obtain ⟨ty, vs, hB, ht⟩ := fx_blk k hi
  refine fc_ne h hB ?_ ?_ ?_ <;> rcases ht with rfl | rfl <;> decide
theorem fx_ne {w : World} {x g : Nat} {rx : Option Nat} {most : Int} {l : List Sm} {ty : TypeId} {vs : List Value} (h : XC w x rx most l) (hB : Blk w g ty vs) (h1 : ty ≠ 63) (h2 : ty ≠ 32) : ¬ FX x rx g := by
  intro hi
  obtain ⟨ty', vs', hB', ht⟩ := fx_blk h hi
  have := blk_ty hB hB'
  rcases ht with rfl | rfl
  · exact h1 this
  · exact h2 this
theorem fc_lt {w : World} {c p : Nat} {rb : Option Nat} {most : Int} {l : List Sm} (h : CS w c p rb most l) : ∀ i, FC c p rb i → i < w.heap.size := by
  intro i hi
  rcases hi with (rfl | hi) | rfl
  · obtain ⟨v, R, hW⟩ := h.ws
    exact hW.blk.lt
  · obtain ⟨v, R, hW⟩ := h.ws
    exact (hW.row.lt i (by rw [hW.own]; exact hi)).2
  · exact h.blk.lt
theorem xc_lt {w : World} {x : Nat} {rx : Option Nat} {most : Int} {l : List Sm} (h : XC w x rx most l) : ∀ i, FX x rx i → i < w.heap.size := by
  intro i hi
  obtain ⟨_, _, hB, _⟩ := fx_blk h hi
  exact hB.lt

/-- A chunk and the document's, of the same samples. -/
structure Sd where
  c : Nat
  p : Nat
  x : Nat
  rb : Option Nat
  rx : Option Nat
  most : Int
  l : List Sm
structure SD (w wx : World) (A : Sd) : Prop where
  cs : CS wx A.c A.p A.rb A.most A.l
  xc : XC wx A.x A.rx A.most A.l
  new : ∀ i, FC A.c A.p A.rb i ∨ FX A.x A.rx i → w.heap.size ≤ i
/-- Two of them, apart. -/
structure PR (w wx : World) (A B : Sd) : Prop where
  a : SD w wx A
  b : SD w wx B
  fc : ∀ i, FC A.c A.p A.rb i → ¬ FC B.c B.p B.rb i
  fx : ∀ i, FX A.x A.rx i → ¬ FX B.x B.rx i
  bel : Below w.heap.size w wx
theorem PR.symm {w wx : World} {A B : Sd} (h : PR w wx A B) : PR w wx B A := ⟨h.b, h.a, fun i hi k => h.fc i k hi, fun i hi k => h.fx i k hi, h.bel⟩
theorem SD.later {w wx wy : World} {A : Sd} (h : SD w wx A) (hb : Below wx.heap.size wx wy) : SD w wy A := ⟨h.cs.later hb, h.xc.later hb, h.new⟩
theorem PR.later {w wx wy : World} {A B : Sd} (h : PR w wx A B) (hb : Below wx.heap.size wx wy) : PR w wy A B := ⟨h.a.later hb, h.b.later hb, h.fc, h.fx, h.bel.trans (hb.mono h.bel.size)⟩

/-- Behind the first Append of one of them. -/
structure PM (w wx : World) (A B : Sd) (rb' : Option Nat) (l' : List Sm) : Prop where
  cs : CS wx A.c A.p rb' A.most l'
  xc : XC wx A.x A.rx A.most A.l
  b : SD w wx B
  new : ∀ i, FX A.x A.rx i → w.heap.size ≤ i
  fc : ∀ i, FC A.c A.p rb' i → w.heap.size ≤ i ∧ ¬ FC B.c B.p B.rb i
  fx : ∀ i, FX A.x A.rx i → ¬ FX B.x B.rx i
  bel : Below w.heap.size w wx
theorem PM.later {w wx wy : World} {A B : Sd} {rb' : Option Nat} {l' : List Sm} (h : PM w wx A B rb' l') (hb : Below wx.heap.size wx wy) : PM w wy A B rb' l' := ⟨h.cs.later hb, h.xc.later hb, h.b.later hb, h.new, h.fc, h.fx, h.bel.trans (hb.mono h.bel.size)⟩
def nxt (A : Sd) (s : Sm) : List Sm := if ((encC (A.l ++ [s])).length : Int) ≤ A.most then A.l ++ [s] else A.l
def fits (A : Sd) (s : Sm) : Bool := decide (((encC (A.l ++ [s])).length : Int) ≤ A.most)
theorem nxt_len (A : Sd) (s : Sm) : (nxt A s).length ≤ A.l.length + 1 := by unfold nxt; split <;> simp
/-- Append of one of them. -/
theorem pr_app {w wx : World} {A B : Sd} (h : PR w wx A B) (hG : Gv w) (s : Sm) (hs : OkS s) (hl : A.l.length ≤ 1000) :
    Calls Tryd.prog 8 #[.pointer (some ⟨A.c, 0, none⟩), .int .i64 s.t, .int .u64 (s.v : Int)] wx fun e w' => e = .returned (.bool (fits A s)) ∧ (∃ rb', PM w w' A B rb' (nxt A s)) ∧ ∀ g ty vs, ty = 27 ∨ ty = 32 → Blk wx g ty vs → Blk w' g ty vs := by
  refine (cappendP wx A.c A.p A.rb A.most A.l s h.a.cs (hG.later h.bel) hs (by omega)).mono ?_
  rintro e w' ⟨rfl, rb', k1, k2, k3⟩
  refine ⟨rfl, ⟨rb', k1, h.a.xc.chg k2 (fun i hi => fcfx h.a.cs h.a.xc hi), ⟨h.b.cs.chg k2 (fun i hi k => h.fc i k hi), h.b.xc.chg k2 (fun i hi => fcfx h.a.cs h.b.xc hi), h.b.new⟩, fun i hi => h.a.new i (.inr hi), ?_, h.fx, h.bel.trans (k2.below h.bel.size (fun i hi => h.a.new i (.inl hi)))⟩, ?_⟩
  · intro i hi
    have old : FC A.c A.p A.rb i → w.heap.size ≤ i ∧ ¬ FC B.c B.p B.rb i := fun h1 => ⟨h.a.new i (.inl h1), h.fc i h1⟩
    rcases hi with (rfl | hi) | rfl
    · exact old (.inl (.inl rfl))
    · rcases k3 with rfl | ⟨g, rfl, hg⟩
      · exact old (.inl (.inr hi))
      · injection hi with hi
        subst hi
        refine ⟨Nat.le_trans h.bel.size hg, fun k => ?_⟩
        have := fc_lt h.b.cs g k
        omega
    · exact old (.inr rfl)
  · intro g ty vs ht hB
    refine k2.blk hB (fc_ne h.a.cs hB ?_ ?_ ?_) <;> rcases ht with rfl | rfl <;> decide
theorem pm_app {w wx : World} {A B : Sd} {rb' : Option Nat} {l' : List Sm} (h : PM w wx A B rb' l') (s : Sm) (hs : OkS s) (hl : A.l.length ≤ 1000) (hl' : l' = nxt A s) :
    Calls Tryd.prog 9 #[.pointer (some ⟨A.x, 0, none⟩), .int .i64 s.t, .int .u64 (s.v : Int)] wx fun e w' => e = .returned (.bool (fits A s)) ∧ (∃ rx', PR w w' ⟨A.c, A.p, A.x, rb', rx', A.most, l'⟩ B) ∧ ∀ g ty vs, ty = 27 ∨ ty = 32 → Blk wx g ty vs → Blk w' g ty vs := by
  subst hl'
  refine (appendD wx A.x A.rx A.most A.l s h.xc hs (by omega)).mono ?_
  rintro e w' ⟨rfl, rx', k1, k2, k3⟩
  obtain ⟨ad, cc, hxb, _, _⟩ := h.xc.blk
  have hx : FX A.x A.rx A.x := .inl rfl
  refine ⟨rfl, ⟨rx', ⟨h.cs.chg k2 (fun i hi e => ?_), k1, ?_⟩, ⟨h.b.cs.chg k2 (fun i hi e => ?_), h.b.xc.chg k2 (fun i hi e => ?_), h.b.new⟩, fun i hi => (h.fc i hi).2, ?_, h.bel.trans (k2.below h.bel.size (fun i hi => by subst hi; exact h.new _ hx))⟩, ?_⟩
  · subst e; exact fc_ne h.cs hxb (by decide) (by decide) (by decide) hi
  · intro i hi
    rcases hi with hi | hi | hi
    · exact (h.fc i hi).1
    · exact h.new i (.inl hi)
    · rcases k3 with rfl | ⟨g, rfl, hg⟩
      · exact h.new i (.inr hi)
      · injection hi with hi
        have := h.bel.size
        omega
  · subst e; exact fc_ne h.b.cs hxb (by decide) (by decide) (by decide) hi
  · subst e; exact h.fx _ hx hi
  · intro i hi k
    rcases hi with hi | hi
    · exact h.fx i (.inl hi) k
    · rcases k3 with rfl | ⟨g, rfl, hg⟩
      · exact h.fx i (.inr hi) k
      · injection hi with hi
        have := xc_lt h.b.xc i k
        omega
  · intro g ty vs ht hB
    refine k2.blk hB (fun e => ?_)
    subst e
    have := blk_ty hB hxb
    rcases ht with rfl | rfl <;> exact absurd this (by decide)

/-- A script as it came in. -/
structure Sc (w : World) (ad : Option Addr) (l : List (Int × Sm)) : Prop where
  ok : ∀ y ∈ l, I64 y.1 ∧ OkS y.2
  at' : l ≠ [] → ∃ b off, ad = some ⟨b, off, none⟩ ∧ b < w.heap.size ∧ ∀ i y, l[i]? = some y → w.cell? ⟨b, off + i * 3, none⟩ = some (.int .i64 y.1) ∧ w.cell? ⟨b, off + i * 3 + 1, none⟩ = some (.int .i64 y.2.t) ∧ w.cell? ⟨b, off + i * 3 + 2, none⟩ = some (.int .u64 (y.2.v : Int))

end Go.Proofs.YtcgjmioncbihhaaDoor
