import Derived.Test.YtpdffdoogobhfaaDoorLwH
import Derived.Test.YtpdffdoogobhfaaDoorLwJ
import Derived.Test.YtpdffdoogobhfaaDoorLwK
/-
  A label written into a row that is owned.
-/
namespace Go.Proofs.YtpdffdoogobhfaaDoor
open Go.RowKit
set_option linter.unusedVariables false
set_option linter.unusedSimpArgs false

theorem owns_setV {w : World} {base : Nat} {e sz : Nat} {g n cap : Nat} {xs : List Value} (hO : w.ownsRow base e sz (.slice (some ⟨g, 0, none⟩) n cap) n xs) (q : Nat) (u : Value) (hq : q < xs.length) :
    (w.setCell ⟨g, q, none⟩ u).ownsRow base e sz (.slice (some ⟨g, 0, none⟩) n cap) n (xs.set q u) := by
  have hl := hO.1
  rcases hO.2 with ⟨h0, _⟩ | ⟨g', cap', cur, hv, hb, hh, hn, hc, hs, ht⟩
  · cases h0
  · simp only [Value.slice.injEq, Option.some.injEq, Addr.mk.injEq] at hv
    obtain ⟨⟨rfl, _⟩, _, rfl⟩ := hv
    refine ⟨by rw [List.length_set]; omega, .inr ⟨g, cap, cur.setIfInBounds q u, rfl, hb, ?_, hn, hc, by simpa using hs, ?_⟩⟩
    · simp [World.setCell, Array.getElem?_modify, hh]
    · rw [Array.toList_setIfInBounds, List.take_set, ht]
theorem cL_set : ∀ (l : List Lb) (k : Nat) (x : Lb), cL (l.set k x) = ((cL l).set (k * 2) (.string x.n)).set (k * 2 + 1) (.string x.v)
  | [], k, x => by simp [cL]
  | y :: t, 0, x => by simp [cL_cons]
  | y :: t, k + 1, x => by
    rw [List.set_cons_succ, cL_cons, cL_cons, cL_set t k x, show (k + 1) * 2 = k * 2 + 1 + 1 by omega, show k * 2 + 1 + 1 + 1 = (k * 2 + 1) + 1 + 1 by omega]
    simp
theorem owns_setL {w : World} {base g n cap k : Nat} {l : List Lb} {x : Lb} (hO : w.ownsRow base 35 2 (.slice (some ⟨g, 0, none⟩) n cap) n (cL l)) (hk : k < l.length) :
    ((w.setCell ⟨g, k * 2, none⟩ (.string x.n)).setCell ⟨g, k * 2 + 1, none⟩ (.string x.v)).ownsRow base 35 2 (.slice (some ⟨g, 0, none⟩) n cap) n (cL (l.set k x)) := by
  rw [cL_set]
  have h1 := owns_setV hO (k * 2) (.string x.n) (by rw [cL_length]; omega)
  exact owns_setV h1 (k * 2 + 1) (.string x.v) (by rw [List.length_set, cL_length]; omega)
theorem take_set_rep {l : List Lb} {k : Nat} {x : Lb} (hk : k < l.length) (h : l.take k = List.replicate k x) : (l.set k x).take (k + 1) = List.replicate (k + 1) x := by
  rw [List.take_add_one, List.take_set_of_le (Nat.le_refl _), h, List.getElem?_set_self hk]
  exact List.replicate_succ'.symm
/-- What a store of a label leaves. -/
theorem setL_chg (w : World) (g k : Nat) (x : Lb) : Chg (fun i => i = g) w ((w.setCell ⟨g, k * 2, none⟩ (.string x.n)).setCell ⟨g, k * 2 + 1, none⟩ (.string x.v)) :=
  (Chg.set ⟨g, k * 2, none⟩ _ w).trans (Chg.set ⟨g, k * 2 + 1, none⟩ _ _) (fun _ _ e => e)

end Go.Proofs.YtpdffdoogobhfaaDoor

/-
  owned: three rows of labels, what is written into them, how they grow.
-/
namespace Go.Proofs.YtpdffdoogobhfaaDoor
open Go.RowKit
set_option linter.unusedVariables false
set_option linter.unusedSimpArgs false

theorem Ls.chg {F : Nat → Prop} {w w' : World} {ad : Option Addr} {l : List Lb} (h : Ls w ad l) (hc : Chg F w w') (hF : l ≠ [] → ∀ x, ad = some x → ¬ F x.block) : Ls w' ad l := by
  refine ⟨h.sz, fun h0 => ?_⟩
  obtain ⟨b, off, e, hlt, hx⟩ := h.at' h0
  have hb := hc.block b hlt (hF h0 _ e)
  refine ⟨b, off, e, Nat.lt_of_lt_of_le hlt hc.size, fun i x hi => ?_⟩
  have := hx i x hi
  rw [show w'.cell? ⟨b, off + i * 2, none⟩ = w.cell? ⟨b, off + i * 2, none⟩ from World.cell?_of_block hb, show w'.cell? ⟨b, off + i * 2 + 1, none⟩ = w.cell? ⟨b, off + i * 2 + 1, none⟩ from World.cell?_of_block hb]
  exact this
theorem rep_sz (n j : Nat) : Szs (List.replicate n (mkL j)) := fun x hx => by
  rw [List.eq_of_mem_replicate hx]; exact mkL_sz j
theorem Tg.chg {F : Nat → Prop} {w w' : World} {i t : Nat} (h : Tg w i t) (hc : Chg F w w') (hF : ¬ F i) : Tg w' i t := by
  obtain ⟨cs, fr, e⟩ := h
  exact ⟨cs, fr, by rw [hc.block i (Array.getElem?_eq_some_iff.1 e).1 hF]; exact e⟩
theorem Tg.lt {w : World} {i t : Nat} (h : Tg w i t) : i < w.heap.size := by
  obtain ⟨cs, fr, e⟩ := h
  exact (Array.getElem?_eq_some_iff.1 e).1

/-- Three rows. -/
structure R3 where
  a : Nat → Option Addr
  n : Nat → Nat
  c : Nat → Nat
def R3.V (r : R3) (j : Nat) : Value := .slice (r.a j) (r.n j) (r.c j)
def R3.all (r : R3) : List Value := [r.V 0, r.V 1, r.V 2]
/-- They lie apart, and apart from the list that names them. -/
structure R3.Ap (r : R3) (h : Nat) : Prop where
  two : ∀ j < 3, ∀ k < 3, j ≠ k → ∀ g, (r.V j).ownBlock = some g → (r.V k).ownBlock ≠ some g
  lst : ∀ j < 3, (r.V j).ownBlock ≠ some h

/-- Their blocks. -/
def R3.F (r : R3) (b : Nat) : Prop := ∃ j, j < 3 ∧ (r.V j).ownBlock = some b

/-- Marks are written: of the rows ahead all, of this one so many. -/
structure OW (r : R3) (B h i k : Nat) (w0 wx : World) : Prop where
  blk : Blk wx h 22 r.all
  row : ∀ j < 3, ∃ L, wx.ownsRow B 35 2 (r.V j) (r.n j) (cL L) ∧ (j < i → L = List.replicate (r.n j) (mkL j)) ∧ (j = i → L.take k = List.replicate k (mkL j))
  bel : Chg r.F w0 wx
  szb : B ≤ w0.heap.size

theorem OW.chg {r : R3} {B h i k : Nat} {w0 wx w1 : World} (o : OW r B h i k w0 wx) (hl : Lat wx w1) : OW r B h i k w0 w1 :=
  ⟨o.blk.later hl, fun j hj => by
    obtain ⟨L, h1, h2⟩ := o.row j hj
    exact ⟨L, owl h1 hl, h2⟩, o.bel.trans (Chg.of_below (F := fun _ => False) hl) (fun _ _ x => x.elim), o.szb⟩
theorem OW.next {r : R3} {B h i : Nat} {w0 wx : World} (o : OW r B h i (r.n i) w0 wx) : OW r B h (i + 1) 0 w0 wx :=
  ⟨o.blk, fun j hj => by
    obtain ⟨L, h1, h2, h3⟩ := o.row j hj
    refine ⟨L, h1, fun hlt => ?_, fun _ => by simp⟩
    rcases (show j < i ∨ j = i by omega) with e | e
    · exact h2 e
    · subst e
      have := h3 rfl
      have hl := owns_len h1
      rwa [List.take_of_length_le (by omega)] at this, o.bel, o.szb⟩
theorem OW.spot {r : R3} {B h i k : Nat} {w0 wx : World} (o : OW r B h i k w0 wx) (hi : i < 3) (hk : k < r.n i) : ∃ g, r.a i = some ⟨g, 0, none⟩ ∧ g < wx.heap.size ∧ B ≤ g ∧ wx.cell? ⟨h, i, none⟩ = some (r.V i) ∧ (∃ u, wx.cell? ⟨g, k * 2, none⟩ = some u) ∧ (∃ u, wx.cell? ⟨g, k * 2 + 1, none⟩ = some u) ∧ wx.frozen? ⟨g, k * 2, none⟩ = false ∧ wx.frozen? ⟨g, k * 2 + 1, none⟩ = false := by
  obtain ⟨L, h1, h2, h3⟩ := o.row i hi
  have hl := owns_len h1
  obtain ⟨ad, c', e, hn, hs, _⟩ := owns_formL h1
  simp only [R3.V, Value.slice.injEq] at e
  obtain ⟨e1, _, e3⟩ := e
  cases hA : r.a i with
  | none => rw [hA] at e1; exact absurd (hn e1.symm).1 (by omega)
  | some x =>
    rw [hA] at e1
    obtain ⟨g, off, sp⟩ := x
    obtain ⟨h4, h5⟩ := hs _ e1.symm
    simp only at h4 h5
    subst h4 h5
    have hlt := h1.lt g (by simp [R3.V, hA, Value.ownBlock])
    have hc := cL_get L k (L[k]'(by omega)) (by simp)
    have k0 := h1.cells (g := g) (by simp [R3.V, hA, Value.ownBlock]) _ _ hc.1
    have k1 := h1.cells (g := g) (by simp [R3.V, hA, Value.ownBlock]) _ _ hc.2
    rw [Addr.add_lit, Nat.zero_add] at k0 k1
    refine ⟨g, rfl, owns_lt h1 g (by simp [R3.V, hA, Value.ownBlock]), hlt.1, ?_, ⟨_, k0⟩, ⟨_, k1⟩, ?_, ?_⟩
    · rw [o.blk.cell]
      rcases (show i = 0 ∨ i = 1 ∨ i = 2 by omega) with rfl | rfl | rfl <;> rfl
    · rcases h1.2 with ⟨h0, _⟩ | ⟨g', cp, cur, hv, _, hh, _⟩
      · simp [R3.V, hA] at h0
      · simp only [R3.V, hA, Value.slice.injEq, Option.some.injEq, Addr.mk.injEq] at hv
        obtain ⟨⟨rfl, _⟩, _⟩ := hv
        exact frozen_of_row wx g _ _ 35 hh
    · rcases h1.2 with ⟨h0, _⟩ | ⟨g', cp, cur, hv, _, hh, _⟩
      · simp [R3.V, hA] at h0
      · simp only [R3.V, hA, Value.slice.injEq, Option.some.injEq, Addr.mk.injEq] at hv
        obtain ⟨⟨rfl, _⟩, _⟩ := hv
        exact frozen_of_row wx g _ _ 35 hh
theorem OW.step {r : R3} {B h i k g : Nat} {w0 wx : World} (ap : r.Ap h) (o : OW r B h i k w0 wx) (hi : i < 3) (hk : k < r.n i) (hA : r.a i = some ⟨g, 0, none⟩) :
    OW r B h i (k + 1) w0 ((wx.setCell ⟨g, k * 2, none⟩ (.string (mkL i).n)).setCell ⟨g, k * 2 + 1, none⟩ (.string (mkL i).v)) := by
  have hob : (r.V i).ownBlock = some g := by simp [R3.V, hA, Value.ownBlock]
  have hch := setL_chg wx g k (mkL i)
  have hBg : B ≤ g := by obtain ⟨L, h1, _⟩ := o.row i hi; exact (h1.lt g hob).1
  refine ⟨hch.blk o.blk (fun e => ap.lst i hi (by rw [hob, ← e])), fun j hj => ?_, o.bel.trans hch (fun b _ e => ⟨i, hi, by rw [hob]; have e' : b = g := e; rw [e']⟩), o.szb⟩
  obtain ⟨L, h1, h2, h3⟩ := o.row j hj
  by_cases e : j = i
  · subst e
    have hl := owns_len h1
    refine ⟨L.set k (mkL j), ?_, fun hh => absurd hh (by omega), fun _ => take_set_rep (by omega) (h3 rfl)⟩
    have hV : r.V j = .slice (some ⟨g, 0, none⟩) (r.n j) (r.c j) := by simp [R3.V, hA]
    rw [hV] at h1 ⊢
    exact owns_setL h1 (by omega)
  · exact ⟨L, hch.owns h1 (fun g' hg' eg => ap.two i hi j hj (fun x => e x.symm) g hob (by rw [hg', eg])), h2, fun x => absurd x e⟩

/-- Some rows have grown, and lie in a list of their own. -/
structure O2 (r : R3) (B h H i : Nat) (p cc : Nat → Nat) (al : Option Addr) (cl : Nat) (w0 wx : World) : Prop where
  blk : Blk wx h 22 r.all
  lng : wx.ownsRow H 22 1 (.slice al i cl) i ((List.range i).map fun j => Value.slice (some ⟨p j, 0, none⟩) (r.n j + 20) (cc j))
  old : ∀ j < i, Ls wx (some ⟨p j, 0, none⟩) (List.replicate (r.n j + 20) (mkL j)) ∧ Tg wx (p j) 35 ∧ (∀ k, i ≤ k → k < 3 → (r.V k).ownBlock ≠ some (p j))
  here : ∀ j < 3, Ls wx (r.a j) (List.replicate (r.n j) (mkL j))
  row : ∀ j, i ≤ j → j < 3 → wx.ownsRow B 35 2 (r.V j) (r.n j) (cL (List.replicate (r.n j) (mkL j)))
  low : ∀ j < 3, ∀ g, (r.V j).ownBlock = some g → g < H
  lh : h < H
  hB : B ≤ H
  hW : w0.heap.size ≤ H
  bel : Chg r.F w0 wx
  szb : B ≤ w0.heap.size
  szh : H ≤ wx.heap.size

theorem OW.two {r : R3} {B h : Nat} {w0 wx : World} (o : OW r B h 3 0 w0 wx) : O2 r B h wx.heap.size 0 (fun _ => 0) (fun _ => 0) none 0 w0 wx := by
  have hr : ∀ j, 0 ≤ j → j < 3 → wx.ownsRow B 35 2 (r.V j) (r.n j) (cL (List.replicate (r.n j) (mkL j))) := fun j _ hj => by
    obtain ⟨L, h1, h2, _⟩ := o.row j hj
    rw [h2 hj] at h1
    exact h1
  exact ⟨o.blk, World.ownsRow_nil _ _ _ _, fun j hj => absurd hj (by omega), fun j hj => ls_of_owns (hr j (Nat.zero_le _) hj) (rep_sz _ _), hr, fun j hj g hg => owns_lt (hr j (Nat.zero_le _) hj) g hg, o.blk.lt, Nat.le_trans o.szb o.bel.size, o.bel.size, o.bel, o.szb, Nat.le_refl _⟩
theorem O2.lat {r : R3} {B h H i : Nat} {p cc : Nat → Nat} {al : Option Addr} {cl : Nat} {w0 wx w1 : World} (o : O2 r B h H i p cc al cl w0 wx) (hl : Lat wx w1) : O2 r B h H i p cc al cl w0 w1 :=
  ⟨o.blk.later hl, owl o.lng hl, fun j hj => ⟨(o.old j hj).1.later hl, (o.old j hj).2.1.chg (F := fun _ => False) (Chg.of_below hl) (fun x => x), (o.old j hj).2.2⟩, fun j hj => (o.here j hj).later hl, fun j h1 h2 => owl (o.row j h1 h2) hl, o.low, o.lh, o.hB, o.hW, o.bel.trans (Chg.of_below (F := fun _ => False) hl) (fun _ _ x => x.elim), o.szb, Nat.le_trans o.szh hl.size⟩

/-- A row grows. -/
structure O3 (r : R3) (B i k : Nat) (ag : Option Addr) (cg : Nat) (wi wx : World) : Prop where
  own : wx.ownsRow B 35 2 (.slice ag (r.n i + k) cg) (r.n i + k) (cL (List.replicate (r.n i + k) (mkL i)))
  mov : Moved wi (r.V i).ownBlock (Value.slice ag (r.n i + k) cg).ownBlock
  chg : Chg (fun b => (r.V i).ownBlock = some b) wi wx
  ls : Ls wx (r.a i) (List.replicate (r.n i) (mkL i))
theorem O2.start {r : R3} {B h H i : Nat} {p cc : Nat → Nat} {al : Option Addr} {cl : Nat} {w0 wx : World} (o : O2 r B h H i p cc al cl w0 wx) (hi : i < 3) : O3 r B i 0 (r.a i) (r.c i) wx wx :=
  ⟨o.row i (Nat.le_refl _) hi, .inl rfl, Chg.refl _ _, o.here i hi⟩
theorem O3.lat {r : R3} {B i k : Nat} {ag : Option Addr} {cg : Nat} {wi wx w1 : World} (o : O3 r B i k ag cg wi wx) (hl : Lat wx w1) : O3 r B i k ag cg wi w1 :=
  ⟨owl o.own hl, o.mov, o.chg.trans (Chg.of_below (F := fun _ => False) hl) (fun _ _ x => x.elim), o.ls.later hl⟩
theorem own_block {g n c : Nat} {ad : Option Addr} {x : Addr} (e : ad = some x) (h0 : x.off = 0) (hs : x.spot = none) : (Value.slice ad n c).ownBlock = some x.block := by
  subst e
  obtain ⟨b, off, sp⟩ := x
  simp only at h0 hs
  subst h0 hs
  simp [Value.ownBlock]
theorem O3.push {r : R3} {B i k g' c' : Nat} {ag : Option Addr} {cg : Nat} {wi wx w' : World} {ob : Obj} (o : O3 r B i k ag cg wi wx)
    (hV : ∀ x, r.a i = some x → x.off = 0 ∧ x.spot = none)
    (ho : w'.ownsRow B 35 2 (.slice (some ⟨g', 0, none⟩) (r.n i + k + 1) c') (r.n i + k + 1) (cL (List.replicate (r.n i + k) (mkL i)) ++ [.string (mkL i).n, .string (mkL i).v])) (hp : Pushed (wx.alloc ob) w' (.slice ag (r.n i + k) cg) g') :
    O3 r B i (k + 1) (some ⟨g', 0, none⟩) c' wi w' := by
  have hch := hp.chg
  have ho' : w'.ownsRow B 35 2 (.slice (some ⟨g', 0, none⟩) (r.n i + (k + 1)) c') (r.n i + (k + 1)) (cL (List.replicate (r.n i + (k + 1)) (mkL i))) := by
    rw [show r.n i + (k + 1) = r.n i + k + 1 by omega, List.replicate_succ', cL_append]
    exact ho
  refine ⟨ho', ?_, ?_, ?_⟩
  · have := hch.2
    exact Moved.trans o.mov this o.chg.size
  · refine o.chg.trans hch.1 (fun b hb hx => ?_)
    rcases o.mov with e | ⟨g, e, hg⟩
    · rw [← e]; exact hx
    · rw [hx] at e; injection e with e; omega
  · by_cases h0 : r.n i = 0
    · rw [h0]; exact Ls.nil _ _
    · have hne : List.replicate (r.n i) (mkL i) ≠ [] := by
        intro e
        have := congrArg List.length e
        simp at this
        exact h0 this
      obtain ⟨b, off, e, hb, _⟩ := o.ls.at' hne
      obtain ⟨z0, _⟩ := hV _ e
      simp only at z0
      subst z0
      by_cases hg : g' = b
      · subst hg
        have h1 := (ls_of_owns ho' (rep_sz _ _)).take (r.n i)
        rw [List.take_replicate, Nat.min_eq_left (by omega)] at h1
        rw [e]
        exact h1
      · rcases hp with ⟨h1, h2⟩ | ⟨h1, h2⟩
        · refine o.ls.chg ((Chg.alloc (fun b => b = g') wx ob).trans (Chg.of_grown (F := fun b => b = g') h2 (fun q hq => by injection hq with hq; exact hq.symm)) (fun _ _ x => x)) (fun _ x hx => ?_)
          rw [e] at hx
          injection hx with hx
          rw [← hx]
          exact fun e2 => hg e2.symm
        · exact o.ls.chg ((Chg.alloc (fun _ => False) wx ob).trans (Chg.of_grown (F := fun _ => False) h2 (fun q hq => by cases hq)) (fun _ _ x => x)) (fun _ x hx hf => hf)

theorem O2.next {r : R3} {B h H i : Nat} {p cc : Nat → Nat} {al : Option Addr} {cl : Nat} {w0 wi wx w' : World} {pg cg gl cl' : Nat} {ob : Obj} (ap : r.Ap h) (hV : ∀ j < 3, ∀ x, r.a j = some x → x.off = 0 ∧ x.spot = none) (o : O2 r B h H i p cc al cl w0 wi) (hi : i < 3) (o3 : O3 r B i 20 (some ⟨pg, 0, none⟩) cg wi wx)
    (ho : w'.ownsRow H 22 1 (.slice (some ⟨gl, 0, none⟩) (i + 1) cl') (i + 1) (((List.range i).map fun j => Value.slice (some ⟨p j, 0, none⟩) (r.n j + 20) (cc j)) ++ [.slice (some ⟨pg, 0, none⟩) (r.n i + 20) cg])) (hp : Pushed (wx.alloc ob) w' (.slice al i cl) gl) :
    O2 r B h H (i + 1) (fun j => if j = i then pg else p j) (fun j => if j = i then cg else cc j) (some ⟨gl, 0, none⟩) cl' w0 w' := by
  have hlx : wx.ownsRow H 22 1 (.slice al i cl) i ((List.range i).map fun j => Value.slice (some ⟨p j, 0, none⟩) (r.n j + 20) (cc j)) := o3.chg.owns o.lng (fun g hg hv => by
    have := (o.lng.lt g hg).1
    have := o.low i hi g hv
    omega)
  have hch := hp.chg.1
  -- what the list's growing leaves
  have hH : ∀ g, (Value.slice al i cl).ownBlock = some g → H ≤ g := fun g hg => (hlx.lt g hg).1
  have hT : ∀ g, (Value.slice al i cl).ownBlock = some g → Tg wx g 22 := owns_tg hlx
  have keepLs : ∀ (j : Nat), j < 3 → Ls wx (r.a j) (List.replicate (r.n j) (mkL j)) → Ls w' (r.a j) (List.replicate (r.n j) (mkL j)) := fun j hj h1 => h1.chg hch (fun _ x hx hg => by
    have h2 := o.low j hj x.block (own_block (g := 0) (n := r.n j) (c := r.c j) hx (hV j hj x hx).1 (hV j hj x hx).2)
    have := hH _ hg
    omega)
  have hlow : ∀ j < 3, j ≠ i → ∀ x : Addr, r.a j = some x → (r.V i).ownBlock ≠ some x.block := fun j hj hne x hx he =>
    ap.two i hi j hj (fun e => hne e.symm) _ he (own_block (g := 0) hx (hV j hj x hx).1 (hV j hj x hx).2)
  have hsz : H ≤ wx.heap.size := Nat.le_trans o.szh o3.chg.size
  have hB : B ≤ wi.heap.size := Nat.le_trans o.szb o.bel.size
  have hBe : Below B wi wx := o3.chg.below hB (fun b hb => ((o.row i (Nat.le_refl _) hi).lt b hb).1)
  have hBH : B ≤ wx.heap.size := Nat.le_trans hB o3.chg.size
  refine ⟨?_, ?_, ?_, ?_, ?_, o.low, o.lh, o.hB, o.hW, ?_, o.szb, Nat.le_trans hsz hch.size⟩
  · refine hch.blk (o3.chg.blk o.blk (ap.lst i hi)) (fun hg => ?_)
    have := hH _ hg
    have := o.lh
    omega
  · rw [List.range_succ, List.map_append, List.map_singleton]
    have e1 : (List.range i).map (fun j => Value.slice (some ⟨if j = i then pg else p j, 0, none⟩) (r.n j + 20) (if j = i then cg else cc j)) = (List.range i).map (fun j => Value.slice (some ⟨p j, 0, none⟩) (r.n j + 20) (cc j)) := by
      refine List.map_congr_left (fun j hj => ?_)
      have := List.mem_range.1 hj
      rw [if_neg (by omega), if_neg (by omega)]
    rw [e1, if_pos rfl, if_pos rfl]
    exact ho
  · intro j hj
    by_cases e : j = i
    · subst e
      simp only [if_true]
      have ht : Tg wx pg 35 := owns_tg o3.own pg (by simp [Value.ownBlock])
      have hno : ¬ (Value.slice al j cl).ownBlock = some pg := fun hg => absurd ((hT _ hg).one ht) (by decide)
      refine ⟨(ls_of_owns o3.own (rep_sz _ _)).chg hch (fun _ x hx => by injection hx with hx; rw [← hx]; exact hno), ht.chg hch hno, fun k hk hk3 hv => ?_⟩
      rcases o3.mov with e | ⟨g, e, hg⟩
      · exact ap.two j hi k hk3 (by omega) pg (by rw [← e]; simp [Value.ownBlock]) hv
      · simp [Value.ownBlock] at e
        subst e
        have := o.low k hk3 _ hv
        have := o.szh
        omega
    · obtain ⟨h1, h2, h3⟩ := o.old j (by omega)
      simp only [if_neg e]
      have hn3 := h3 i (Nat.le_refl _) hi
      have ht : Tg wx (p j) 35 := h2.chg o3.chg hn3
      have hno : ¬ (Value.slice al i cl).ownBlock = some (p j) := fun hg => absurd ((hT _ hg).one ht) (by decide)
      refine ⟨(h1.chg o3.chg (fun _ x hx => by injection hx with hx; rw [← hx]; exact hn3)).chg hch (fun _ x hx => by injection hx with hx; rw [← hx]; exact hno), ht.chg hch hno, fun k hk hk3 => h3 k (by omega) hk3⟩
  · intro j hj
    refine keepLs j hj ?_
    by_cases e : j = i
    · subst e; exact o3.ls
    · exact (o.here j hj).chg o3.chg (fun _ x hx he => hlow j hj e x hx he)
  · intro j h1 h2
    refine hch.owns (o3.chg.owns (o.row j (by omega) h2) (fun g hg he => ap.two i hi j h2 (by omega) g he hg)) (fun g hg he => ?_)
    have := o.low j h2 g hg
    have := hH _ he
    omega
  · exact (o.bel.trans o3.chg (fun b _ e => ⟨i, hi, e⟩)).trans hch (fun b hb e => by have := hH b e; have := o.hW; omega)

end Go.Proofs.YtpdffdoogobhfaaDoor
