/-
  PoolPlays' looks, purely in memory: lists and what they are grown to.
-/
import Derived.Test.YtjlpkgepiajapaaDoorPpK
namespace Go.Proofs.YtjlpkgepiajapaaDoor
open Go.RowKit
set_option linter.unusedVariables false
set_option linter.unusedSimpArgs false

theorem Rw.beyond {w : World} {t : TypeId} {v : Value} {xs : List Value} {g j : Nat} {u : Value} (h : Rw w t v xs) (hj : xs.length ≤ j) : Rw (w.setCell ⟨g, j, none⟩ u) t v xs := by
  rcases h with ⟨h0, h1⟩ | ⟨g', cap, cur, mk, hv, hh, hm, hs, hl, hc, ht⟩
  · exact .inl ⟨h0, h1⟩
  · by_cases e : g' = g
    · subst e
      refine .inr ⟨g', cap, cur.setIfInBounds j u, mk, hv, ?_, hm, by simpa using hs, hl, hc, ?_⟩
      · simp [World.setCell, Array.getElem?_modify, hh]
      · rw [Array.toList_setIfInBounds, List.take_set_of_le hj, ht]
    · refine .inr ⟨g', cap, cur, mk, hv, ?_, hm, hs, hl, hc, ht⟩
      simp [World.setCell, Array.getElem?_modify, hh, show ¬ g = g' from fun h => e h.symm]
/-- Lists that came out, and what the first of them have been grown to. -/
structure Fam (b2 : Nat) (w : World) (t : TypeId) (mk : Nat → Value) (L As : List Value) : Prop where
  orig : ∀ (j : Nat) (v : Value), L[j]? = some v → ∃ k, k ≤ 65536 ∧ Rw w t v (List.replicate k (mk j))
  grown : ∀ (j : Nat) (a : Value), As[j]? = some a → ∃ v k, L[j]? = some v ∧ k ≤ 65536 ∧ Rw w t v (List.replicate k (mk j)) ∧ Rw w t a (List.replicate (k + 40) (mk j)) ∧ ∀ g, a.ownBlock = some g → v.ownBlock = some g ∨ b2 ≤ g
  apart : ∀ (i j : Nat) (v v' : Value), i ≠ j → L[i]? = some v → L[j]? = some v' → ∀ g, v.ownBlock = some g → ¬ v'.ownBlock = some g
  old : ∀ g, OB L g → g < b2
  sz : b2 ≤ w.heap.size
/-- The one that is grown at present. -/
structure Cur (b2 : Nat) (w : World) (t : TypeId) (mk : Nat → Value) (L As : List Value) (i m k : Nat) (x u : Value) : Prop where
  at' : L[i]? = some x
  le : k ≤ 65536
  row : Rw w t x (List.replicate k (mk i))
  cur : Rw w t u (List.replicate (k + m) (mk i))
  blk : ∀ g, u.ownBlock = some g → x.ownBlock = some g ∨ (b2 ≤ g ∧ ¬ OB As g)
section
variable {b2 : Nat} {w w' : World} {t : TypeId} {mk : Nat → Value} {L As : List Value} {i m k : Nat} {x u : Value}
theorem Fam.chg {F : Nat → Prop} (h : Fam b2 w t mk L As) (c : Chg F w w') (hF : ∀ g, OB L g ∨ OB As g → ¬ F g) : Fam b2 w' t mk L As :=
  ⟨fun j v hj => by
    obtain ⟨k, h1, h2⟩ := h.orig j v hj
    exact ⟨k, h1, h2.chg c (fun g hg => hF g (.inl ⟨v, List.mem_of_getElem? hj, hg⟩))⟩,
   fun j a hj => by
    obtain ⟨v, k, h1, h2, h3, h4, h5⟩ := h.grown j a hj
    exact ⟨v, k, h1, h2, h3.chg c (fun g hg => hF g (.inl ⟨v, List.mem_of_getElem? h1, hg⟩)), h4.chg c (fun g hg => hF g (.inr ⟨a, List.mem_of_getElem? hj, hg⟩)), h5⟩,
   h.apart, h.old, Nat.le_trans h.sz c.size⟩
theorem Fam.tg (h : Fam b2 w t mk L As) {g : Nat} (hg : OB L g ∨ OB As g) : Tg w g t := by
  rcases hg with ⟨v, hv, e⟩ | ⟨v, hv, e⟩
  · obtain ⟨j, hj⟩ := List.getElem?_of_mem hv
    obtain ⟨_, _, h2⟩ := h.orig j v hj
    exact h2.tg e
  · obtain ⟨j, hj⟩ := List.getElem?_of_mem hv
    obtain ⟨_, _, _, _, _, h4, _⟩ := h.grown j v hj
    exact h4.tg e
theorem Fam.later (h : Fam b2 w t mk L As) (b : Below w.heap.size w w') : Fam b2 w' t mk L As := h.chg (F := fun _ => False) (Chg.of_below b) (fun _ _ e => e)
theorem Cur.later (h : Cur b2 w t mk L As i m k x u) (b : Below w.heap.size w w') : Cur b2 w' t mk L As i m k x u := ⟨h.at', h.le, h.row.later b, h.cur.later b, h.blk⟩
theorem Cur.new (h : Fam b2 w t mk L As) (hx : L[i]? = some x) : ∃ k, Cur b2 w t mk L As i 0 k x x := by
  obtain ⟨k, h1, h2⟩ := h.orig i x hx
  exact ⟨k, hx, h1, h2, h2, fun g hg => .inl hg⟩
/-- One behind the one that is grown at present. -/
theorem Cur.push {P : Program} (h : Fam b2 w t mk L As) (hi : As.length ≤ i) (c : Cur b2 w t mk L As i m k x u) (hm : m < 40) (T ty : TypeId) (inf : TypeInfo) (z : Value) (bytes : Nat) (ht : P.underlying T = some (.slice t)) (hin : P.info? t = some inf) (hz : inf.zero = some z)
    (hsize : inf.size = 1) (hby : inf.bytes = bytes) (hzs : z.cells.size = 1) (h1 : (mk i).oneCell' = true) (hbt : bytes ≤ 1000) :
    ∃ g' c' w', (Builtin.append_ #[T, T] ty #[u, .slice (some ⟨w.heap.size, 0, none⟩) 1 1]).run P (w.alloc (.cells #[mk i] t)) = .ok (.slice (some ⟨g', 0, none⟩) (k + m + 1) c') w' ∧ Fam b2 w' t mk L As ∧ Cur b2 w' t mk L As i (m + 1) k x (.slice (some ⟨g', 0, none⟩) (k + m + 1) c') ∧ Chg (fun b => u.ownBlock = some b) w w' := by
  have ba : Below w.heap.size w (w.alloc (.cells #[mk i] t)) := (Below.refl _ _).alloc (Nat.le_refl _) _
  have h' := h.later ba
  have c2 := c.later ba
  have hle := c.le
  have hlen : (List.replicate (k + m) (mk i)).length = k + m := by simp
  obtain ⟨g', c', w', hr, hR, hw⟩ := c2.cur.push (P := P) T ty inf z bytes ht hin hz hsize hby hzs ⟨w.heap.size, 0, none⟩ (mk i) (by simp) h1 (by rw [hlen]; unfold maxLen; omega) (by
    rw [hlen]
    have : (k + m + 1) * bytes ≤ 65577 * 1000 := Nat.mul_le_mul (by omega) hbt
    omega)
  rw [hlen] at hr hR hw
  have hrep : List.replicate (k + m) (mk i) ++ [mk i] = List.replicate (k + (m + 1)) (mk i) := by
    rw [← Nat.add_assoc, List.replicate_succ', ]
  rw [hrep] at hR
  have hAs : ∀ (j : Nat) (a : Value), As[j]? = some a → j < i := fun j a hj => by
    have := (List.getElem?_eq_some_iff.1 hj).1
    omega
  refine ⟨g', c', w', hr, ?_⟩
  rcases hw with ⟨hb, cap, rfl, hv⟩ | ⟨hb, hbel⟩
  · -- in its place
    have hch : Chg (fun b => b = g') (w.alloc (.cells #[mk i] t)) ((w.alloc (.cells #[mk i] t)).setCell ⟨g', k + m, none⟩ (mk i)) := Chg.set ⟨g', k + m, none⟩ _ _
    have htg : Tg w g' t := c.cur.tg hb
    have hx2 : Rw ((w.alloc (.cells #[mk i] t)).setCell ⟨g', k + m, none⟩ (mk i)) t x (List.replicate k (mk i)) := c2.row.beyond (by simp)
    have hne : ∀ (j : Nat) (v : Value), L[j]? = some v → j ≠ i → ¬ v.ownBlock = some g' := by
      intro j v hj hji e
      rcases c.blk g' hb with h2 | ⟨h2, _⟩
      · exact h.apart j i v x hji hj c.at' g' e h2
      · have := h.old g' ⟨v, List.mem_of_getElem? hj, e⟩; omega
    have hneA : ∀ (j : Nat) (a : Value), As[j]? = some a → ¬ a.ownBlock = some g' := by
      intro j a hj e
      obtain ⟨v, _, e1, _, _, _, e5⟩ := h.grown j a hj
      rcases c.blk g' hb with h2 | ⟨h2, h3⟩
      · rcases e5 g' e with e6 | e6
        · exact h.apart j i v x (by have := hAs j a hj; omega) e1 c.at' g' e6 h2
        · have := h.old g' ⟨x, List.mem_of_getElem? c.at', h2⟩; omega
      · exact h3 ⟨a, List.mem_of_getElem? hj, e⟩
    refine ⟨⟨fun j v hj => ?_, fun j a hj => ?_, h.apart, h.old, ?_⟩, ⟨c.at', c.le, hx2, hR, fun g hg => c.blk g ?_⟩, ?_⟩
    · by_cases e : j = i
      · subst e
        have := hj.symm.trans c.at'
        injection this with this
        subst this
        exact ⟨k, c.le, hx2⟩
      · obtain ⟨k9, e1, e2⟩ := h'.orig j v hj
        exact ⟨k9, e1, e2.chg hch (fun g hg (e9 : g = g') => hne j v hj e (by rw [hg, e9]))⟩
    · obtain ⟨v, k9, e1, e2, e3, e4, e5⟩ := h'.grown j a hj
      exact ⟨v, k9, e1, e2, e3.chg hch (fun g hg (e9 : g = g') => hne j v e1 (by have := hAs j a hj; omega) (by rw [hg, e9])), e4.chg hch (fun g hg (e9 : g = g') => hneA j a hj (by rw [hg, e9])), e5⟩
    · have := h'.sz; have := hch.size; omega
    · have hg2 : some g' = some g := hg
      rw [hb, hg2]
    · exact (Chg.of_below (F := fun b => u.ownBlock = some b) ba).trans (hch.mono (G := fun b => u.ownBlock = some b) (fun b _ (e : b = g') => by rw [e]; exact hb)) (fun _ _ e => e)
  · refine ⟨h'.later hbel, ⟨c2.at', c2.le, c2.row.later hbel, hR, fun g hg => .inr ?_⟩, (Chg.of_below (F := fun b => u.ownBlock = some b) ba).trans (Chg.of_below hbel) (fun _ _ e => e)⟩
    have hg2 : some g' = some g := hg
    injection hg2 with hg2
    subst hg2
    refine ⟨Nat.le_trans h'.sz hb, fun hO => ?_⟩
    have := (h'.tg (.inr hO)).lt
    omega
theorem Fam.add (h : Fam b2 w t mk L As) (hi : As.length = i) (c : Cur b2 w t mk L As i 40 k x u) : Fam b2 w t mk L (As ++ [u]) := by
  refine ⟨h.orig, fun j a hj => ?_, h.apart, h.old, h.sz⟩
  by_cases e : j < As.length
  · rw [List.getElem?_append_left e] at hj; exact h.grown j a hj
  · rw [List.getElem?_append_right (by omega)] at hj
    have hj0 : j - As.length = 0 := by
      have := (List.getElem?_eq_some_iff.1 hj).1
      simpa using this
    rw [hj0] at hj
    simp at hj
    subst hj
    have : j = i := by omega
    subst this
    exact ⟨x, k, c.at', c.le, c.row, c.cur, fun g hg => (c.blk g hg).imp (fun e => e) (fun e => e.1)⟩
theorem Fam.of_ot {base : Nat} (h : Ot base w t mk L) : Fam w.heap.size w t mk L [] :=
  ⟨h.row, fun j a hj => by simp at hj, h.apart, fun g hg => (h.tg hg).lt, Nat.le_refl _⟩
end

/-- What looks holds. -/
structure LK (b2 : Nat) (w0 w : World) (v : Nat) (cs : List Value) (vb vn va vc : Value) (Lb Ln As Bs : List Value) : Prop where
  bel : Below w0.heap.size w0 w
  blk : Blk w v 33 cs
  ob : w.ownsRow w0.heap.size 40 1 vb Lb.length Lb
  on : w.ownsRow w0.heap.size 22 1 vn Ln.length Ln
  oa : w.ownsRow w0.heap.size 40 1 va As.length As
  oc : w.ownsRow w0.heap.size 22 1 vc Bs.length Bs
  ab : ∀ g, va.ownBlock = some g → ¬ vb.ownBlock = some g
  ac : ∀ g, vc.ownBlock = some g → ¬ vn.ownBlock = some g
  fb : Fam b2 w 5 mkB Lb As
  fn : Fam b2 w 3 mkI Ln Bs
  lo : (∀ g, OB Lb g → w0.heap.size ≤ g) ∧ (∀ g, OB Ln g → w0.heap.size ≤ g) ∧ w0.heap.size ≤ b2
section
variable {b2 : Nat} {w0 w w' : World} {v : Nat} {cs : List Value} {vb vn va vc : Value} {Lb Ln As Bs : List Value}
theorem LK.later (h : LK b2 w0 w v cs vb vn va vc Lb Ln As Bs) (b : Below w.heap.size w w') : LK b2 w0 w' v cs vb vn va vc Lb Ln As Bs := by
  have c := Chg.of_below (F := fun _ => False) b
  exact ⟨h.bel.trans (b.mono h.bel.size), h.blk.later b, c.owns h.ob (fun _ _ e => e), c.owns h.on (fun _ _ e => e), c.owns h.oa (fun _ _ e => e), c.owns h.oc (fun _ _ e => e), h.ab, h.ac, h.fb.later b, h.fn.later b, h.lo⟩
/-- Bytes were grown. -/
theorem LK.growB {F : Nat → Prop} (h : LK b2 w0 w v cs vb vn va vc Lb Ln As Bs) (c : Chg F w w') (hF : ∀ b, F b → Tg w b 5 ∧ w0.heap.size ≤ b) (hf : Fam b2 w' 5 mkB Lb As) : LK b2 w0 w' v cs vb vn va vc Lb Ln As Bs := by
  have hT : ∀ i t, Tg w i t → t ≠ 5 → ¬ F i := fun i t ht hne hg => hne (ht.one (hF i hg).1)
  exact ⟨h.bel.trans (c.below h.bel.size (fun b hb => (hF b hb).2)), c.blk h.blk (hT v 33 h.blk.tg (by decide)), c.owns h.ob (fun g hg => hT g 40 (owns_tg h.ob g hg) (by decide)), c.owns h.on (fun g hg => hT g 22 (owns_tg h.on g hg) (by decide)), c.owns h.oa (fun g hg => hT g 40 (owns_tg h.oa g hg) (by decide)), c.owns h.oc (fun g hg => hT g 22 (owns_tg h.oc g hg) (by decide)), h.ab, h.ac, hf, h.fn.chg c (fun g hg => hT g 3 (h.fn.tg hg) (by decide)), h.lo⟩
/-- Numbers were grown. -/
theorem LK.growN {F : Nat → Prop} (h : LK b2 w0 w v cs vb vn va vc Lb Ln As Bs) (c : Chg F w w') (hF : ∀ b, F b → Tg w b 3 ∧ w0.heap.size ≤ b) (hf : Fam b2 w' 3 mkI Ln Bs) : LK b2 w0 w' v cs vb vn va vc Lb Ln As Bs := by
  have hT : ∀ i t, Tg w i t → t ≠ 3 → ¬ F i := fun i t ht hne hg => hne (ht.one (hF i hg).1)
  exact ⟨h.bel.trans (c.below h.bel.size (fun b hb => (hF b hb).2)), c.blk h.blk (hT v 33 h.blk.tg (by decide)), c.owns h.ob (fun g hg => hT g 40 (owns_tg h.ob g hg) (by decide)), c.owns h.on (fun g hg => hT g 22 (owns_tg h.on g hg) (by decide)), c.owns h.oa (fun g hg => hT g 40 (owns_tg h.oa g hg) (by decide)), c.owns h.oc (fun g hg => hT g 22 (owns_tg h.oc g hg) (by decide)), h.ab, h.ac, h.fb.chg c (fun g hg => hT g 5 (h.fb.tg hg) (by decide)), hf, h.lo⟩
/-- One more among the grown ones. -/
theorem LK.addB {k : Nat} {x u : Value} {w9 : World} {g9 c9 : Nat} {ob : Obj} (h : LK b2 w0 w v cs vb vn va vc Lb Ln As Bs) (c : Cur b2 w 5 mkB Lb As As.length 40 k x u) (hp : Pushed (w.alloc ob) w9 va g9) (r : w9.ownsRow w0.heap.size 40 1 (.slice (some ⟨g9, 0, none⟩) (As.length + 1) c9) (As.length + 1) (As ++ [u])) :
    LK b2 w0 w9 v cs vb vn (.slice (some ⟨g9, 0, none⟩) (As.length + 1) c9) vc Lb Ln (As ++ [u]) Bs := by
  obtain ⟨k1, k2⟩ := hp.chg
  have hT : ∀ i t, Tg w i t → t ≠ 40 → ¬ va.ownBlock = some i := fun i t ht hne hg => hne (ht.one (owns_tg h.oa i hg))
  have hl := h.bel.size
  refine ⟨h.bel.trans (k1.below hl (fun b hb => (h.oa.lt b hb).1)), k1.blk h.blk (hT v 33 h.blk.tg (by decide)), k1.owns h.ob (fun g hg e => h.ab g e hg), k1.owns h.on (fun g hg => hT g 22 (owns_tg h.on g hg) (by decide)), by simpa using r, k1.owns h.oc (fun g hg => hT g 22 (owns_tg h.oc g hg) (by decide)), fun g hg hg2 => ?_, h.ac, ?_, h.fn.chg k1 (fun g hg => hT g 3 (h.fn.tg hg) (by decide)), h.lo⟩
  · have e : some g9 = some g := hg
    injection e with e
    subst e
    rcases k2 with k2 | ⟨g', k2, k3⟩
    · exact h.ab g9 k2.symm hg2
    · injection k2 with k2
      have := owns_lt h.ob g9 hg2
      omega
  · exact (h.fb.add rfl c).chg k1 (fun g hg => hT g 5 ((h.fb.add rfl c).tg hg) (by decide))
theorem LK.addN {k : Nat} {x u : Value} {w9 : World} {g9 c9 : Nat} {ob : Obj} (h : LK b2 w0 w v cs vb vn va vc Lb Ln As Bs) (c : Cur b2 w 3 mkI Ln Bs Bs.length 40 k x u) (hp : Pushed (w.alloc ob) w9 vc g9) (r : w9.ownsRow w0.heap.size 22 1 (.slice (some ⟨g9, 0, none⟩) (Bs.length + 1) c9) (Bs.length + 1) (Bs ++ [u])) :
    LK b2 w0 w9 v cs vb vn va (.slice (some ⟨g9, 0, none⟩) (Bs.length + 1) c9) Lb Ln As (Bs ++ [u]) := by
  obtain ⟨k1, k2⟩ := hp.chg
  have hT : ∀ i t, Tg w i t → t ≠ 22 → ¬ vc.ownBlock = some i := fun i t ht hne hg => hne (ht.one (owns_tg h.oc i hg))
  have hl := h.bel.size
  refine ⟨h.bel.trans (k1.below hl (fun b hb => (h.oc.lt b hb).1)), k1.blk h.blk (hT v 33 h.blk.tg (by decide)), k1.owns h.ob (fun g hg => hT g 40 (owns_tg h.ob g hg) (by decide)), k1.owns h.on (fun g hg e => h.ac g e hg), k1.owns h.oa (fun g hg => hT g 40 (owns_tg h.oa g hg) (by decide)), by simpa using r, h.ab, fun g hg hg2 => ?_, h.fb.chg k1 (fun g hg => hT g 5 (h.fb.tg hg) (by decide)), ?_, h.lo⟩
  · have e : some g9 = some g := hg
    injection e with e
    subst e
    rcases k2 with k2 | ⟨g', k2, k3⟩
    · exact h.ac g9 k2.symm hg2
    · injection k2 with k2
      have := owns_lt h.on g9 hg2
      omega
  · exact (h.fn.add rfl c).chg k1 (fun g hg => hT g 3 ((h.fn.add rfl c).tg hg) (by decide))
theorem LK.ofPS {p r q n : Nat → Nat} {st sr : Nat → Sx} {F : Nat → Nat → Prop} {B : Nat → Nat → Value} (h : PS w0 w v p r q n st sr F B vb vn Lb Ln) : LK w.heap.size w0 w v (wlC p r vb vn) vb vn (.slice none 0 0) (.slice none 0 0) Lb Ln [] [] :=
  ⟨h.bel, h.blk, h.ob, h.on, World.ownsRow_nil _ _ _ _, World.ownsRow_nil _ _ _ _, fun g hg => (by cases hg), fun g hg => (by cases hg), Fam.of_ot h.tb, Fam.of_ot h.tn, h.tb.lo, h.tn.lo, h.bel.size⟩
end

end Go.Proofs.YtjlpkgepiajapaaDoor
