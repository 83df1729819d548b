/-
  PoolShares: what its walk holds, step by step.
-/
import Derived.Test.YtjlpkgepiajapaaDoorPlQ
namespace Go.Proofs.YtjlpkgepiajapaaDoor
open Go.RowKit
set_option linter.unusedVariables false
set_option linter.unusedSimpArgs false

/-- Other memory changes: the pool stays. -/
theorem PB.chg {F : Nat → Prop} {base : Nat} {w w' : World} {p n : Nat} {st : Sx} (h : PB base w p n st) (k : Chg F w w') (hF : ∀ i, F i → i < w.heap.size → ∃ t, Tg w i t ∧ t ≠ 63 ∧ t ≠ 87) : PB base w' p n st := by
  obtain ⟨h1, h2, g, tb, ob, ow, h3, h4⟩ := h
  have hp : ¬ F p := fun e => by
    obtain ⟨t, ht, n1, _⟩ := hF p e h3.blk.lt
    exact n1 (ht.one h3.blk.tg)
  have hg : ¬ F g := fun e => by
    obtain ⟨t, ht, _, n1⟩ := hF g e h3.fr.tg.lt
    exact n1 (ht.one h3.fr.tg)
  have htb : ¬ F tb := fun e => by
    obtain ⟨t, ht, _⟩ := hF tb e h3.tk.lt
    exact h3.tk.tg t ht
  have hs : ∀ o sb, ow o = some sb → ¬ F sb := fun o sb e2 e => by
    obtain ⟨t, ht, _⟩ := hF sb e (h3.set o sb e2).1.lt
    exact (h3.set o sb e2).1.tg t ht
  obtain ⟨lo, l1, l2⟩ := h3.own
  have hob : ¬ F ob := fun e => by
    obtain ⟨t, ht, _⟩ := hF ob e l1.lt
    exact l1.tg t ht
  exact ⟨h1, h2, g, tb, ob, ow, ⟨k.blk h3.blk hp, h3.n1, h3.fr.chg k hg, h3.tk.chg k htb, ⟨lo, l1.chg k hob, l2⟩, fun o sb e => ⟨(h3.set o sb e).1.chg k (hs o sb e), (h3.set o sb e).2⟩, h3.non, h3.inj, h3.ne, h3.fin⟩, h4⟩
theorem atS_at {st : Sx} {n i : Nat} {o d : ByteArray} (hi : i < n) (hs : st i = some (o, d)) : atS st n (i : Int) = some (i, o, d) := by
  unfold atS
  rw [if_pos ⟨by omega, by omega⟩, Int.toNat_natCast, hs]
  rfl
theorem atS_no {st : Sx} {n i : Nat} (hs : st i = none) : atS st n (i : Int) = none := by
  unfold atS
  rw [Int.toNat_natCast, hs]
  split <;> rfl
theorem upS_at (st : Sx) (i : Nat) (x : Option (ByteArray × ByteArray)) : upS st i x i = x := if_pos rfl
theorem give_is (i : Nat) (o d : ByteArray) (base p n : Nat) (st : Sx) (w : World) (h : PB base w p n st) (hi : i < n) (hs : st i = some (o, d)) :
    Calls Tryd.prog 14 #[.pointer (some ⟨p, 0, none⟩), .int .i64 (i : Int)] w fun e w' => e = .returned (.int .i64 0) ∧ PB base w' p n (upS st i none) ∧ Kp base w w' := by
  have := giveB (i : Int) base p n st w h
  unfold giveS at this
  rw [atS_at hi hs] at this
  exact this
theorem give_no (i : Nat) (base p n : Nat) (st : Sx) (w : World) (h : PB base w p n st) (hs : st i = none) :
    Calls Tryd.prog 14 #[.pointer (some ⟨p, 0, none⟩), .int .i64 (i : Int)] w fun e w' => e = .returned (.int .i64 111) ∧ PB base w' p n st ∧ Kp base w w' := by
  have := giveB (i : Int) base p n st w h
  unfold giveS at this
  rw [atS_no hs] at this
  exact this
theorem put_is (i : Nat) (o d : ByteArray) (ad : Option Addr) (len c : Nat) (l : List Int) (base p n : Nat) (st : Sx) (w : World) (h : PB base w p n st) (hi : i < n) (hst : st i = some (o, d)) (hs : Sl w ad len l) (hl : len ≤ 128) :
    Calls Tryd.prog 13 #[.pointer (some ⟨p, 0, none⟩), .int .i64 (i : Int), .slice ad len c] w fun e w' => e = .returned (.int .i64 0) ∧ PB base w' p n (upS st i (some (o, strOfNums l))) ∧ Kp base w w' := by
  have := putB (i : Int) ad len c l base p n st w h hs (by omega)
  unfold putS at this
  rw [atS_at hi hst] at this
  simp only at this
  rw [if_neg (by rw [hs.len]; omega)] at this
  exact this
theorem leftQ (base p n : Nat) (st : Sx) (w : World) (h : PB base w p n st) : Calls Tryd.prog 18 #[.pointer (some ⟨p, 0, none⟩)] w fun e w' => e = .returned (.int .i64 ((n - (tkL st n).length : Nat) : Int)) ∧ ∃ m, w' = w.drewN m := by
  obtain ⟨_, _, g, tb, ob, ow, h, _⟩ := h
  obtain ⟨c0, c1, c2, c3⟩ := h.cells
  have hl := fun (w' : World) (hb : Below w.heap.size w w') (ty : TypeId) => (h.tk.later hb).len (P := Tryd.prog) Tryd.underlying60 ty
  have hn := h.n1
  have hle := tkL_len st n
  obtain ⟨T, hT⟩ : ∃ T, (tkL st n).length = T := ⟨_, rfl⟩
  rw [hT] at hl hle ⊢
  have e1 : (n : Int) - (T : Int) = ((n - T : Nat) : Int) := by omega
  have hl2 := hl w.drew (below_drewN (Below.refl _ _) 1) 3
  have hl1 := hl w (Below.refl _ _) 3
  clear h hT hl c1 c3
  go_enter Tryd.func18, Tryd.ntmps18
  go_wp2_with fail
  go_region
  all_goals
    go_wp2_with fail
    go_ret
    exact ⟨by first | rfl | (rw [← e1]), 1, rfl⟩

/-- What the walk holds in memory. -/
structure SJ (w wx : World) (p hb ob wb n : Nat) (st : Sx) (V : Nat → Value) (H : Nat → List Int) (W : Nat → Int) : Prop where
  pb : PB w.heap.size wx p n st
  gv : Gv wx
  hv : Hv w.heap.size wx hb ob wb n V H W
  bel : Below w.heap.size w wx
section
variable {w wx wy : World} {p hb ob wb n : Nat} {st st' : Sx} {V : Nat → Value} {H : Nat → List Int} {W : Nat → Int}
theorem SI.sj (h : SI w wx p hb ob wb n st V H W) : SJ w wx p hb ob wb n st V H W := ⟨h.pb, h.gv, h.hv, h.bel⟩
theorem SJ.si (h : SJ w wx p hb ob wb n st V H W) (i : Iv st n H W) : SI w wx p hb ob wb n st V H W := ⟨h.pb, h.gv, i, h.hv, h.bel⟩
theorem SJ.pos (h : SJ w wx p hb ob wb n st V H W) : 0 < w.heap.size := h.pb.2.1
theorem SJ.later (h : SJ w wx p hb ob wb n st V H W) (b : Below wx.heap.size wx wy) : SJ w wy p hb ob wb n st V H W :=
  ⟨h.pb.later b, h.gv.later b, h.hv.later b, h.bel.trans (b.mono h.bel.size)⟩
theorem SJ.call (h : SJ w wx p hb ob wb n st V H W) (hp : PB w.heap.size wy p n st') (k : Kp w.heap.size wx wy) : SJ w wy p hb ob wb n st' V H W :=
  ⟨hp, k.gv h.pos h.gv, h.hv.kp k, h.bel.trans (k.bel h.bel.size)⟩
theorem SJ.chg {F : Nat → Prop} {V' : Nat → Value} {H' : Nat → List Int} {W' : Nat → Int} (h : SJ w wx p hb ob wb n st V H W) (k : Chg F wx wy) (hF : ∀ i, F i → w.heap.size ≤ i ∧ (i < wx.heap.size → ∃ t, Tg wx i t ∧ t ≠ 63 ∧ t ≠ 87)) (hv : Hv w.heap.size wy hb ob wb n V' H' W') : SJ w wy p hb ob wb n st V' H' W' :=
  ⟨h.pb.chg k (fun i e => (hF i e).2), h.gv.chg k (fun e => by have := (hF 0 e).1; have := h.pos; omega), hv, h.bel.trans (k.below h.bel.size (fun i e => (hF i e).1))⟩
theorem SJ.write (h : SJ w wx p hb ob wb n st V H W) (i : Nat) (b : Int) : SJ w (wx.setCell ⟨wb, i, none⟩ (.int .u8 b)) p hb ob wb n st V H (upW W i b) :=
  h.chg (Chg.set ⟨wb, i, none⟩ _ wx) (fun j (e : j = wb) => by subst e; exact ⟨h.hv.lo.2.2, fun _ => ⟨5, h.hv.wr.tg, by decide, by decide⟩⟩) (h.hv.write i b)
/-- One behind an owner's list. -/
theorem SJ.push {o : Nat} {w6 : World} {g c : Nat} {x : Int} (h : SJ w wx p hb ob wb n st V H W) (ho : o < 3) {ob' : Obj} (hp : Pushed (wx.alloc ob') w6 (V o) g) (r : w6.ownsRow w.heap.size 3 1 (.slice (some ⟨g, 0, none⟩) ((H o).length + 1) c) ((H o).length + 1) ((H o).map encZ ++ [encZ x])) :
    SJ w (w6.setCell ⟨hb, o, none⟩ (.slice (some ⟨g, 0, none⟩) ((H o).length + 1) c)) p hb ob wb n st (upV V o (.slice (some ⟨g, 0, none⟩) ((H o).length + 1) c)) (upH H o (H o ++ [x])) W := by
  obtain ⟨k, m⟩ := hp.chg
  have hB : Tg w6 hb 22 := (k.blk h.hv.blk (fun e => (owns_tg (h.hv.row o ho) hb e).ne h.hv.blk.tg (by decide) rfl)).tg
  refine h.chg (F := fun i => (V o).ownBlock = some i ∨ i = hb) ((k.mono (fun i _ e => .inl e)).trans (Chg.set ⟨hb, o, none⟩ _ w6) (fun i _ e => .inr e)) ?_ (h.hv.store ho _ (H o ++ [x]) k (.inr m) (by simpa using r))
  rintro i (e | rfl)
  · have hl := h.hv.row o ho
    refine ⟨?_, fun _ => ⟨3, owns_tg hl i e, by decide, by decide⟩⟩
    rcases hl.2 with ⟨h0, _⟩ | ⟨g', cap', cur, hv, hb', _⟩
    · rw [h0] at e; cases e
    · have e2 : some g' = some i := by rw [hv] at e; exact e
      injection e2 with e2
      omega
  · exact ⟨h.hv.lo.1, fun _ => ⟨22, h.hv.blk.tg, by decide, by decide⟩⟩
/-- One is taken out of an owner's list. -/
theorem SJ.cut {o k : Nat} {g c L M : Nat} {y : Int} (h : SJ w wx p hb ob wb n st V H W) (ho : o < 3) (hL : (H o).length = L) (hM : M + 1 = L) (hV : V o = .slice (some ⟨g, 0, none⟩) L c) (d : Nat) :
    SJ w (((wx.setCell ⟨g, k, none⟩ (.int .i64 y)).drewN d).setCell ⟨hb, o, none⟩ (.slice (some ⟨g, 0, none⟩) M c)) p hb ob wb n st (upV V o (.slice (some ⟨g, 0, none⟩) M c)) (upH H o (((H o).set k y).take ((H o).length - 1))) W := by
  subst hL
  have hl := h.hv.row o ho
  rw [hV] at hl
  have hg : (V o).ownBlock = some g := by rw [hV]; rfl
  have k1 : Chg (fun i => (V o).ownBlock = some i) wx ((wx.setCell ⟨g, k, none⟩ (.int .i64 y)).drewN d) :=
    ((Chg.set ⟨g, k, none⟩ _ wx).mono (fun i _ (e : i = g) => by rw [hg, e])).trans (Chg.drewN (fun i => (V o).ownBlock = some i) _ d) (fun i _ e => e)
  have hm : ((((H o).set k y).take ((H o).length - 1))).length = M := by simp; omega
  have r := owns_cut hl k M y (by omega)
  have e1 : M = (H o).length - 1 := by omega
  rw [e1] at r
  have r2 := (Chg.drewN (fun _ => False) (wx.setCell ⟨g, k, none⟩ (.int .i64 y)) d).owns r (fun _ _ e => e)
  refine h.chg (F := fun i => (V o).ownBlock = some i ∨ i = hb) ((k1.mono (fun i _ e => .inl e)).trans (Chg.set ⟨hb, o, none⟩ _ _) (fun i _ e => .inr e)) ?_ (h.hv.store ho _ _ k1 (.inr (.inl (by rw [hg]; rfl))) (by rw [hm, e1]; exact r2))
  rintro i (e | rfl)
  · rw [hg] at e
    injection e with e
    subst e
    refine ⟨?_, fun _ => ⟨3, owns_tg hl g rfl, by decide, by decide⟩⟩
    rcases hl.2 with ⟨h0, _⟩ | ⟨g', cap', cur, hv, hb', _⟩
    · cases h0
    · simp only [Value.slice.injEq, Option.some.injEq, Addr.mk.injEq] at hv
      omega
  · exact ⟨h.hv.lo.1, fun _ => ⟨22, h.hv.blk.tg, by decide, by decide⟩⟩
/-- An owner's list is none. -/
theorem SJ.nil {o : Nat} (h : SJ w wx p hb ob wb n st V H W) (ho : o < 3) : SJ w (wx.setCell ⟨hb, o, none⟩ (.slice none 0 0)) p hb ob wb n st (upV V o (.slice none 0 0)) (upH H o []) W :=
  h.chg (Chg.set ⟨hb, o, none⟩ _ wx) (fun j (e : j = hb) => by subst e; exact ⟨h.hv.lo.1, fun _ => ⟨22, h.hv.blk.tg, by decide, by decide⟩⟩) (h.hv.store ho _ [] (Chg.refl _ _) (.inl rfl) ⟨rfl, .inl ⟨rfl, rfl⟩⟩)
theorem SI.cells3 (h : SI w wx p hb ob wb n st V H W) : ∃ (a0 a1 a2 : Option Addr) (c0 c1 c2 : Nat), ∀ wy, Hv w.heap.size wy hb ob wb n V H W →
    wy.cell? ⟨hb, 0, none⟩ = some (.slice a0 (H 0).length c0) ∧ wy.cell? ⟨hb, 1, none⟩ = some (.slice a1 (H 1).length c1) ∧ wy.cell? ⟨hb, 2, none⟩ = some (.slice a2 (H 2).length c2) := by
  obtain ⟨a0, c0, e0, _⟩ := h.slice (o := 0) (by omega)
  obtain ⟨a1, c1, e1, _⟩ := h.slice (o := 1) (by omega)
  obtain ⟨a2, c2, e2, _⟩ := h.slice (o := 2) (by omega)
  exact ⟨a0, a1, a2, c0, c1, c2, fun wy hy => ⟨by rw [hy.cell (o := 0) (by omega), e0], by rw [hy.cell (o := 1) (by omega), e1], by rw [hy.cell (o := 2) (by omega), e2]⟩⟩
end
/-- What stands in a row of numbers that is owned. -/
theorem owns_at {w : World} {base g L c : Nat} {v : Value} {l : List Int} (h : w.ownsRow base 3 1 v l.length (l.map encZ)) (hv : v = .slice (some ⟨g, 0, none⟩) L c) {k : Nat} {x : Int} (hx : l[k]? = some x) : w.cell? ⟨g, k, none⟩ = some (.int .i64 x) := by
  subst hv
  rcases h.2 with ⟨h0, h1⟩ | ⟨g', cap, cur, hv, hb, hh, hn, hc, hs, ht⟩
  · cases h0
  · simp only [Value.slice.injEq, Option.some.injEq, Addr.mk.injEq] at hv
    obtain ⟨⟨rfl, _⟩, _, rfl⟩ := hv
    have hj : k < l.length := (List.getElem?_eq_some_iff.1 hx).1
    simp only [Nat.mul_one] at ht
    have h2 : (cur.toList.take l.length)[k]? = some (.int .i64 x) := by rw [ht, List.getElem?_map, hx]; rfl
    rw [List.getElem?_take_of_lt hj, Array.getElem?_toList] at h2
    simp only [World.cell?, hh]
    simpa using h2
theorem owns_fz {w : World} {base g L c : Nat} {v : Value} {l : List Int} (h : w.ownsRow base 3 1 v l.length (l.map encZ)) (hv : v = .slice (some ⟨g, 0, none⟩) L c) (k : Nat) : w.frozen? ⟨g, k, none⟩ = false := by
  subst hv
  rcases h.2 with ⟨h0, h1⟩ | ⟨g', cap, cur, hv, hb, hh, hn, hc, hs, ht⟩
  · cases h0
  · simp only [Value.slice.injEq, Option.some.injEq, Addr.mk.injEq] at hv
    obtain ⟨⟨rfl, _⟩, _, rfl⟩ := hv
    exact frozen_of_row w g k _ 3 hh
theorem upH_twice (H : Nat → List Int) (o : Nat) (a b : List Int) : upH (upH H o a) o b = upH H o b := by
  funext j
  unfold upH
  split <;> rfl
theorem upH_at (H : Nat → List Int) (o : Nat) (a : List Int) : upH H o a o = a := if_pos rfl
theorem Hv.set1 {base : Nat} {w : World} {hb ob wb n : Nat} {V : Nat → Value} {H : Nat → List Int} {W : Nat → Int} (h : Hv base w hb ob wb n V H W) {o g L c : Nat} (ho : o < 3) (hV : V o = .slice (some ⟨g, 0, none⟩) L c) (k : Nat) (y : Int) :
    Hv base (w.setCell ⟨g, k, none⟩ (.int .i64 y)) hb ob wb n V (upH H o ((H o).set k y)) W := by
  have hl := h.row o ho
  rw [hV] at hl
  have hg : (V o).ownBlock = some g := by rw [hV]; rfl
  have ht := owns_tg (h.row o ho) g hg
  have hk := Chg.set ⟨g, k, none⟩ (.int .i64 y) w
  have hL : L = (H o).length := by
    rcases hl.2 with ⟨h0, h1⟩ | ⟨g', cap, cur, hv, _⟩
    · cases h0
    · simp only [Value.slice.injEq] at hv
      exact hv.2.1
  subst hL
  refine ⟨hk.blk h.blk (h.blk.tg.ne ht (by decide)), hk.blk h.own (h.own.tg.ne ht (by decide)), hk.blk h.wr (h.wr.tg.ne ht (by decide)), fun o' ho' => ?_, h.apart, h.lo⟩
  unfold upH
  by_cases e : o' = o
  · subst e
    rw [if_pos rfl, hV]
    have r := owns_cut hl k (H o').length y (Nat.le_refl _)
    rw [List.take_of_length_le (by simp)] at r
    rw [List.length_set]
    exact r
  · rw [if_neg e]
    exact hk.owns (h.row o' ho') (fun z hz (e2 : z = g) => h.apart o' o ho' ho e z hz (by rw [hg, e2]))
theorem SJ.set1 {w wx : World} {p hb ob wb n : Nat} {st : Sx} {V : Nat → Value} {H : Nat → List Int} {W : Nat → Int} {o g L c : Nat} (h : SJ w wx p hb ob wb n st V H W) (ho : o < 3) (hV : V o = .slice (some ⟨g, 0, none⟩) L c) (k : Nat) (y : Int) :
    SJ w (wx.setCell ⟨g, k, none⟩ (.int .i64 y)) p hb ob wb n st V (upH H o ((H o).set k y)) W := by
  have hl := h.hv.row o ho
  rw [hV] at hl
  refine h.chg (Chg.set ⟨g, k, none⟩ _ wx) ?_ (h.hv.set1 ho hV k y)
  rintro i (e : i = g)
  subst e
  refine ⟨?_, fun _ => ⟨3, owns_tg hl i rfl, by decide, by decide⟩⟩
  rcases hl.2 with ⟨h0, _⟩ | ⟨g', cap', cur, hv, hb', _⟩
  · cases h0
  · simp only [Value.slice.injEq, Option.some.injEq, Addr.mk.injEq] at hv
    omega
theorem SJ.cut2 {w wx : World} {p hb ob wb n : Nat} {st : Sx} {V : Nat → Value} {H : Nat → List Int} {W : Nat → Int} {o g L c M : Nat} (h : SJ w wx p hb ob wb n st V H W) (ho : o < 3) (hV : V o = .slice (some ⟨g, 0, none⟩) L c) (hM : M ≤ (H o).length) :
    SJ w (wx.setCell ⟨hb, o, none⟩ (.slice (some ⟨g, 0, none⟩) M c)) p hb ob wb n st (upV V o (.slice (some ⟨g, 0, none⟩) M c)) (upH H o ((H o).take M)) W := by
  have hl := h.hv.row o ho
  rw [hV] at hl
  have hg : (V o).ownBlock = some g := by rw [hV]; rfl
  have hr : wx.ownsRow w.heap.size 3 1 (.slice (some ⟨g, 0, none⟩) M c) ((H o).take M).length (((H o).take M).map encZ) := by
    rcases hl.2 with ⟨h0, h1⟩ | ⟨g', cap, cur, hv, hb', hh, hn, hc, hs, ht⟩
    · cases h0
    · simp only [Value.slice.injEq, Option.some.injEq, Addr.mk.injEq] at hv
      obtain ⟨⟨rfl, _⟩, _, rfl⟩ := hv
      refine ⟨by simp, .inr ⟨g, c, cur, by simp; omega, hb', hh, by simp; omega, hc, hs, ?_⟩⟩
      simp only [Nat.mul_one] at ht ⊢
      rw [List.length_take, Nat.min_eq_left hM, List.map_take, ← ht, List.take_take, Nat.min_eq_left hM]
  refine h.chg (Chg.set ⟨hb, o, none⟩ _ wx) (fun j (e : j = hb) => by subst e; exact ⟨h.hv.lo.1, fun _ => ⟨22, h.hv.blk.tg, by decide, by decide⟩⟩) (h.hv.store ho _ _ (Chg.refl _ _) (.inr (.inl (by rw [hg]; rfl))) hr)
theorem i64_id (x : Int) (h1 : -9223372036854775808 ≤ x) (h2 : x ≤ 9223372036854775807) : IntKind.i64.wrap x = x := by
  unfold IntKind.wrap
  simp [IntKind.bits, IntKind.signed]
  omega

end Go.Proofs.YtjlpkgepiajapaaDoor
