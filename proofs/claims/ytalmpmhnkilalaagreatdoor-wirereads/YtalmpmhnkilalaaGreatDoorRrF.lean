import Derived.Test.YtalmpmhnkilalaaGreatDoorRrC
import Derived.Test.YtalmpmhnkilalaaGreatDoorRrE
/-
  Package wire's reader: label, labels, series, row.
-/
namespace Go.Proofs.YtalmpmhnkilalaaGreatDoor
open Go.RowKit
set_option linter.unusedVariables false
set_option linter.unusedSimpArgs false

/-- Two calls, one behind the other. -/
def pairO {α β : Type} (o : Option (α × List Int)) (r : Rdr β) : Option ((α × β) × List Int) := o.bind (fun q => (r q.2).map (fun p => ((q.1, p.1), p.2)))
theorem pairO_rt {α β : Type} (o : Option (α × List Int)) (r : Rdr β) : (pairO o r).map (·.2) = ((o.map (·.2)).bind r).map (·.2) := by
  unfold pairO
  cases o with
  | none => rfl
  | some q =>
    show ((r q.2).map _).map _ = (r q.2).map _
    rw [Option.map_map]
    rfl
theorem pairO_some {α β : Type} {o : Option (α × List Int)} {r : Rdr β} {x : α} {y : β} {t : List Int} (h : pairO o r = some ((x, y), t)) : (∃ u, o = some (x, u)) ∧ (o.map (·.2)).bind r = some (y, t) := by
  unfold pairO at h
  cases o with
  | none => cases h
  | some q =>
    have h : (r q.2).map (fun p => ((q.1, p.1), p.2)) = some ((x, y), t) := h
    cases hr : r q.2 with
    | none => rw [hr] at h; cases h
    | some z =>
      rw [hr] at h
      simp at h
      obtain ⟨⟨rfl, rfl⟩, rfl⟩ := h
      exact ⟨⟨q.2, rfl⟩, hr⟩
theorem RQ'.two {α β : Type} {w w1 w2 : World} {p K : Nat} {o : Option (α × List Int)} {V : α → Value → World → Prop} {Z : Value → Prop} {v : Value} {r : Rdr β} {V2 : β → Value → World → Prop} {Z2 : Value → Prop} {v2 : Value}
    (h1 : RQ' w p K o V Z v w1) (h2 : RQ' w1 p K ((o.map (·.2)).bind r) V2 Z2 v2 w2) : Rt w2 p K ((pairO o r).map (·.2)) ∧ Chg (fpr p) w w2 ∧ (∀ x y t, pairO o r = some ((x, y), t) → V x v w1 ∧ V2 y v2 w2) := by
  refine ⟨by rw [pairO_rt]; exact h2.rt, h1.chg.trans h2.chg (fun _ _ e => e), fun x y t h => ?_⟩
  obtain ⟨⟨u, e1⟩, e2⟩ := pairO_some h
  exact ⟨h1.yes x u e1, h2.yes y t e2⟩
theorem RQ'.str {w w' : World} {p K : Nat} {o : Option (ByteArray × List Int)} {v : Value} (h : RQ' w p K o (fun d v _ => v = .string d) (fun v => v = .string (strOfNums [])) v w') : ∃ d, v = .string d := by
  cases o with
  | none => exact ⟨_, h.no rfl⟩
  | some q => exact ⟨_, h.yes q.1 q.2 rfl⟩
theorem pairO_lab (st : Option (List Int)) : st.bind rLab = (pairO (st.bind (rTxt 64)) (rTxt 64)).map (fun q => (La.mk q.1.1 q.1.2, q.2)) := by
  unfold rLab
  rw [bind_map, bind_pair]
  rfl
theorem map_snd {α β : Type} (o : Option (α × List Int)) (f : α → β) : (o.map (fun q => (f q.1, q.2))).map (·.2) = o.map (·.2) := by cases o <;> rfl
theorem map_yes {α β : Type} {o : Option (α × List Int)} {f : α → β} {y : β} {t : List Int} (h : o.map (fun q => (f q.1, q.2)) = some (y, t)) : ∃ x, o = some (x, t) ∧ y = f x := by
  cases o with
  | none => cases h
  | some q =>
    simp at h
    obtain ⟨rfl, rfl⟩ := h
    exact ⟨q.1, rfl, rfl⟩

def z47 : List Value := [.string ByteArray.empty, .string ByteArray.empty]
theorem info47z : (Tryz.prog.info? 47).map (fun i => i.zero.map (·.cells)) = some (some z47.toArray) := by kernel_rfl
theorem size47 : (Tryz.prog.info? 47).map (·.size) = some 2 := by kernel_rfl
theorem res_label (tmps : Array Value) (w : World) (g : Nat) (a b : Value) (hp : tmps.getD 2 undef = .pointer (some ⟨g, 0, none⟩)) (h0 : w.cell? ⟨g, 0, none⟩ = some a) (h1 : w.cell? ⟨g, 1, none⟩ = some b) :
    (results Tryz.f195 tmps).run Tryz.prog w = .ok (.agg #[a, b]) w := by
  have h : Tryz.f195.results = #[.cell 2 47] := by kernel_rfl
  have hp' : tmps[2]?.getD undef = .pointer (some ⟨g, 0, none⟩) := by simpa using hp
  simp [results, h, hp', asAddr, loadVar, h0, h1, go_sem]
theorem built47 (a b : Value) (x y : ByteArray) (ha : a = .string x) (hb : b = .string y) : Tryz.prog.built 47 [(0, a), (1, b)] = some #[.string x, .string y] := by subst ha hb; kernel_rfl

set_option maxRecDepth 100000 in
set_option maxHeartbeats 4000000 in
theorem labelR (p K : Nat) (st : Option (List Int)) (w : World) (h : Rt w p K st) :
    Calls Tryz.prog 195 #[.pointer (some ⟨p, 0, none⟩)] w (RQ w p K (st.bind rLab) (fun y v w' => ∃ x, id x = y ∧ v = .agg #[.string x.n, .string x.v] ∧ True) (fun v => ∃ x : La, v = .agg #[.string x.n, .string x.v])) := by
  have HX := hidden h
  have hpw := h.lt
  clear h
  go_enter Tryz.func195, Tryz.ntmps195
  go_wp2_with (refine wpList_alloc_blk rfl 47 rfl 2 rfl z47 info47z ?_; intro w1 B1 bl1 hz1; have HB1 := hidden B1; have X1 := hidden (HX.out.later bl1); have C1 := hidden (Chg.of_below (F := fpr p) bl1); clear B1 bl1 hz1)
  refine (textR p K st w1 X1.out).mono ?_
  rintro e w2 ⟨v1, rfl, hQ1⟩
  obtain ⟨d1, rfl⟩ := hQ1.str
  have hnr : ¬ fpr p w.heap.size := by unfold fpr; omega
  have HB2 := hidden (hQ1.chg.blk HB1.out hnr)
  have HQ1 := hidden hQ1
  clear hQ1
  go_wp2_with fail
  refine (textR p K _ w2 HQ1.out.rt).mono ?_
  rintro e w3 ⟨v2, rfl, hQ2⟩
  obtain ⟨d2, rfl⟩ := hQ2.str
  have HB3 := hidden (hQ2.chg.blk HB2.out hnr)
  have HQ2 := hidden (HQ1.out.two hQ2)
  clear hQ2
  go_wp2_with (first
    | (refine wpList_build_to rfl 47 #[(0, .tmp 6), (1, .tmp 8)] rfl [(0, .string d1), (1, .string d2)] #[.string d1, .string d2] rfl (built47 _ _ _ _ rfl rfl) ?_)
    | (refine wpList_store_blk rfl 47 (.tmp 2) (.tmp 9) rfl rfl w.heap.size (l := [.string d1, .string d2]) HB3.out rfl rfl rfl size47 (by intro v hv; simp at hv; rcases hv with rfl | rfl <;> rfl) ?_))
  have hN := blk_stored (l := [.string d1, .string d2]) HB3.out rfl
  refine bodyPost_ret (res_label _ _ w.heap.size _ _ rfl (hN.cell 0) (hN.cell 1)) rfl ?_
  have hcs := Chg.sets w.heap.size [.string d1, .string d2] 0 w3
  rw [pairO_lab]
  refine ⟨_, rfl, ?_, (C1.out.trans HQ2.out.2.1 (fun _ _ e => e)).trans hcs (fun i hi e => by omega), fun y t h => ?_, fun _ => ⟨⟨d1, d2⟩, rfl⟩⟩
  · rw [map_snd _ (fun q : ByteArray × ByteArray => La.mk q.1 q.2)]
    exact HQ2.out.1.chg hcs (fun e => by omega) (fun e => by have := HX.out.klt; omega)
  · obtain ⟨x, hx, rfl⟩ := map_yes (f := fun q : ByteArray × ByteArray => La.mk q.1 q.2) h
    obtain ⟨e1, e2⟩ := HQ2.out.2.2 x.1 x.2 t hx
    injection e1 with e1
    injection e2 with e2
    subst e1 e2
    exact ⟨_, rfl, rfl, trivial⟩

theorem enc_pos (n : Nat) : 0 < (Q.enc n).length := by rw [Q.enc_length]; omega
theorem cod_lt {α : Type} {r : Rdr α} {ok : α → Prop} {en : α → List Int} (h : Cod r ok en) (hp : ∀ x, 0 < (en x).length) : ∀ b y t, Byte b → b.length ≤ 1048576 → r b = some (y, t) → t.length < b.length := by
  intro b y t hb hl hr
  obtain ⟨_, e⟩ := h.forth b y t hb hl hr
  have := hp y
  rw [e, List.length_append]
  omega
/-- Labels that were read. -/
abbrev LbO := Lst 47 2 La.cells (id : La → La) (fun _ _ _ => True)
theorem labelsR (p K : Nat) (st : Option (List Int)) (w : World) (h : Rt w p K st) :
    Calls Tryz.prog 185 #[.pointer (some ⟨p, 0, none⟩)] w (RQ w p K (st.bind rLabs) (LbO w.heap.size) (fun v => v = .slice none 0 0)) := by
  have HX := hidden (takeEachL 195 (.pointer (some ⟨p, 0, none⟩)) rLab id (fun _ _ _ => True) p K st 16 w (fun a w => by kernel_rfl) h (by omega) (cod_lt cod_lab (fun x => by unfold enL encT; simp only [List.length_append]; have := enc_pos x.n.size; omega)) (fun _ _ _ _ _ _ => trivial) (fun _ _ _ _ _ _ _ _ => trivial) (fun b1 wx h1 _ => labelR p K (some b1) wx h1))
  clear h
  go_enter Tryz.func185, Tryz.ntmps185
  go_wp2_with fail
  refine HX.out.mono ?_
  rintro e w1 ⟨v, rfl, hQ⟩
  have HQ := hidden hQ
  clear hQ
  go_wp2_with fail
  go_ret
  exact ⟨_, rfl, HQ.out⟩

/-! ### a series, a row -/
theorem Lst.slc {α β : Type} {e k : Nat} {cells : α → List Value} {pr : α → β} {VM : Nat → α → World → Prop} {B : Nat} {l : List β} {v : Value} {w : World} (h : Lst e k cells pr VM B l v w) : ∃ ad c, v = .slice ad l.length c := by
  obtain ⟨xs, rfl, ⟨ad, c, rfl⟩, _⟩ := h
  exact ⟨ad, c, by rw [List.length_map]⟩
/-- A series that was read: its lists are rows of their own. -/
def SrO (B : Nat) (x : Ser) (w : World) : Prop :=
  x.L.length = x.ln ∧ x.S.length = x.sn ∧ w.ownsRow B 47 2 (.slice x.la x.ln x.lc) x.ln (x.L.flatMap La.cells) ∧ w.ownsRow B 50 2 (.slice x.sa x.sn x.sc) x.sn (cS x.S) ∧ ∀ y ∈ x.S, OkS y
theorem SrO.mono {B B' : Nat} {x : Ser} {w : World} (hB : B ≤ B') (h : SrO B' x w) : SrO B x w := by
  obtain ⟨h1, h2, h3, h4, h5⟩ := h
  exact ⟨h1, h2, owns_base h3 (fun g hg => by have := (h3.lt g hg).1; omega), owns_base h4 (fun g hg => by have := (h4.lt g hg).1; omega), h5⟩
theorem SrO.chg {B : Nat} {x : Ser} {wa wb : World} {F : Nat → Prop} (h : SrO B x wa) (hc : Chg F wa wb) (hF : ∀ i, F i → ¬ Ty wa i 47 ∧ ¬ Ty wa i 50) : SrO B x wb := by
  obtain ⟨h1, h2, h3, h4, h5⟩ := h
  exact ⟨h1, h2, hc.owns h3 (fun g hg hf => (hF g hf).1 (ty_owns h3 hg)), hc.owns h4 (fun g hg hf => (hF g hf).2 (ty_owns h4 hg)), h5⟩
def prS (x : Ser) : Se := (x.L, x.S)
def z45 : List Value := [.slice none 0 0, .slice none 0 0]
theorem info45z : (Tryz.prog.info? 45).map (fun i => i.zero.map (·.cells)) = some (some z45.toArray) := by kernel_rfl
theorem size45 : (Tryz.prog.info? 45).map (·.size) = some 2 := by kernel_rfl
theorem res_ser (tmps : Array Value) (w : World) (g : Nat) (a b : Value) (hp : tmps.getD 2 undef = .pointer (some ⟨g, 0, none⟩)) (h0 : w.cell? ⟨g, 0, none⟩ = some a) (h1 : w.cell? ⟨g, 1, none⟩ = some b) :
    (results Tryz.f165 tmps).run Tryz.prog w = .ok (.agg #[a, b]) w := by
  have h : Tryz.f165.results = #[.cell 2 45] := by kernel_rfl
  have hp' : tmps[2]?.getD undef = .pointer (some ⟨g, 0, none⟩) := by simpa using hp
  simp [results, h, hp', asAddr, loadVar, h0, h1, go_sem]
theorem built45 (a b : Value) (x y : Option Addr) (n c m d : Nat) (ha : a = .slice x n c) (hb : b = .slice y m d) : Tryz.prog.built 45 [(0, a), (1, b)] = some #[.slice x n c, .slice y m d] := by subst ha hb; kernel_rfl
theorem pairO_ser (st : Option (List Int)) : st.bind rSer = pairO (st.bind rLabs) rSmp := by
  unfold rSer
  rw [bind_pair]
  rfl

set_option maxRecDepth 100000 in
set_option maxHeartbeats 4000000 in
theorem serR (p K : Nat) (st : Option (List Int)) (w : World) (h : Rt w p K st) (hG : Gv w) (h2p : 2 ≤ p) :
    Calls Tryz.prog 165 #[.pointer (some ⟨p, 0, none⟩)] w (RQ w p K (st.bind rSer) (fun y v w' => ∃ x, prS x = y ∧ v = .agg #[.slice x.la x.ln x.lc, .slice x.sa x.sn x.sc] ∧ SrO w.heap.size x w') (fun v => ∃ x : Ser, v = .agg #[.slice x.la x.ln x.lc, .slice x.sa x.sn x.sc])) := by
  have HX := hidden h
  have HG := hidden hG
  have hpw := h.lt
  clear h hG
  go_enter Tryz.func165, Tryz.ntmps165
  go_wp2_with (refine wpList_alloc_blk rfl 45 rfl 2 rfl z45 info45z ?_; intro w1 B1 bl1 hz1; have HB1 := hidden B1; have X1 := hidden (HX.out.later bl1); have G1 := hidden (HG.out.later bl1); have HZ1 := hidden hz1; have C1 := hidden (Chg.of_below (F := fpr p) bl1); clear B1 bl1 hz1)
  refine (labelsR p K st w1 X1.out).mono ?_
  rintro e w2 ⟨v1, rfl, hQ1⟩
  obtain ⟨la, ln, lc, rfl⟩ : ∃ la ln lc, v1 = .slice la ln lc := by
    cases ho : st.bind rLabs with
    | none => exact ⟨_, _, _, hQ1.no ho⟩
    | some q =>
      obtain ⟨ad, c, e⟩ := (hQ1.yes q.1 q.2 ho).slc
      exact ⟨_, _, _, e⟩
  have hnr : ¬ fpr p w.heap.size := by unfold fpr; omega
  have HB2 := hidden (hQ1.chg.blk HB1.out hnr)
  have G2 := hidden (gv_chg G1.out hQ1.chg (by unfold fpr; omega))
  have hs2 := hQ1.chg.size
  have HQ1 := hidden hQ1
  clear hQ1
  go_wp2_with fail
  refine (samplesR p K _ w2 HQ1.out.rt G2.out h2p).mono ?_
  rintro e w3 ⟨v2, rfl, hQ2⟩
  obtain ⟨sa, sn, sc, rfl⟩ : ∃ sa sn sc, v2 = .slice sa sn sc := by
    cases ho : ((st.bind rLabs).map (·.2)).bind rSmp with
    | none => obtain ⟨ad, c, e⟩ := hQ2.no ho; exact ⟨_, _, _, e⟩
    | some q =>
      obtain ⟨⟨ad, c, e⟩, _⟩ := hQ2.yes q.1 q.2 ho
      exact ⟨_, _, _, e⟩
  have HB3 := hidden (hQ2.chg.blk HB2.out hnr)
  have HP2 := hidden hQ2.chg
  have hs3 := hQ2.chg.size
  have HQ2 := hidden (HQ1.out.two hQ2)
  have hpp := HQ1.out.rt.blk
  have HPP := hidden hpp
  clear hQ2 hpp
  go_wp2_with (first
    | (refine wpList_build_to rfl 45 #[(0, .tmp 6), (1, .tmp 8)] rfl [(0, .slice la ln lc), (1, .slice sa sn sc)] #[.slice la ln lc, .slice sa sn sc] rfl (built45 _ _ _ _ _ _ _ _ rfl rfl) ?_)
    | (refine wpList_store_blk rfl 45 (.tmp 2) (.tmp 9) rfl rfl w.heap.size (l := [.slice la ln lc, .slice sa sn sc]) HB3.out rfl rfl rfl size45 (by intro v hv; simp at hv; rcases hv with rfl | rfl <;> rfl) ?_))
  have hN := blk_stored (l := [.slice la ln lc, .slice sa sn sc]) HB3.out rfl
  refine bodyPost_ret (res_ser _ _ w.heap.size _ _ rfl (hN.cell 0) (hN.cell 1)) rfl ?_
  have hcs := Chg.sets w.heap.size [.slice la ln lc, .slice sa sn sc] 0 w3
  rw [pairO_ser]
  refine ⟨_, rfl, HQ2.out.1.chg hcs (fun e => by omega) (fun e => by have := HX.out.klt; omega), (C1.out.trans HQ2.out.2.1 (fun _ _ e => e)).trans hcs (fun i hi e => by omega), fun y t h => ?_, fun _ => ⟨⟨la, ln, lc, [], sa, sn, sc, []⟩, rfl⟩⟩
  obtain ⟨⟨xs, e1, ⟨ad1, c1, f1⟩, o1, _⟩, ⟨⟨ad2, c2, f2⟩, o2, k2⟩⟩ := HQ2.out.2.2 y.1 y.2 t h
  injection f1 with f1 f1' f1''
  injection f2 with f2 f2' f2''
  subst f1 f1' f1'' f2 f2' f2''
  have e1 : xs = y.1 := by rw [← e1]; simp
  subst e1
  have h1 := HZ1.out
  have hty : Ty w3 w.heap.size 45 := ty_blk HB3.out
  refine ⟨⟨la, y.1.length, lc, y.1, sa, y.2.length, sc, y.2⟩, rfl, rfl, rfl, rfl, ?_, ?_, k2⟩
  · have o1' := HP2.out.owns o1 (fun g hg e => by obtain ⟨u, v, hB⟩ := HPP.out; unfold fpr at e; subst e; exact absurd ((ty_owns o1 hg).ne (ty_blk hB)) (by decide))
    have o1'' := hcs.owns o1' (fun g hg e => by subst e; exact absurd ((ty_owns o1' hg).ne hty) (by decide))
    exact owns_base o1'' (fun g hg => by have := (o1''.lt g hg).1; omega)
  · have o2'' := hcs.owns o2 (fun g hg e => by subst e; exact absurd ((ty_owns o2 hg).ne hty) (by decide))
    exact owns_base o2'' (fun g hg => by have := (o2''.lt g hg).1; omega)

/-- Series that were read. -/
abbrev SsO := Lst 45 2 Ser.cells prS SrO
theorem seriesR (p K : Nat) (st : Option (List Int)) (w : World) (h : Rt w p K st) (hG : Gv w) (h2p : 2 ≤ p) :
    Calls Tryz.prog 133 #[.pointer (some ⟨p, 0, none⟩)] w (RQ w p K (st.bind rSers) (SsO w.heap.size) (fun v => v = .slice none 0 0)) := by
  have HX := hidden (takeEachE 165 (.pointer (some ⟨p, 0, none⟩)) rSer prS SrO p K st 18446744073709551615 w (fun a w => by kernel_rfl) h (by omega) (cod_lt cod_ser (fun x => by unfold enE encSs; simp only [List.length_append]; have := enc_pos (encC x.2).length; omega)) (fun _ _ _ _ hB h => h.mono hB) (fun _ _ _ _ _ h hc hF => h.chg hc (fun i hi => by
      rcases hF i hi with k | k
      · exact ⟨fun e => absurd (k.ne e) (by decide), fun e => absurd (k.ne e) (by decide)⟩
      · exact ⟨fun e => absurd (k.ne e) (by decide), fun e => absurd (k.ne e) (by decide)⟩)) (fun b1 wx h1 hc => serR p K (some b1) wx h1 (gv_chg hG hc (by unfold fpr; omega)) h2p))
  clear h hG
  go_enter Tryz.func133, Tryz.ntmps133
  go_wp2_with fail
  refine HX.out.mono ?_
  rintro e w1 ⟨v, rfl, hQ⟩
  have HQ := hidden hQ
  clear hQ
  go_wp2_with fail
  go_ret
  exact ⟨_, rfl, HQ.out⟩

end Go.Proofs.YtalmpmhnkilalaaGreatDoor

/-
  Package wire's reader: writes, rows, texts, matchers.
-/
namespace Go.Proofs.YtalmpmhnkilalaaGreatDoor
open Go.RowKit
set_option linter.unusedVariables false
set_option linter.unusedSimpArgs false

theorem flat_get {α : Type} {cells : α → List Value} {k : Nat} (hk : ∀ x, (cells x).length = k) : ∀ (xs : List α) (i : Nat) (x : α), xs[i]? = some x → ∀ j v, (cells x)[j]? = some v → (xs.flatMap cells)[i * k + j]? = some v
  | [], i, x, h => by simp at h
  | y :: r, 0, x, h => by
    intro j v hv
    simp at h
    subst h
    have hj : j < (cells y).length := (List.getElem?_eq_some_iff.1 hv).1
    rw [List.flatMap_cons, Nat.zero_mul, Nat.zero_add, List.getElem?_append_left hj]
    exact hv
  | y :: r, i + 1, x, h => by
    intro j v hv
    simp at h
    have ih := flat_get hk r i x h j v hv
    rw [List.flatMap_cons, List.getElem?_append_right (by rw [hk, Nat.add_mul]; omega), hk, show (i + 1) * k + j - k = i * k + j by rw [Nat.add_mul]; omega]
    exact ih
theorem es_owns {α : Type} {cells : α → List Value} {k : Nat} (hk : ∀ x, (cells x).length = k) {w : World} {B e : Nat} {ad : Option Addr} {n m c : Nat} {xs : List α} (h : w.ownsRow B e k (.slice ad n c) m (xs.flatMap cells)) (hm : xs.length = m) : Es w ad k (xs.map cells) := by
  intro h0
  have hx0 : xs ≠ [] := fun e => h0 (by rw [e]; rfl)
  have hpos : 0 < xs.length := List.length_pos_iff.2 hx0
  rcases h.2 with ⟨_, h1⟩ | ⟨g, cap, cur, e, _, hg, _⟩
  · omega
  · injection e with e1 e2 e3
    subst e1
    refine ⟨g, 0, rfl, (Array.getElem?_eq_some_iff.1 hg).1, fun i x hx j v hv => ?_⟩
    rw [List.getElem?_map] at hx
    cases hxi : xs[i]? with
    | none => rw [hxi] at hx; cases hx
    | some y =>
      rw [hxi] at hx
      simp at hx
      subst hx
      have := h.cells (g := g) rfl _ _ (flat_get hk xs i y hxi j v hv)
      rw [Addr.add_lit] at this
      simp only [Nat.zero_add] at this ⊢
      exact this
theorem all_areS : ∀ (l : List Ser), (∀ x ∈ l, x.S.length = x.sn) → l.all ((fun x : Se => decide (x.2.length ≠ 0)) ∘ prS) = l.all (fun x => decide (x.sn ≠ 0))
  | [], _ => rfl
  | y :: r, h => by
    rw [List.all_cons, List.all_cons, all_areS r (fun x hx => h x (by simp [hx]))]
    congr 1
    show decide (y.S.length ≠ 0) = _
    rw [h y (by simp)]
theorem areS_areW {l : List Ser} (h : ∀ x ∈ l, x.S.length = x.sn) : areS (l.map prS) = areW l := by
  unfold areS areW sumW
  have e1 : (l.map prS).map (fun x => x.2.length) = l.map (·.sn) := by
    rw [List.map_map]
    exact List.map_congr_left (fun x hx => h x hx)
  rw [e1, List.length_map, List.all_map, all_areS l h]
theorem bind_if {α : Type} (P : α → Bool) (r : Rdr α) (st : Option (List Int)) : st.bind (rIf P r) = (st.bind r).bind (fun q => if P q.1 then some q else none) := by cases st <;> rfl

set_option maxHeartbeats 1000000 in
theorem writesR (p K : Nat) (st : Option (List Int)) (w : World) (h : Rt w p K st) (hG : Gv w) (h2p : 2 ≤ p) :
    Calls Tryz.prog 99 #[.pointer (some ⟨p, 0, none⟩)] w (RQ w p K (st.bind rWrs) (SsO w.heap.size) (fun v => ∃ ad n c, v = .slice ad n c)) := by
  have HX := hidden (seriesR p K st w h hG h2p)
  have hby : ∀ b, st = some b → Byte b ∧ b.length ≤ 1048576 := fun b e => by subst e; exact h.byte
  have HE : Hid (st.bind rWrs = (st.bind rSers).bind (fun q => if areS q.1 then some q else none)) := hidden (bind_if areS rSers st)
  rw [HE.out]
  clear h hG HE
  cases ho : st.bind rSers with
  | none =>
    rw [ho] at HX
    clear ho hby
    go_enter Tryz.func99, Tryz.ntmps99
    go_wp2_with fail
    refine HX.out.mono ?_
    rintro e w1 ⟨v, rfl, hQ⟩
    obtain rfl := hQ.no rfl
    have HQ := hidden hQ
    clear hQ
    go_wp2_with fail
    refine (areWritesP none 0 0 [] w1 rfl (by omega) (fun h => absurd rfl h) (fun x hx => by cases hx)).mono ?_
    rintro e w2 ⟨rfl, b2⟩
    have HB2 := hidden b2
    clear b2
    go_wp2_with fail
    refine (mustR p K none (areW []) w2 (HQ.out.rt.later HB2.out)).mono ?_
    rintro e w3 ⟨rfl, hR3, hC3⟩
    rw [ite_self] at hR3
    have HR3 := hidden hR3
    have HC3 := hidden hC3
    clear hR3 hC3
    go_wp2_with fail
    go_ret
    exact ⟨_, rfl, HR3.out, (HQ.out.chg.trans (Chg.of_below (F := fpr p) HB2.out) (fun _ _ e => e)).trans HC3.out (fun _ _ e => e), fun x t h => (by cases h), fun _ => ⟨_, _, _, rfl⟩⟩
  | some q =>
    obtain ⟨l, t⟩ := q
    have HOK : Hid (okEs l) := hidden (by
      cases st with
      | none => cases ho
      | some b => exact (cod_sers.forth b l t (hby b rfl).1 (hby b rfl).2 ho).1)
    rw [ho] at HX
    clear ho hby
    go_enter Tryz.func99, Tryz.ntmps99
    go_wp2_with fail
    refine HX.out.mono ?_
    rintro e w1 ⟨v, rfl, hQ⟩
    obtain ⟨xs, rfl, ⟨ad, c, rfl⟩, o1, m1⟩ := hQ.yes _ _ rfl
    have HSL := hidden (fun x (hx : x ∈ xs) => (m1 x hx).2.1)
    have HSN : Hid (∀ x ∈ xs, x.sn ≤ 281474976710656) := hidden (fun x hx => by
      have h1 := (HOK.out.2 (prS x) (List.mem_map_of_mem hx)).2.2.1
      have h2 := HSL.out x hx
      have h3 : (prS x).2.length = x.S.length := rfl
      omega)
    have HES := hidden (es_owns (k := 2) (fun x => rfl) o1 rfl)
    have HN9 : Hid (xs.length ≤ 9223372036854775807) := hidden (by
      obtain ⟨_, _, e, _, _, h1, h2⟩ := owns_formS o1
      injection e with e1 e2 e3
      subst e3
      unfold maxLen at h2
      omega)
    have HQ := hidden hQ
    obtain ⟨N, hN⟩ : ∃ N, xs.length = N := ⟨_, rfl⟩
    have HNN := hidden hN
    rw [hN] at HN9 ⊢
    have hn9 := HN9.out
    clear hQ o1 m1 hN
    go_wp2_with fail
    refine (areWritesP ad N c xs w1 HNN.out hn9 HES.out HSN.out).mono ?_
    rintro e w2 ⟨rfl, b2⟩
    have HB2 := hidden b2
    have HAE := hidden (areS_areW HSL.out)
    clear b2
    go_wp2_with fail
    refine (mustR p K (some t) (areW xs) w2 (HQ.out.rt.later HB2.out)).mono ?_
    rintro e w3 ⟨rfl, hR3, hC3⟩
    have HR3 := hidden hR3
    have HC3 := hidden hC3
    clear hR3 hC3
    go_wp2_with fail
    go_ret
    have hCC := (HQ.out.chg.trans (Chg.of_below (F := fpr p) HB2.out) (fun _ _ e => e)).trans HC3.out (fun _ _ e => e)
    have e1 : (some (xs.map prS, t)).bind (fun q => if areS q.1 then some q else none) = if areW xs then some (xs.map prS, t) else none := by
      show (if areS (xs.map prS) then _ else _) = _
      rw [HAE.out]
    rw [e1]
    cases ha : areW xs with
    | true =>
      have hR := HR3.out
      rw [ha] at hR
      refine ⟨_, rfl, hR, hCC, fun x t h => ?_, fun h => (by cases h)⟩
      injection h with h
      injection h with h1 h2
      subst h1
      obtain ⟨ys, e2, ⟨ad2, c2, f2⟩, o2, m2⟩ := HQ.out.yes _ _ rfl
      injection f2 with f2 f2' f2''
      subst f2 f2''
      have hpp := (HQ.out.rt.later HB2.out).blk
      have o3 := (Chg.of_below (F := fpr p) HB2.out).owns o2 (fun g hg e => ?_)
      · refine ⟨ys, e2, ⟨ad, c, by rw [← f2']; rw [HNN.out]; rfl⟩, ?_, fun x hx => ?_⟩
        · have hl : ys.length = N := by rw [← f2']; exact HNN.out
          rw [hl, HNN.out] at o3
          rw [hl]
          refine HC3.out.owns o3 (fun g hg e => ?_)
          obtain ⟨u, v, hB⟩ := hpp
          unfold fpr at e
          subst e
          exact absurd ((ty_owns o3 hg).ne (ty_blk hB)) (by decide)
        · refine ((m2 x hx).chg (Chg.of_below (F := fun _ => False) HB2.out) (fun _ e => e.elim)).chg HC3.out (fun i hi => ?_)
          obtain ⟨u, v, hB⟩ := hpp
          unfold fpr at hi
          subst hi
          exact ⟨fun e => absurd ((ty_blk hB).ne e) (by decide), fun e => absurd ((ty_blk hB).ne e) (by decide)⟩
      · obtain ⟨u, v, hB⟩ := HQ.out.rt.blk
        unfold fpr at e
        subst e
        exact absurd ((ty_owns o2 hg).ne (ty_blk hB)) (by decide)
    | false =>
      have hR := HR3.out
      rw [ha] at hR
      exact ⟨_, rfl, hR, hCC, fun x t h => (by cases h), fun _ => ⟨_, _, _, rfl⟩⟩

/-! ### rows -/
/-- A row that was read. -/
def RwO (B : Nat) (x : Ror) (w : World) : Prop := x.L.length = x.ln ∧ x.n ≤ 18446744073709551615 ∧ w.ownsRow B 47 2 (.slice x.la x.ln x.lc) x.ln (x.L.flatMap La.cells)
def prR (x : Ror) : Rx := (x.L, x.n)
def z59 : List Value := [.slice none 0 0, .int .u64 0]
theorem info59z : (Tryz.prog.info? 59).map (fun i => i.zero.map (·.cells)) = some (some z59.toArray) := by kernel_rfl
theorem size59 : (Tryz.prog.info? 59).map (·.size) = some 2 := by kernel_rfl
theorem res_row (tmps : Array Value) (w : World) (g : Nat) (a b : Value) (hp : tmps.getD 2 undef = .pointer (some ⟨g, 0, none⟩)) (h0 : w.cell? ⟨g, 0, none⟩ = some a) (h1 : w.cell? ⟨g, 1, none⟩ = some b) :
    (results Tryz.f169 tmps).run Tryz.prog w = .ok (.agg #[a, b]) w := by
  have h : Tryz.f169.results = #[.cell 2 59] := by kernel_rfl
  have hp' : tmps[2]?.getD undef = .pointer (some ⟨g, 0, none⟩) := by simpa using hp
  simp [results, h, hp', asAddr, loadVar, h0, h1, go_sem]
theorem builtRw (a b : Value) (x : Option Addr) (n c : Nat) (y : Int) (ha : a = .slice x n c) (hb : b = .int .u64 y) : Tryz.prog.built 59 [(0, a), (1, b)] = some #[.slice x n c, .int .u64 y] := by subst ha hb; kernel_rfl
theorem pairO_row (st : Option (List Int)) : st.bind rRow = pairO (st.bind rLabs) (rNum U64) := by
  unfold rRow
  rw [bind_pair]
  rfl

set_option maxRecDepth 100000 in
set_option maxHeartbeats 4000000 in
theorem rowR (p K : Nat) (st : Option (List Int)) (w : World) (h : Rt w p K st) :
    Calls Tryz.prog 169 #[.pointer (some ⟨p, 0, none⟩)] w (RQ w p K (st.bind rRow) (fun y v w' => ∃ x, prR x = y ∧ v = .agg #[.slice x.la x.ln x.lc, .int .u64 (x.n : Int)] ∧ RwO w.heap.size x w') (fun v => ∃ x : Ror, v = .agg #[.slice x.la x.ln x.lc, .int .u64 (x.n : Int)])) := by
  have HX := hidden h
  have hpw := h.lt
  clear h
  go_enter Tryz.func169, Tryz.ntmps169
  go_wp2_with (refine wpList_alloc_blk rfl 59 rfl 2 rfl z59 info59z ?_; intro w1 B1 bl1 hz1; have HB1 := hidden B1; have X1 := hidden (HX.out.later bl1); have HZ1 := hidden hz1; have C1 := hidden (Chg.of_below (F := fpr p) bl1); clear B1 bl1 hz1)
  refine (labelsR p K st w1 X1.out).mono ?_
  rintro e w2 ⟨v1, rfl, hQ1⟩
  obtain ⟨la, ln, lc, rfl⟩ : ∃ la ln lc, v1 = .slice la ln lc := by
    cases ho : st.bind rLabs with
    | none => exact ⟨_, _, _, hQ1.no ho⟩
    | some q =>
      obtain ⟨ad, c, e⟩ := (hQ1.yes q.1 q.2 ho).slc
      exact ⟨_, _, _, e⟩
  have hnr : ¬ fpr p w.heap.size := by unfold fpr; omega
  have HB2 := hidden (hQ1.chg.blk HB1.out hnr)
  have HQ1 := hidden hQ1
  clear hQ1
  go_wp2_with fail
  refine (numberR p K _ U64 w2 HQ1.out.rt (by unfold U64; omega)).mono ?_
  rintro e w3 ⟨v2, rfl, hQ2⟩
  obtain ⟨N, rfl, hN⟩ : ∃ N : Nat, v2 = .int .u64 (N : Int) ∧ N ≤ U64 := by
    cases ho : ((st.bind rLabs).map (·.2)).bind (rNum U64) with
    | none => exact ⟨0, hQ2.no ho, by omega⟩
    | some q => exact ⟨q.1, hQ2.yes q.1 q.2 ho, rNum_le ho⟩
  have HB3 := hidden (hQ2.chg.blk HB2.out hnr)
  have HP2 := hidden hQ2.chg
  have HQ2 := hidden (HQ1.out.two hQ2)
  have HPP := hidden HQ1.out.rt.blk
  have HNN := hidden hN
  clear hQ2 hN
  go_wp2_with (first
    | (refine wpList_build_to rfl 59 #[(0, .tmp 6), (1, .tmp 8)] rfl [(0, .slice la ln lc), (1, .int .u64 (N : Int))] #[.slice la ln lc, .int .u64 (N : Int)] rfl (builtRw _ _ _ _ _ _ rfl rfl) ?_)
    | (refine wpList_store_blk rfl 59 (.tmp 2) (.tmp 9) rfl rfl w.heap.size (l := [.slice la ln lc, .int .u64 (N : Int)]) HB3.out rfl rfl rfl size59 (by intro v hv; simp at hv; rcases hv with rfl | rfl <;> rfl) ?_))
  have hN := blk_stored (l := [.slice la ln lc, .int .u64 (N : Int)]) HB3.out rfl
  refine bodyPost_ret (res_row _ _ w.heap.size _ _ rfl (hN.cell 0) (hN.cell 1)) rfl ?_
  have hcs := Chg.sets w.heap.size [.slice la ln lc, .int .u64 (N : Int)] 0 w3
  rw [pairO_row]
  refine ⟨_, rfl, HQ2.out.1.chg hcs (fun e => by omega) (fun e => by have := HX.out.klt; omega), (C1.out.trans HQ2.out.2.1 (fun _ _ e => e)).trans hcs (fun i hi e => by omega), fun y t h => ?_, fun _ => ⟨⟨la, ln, lc, [], N⟩, rfl⟩⟩
  obtain ⟨⟨xs, e1, ⟨ad1, c1, f1⟩, o1, _⟩, f2⟩ := HQ2.out.2.2 y.1 y.2 t h
  injection f1 with f1 f1' f1''
  injection f2 with f2 f2'
  subst f1 f1' f1''
  have e1 : xs = y.1 := by rw [← e1]; simp
  subst e1
  have e2 : y.2 = N := by omega
  have h1 := HZ1.out
  have hty : Ty w3 w.heap.size 59 := ty_blk HB3.out
  refine ⟨⟨la, y.1.length, lc, y.1, N⟩, ?_, rfl, rfl, HNN.out, ?_⟩
  · show (y.1, N) = y
    rw [← e2]
  · have o1' := HP2.out.owns o1 (fun g hg e => by obtain ⟨u, v, hB⟩ := HPP.out; unfold fpr at e; subst e; exact absurd ((ty_owns o1 hg).ne (ty_blk hB)) (by decide))
    have o1'' := hcs.owns o1' (fun g hg e => by subst e; exact absurd ((ty_owns o1' hg).ne hty) (by decide))
    exact owns_base o1'' (fun g hg => by have := (o1''.lt g hg).1; omega)
/-- Rows that were read. -/
abbrev RsO := Lst 59 2 Ror.cells prR RwO
theorem rowsR (p K : Nat) (st : Option (List Int)) (w : World) (h : Rt w p K st) :
    Calls Tryz.prog 137 #[.pointer (some ⟨p, 0, none⟩)] w (RQ w p K (st.bind rRows) (RsO w.heap.size) (fun v => v = .slice none 0 0)) := by
  have HX := hidden (takeEachR 169 (.pointer (some ⟨p, 0, none⟩)) rRow prR RwO p K st 18446744073709551615 w (fun a w => by kernel_rfl) h (by omega) (cod_lt cod_row (fun x => by unfold enR; simp only [List.length_append]; have := enc_pos x.2; omega)) (fun _ _ _ _ hB h => ⟨h.1, h.2.1, owns_base h.2.2 (fun g hg => by have := (h.2.2.lt g hg).1; omega)⟩) (fun _ _ _ _ _ h hc hF => ⟨h.1, h.2.1, hc.owns h.2.2 (fun g hg hf => by
      rcases hF g hf with k | k
      · exact absurd (k.ne (ty_owns h.2.2 hg)) (by decide)
      · exact absurd (k.ne (ty_owns h.2.2 hg)) (by decide))⟩) (fun b1 wx h1 hc => rowR p K (some b1) wx h1))
  clear h
  go_enter Tryz.func137, Tryz.ntmps137
  go_wp2_with fail
  refine HX.out.mono ?_
  rintro e w1 ⟨v, rfl, hQ⟩
  have HQ := hidden hQ
  clear hQ
  go_wp2_with fail
  go_ret
  exact ⟨_, rfl, HQ.out⟩
/-- Texts that were read. -/
abbrev TsO := Lst 9 1 Te.cells (fun x : Te => x.t) (fun _ _ _ => True)
theorem textsR (p K : Nat) (st : Option (List Int)) (w : World) (h : Rt w p K st) :
    Calls Tryz.prog 145 #[.pointer (some ⟨p, 0, none⟩)] w (RQ w p K (st.bind rTxts) (TsO w.heap.size) (fun v => v = .slice none 0 0)) := by
  have HX := hidden (takeEachT 91 (.pointer (some ⟨p, 0, none⟩)) (rTxt 64) (fun x : Te => x.t) (fun _ _ _ => True) p K st 18446744073709551615 w (fun a w => by kernel_rfl) h (by omega) (cod_lt (cod_txt 64 (by omega)) (fun x => by unfold encT; simp only [List.length_append]; have := enc_pos x.size; omega)) (fun _ _ _ _ _ _ => trivial) (fun _ _ _ _ _ _ _ _ => trivial) (fun b1 wx h1 _ => (textR p K (some b1) wx h1).mono (by
      rintro e w' ⟨v, rfl, hQ⟩
      exact ⟨v, rfl, hQ.rt, hQ.chg, fun x t h => ⟨⟨x⟩, rfl, hQ.yes x t h, trivial⟩, fun h => ⟨⟨_⟩, hQ.no h⟩⟩)))
  clear h
  go_enter Tryz.func145, Tryz.ntmps145
  go_wp2_with fail
  refine HX.out.mono ?_
  rintro e w1 ⟨v, rfl, hQ⟩
  have HQ := hidden hQ
  clear hQ
  go_wp2_with fail
  go_ret
  exact ⟨_, rfl, HQ.out⟩

/-! ### matchers -/
def z52 : List Value := [.string ByteArray.empty, .int .i64 0, .string ByteArray.empty]
theorem info52z : (Tryz.prog.info? 52).map (fun i => i.zero.map (·.cells)) = some (some z52.toArray) := by kernel_rfl
theorem size52 : (Tryz.prog.info? 52).map (·.size) = some 3 := by kernel_rfl
theorem res_mat (tmps : Array Value) (w : World) (g : Nat) (a b c : Value) (hp : tmps.getD 2 undef = .pointer (some ⟨g, 0, none⟩)) (h0 : w.cell? ⟨g, 0, none⟩ = some a) (h1 : w.cell? ⟨g, 1, none⟩ = some b) (h2 : w.cell? ⟨g, 2, none⟩ = some c) :
    (results Tryz.f156 tmps).run Tryz.prog w = .ok (.agg #[a, b, c]) w := by
  have h : Tryz.f156.results = #[.cell 2 52] := by kernel_rfl
  have hp' : tmps[2]?.getD undef = .pointer (some ⟨g, 0, none⟩) := by simpa using hp
  simp [results, h, hp', asAddr, loadVar, h0, h1, h2, go_sem]
theorem built52 (a b c : Value) (x y : ByteArray) (z : Int) (ha : a = .string x) (hb : b = .int .i64 z) (hc : c = .string y) : Tryz.prog.built 52 [(0, a), (1, b), (2, c)] = some #[.string x, .int .i64 z, .string y] := by subst ha hb hc; kernel_rfl
theorem pairO_mat (st : Option (List Int)) : st.bind rMat = (pairO (pairO (st.bind (rTxt 64)) (rIf isOpB rOct)) (rTxt 64)).map (fun q => (Ma.mk q.1.1.1 q.1.1.2 q.1.2, q.2)) := by
  unfold rMat
  rw [bind_map, bind_pair, bind_pair]
  rfl

set_option maxRecDepth 100000 in
set_option maxHeartbeats 4000000 in
theorem matcherR (p K : Nat) (st : Option (List Int)) (w : World) (h : Rt w p K st) :
    Calls Tryz.prog 156 #[.pointer (some ⟨p, 0, none⟩)] w (RQ w p K (st.bind rMat) (fun y v w' => ∃ x, id x = y ∧ v = .agg #[.string x.n, .int .i64 x.op, .string x.t] ∧ True) (fun v => ∃ x : Ma, v = .agg #[.string x.n, .int .i64 x.op, .string x.t])) := by
  have HX := hidden h
  have hpw := h.lt
  clear h
  go_enter Tryz.func156, Tryz.ntmps156
  go_wp2_with (refine wpList_alloc_blk rfl 52 rfl 2 rfl z52 info52z ?_; intro w1 B1 bl1 hz1; have HB1 := hidden B1; have X1 := hidden (HX.out.later bl1); have C1 := hidden (Chg.of_below (F := fpr p) bl1); clear B1 bl1 hz1)
  refine (textR p K st w1 X1.out).mono ?_
  rintro e w2 ⟨v1, rfl, hQ1⟩
  obtain ⟨d1, rfl⟩ := hQ1.str
  have hnr : ¬ fpr p w.heap.size := by unfold fpr; omega
  have HB2 := hidden (hQ1.chg.blk HB1.out hnr)
  have HBY : Hid (∀ b, (st.bind (rTxt 64)).map (·.2) = some b → Byte b) := hidden (fun b e => by have := hQ1.rt; rw [e] at this; exact this.byte.1)
  have HQ1 := hidden hQ1
  clear hQ1
  go_wp2_with fail
  refine (octetR p K _ w2 HQ1.out.rt).mono ?_
  rintro e w3 ⟨v2, rfl, hQ2⟩
  obtain ⟨op, rfl, h0, h1, hop⟩ : ∃ op : Int, v2 = .int .u8 op ∧ 0 ≤ op ∧ op ≤ 255 ∧ ((st.bind (rTxt 64)).map (·.2)).bind (rIf isOpB rOct) = if isOpB op then (((st.bind (rTxt 64)).map (·.2)).bind rOct) else none := by
    rw [bind_if]
    cases ho : ((st.bind (rTxt 64)).map (·.2)).bind rOct with
    | none => exact ⟨0, hQ2.no ho, by omega, by omega, by simp⟩
    | some q =>
      refine ⟨q.1, hQ2.yes q.1 q.2 ho, ?_⟩
      cases hb : (st.bind (rTxt 64)).map (·.2) with
      | none => rw [hb] at ho; cases ho
      | some b =>
        rw [hb] at ho
        have ho : rOct b = some q := ho
        cases b with
        | nil => cases ho
        | cons c t =>
          injection ho with ho
          subst ho
          have := HBY.out _ hb c (by simp)
          exact ⟨this.1, by omega, rfl⟩
  have HB3 := hidden (hQ2.chg.blk HB2.out hnr)
  have HQ2 := hidden hQ2
  have HOP := hidden hop
  clear hQ2 hop
  go_wp2_with fail
  refine (isOpP op w3 (by omega) (by omega)).mono ?_
  rintro e w4 ⟨rfl, b4⟩
  have HB4 := hidden (HB3.out.later b4)
  have HBL := hidden b4
  clear b4
  go_wp2_with fail
  refine (mustR p K _ (isOpB op) w4 (HQ2.out.rt.later HBL.out)).mono ?_
  rintro e w5 ⟨rfl, hR5, hC5⟩
  have HB5 := hidden (hC5.blk HB4.out hnr)
  have HQ5 : Hid (RQ' w2 p K (((st.bind (rTxt 64)).map (·.2)).bind (rIf isOpB rOct)) (fun x v _ => v = .int .i64 x) (fun v => True) (.int .i64 op) w5) := hidden (by
    rw [HOP.out]
    refine ⟨?_, (HQ2.out.chg.trans (Chg.of_below (F := fpr p) HBL.out) (fun _ _ e => e)).trans hC5 (fun _ _ e => e), fun x t h => ?_, fun _ => trivial⟩
    · cases ha : isOpB op with
      | true => rw [ha] at hR5; exact hR5
      | false => rw [ha] at hR5; exact hR5
    · cases ha : isOpB op with
      | false => rw [ha] at h; cases h
      | true =>
        rw [ha] at h
        have := HQ2.out.yes x t h
        injection this with _ this
        rw [this])
  clear hR5 hC5
  go_wp2_with fail
  refine (textR p K _ w5 (by have := (HQ1.out.two HQ5.out).1; exact this)).mono ?_
  rintro e w6 ⟨v3, rfl, hQ6⟩
  obtain ⟨d2, rfl⟩ := hQ6.str
  have HB6 := hidden (hQ6.chg.blk HB5.out hnr)
  have HT2 := HQ1.out.two HQ5.out
  have HQ7 : RQ' w1 p K (pairO (st.bind (rTxt 64)) (rIf isOpB rOct)) (fun x v w => x.1 = d1 ∧ x.2 = op) (fun _ => True) (.int .i64 op) w5 := ⟨HT2.1, HT2.2.1, fun x t h => by
    obtain ⟨a, b⟩ := HT2.2.2 x.1 x.2 t h
    injection a with a
    injection b with _ b
    exact ⟨a.symm, b.symm⟩, fun _ => trivial⟩
  have HQ8 := hidden (HQ7.two hQ6)
  clear hQ6 HT2 HQ7
  go_wp2_with (first
    | (refine wpList_build_to rfl 52 #[(0, .tmp 14), (1, .tmp 15), (2, .tmp 17)] rfl [(0, .string d1), (1, .int .i64 op), (2, .string d2)] #[.string d1, .int .i64 op, .string d2] rfl (built52 _ _ _ _ _ _ rfl rfl rfl) ?_)
    | (refine wpList_store_blk rfl 52 (.tmp 2) (.tmp 18) rfl rfl w.heap.size (l := [.string d1, .int .i64 op, .string d2]) HB6.out rfl rfl rfl size52 (by intro v hv; simp at hv; rcases hv with rfl | rfl | rfl <;> rfl) ?_))
  have hN := blk_stored (l := [.string d1, .int .i64 op, .string d2]) HB6.out rfl
  refine bodyPost_ret (res_mat _ _ w.heap.size _ _ _ rfl (hN.cell 0) (hN.cell 1) (hN.cell 2)) rfl ?_
  have hcs := Chg.sets w.heap.size [.string d1, .int .i64 op, .string d2] 0 w6
  rw [pairO_mat]
  refine ⟨_, rfl, ?_, (C1.out.trans HQ8.out.2.1 (fun _ _ e => e)).trans hcs (fun i hi e => by omega), fun y t h => ?_, fun _ => ⟨⟨d1, op, d2⟩, rfl⟩⟩
  · rw [map_snd _ (fun q : (ByteArray × Int) × ByteArray => Ma.mk q.1.1 q.1.2 q.2)]
    exact HQ8.out.1.chg hcs (fun e => by omega) (fun e => by have := HX.out.klt; omega)
  · obtain ⟨x, hx, rfl⟩ := map_yes (f := fun q : (ByteArray × Int) × ByteArray => Ma.mk q.1.1 q.1.2 q.2) h
    obtain ⟨⟨e1, e3⟩, e2⟩ := HQ8.out.2.2 x.1 x.2 t hx
    injection e2 with e2
    exact ⟨⟨d1, op, d2⟩, by show Ma.mk _ _ _ = Ma.mk _ _ _; rw [e1, e2, e3], rfl, trivial⟩
/-- Matchers that were read. -/
abbrev MsO := Lst 52 3 Ma.cells (id : Ma → Ma) (fun _ _ _ => True)
theorem matchersR (p K : Nat) (st : Option (List Int)) (w : World) (h : Rt w p K st) :
    Calls Tryz.prog 103 #[.pointer (some ⟨p, 0, none⟩)] w (RQ w p K (st.bind rMats) (MsO w.heap.size) (fun v => v = .slice none 0 0)) := by
  have HX := hidden (takeEachM 156 (.pointer (some ⟨p, 0, none⟩)) rMat id (fun _ _ _ => True) p K st 8 w (fun a w => by kernel_rfl) h (by omega) (cod_lt cod_mat (fun x => by unfold enM encT; simp only [List.length_append]; have := enc_pos x.n.size; omega)) (fun _ _ _ _ _ _ => trivial) (fun _ _ _ _ _ _ _ _ => trivial) (fun b1 wx h1 _ => matcherR p K (some b1) wx h1))
  clear h
  go_enter Tryz.func103, Tryz.ntmps103
  go_wp2_with fail
  refine HX.out.mono ?_
  rintro e w1 ⟨v, rfl, hQ⟩
  have HQ := hidden hQ
  clear hQ
  go_wp2_with fail
  go_ret
  exact ⟨_, rfl, HQ.out⟩

end Go.Proofs.YtalmpmhnkilalaaGreatDoor
