import Derived.Test.YtcgjmioncbihhaaDoorLwA
import Derived.Laws.StructEq
import Derived.BigQuiet
/-
  The statements' own shown.
-/
namespace Go.Proofs.YtcgjmioncbihhaaDoor
open Go.RowKit
set_option linter.unusedVariables false
set_option linter.unusedSimpArgs false

set_option maxRecDepth 100000 in
set_option maxHeartbeats 16000000 in
theorem shownP (w : World) (hG : Gv w) (hlo : 2 ≤ w.heap.size) :
    Calls Tryd.prog 6 #[] w fun e w' => e = .returned (.bool true) ∧ Below w.heap.size w w' := by
  have HG := hidden hG
  clear hG
  obtain ⟨oA, oB, oC, oD, oE⟩ := okA
  have HO := hidden (⟨oA, oB, oC, oD, oE⟩ : OkS sA ∧ OkS sB ∧ OkS sC ∧ OkS sD ∧ OkS sE)
  clear oA oB oC oD oE
  go_enter Tryd.func6, Tryd.ntmps6
  go_wp2_with fail
  refine (cnew_b w w 128 (by unfold I64; omega) hlo (Below.refl _ _)).mono ?_
  rintro e w1 ⟨c, p, rfl, h1, _⟩
  have H1 := hidden h1
  clear h1
  go_wp2_with fail
  refine (capp_b w w1 c p 128 ([]) sA H1.out HG.out HO.out.1 (by simp)).mono ?_
  rintro e w2 ⟨rfl, h2⟩
  rw [if_pos enc1] at h2
  rw [decide_eq_true enc1]
  have H2 := hidden h2
  clear h2
  go_wp2_with fail
  refine (capp_b w w2 c p 128 ([] ++ [sA]) sB H2.out HG.out HO.out.2.1 (by simp)).mono ?_
  rintro e w3 ⟨rfl, h3⟩
  rw [if_pos enc2] at h3
  rw [decide_eq_true enc2]
  have H3 := hidden h3
  clear h3
  go_wp2_with fail
  refine (capp_b w w3 c p 128 ([] ++ [sA] ++ [sB]) sC H3.out HG.out HO.out.2.2.1 (by simp)).mono ?_
  rintro e w4 ⟨rfl, h4⟩
  rw [if_pos enc3] at h4
  rw [decide_eq_true enc3]
  have H4 := hidden h4
  clear h4
  go_wp2_with fail
  refine (capp_b w w4 c p 128 ([] ++ [sA] ++ [sB] ++ [sC]) sD H4.out HG.out HO.out.2.2.2.1 (by simp)).mono ?_
  rintro e w5 ⟨rfl, h5⟩
  rw [if_pos enc4] at h5
  rw [decide_eq_true enc4]
  have H5 := hidden h5
  clear h5
  have HL4 : Hid (([] ++ [sA] ++ [sB] ++ [sC] ++ [sD]).length = 4) := hidden rfl
  go_wp2_with fail
  refine (cbytes_b w w5 c p 128 ([] ++ [sA] ++ [sB] ++ [sC] ++ [sD]) H5.out (by simp)).mono ?_
  rw [enc7]
  rintro e w6 ⟨ad6, c6, rfl, o6, b6⟩
  have O6 := hidden o6
  have H6 := hidden (H5.out.later b6)
  have hb6 : Byte shB := by intro x hx; simp [shB] at hx; omega
  have HCAP := hidden (owns_cap o6)
  clear o6 b6
  go_wp2_with fail
  refine (readP w6 ad6 shB.length c6 shB (sl_of_owns O6.out hb6) (HG.out.later H6.out.bel) (by decide) HCAP.out.2.1 (by have := HCAP.out.2.2.1; unfold maxLen at this; omega) HCAP.out.2.2.2 (by have := H6.out.bel.size; omega)).mono ?_
  rintro e w7 ⟨ad7, c7, l7, ec7, rfl, o7, k7, b7, h7⟩
  have hl7 : l7 = [sA, sB, sC, sD] ∧ ec7 = 0 := by
    rcases h7 with ⟨h, e⟩ | ⟨h, _⟩
    · rw [rd4] at h; exact ⟨(Option.some.inj h).symm, e⟩
    · rw [rd4] at h; exact absurd h (by simp)
  obtain ⟨rfl, rfl⟩ := hl7
  have O7 := hidden o7
  have H7 := hidden (H6.out.later b7)
  have K7 := hidden k7
  clear o7 b7 k7 h7
  simp only [List.length_cons, List.length_nil] at O7 ⊢
  go_wp2_with fail
  refine (cnew_b w7 w7 17 (by unfold I64; omega) (by have := H7.out.bel.size; omega) (Below.refl _ _)).mono ?_
  rintro e w8 ⟨f, q, rfl, h8, _⟩
  have H8 := hidden h8
  have HG7 := hidden (HG.out.later H7.out.bel)
  clear h8
  go_wp2_with fail
  refine (capp_b w7 w8 f q 17 [] sE H8.out HG7.out HO.out.2.2.2.2 (by simp)).mono ?_
  rintro e w9 ⟨rfl, h9⟩
  rw [if_pos enc5] at h9
  rw [decide_eq_true enc5]
  have H9 := hidden h9
  clear h9
  go_wp2_with fail
  refine (capp_b w7 w9 f q 17 ([] ++ [sE]) sE H9.out HG7.out HO.out.2.2.2.2 (by simp)).mono ?_
  rintro e w10 ⟨rfl, h10⟩
  rw [if_neg enc6] at h10
  rw [decide_eq_false enc6]
  have H10 := hidden h10
  clear h10
  have C10 := hidden (H7.out.later H10.out.bel)
  have O10 := hidden (owl O7.out H10.out.bel)
  go_wp2_with fail
  have bl0 : Below w10.heap.size w10 (w10.alloc (.cells #[.int .u8 0] 5)) := (Below.refl _ _).alloc (Nat.le_refl _) _
  have HZ := hidden (sl_lit w10 [0] (by intro x hx; simp at hx; omega) 5 (0, 0) 1 rfl #[.int .u8 0] rfl _ rfl)
  refine (readP _ (some ⟨w10.heap.size, 0, none⟩) 1 1 [0] HZ.out ((HG7.out.later H10.out.bel).later bl0) (by omega) (by omega) (by omega) (by intro e; cases e) (by have := H10.out.bel.size; have := H7.out.bel.size; simp; omega)).mono ?_
  rintro e w11 ⟨ad11, c11, l11, ec11, rfl, o11, k11, b11, h11⟩
  have hl11 : l11 = [] ∧ ec11 = 100 := by
    rcases h11 with ⟨h, e⟩ | ⟨_, h⟩
    · rw [rd0] at h; exact absurd h (by simp)
    · exact h
  obtain ⟨rfl, rfl⟩ := hl11
  have B11 := hidden (bl0.trans (b11.mono bl0.size))
  have C11 := hidden (C10.out.later B11.out)
  have O11 := hidden (owl O10.out B11.out)
  have F11 := hidden (H10.out.later B11.out)
  clear o11 k11 b11 h11 bl0
  go_wp2_with fail
  refine (clen_b w w11 c p 128 ([] ++ [sA] ++ [sB] ++ [sC] ++ [sD]) C11.out).mono ?_
  rintro e w12 ⟨rfl, rfl⟩
  rw [HL4.out]
  go_wp2_with fail
  refine (cbytes_b w w12 c p 128 ([] ++ [sA] ++ [sB] ++ [sC] ++ [sD]) C11.out (by simp)).mono ?_
  rw [enc7]
  rintro e w13 ⟨ad13, c13, rfl, o13, b13⟩
  have hstr : (convert 38 9 (.slice ad13 shB.length c13)).run Tryd.prog w13 = .ok (.string (strOfNums shB)) w13 := run_string_of (P := Tryd.prog) 38 5 9 Tryd.underlying38 Tryd.underlying5 Tryd.underlying9 (cap := c13) (sl_of_owns o13 hb6)
  have hE : strOfNums shB = { data := #[4, 0, 0, 0, 0, 0, 0, 3, 232, 0, 0, 0, 0, 0, 0, 0, 5, 158, 7, 240, 32] } := by rfl
  rw [hE] at hstr
  have O13 := owl O11.out b13
  have F13 := hidden (F11.out.later b13)
  have B13 := hidden ((C11.out.later b13).bel)
  obtain ⟨b7, o7, x7, e7, hb7, hx7, _, d0, d1, _⟩ := (ss_of_owns O13 K7.out).get (i := 3) (by simp)
  simp at hx7
  subst hx7 e7
  have d0' : w13.cell? ⟨b7, o7 + 6, none⟩ = some (.int .i64 1180) := d0
  have d1' : w13.cell? ⟨b7, o7 + 6 + 1, none⟩ = some (.int .u64 4) := d1
  clear d0 d1 o13 b13 O13
  generalize shB.length = nn at *
  go_wp2_with (first
    | (refine wpList_build_to rfl 32 #[(0, .const (.int .i64 1180)), (1, .const (.int .u64 4))] rfl [(0, .int .i64 1180), (1, .int .u64 4)] #[.int .i64 1180, .int .u64 4] rfl (built32 _ _ _ _ rfl rfl) ?_)
    | fail)
  refine (clen_b w7 w13 f q 17 ([] ++ [sE]) F13.out).mono ?_
  rintro e w14 ⟨rfl, rfl⟩
  rw [show (([] ++ [sE] : List Sm).length) = 1 from rfl]
  go_wp2
  go_ret
  exact ⟨rfl, B13.out⟩

end Go.Proofs.YtcgjmioncbihhaaDoor

/-
  ChunkBack: what was appended is read as it was.
-/
namespace Go.Proofs.YtcgjmioncbihhaaDoor
open Go.RowKit
set_option linter.unusedVariables false
set_option linter.unusedSimpArgs false

/-- What is handed in: samples, somewhere below. -/
structure In (w : World) (ad : Option Addr) (l : List Sm) : Prop where
  ss : Ss w ad l
theorem Ss.bel {w w' : World} {ad : Option Addr} {l : List Sm} {b : Nat} (h : Ss w ad l) (hb : Below b w w') (hlt : ∀ x, ad = some x → l ≠ [] → x.block < b) : Ss w' ad l := by
  refine ⟨h.sz, fun h0 => ?_⟩
  obtain ⟨g, off, e, hg, hc⟩ := h.at' h0
  have hgb : g < b := hlt _ e h0
  refine ⟨g, off, e, Nat.lt_of_lt_of_le hg hb.size, fun i x hx => ?_⟩
  rw [hb.cell (p := ⟨g, off + i * 2, none⟩) hgb, hb.cell (p := ⟨g, off + i * 2 + 1, none⟩) hgb]
  exact hc i x hx
theorem ss_take {w : World} {ad : Option Addr} {l : List Sm} (h : Ss w ad l) (k : Nat) : Ss w ad (l.take k) := ⟨fun x hx => h.sz x (List.mem_of_mem_take hx), fun h0 => by
  obtain ⟨b, off, e, hb, hc⟩ := h.at' (by intro e; rw [e] at h0; simp at h0)
  refine ⟨b, off, e, hb, fun i x hx => hc i x ?_⟩
  rw [List.getElem?_take] at hx
  split at hx
  · exact hx
  · cases hx⟩

/-- The sizes that are kept. -/
def szL (l : List Sm) (i : Nat) : List Int := (List.range (i + 1)).map (fun k => ((encC (l.take k)).length : Int))
def cI (l : List Int) : List Value := l.map (fun x => .int .i64 x)
theorem szL_len (l : List Sm) (i : Nat) : (szL l i).length = i + 1 := by simp [szL]
theorem szL_next (l : List Sm) (i : Nat) : szL l (i + 1) = szL l i ++ [((encC (l.take (i + 1))).length : Int)] := by
  unfold szL
  rw [List.range_succ, List.map_append]
  rfl
theorem szL_at (l : List Sm) (i k : Nat) (h : k ≤ i) : (cI (szL l i))[k]? = some (.int .i64 ((encC (l.take k)).length : Int)) := by
  have hk : k < i + 1 := by omega
  simp [cI, szL, hk]
theorem info3 : (Tryd.prog.info? 3).map (fun i => (i.zero, i.size, i.bytes)) = some (some (.int .i64 0), 1, 8) := by kernel_rfl

end Go.Proofs.YtcgjmioncbihhaaDoor

/-
  ChunkBack: a chunk and a list of sizes beside it.
-/
namespace Go.Proofs.YtcgjmioncbihhaaDoor
open Go.RowKit
set_option linter.unusedVariables false
set_option linter.unusedSimpArgs false

/-- What the first loop holds: a chunk, all new since w, and the sizes so far. -/
structure B1 (w wx : World) (c p : Nat) (v : Value) (l : List Sm) (i j : Nat) : Prop where
  cs : CB w wx c p 1048576 (l.take i)
  own : wx.ownsRow w.heap.size 3 1 v (j + 1) (cI (szL l j))
theorem B1.later {w wx wy : World} {c p : Nat} {v : Value} {l : List Sm} {i j : Nat} (h : B1 w wx c p v l i j) (hb : Below wx.heap.size wx wy) : B1 w wy c p v l i j := ⟨h.cs.later hb, owl h.own hb⟩
/-- A row of numbers is no part of a chunk. -/
theorem own_ne {w : World} {c p b n : Nat} {rb : Option Nat} {most : Int} {l : List Sm} {v : Value} {xs : List Value} (h : CS w c p rb most l) (ho : w.ownsRow b 3 1 v n xs) : ∀ g, v.ownBlock = some g → ¬ FC c p rb g := by
  intro g hg hF
  rcases ho.2 with ⟨rfl, _⟩ | ⟨g', cap, cur, rfl, _, hh, _⟩
  · exact absurd hg (by simp [Value.ownBlock])
  · simp [Value.ownBlock] at hg
    subst hg
    have hB : Blk w g' 3 cur.toList := by unfold Blk; simpa using hh
    rcases hF with hF | rfl
    · exact ws_ne h.ws hB (by decide) (by decide) hF
    · have := h.blk.symm.trans hB
      injection this with this
      injection this with _ h2 _
      exact absurd h2 (by decide)
theorem take_next {l : List Sm} {i : Nat} {x : Sm} (h : l[i]? = some x) : l.take i ++ [x] = l.take (i + 1) := by
  rw [List.take_add_one, h]; rfl
theorem b1_app {w wx wy : World} {c p : Nat} {v : Value} {l : List Sm} {i : Nat} {x : Sm} (h : B1 w wx c p v l i i) (hG : Gv w) (hx : l[i]? = some x) (hok : ∀ y ∈ l, OkS y) (hi : i ≤ 2000) (hb : Below wx.heap.size wx wy) :
    Calls Tryd.prog 8 #[.pointer (some ⟨c, 0, none⟩), .int .i64 x.t, .int .u64 (x.v : Int)] wy fun e w' => e = .returned (.bool true) ∧ B1 w w' c p v l (i + 1) i := by
  have h' := h.later hb
  obtain ⟨rb, h1, h2, h3⟩ := h'.cs
  have hxm : x ∈ l := List.mem_of_getElem? hx
  have hlen : (l.take i).length ≤ i := by rw [List.length_take]; omega
  have hfit : ((encC (l.take i ++ [x])).length : Int) ≤ 1048576 := by
    rw [take_next hx]
    have := encC_le (l := l.take (i + 1)) (fun y hy => hok y (List.mem_of_mem_take hy))
    have h5 : (l.take (i + 1)).length ≤ i + 1 := by rw [List.length_take]; omega
    omega
  refine (cappendP wy c p rb 1048576 (l.take i) x h1 (hG.later h3) (hok x hxm) (by omega)).mono ?_
  rintro e w' ⟨rfl, rb', k1, k2, k3⟩
  rw [if_pos hfit, take_next hx] at k1
  refine ⟨by rw [decide_eq_true hfit], ⟨rb', k1, ⟨h2.1, h2.2.1, ?_⟩, h3.trans (k2.below h3.size (fun i hi => ?_))⟩, k2.owns h'.own (own_ne h1 h'.own)⟩
  · rcases k3 with rfl | ⟨g, rfl, hg⟩
    · exact h2.2.2
    · intro i hi
      injection hi with hi
      have := h3.size
      omega
  · rcases hi with (rfl | hi) | rfl
    · exact h2.2.1
    · exact h2.2.2 i hi
    · exact h2.1
theorem b1_push {w wx w' : World} {c p g : Nat} {v : Value} {l : List Sm} {i : Nat} {o : Obj} {cp : Nat} (h : B1 w wx c p v l (i + 1) i) (ho : w'.ownsRow w.heap.size 3 1 (.slice (some ⟨g, 0, none⟩) (i + 1 + 1) cp) (i + 1 + 1) (cI (szL l i) ++ [.int .i64 ((encC (l.take (i + 1))).length : Int)])) (hp : Pushed (wx.alloc o) w' v g) : B1 w w' c p (.slice (some ⟨g, 0, none⟩) (i + 1 + 1) cp) l (i + 1) (i + 1) := by
  obtain ⟨rb, h1, h2, h3⟩ := h.cs
  have hc := hp.chg.1
  refine ⟨⟨rb, h1.chg hc (fun i hi e => own_ne h1 h.own i e hi), h2, h3.trans (hc.below h3.size (fun i hi => (h.own.lt i hi).1))⟩, ?_⟩
  have e : cI (szL l (i + 1)) = cI (szL l i) ++ [.int .i64 ((encC (l.take (i + 1))).length : Int)] := by rw [szL_next]; simp [cI]
  rw [e]
  exact ho
theorem B1.at {w wx : World} {c p g cp n : Nat} {l : List Sm} {i j : Nat} (h : B1 w wx c p (.slice (some ⟨g, 0, none⟩) n cp) l i j) {k : Nat} (hk : k ≤ j) : wx.cell? ⟨g, k, none⟩ = some (.int .i64 ((encC (l.take k)).length : Int)) := by
  have h1 := h.own.cells rfl k _ (szL_at l j k hk)
  rwa [Addr.add_lit, Nat.zero_add] at h1

theorem wpList_pushI (w : World) {ops : Array Oper} {rest : List Oper} {o : Oper} {a : Act} {Q : Exit → Act → World → Prop} (hgd : o.guard = none) (s x : Operand)
    (ho : o.op = .call { callee := .builtin .append, args := #[s, x], argTypes := #[48, 48] }) (base : Nat) (v : Value) (n : Nat) (xs : List Value) (hs : a.eval s = v) (w0 : World) (hown : w0.ownsRow base 3 1 v n xs) (y : Int)
    (hw : w = w0.alloc (.cells #[.int .i64 y] 3)) (hx : a.eval x = .slice (some ⟨w0.heap.size, 0, none⟩) 1 1) (hn : n ≤ 1000000000) (hbase : base ≤ w0.heap.size)
    (h : ∀ g' c' w', w'.ownsRow base 3 1 (.slice (some ⟨g', 0, none⟩) (n + 1) c') (n + 1) (xs ++ [.int .i64 y]) → Pushed w w' v g' → wpList Tryd.prog ops Q rest (a.put o.dst (.slice (some ⟨g', 0, none⟩) (n + 1) c')) w') : wpList Tryd.prog ops Q (o :: rest) a w := by
  subst hw
  obtain ⟨i0, hi0, hz0, hz1, hz2⟩ := info_parts info3
  exact wpList_push _ hgd s x 48 ho 3 i0 (.int .i64 0) 8 Tryd.underlying48 hi0 hz0 hz1 hz2 rfl base v n xs hs (hown.alloc _) ⟨w0.heap.size, 0, none⟩ (.int .i64 y) hx (by simp) rfl (by unfold maxLen; omega) (by omega) (by simp; omega) h

end Go.Proofs.YtcgjmioncbihhaaDoor
