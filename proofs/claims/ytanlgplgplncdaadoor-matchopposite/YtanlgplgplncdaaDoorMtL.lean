/-
  MatchOpposite: the walk.
-/
import Derived.Test.YtanlgplgplncdaaDoorMtJ
namespace Go.Proofs.YtanlgplgplncdaaDoor
open Go.RowKit
set_option linter.unusedVariables false
set_option linter.unusedSimpArgs false

theorem wpList_pushT (w : World) {ops : Array Oper} {rest : List Oper} {o : Oper} {a : Act} {Q : Exit → Act → World → Prop} (hgd : o.guard = none) (s x : Operand)
    (ho : o.op = .call { callee := .builtin .append, args := #[s, x], argTypes := #[22, 22] }) (base : Nat) (v : Value) (n : Nat) (xs : List Value) (hs : a.eval s = v) (w0 : World) (hown : w0.ownsRow base 31 3 v n xs) (y : Mt)
    (hw : w = w0.alloc (.cells #[.string y.n, .int .i64 y.op, .string y.t] 31)) (hx : a.eval x = .slice (some ⟨w0.heap.size, 0, none⟩) 1 1) (hn : n ≤ 1000000000) (hbase : base ≤ w0.heap.size)
    (h : ∀ g' c' w', w'.ownsRow base 31 3 (.slice (some ⟨g', 0, none⟩) (n + 1) c') (n + 1) (xs ++ mC y) → Below base w0 w' → wpList Tryd.prog ops Q rest (a.put o.dst (.slice (some ⟨g', 0, none⟩) (n + 1) c')) w') : wpList Tryd.prog ops Q (o :: rest) a w := by
  subst hw
  obtain ⟨i0, hi0, hz0, hz1, hz2⟩ := info_parts L.info31
  refine wpList_pushN _ hgd s x 22 ho 31 i0 (.agg #[.string ⟨#[]⟩, .int .i64 0, .string ⟨#[]⟩]) 3 40 Tryd.underlying22 hi0 hz0 hz1 hz2 rfl (by omega) base v n xs hs (hown.alloc _) ⟨w0.heap.size, 0, none⟩ (mC y) hx rfl (fun j u hu => by
    have := (Blk.new w0 31 (mC y)).cell (0 + j)
    rw [Addr.add_lit]
    refine this.trans ?_
    rw [Nat.zero_add]
    exact hu) (one_mC y) (by unfold maxLen; omega) (by omega) (by simp; omega) ?_
  intro g' c' w' ho' hp'
  exact h g' c' w' ho' (hp'.chg2.1.below hbase (fun q hq => (hown.lt q hq).1))
theorem Ms.take {w : World} {ad : Option Addr} {l : List Mt} (h : Ms w ad l) (k : Nat) : Ms w ad (l.take k) := by
  refine ⟨fun x hx => h.sz x (List.mem_of_mem_take hx), fun h0 => ?_⟩
  obtain ⟨b, off, e, hlt, hc⟩ := h.at' (fun e => h0 (by rw [e]; simp))
  refine ⟨b, off, e, hlt, fun i x hx => hc i x ?_⟩
  rw [List.getElem?_take] at hx
  split at hx
  · exact hx
  · cases hx
theorem drop_rev {l : List Mt} {i : Nat} {x : Mt} (h : l[i]? = some x) : (l.drop i).reverse = (l.drop (i + 1)).reverse ++ [x] := by
  obtain ⟨hi, he⟩ := List.getElem?_eq_some_iff.1 h
  rw [List.drop_eq_getElem_cons hi, List.reverse_cons, he]
theorem drop_holds {l : List Mt} {i : Nat} {x : Mt} (h : l[i]? = some x) (lb : List L.Lb) : holdsL (l.drop i) lb = (holdsL (l.drop (i + 1)) lb && x.hold (gotL lb x.n)) := by
  obtain ⟨hi, he⟩ := List.getElem?_eq_some_iff.1 h
  rw [List.drop_eq_getElem_cons hi, he]
  unfold holdsL
  rw [List.all_cons, Bool.and_comm]

theorem ms_own {w : World} {b n c : Nat} {ad : Option Addr} {l : List Mt} (h : w.ownsRow b 31 3 (.slice ad n c) l.length (L.cM l)) (hz : ∀ x ∈ l, OkM x) : Ms w ad l := by
  refine ⟨hz, fun h0 => ?_⟩
  rcases h.2 with ⟨_, h1⟩ | ⟨g, cap, cur, e, _, hg, _⟩
  · exact absurd (List.eq_nil_of_length_eq_zero h1) h0
  · injection e with e
    subst e
    refine ⟨g, 0, rfl, (Array.getElem?_eq_some_iff.1 hg).1, fun i x hx => ?_⟩
    have hc := L.cM_get l i x hx
    have k0 := h.cells rfl _ _ hc.1
    have k1 := h.cells rfl _ _ hc.2.1
    have k2 := h.cells rfl _ _ hc.2.2
    rw [Addr.add_lit] at k0 k1 k2
    exact ⟨k0, k1, k2⟩

set_option maxRecDepth 100000 in
set_option maxHeartbeats 0 in
theorem opposite_any (B : Nat) (w : World) (hT : L.Tb B w) (a0 : Option Addr) (n0 c0 : Nat) (l0 : List Mt) (hl0 : l0.length = n0) (hM0 : Ms w a0 l0) (hc0 : n0 ≤ c0) (hm0 : c0 ≤ 9223372036854775807) (hno0 : a0 = none → n0 = 0 ∧ c0 = 0)
    (a1 : Option Addr) (n1 c1 : Nat) (l1 : List Mt) (hl1 : l1.length = n1) (hM1 : Ms w a1 l1) (hc1 : n1 ≤ c1) (hm1 : c1 ≤ 9223372036854775807) (hno1 : a1 = none → n1 = 0 ∧ c1 = 0)
    (a2 : Option Addr) (n2 c2 : Nat) (lb : List L.Lb) (hl2 : lb.length = n2) (hM2 : L.Ls w a2 lb) (hn2 : n2 ≤ 9223372036854775807) (hbs : ∀ x ∈ lb, x.v.size ≤ 140737488355328) :
    Calls Tryd.prog 3 #[.slice a0 n0 c0, .slice a1 n1 c1, .slice a2 n2 c2] w fun e w' => e = .returned (.bool true) ∧ Below w.heap.size w w' := by
  obtain ⟨n, hn⟩ : ∃ n, min n0 30 = n := ⟨_, rfl⟩
  obtain ⟨m, hm⟩ : ∃ m, min n1 30 = m := ⟨_, rfl⟩
  obtain ⟨l, hl⟩ : ∃ l, l0.take n = l := ⟨_, rfl⟩
  obtain ⟨k, hk⟩ : ∃ k, l1.take m = k := ⟨_, rfl⟩
  have HL : Hid (Ms w a0 l) := hidden (by rw [← hl]; exact hM0.take n)
  have HK : Hid (Ms w a1 k) := hidden (by rw [← hk]; exact hM1.take m)
  have HLN : Hid (l.length = n) := hidden (by rw [← hl, List.length_take]; omega)
  have HKN : Hid (k.length = m) := hidden (by rw [← hk, List.length_take]; omega)
  have hn30 : n ≤ 30 := by omega
  have hm30 : m ≤ 30 := by omega
  have FE0 := hidden (fun wx => fewP a0 n0 c0 wx hc0 hm0 hno0)
  have FE1 := hidden (fun wx => fewP a1 n1 c1 wx hc1 hm1 hno1)
  rw [hn] at FE0
  rw [hm] at FE1
  have HLB := hidden hM2
  have HT := hidden hT
  have HBS := hidden hbs
  have HN2 := hidden hl2
  clear hn hm hl hk hM0 hM1 hM2 hT hbs hl0 hl1 hl2 hc0 hm0 hno0 hc1 hm1 hno1
  have HOL : Hid (∀ wx s F j, StR F wx s j → j.length ≤ 1000 → Below w.heap.size w wx → Calls Tryd.prog 8 #[.pointer (some ⟨s, 0, none⟩), .slice a2 n2 c2] wx fun e w' => e = .returned (.bool (holdsL j lb)) ∧ Below wx.heap.size wx w') := hidden (fun wx s F j hS hj hb => by
    have := holdsP F wx s j hS hj a2 c2 lb (HLB.out.later hb) (by rw [HN2.out]; exact hn2) HBS.out
    rwa [HN2.out] at this)
  go_enter Tryd.func3, Tryd.ntmps3
  go_wp2_with fail
  refine (shownP B w HT.out).mono ?_
  rintro e w1 ⟨rfl, b1⟩
  have BB1 := hidden b1
  clear b1
  go_wp2_with fail
  refine (FE0.out w1).mono ?_
  rintro e w1' ⟨rfl, rfl⟩
  go_wp2_with fail
  refine (FE1.out w1').mono ?_
  rintro e w1 ⟨rfl, rfl⟩
  go_wp2_with fail
  have N1 := hidden (newP B a0 c0 l w1 (HL.out.later BB1.out) (by rw [HLN.out]; omega) (HT.out.later BB1.out))
  rw [HLN.out] at N1
  refine N1.out.mono ?_
  rintro e w2 ⟨b2, hR2⟩
  have BB2 : Hid (Below w.heap.size w w2) := hidden (BB1.out.trans (b2.mono BB1.out.size))
  clear b2 N1 FE0 FE1
  have N2 := hidden (newP B a1 c1 k w2 (HK.out.later BB2.out) (by rw [HKN.out]; omega) (HT.out.later BB2.out))
  rw [HKN.out] at N2
  rcases hR2 with ⟨hok1, sa, Fa, rfl, hSa, -⟩ | ⟨hno1, rfl⟩
  · have HOK1 := hidden hok1
    have SA2 := hidden hSa
    clear hok1 hSa
    go_wp2_with fail
    refine N2.out.mono ?_
    rintro e w3 ⟨b3, hR3⟩
    have BB3 : Hid (Below w.heap.size w w3) := hidden (BB2.out.trans (b3.mono BB2.out.size))
    have SA3 := hidden (SA2.out.later b3)
    clear b3 N2
    rcases hR3 with ⟨hok2, sb, Fb, rfl, hSb, -⟩ | ⟨hno2, rfl⟩
    · have HOK2 := hidden hok2
      have SB3 := hidden hSb
      clear hok2 hSb SA2
      have hn8 : n ≤ 8 := by have := HOK1.out; unfold newOk at this; rw [Bool.and_eq_true] at this; have := of_decide_eq_true this.1; have := HLN.out; omega
      have R0 : Hid (w3.ownsRow w3.heap.size 31 3 (.slice none 0 0) (n - n) (L.cM (l.drop n).reverse)) := hidden (by rw [List.drop_of_length_le (by rw [HLN.out]; exact Nat.le_refl _), Nat.sub_self]; exact World.ownsRow_nil _ _ _ _)
      have A0 : Hid (holdsL (l.drop n) lb = true) := hidden (by rw [List.drop_of_length_le (by rw [HLN.out]; exact Nat.le_refl _)]; rfl)
      go_wp2_with fail
      go_loopw [12, 13, 14, 15, 16, 17, 18, 19, 20, 21] (fun v12 v13 v14 v15 v16 v17 v18 v19 v20 v21 wx => ∃ (k : Nat) (t : Bool), k ≤ n ∧ v14 = .int .i64 ((k : Int) - 1) ∧ v12 = .bool t ∧ Hid (holdsL (l.drop k) lb = t) ∧ Hid (wx.ownsRow w3.heap.size 31 3 v13 (n - k) (L.cM (l.drop k).reverse)) ∧ Hid (Below w3.heap.size w3 wx)) (fun _ _ v14 _ _ _ _ _ _ _ _ => (intOf v14 + 1).toNat)
      case atStart => exact ⟨n, true, Nat.le_refl _, rfl, rfl, A0, R0, hidden (Below.refl _ _)⟩
      case round =>
        rename World => wx
        obtain ⟨k', t, hkn, rfl, rfl, hA, hO, hB⟩ := hrel
        clear A0 R0
        by_cases hk0 : k' = 0
        · subst hk0
          rw [show ((0 : Nat) : Int) - 1 = -1 from rfl]
          have BBx : Hid (Below w.heap.size w wx) := hidden (BB3.out.trans (hB.out.mono BB3.out.size))
          have SAx := hidden (SA3.out.later hB.out)
          have SBx := hidden (SB3.out.later hB.out)
          obtain ⟨ad13, c13, hv13, -⟩ := owns_formS hO.out
          subst hv13
          rw [List.drop_zero] at hO hA
          have hlr : l.reverse.length = n := by rw [List.length_reverse, HLN.out]
          have MR : Hid (Ms wx ad13 l.reverse) := hidden (ms_own (b := w3.heap.size) (n := n - 0) (c := c13) (by rw [hlr]; exact hO.out) (fun x hx => HL.out.sz x (List.mem_reverse.1 hx)))
          have NR := hidden (newOkP B ad13 c13 n l.reverse wx hlr MR.out (by omega) (HT.out.later BBx.out) (newOk_rev HOK1.out))
          have hk8 : k.length ≤ 8 := by have := HOK2.out; unfold newOk at this; rw [Bool.and_eq_true] at this; exact of_decide_eq_true this.1
          have HK8 := hidden hk8
          have HLR := hidden hlr
          obtain ⟨tk, htk⟩ : ∃ tk, holdsL k lb = tk := ⟨_, rfl⟩
          have HTK := hidden htk
          clear hlr MR hk8 htk hO
          rw [Nat.sub_zero]
          go_wp2_with fail
          refine NR.out.mono ?_
          rintro e w5 ⟨sr, Fr, rfl, hsr, b5⟩
          have SR5 := hidden hsr
          have B5 : Hid (Below w.heap.size w w5) := hidden (BBx.out.trans (b5.mono BBx.out.size))
          have SA5 := hidden (SAx.out.later b5)
          have SB5 := hidden (SBx.out.later b5)
          clear hsr b5 NR SAx SBx SA3 SB3
          go_wp2_with fail
          refine (andP Fa Fb w5 sa sb l k SA5.out SB5.out (by rw [HLN.out]; omega) (by have := HK8.out; omega)).mono ?_
          rintro e w6 ⟨u6, K6, rfl, hs6, -, b6⟩
          have S6 := hidden hs6
          have B6 : Hid (Below w.heap.size w w6) := hidden (B5.out.trans (b6.mono B5.out.size))
          have SR6 := hidden (SR5.out.later b6)
          have SA6 := hidden (SA5.out.later b6)
          have SB6 := hidden (SB5.out.later b6)
          clear hs6 b6 SR5 SA5 SB5
          have C6 := hidden (HOL.out w6 u6 K6 _ S6.out (by rw [List.length_append, HLN.out]; have := HK8.out; omega) B6.out)
          rw [holds_app, hA.out, HTK.out] at C6
          go_wp2_with fail
          refine C6.out.mono ?_
          rintro e w7 ⟨rfl, b7⟩
          have B7 : Hid (Below w.heap.size w w7) := hidden (B6.out.trans (b7.mono B6.out.size))
          have SR7 := hidden (SR6.out.later b7)
          have SA7 := hidden (SA6.out.later b7)
          have SB7 := hidden (SB6.out.later b7)
          clear b7 C6 S6 SR6 SA6 SB6
          go_wp2_with fail
          refine (andP Fb Fa w7 sb sa k l SB7.out SA7.out (by have := HK8.out; omega) (by rw [HLN.out]; omega)).mono ?_
          rintro e w8 ⟨u8, K8, rfl, hs8, -, b8⟩
          have S8 := hidden hs8
          have B8 : Hid (Below w.heap.size w w8) := hidden (B7.out.trans (b8.mono B7.out.size))
          have SR8 := hidden (SR7.out.later b8)
          have SA8 := hidden (SA7.out.later b8)
          have SB8 := hidden (SB7.out.later b8)
          clear hs8 b8 SR7 SA7 SB7
          have C8 := hidden (HOL.out w8 u8 K8 _ S8.out (by rw [List.length_append, HLN.out]; have := HK8.out; omega) B8.out)
          rw [holds_app, hA.out, HTK.out] at C8
          go_wp2_with fail
          refine C8.out.mono ?_
          rintro e w9 ⟨rfl, b9⟩
          have B9 : Hid (Below w.heap.size w w9) := hidden (B8.out.trans (b9.mono B8.out.size))
          have SR9 := hidden (SR8.out.later b9)
          have SA9 := hidden (SA8.out.later b9)
          have SB9 := hidden (SB8.out.later b9)
          clear b9 C8 S8 SR8 SA8 SB8
          have C9 := hidden (HOL.out w9 sb Fb _ SB9.out (by have := HK8.out; omega) B9.out)
          rw [HTK.out] at C9
          go_wp2_with fail
          refine C9.out.mono ?_
          rintro e w10 ⟨rfl, b10⟩
          have B10 : Hid (Below w.heap.size w w10) := hidden (B9.out.trans (b10.mono B9.out.size))
          have C10 := hidden (HOL.out w10 sa Fa _ (SA9.out.later b10) (by rw [HLN.out]; omega) B10.out)
          rw [hA.out] at C10
          have SR10 := hidden (SR9.out.later b10)
          clear b10 C9 SR9 SA9 SB9
          go_wp2_with fail
          refine C10.out.mono ?_
          rintro e w11 ⟨rfl, b11⟩
          have B11 : Hid (Below w.heap.size w w11) := hidden (B10.out.trans (b11.mono B10.out.size))
          have C11 := hidden (HOL.out w11 sr Fr _ (SR10.out.later b11) (by rw [HLR.out]; omega) B11.out)
          rw [holds_rev, hA.out] at C11
          clear b11 C10 SR10
          go_wp2_with fail
          refine C11.out.mono ?_
          rintro e w12 ⟨rfl, b12⟩
          have B12 : Hid (Below w.heap.size w w12) := hidden (B11.out.trans (b12.mono B11.out.size))
          clear b12 C11
          cases t <;> cases tk
          all_goals
            go_wp2_with fail
            go_ret
            exact ⟨by first | rfl | trivial, B12.out⟩
        · obtain ⟨i, rfl⟩ : ∃ i, k' = i + 1 := ⟨k' - 1, by omega⟩
          have hiz : ((i + 1 : Nat) : Int) - 1 = (i : Int) := by omega
          rw [hiz]
          have hi0 : (0 : Int) ≤ (i : Int) := by omega
          have hin : (i : Int) < (n : Int) := by omega
          have BBx : Hid (Below w.heap.size w wx) := hidden (BB3.out.trans (hB.out.mono BB3.out.size))
          obtain ⟨bb, off, x, rfl, hbb, hx, p0, p1, p2, hok⟩ := HL.out.get (i := i) (by rw [HLN.out]; omega)
          have CE : Hid (∀ wy, Below w.heap.size w wy → wy.cell? ⟨bb, off + i * 3, none⟩ = some (.string x.n) ∧ wy.cell? ⟨bb, off + i * 3 + 1, none⟩ = some (.int .i64 x.op) ∧ wy.cell? ⟨bb, off + i * 3 + 2, none⟩ = some (.string x.t)) := hidden (fun wy hy => by
            rw [hy.cell (p := ⟨bb, off + i * 3, none⟩) hbb, hy.cell (p := ⟨bb, off + i * 3 + 1, none⟩) hbb, hy.cell (p := ⟨bb, off + i * 3 + 2, none⟩) hbb]
            exact ⟨p0, p1, p2⟩)
          obtain ⟨q0, q1, q2⟩ := CE.out wx BBx.out
          have HX := hidden hx
          have hmay := newOk_may HOK1.out (List.mem_of_getElem? hx)
          have hopp := opp_may hmay
          have hoh := opp_hold hmay
          have hop := may_op hmay
          obtain ⟨xn, xo, xt⟩ := x
          have HMAY := hidden hmay
          have HOPP := hidden hopp
          have HOH := hidden (hoh (gotL lb xn))
          have HOKX := hidden hok
          obtain ⟨ad13, c13, hv13, -⟩ := owns_formS hO.out
          subst hv13
          clear hx hmay hopp hoh hok hiz p0 p1 p2 hbb
          have hbsz := hB.out.size
          rcases hop with ho | ho | ho | ho
          all_goals
            simp only at ho q0 q1 q2
            subst ho
          · go_upto_region 14 with (refine wpList_pushT _ rfl (.tmp 60) (.tmp 65) rfl w3.heap.size _ (n - (i + 1)) (L.cM (l.drop (i + 1)).reverse) rfl wx hO.out ⟨xn, 1, xt⟩ rfl rfl (by omega) hbsz ?_
                                    intro g5 c5 w5 o5 b5
                                    have O5 := hidden o5
                                    have B5 : Hid (Below w3.heap.size w3 w5) := hidden (hB.out.trans b5)
                                    clear o5 b5)
            clear q0 q1 q2
            have hni : n - (i + 1) + 1 = n - i := by omega
            rw [hni]
            replace O5 : Hid (w5.ownsRow w3.heap.size 31 3 (.slice (some ⟨g5, 0, none⟩) (n - i) c5) (n - i) (L.cM (l.drop i).reverse)) := hidden (by
              rw [drop_rev HX.out, L.cM_append, ← hni]
              exact O5.out)
            have B5w : Hid (Below w.heap.size w w5) := hidden (BB3.out.trans (B5.out.mono BB3.out.size))
            obtain ⟨q0, q1, q2⟩ := CE.out w5 B5w.out
            simp only at q0 q1 q2
            go_upto_region 15 with (refine wpList_new_var rfl rfl 31 15 (.tmp 70) rfl rfl rfl rfl 3 info31n (mC ⟨xn, 1, xt⟩) rfl (one_mC _) (by simp) rfl ?_; intro w6 x6 b6 hz6; have X6 := hidden x6; have B6 := hidden b6; have Z6 := hidden hz6; clear x6 b6 hz6)
            clear q0 q1 q2
            have B6w : Hid (Below w.heap.size w w6) := hidden (B5w.out.trans (B6.out.mono B5w.out.size))
            obtain ⟨q0, q1, q2⟩ := CE.out w6 B6w.out
            simp only at q0 q1 q2
            go_upto_region 16 with (refine wpList_new_var rfl rfl 31 16 (.tmp 74) rfl rfl rfl rfl 3 info31n (mC ⟨xn, 1, xt⟩) rfl (one_mC _) (by simp) rfl ?_; intro w7 y7 b7 hz7; have Y7 := hidden y7; have B7 := hidden b7; clear y7 b7 hz7)
            clear q0 q1 q2
            have X7 := hidden (X6.out.later B7.out)
            have AL7 : Hid (Below w7.heap.size w7 (w7.alloc (.cells #[.int .i64 0, .int .i64 2, .int .i64 1, .int .i64 4, .int .i64 3] 3))) := hidden ((Below.refl _ _).alloc (Nat.le_refl _) _)
            have hx1 : (w7.alloc (.cells #[.int .i64 0, .int .i64 2, .int .i64 1, .int .i64 4, .int .i64 3] 3)).cell? ⟨w5.heap.size, 1, none⟩ = some (.int .i64 1) := (X7.out.later AL7.out).cell 1
            have hy1 : (w7.alloc (.cells #[.int .i64 0, .int .i64 2, .int .i64 1, .int .i64 4, .int .i64 3] 3)).cell? ⟨w6.heap.size, 1, none⟩ = some (.int .i64 1) := (Y7.out.later AL7.out).cell 1
            have hyf := (Y7.out.later AL7.out).frozen 1
            go_upto_region 17 with fail
            obtain ⟨w8, hw8⟩ : ∃ w8, (w7.alloc (.cells #[.int .i64 0, .int .i64 2, .int .i64 1, .int .i64 4, .int .i64 3] 3)).setCell ⟨w6.heap.size, 1, none⟩ (.int .i64 2) = w8 := ⟨_, rfl⟩
            rw [hw8]
            have CS := Chg.set ⟨w6.heap.size, 1, none⟩ (.int .i64 2) (w7.alloc (.cells #[.int .i64 0, .int .i64 2, .int .i64 1, .int .i64 4, .int .i64 3] 3))
            have X8 : Hid (Blk w8 w5.heap.size 31 (mC ⟨xn, 1, xt⟩)) := hidden (by rw [← hw8]; exact CS.blk (X7.out.later AL7.out) (by show ¬ w5.heap.size = w6.heap.size; rw [Z6.out]; omega))
            have Y8 : Hid (Blk w8 w6.heap.size 31 (mC ⟨xn, 2, xt⟩)) := hidden (by rw [← hw8]; exact Blk.set (Y7.out.later AL7.out) 1 _)
            have B8 : Hid (Below w5.heap.size w5 w8) := hidden (by
              have k1 := B6.out.trans (B7.out.mono B6.out.size)
              have k2 := k1.trans (AL7.out.mono k1.size)
              rw [← hw8]
              exact k2.trans (CS.below k2.size (fun j hj => by simp only at hj; rw [hj]; exact B6.out.size)))
            clear CS hw8 hx1 hy1 hyf X7 Y7 X6 B6 B7 AL7 B6w
            have O8 := hidden (owl O5.out B8.out)
            have B8w : Hid (Below w.heap.size w w8) := hidden (B5w.out.trans (B8.out.mono B5w.out.size))
            have B83 : Hid (Below w3.heap.size w3 w8) := hidden (B5.out.trans (B8.out.mono B5.out.size))
            clear O5 B5 B5w B8 Z6
            generalize w5.heap.size = px at *
            generalize w6.heap.size = py at *
            have x0 : w8.cell? ⟨px, 0, none⟩ = some (.string xn) := X8.out.cell 0
            have x1 : w8.cell? ⟨px, 1, none⟩ = some (.int .i64 1) := X8.out.cell 1
            have x2 : w8.cell? ⟨px, 2, none⟩ = some (.string xt) := X8.out.cell 2
            have AL8 : Hid (Below w8.heap.size w8 (w8.alloc (.cells #[.string xn, .int .i64 1, .string xt] 31))) := hidden ((Below.refl _ _).alloc (Nat.le_refl _) _)
            have MS8 : Hid (Ms (w8.alloc (.cells #[.string xn, .int .i64 1, .string xt] 31)) (some ⟨w8.heap.size, 0, none⟩) [⟨xn, 1, xt⟩]) := hidden (ms_blk (Blk.new w8 31 _) (fun z hz => by rw [List.mem_singleton.1 hz]; exact HOKX.out))
            have N8 := hidden (newOkP B _ 1 1 [⟨xn, 1, xt⟩] _ rfl MS8.out (by omega) (HT.out.later (B8w.out.trans (AL8.out.mono B8w.out.size))) (newOk_one HMAY.out))
            clear MS8
            go_wp2_with fail
            refine N8.out.mono ?_
            rintro e w9 ⟨s9, F9, rfl, hs9, b9⟩
            have S9 := hidden hs9
            have B9 : Hid (Below w8.heap.size w8 w9) := hidden (AL8.out.trans (b9.mono AL8.out.size))
            clear hs9 b9 AL8 N8 x0 x1 x2 X8
            have O9 := hidden (owl O8.out B9.out)
            have B9w : Hid (Below w.heap.size w w9) := hidden (B8w.out.trans (B9.out.mono B8w.out.size))
            have B93 : Hid (Below w3.heap.size w3 w9) := hidden (B83.out.trans (B9.out.mono B83.out.size))
            have Y9 := hidden (Y8.out.later B9.out)
            clear O8 B8w B83 B9 Y8
            have x0 : w9.cell? ⟨py, 0, none⟩ = some (.string xn) := Y9.out.cell 0
            have x1 : w9.cell? ⟨py, 1, none⟩ = some (.int .i64 2) := Y9.out.cell 1
            have x2 : w9.cell? ⟨py, 2, none⟩ = some (.string xt) := Y9.out.cell 2
            have AL9 : Hid (Below w9.heap.size w9 (w9.alloc (.cells #[.string xn, .int .i64 2, .string xt] 31))) := hidden ((Below.refl _ _).alloc (Nat.le_refl _) _)
            have MS9 : Hid (Ms (w9.alloc (.cells #[.string xn, .int .i64 2, .string xt] 31)) (some ⟨w9.heap.size, 0, none⟩) [⟨xn, 2, xt⟩]) := hidden (ms_blk (Blk.new w9 31 _) (fun z hz => by rw [List.mem_singleton.1 hz]; exact ⟨HOKX.out.1, HOKX.out.2.1, by show (-9223372036854775808 : Int) ≤ 2; omega, by show (2 : Int) ≤ 9223372036854775807; omega⟩))
            have N9 := hidden (newOkP B _ 1 1 [⟨xn, 2, xt⟩] _ rfl MS9.out (by omega) (HT.out.later (B9w.out.trans (AL9.out.mono B9w.out.size))) (newOk_one HOPP.out))
            clear MS9
            go_wp2_with fail
            refine N9.out.mono ?_
            rintro e w10 ⟨s10, F10, rfl, hs10, b10⟩
            have S10 := hidden hs10
            have B10 : Hid (Below w9.heap.size w9 w10) := hidden (AL9.out.trans (b10.mono AL9.out.size))
            clear hs10 b10 AL9 N9 x0 x1 x2 Y9
            have O10 := hidden (owl O9.out B10.out)
            have B10w : Hid (Below w.heap.size w w10) := hidden (B9w.out.trans (B10.out.mono B9w.out.size))
            have B103 : Hid (Below w3.heap.size w3 w10) := hidden (B93.out.trans (B10.out.mono B93.out.size))
            replace S9 := hidden (S9.out.later B10.out)
            clear O9 B9w B93 B10
            obtain ⟨t1, ht1⟩ : ∃ t1, Mt.hold ⟨xn, 1, xt⟩ (gotL lb xn) = t1 := ⟨_, rfl⟩
            have HT1 : Hid (holdsL [⟨xn, 1, xt⟩] lb = t1) := hidden (by rw [holds_one]; exact ht1)
            have HT2 : Hid (holdsL [⟨xn, 2, xt⟩] lb = !t1) := hidden (by rw [holds_one, ← ht1]; exact HOH.out)
            have HTE : Hid (holdsL (l.drop i) lb = (t && t1)) := hidden (by rw [drop_holds HX.out, hA.out]; exact congrArg _ ht1)
            clear ht1
            have C10 := hidden (HOL.out w10 s9 F9 _ S9.out (by simp) B10w.out)
            rw [HT1.out] at C10
            go_wp2_with fail
            refine C10.out.mono ?_
            rintro e w11 ⟨rfl, b11⟩
            have O11 := hidden (owl O10.out b11)
            have B11w : Hid (Below w.heap.size w w11) := hidden (B10w.out.trans (b11.mono B10w.out.size))
            have B113 : Hid (Below w3.heap.size w3 w11) := hidden (B103.out.trans (b11.mono B103.out.size))
            replace S9 := hidden (S9.out.later b11)
            have C11 := hidden (HOL.out w11 s10 F10 _ (S10.out.later b11) (by simp) B11w.out)
            rw [HT2.out] at C11
            clear b11 C10 O10 B10w B103 S10
            go_wp2_with fail
            refine C11.out.mono ?_
            rintro e w12 ⟨rfl, b12⟩
            have O12 := hidden (owl O11.out b12)
            have B12w : Hid (Below w.heap.size w w12) := hidden (B11w.out.trans (b12.mono B11w.out.size))
            have B123 : Hid (Below w3.heap.size w3 w12) := hidden (B113.out.trans (b12.mono B113.out.size))
            have C12 := hidden (HOL.out w12 s9 F9 _ (S9.out.later b12) (by simp) B12w.out)
            rw [HT1.out] at C12
            clear b12 C11 O11 B11w B113 S9
            cases t1
            all_goals
              go_wp2_with fail
              refine C12.out.mono ?_
              rintro e w13 ⟨rfl, b13⟩
              have O13 := hidden (owl O12.out b13)
              have B133 : Hid (Below w3.heap.size w3 w13) := hidden (B123.out.trans (b13.mono B123.out.size))
              clear b13 C12 O12 B12w B123
              cases t
              all_goals
                go_wp2_with fail
                exact ⟨⟨i, _, by omega, by first | rfl | (congr 1; omega), rfl, HTE, O13, B133⟩, by simp [intOf]⟩
          · go_upto_region 14 with (refine wpList_pushT _ rfl (.tmp 60) (.tmp 65) rfl w3.heap.size _ (n - (i + 1)) (L.cM (l.drop (i + 1)).reverse) rfl wx hO.out ⟨xn, 2, xt⟩ rfl rfl (by omega) hbsz ?_
                                    intro g5 c5 w5 o5 b5
                                    have O5 := hidden o5
                                    have B5 : Hid (Below w3.heap.size w3 w5) := hidden (hB.out.trans b5)
                                    clear o5 b5)
            clear q0 q1 q2
            have hni : n - (i + 1) + 1 = n - i := by omega
            rw [hni]
            replace O5 : Hid (w5.ownsRow w3.heap.size 31 3 (.slice (some ⟨g5, 0, none⟩) (n - i) c5) (n - i) (L.cM (l.drop i).reverse)) := hidden (by
              rw [drop_rev HX.out, L.cM_append, ← hni]
              exact O5.out)
            have B5w : Hid (Below w.heap.size w w5) := hidden (BB3.out.trans (B5.out.mono BB3.out.size))
            obtain ⟨q0, q1, q2⟩ := CE.out w5 B5w.out
            simp only at q0 q1 q2
            go_upto_region 15 with (refine wpList_new_var rfl rfl 31 15 (.tmp 70) rfl rfl rfl rfl 3 info31n (mC ⟨xn, 2, xt⟩) rfl (one_mC _) (by simp) rfl ?_; intro w6 x6 b6 hz6; have X6 := hidden x6; have B6 := hidden b6; have Z6 := hidden hz6; clear x6 b6 hz6)
            clear q0 q1 q2
            have B6w : Hid (Below w.heap.size w w6) := hidden (B5w.out.trans (B6.out.mono B5w.out.size))
            obtain ⟨q0, q1, q2⟩ := CE.out w6 B6w.out
            simp only at q0 q1 q2
            go_upto_region 16 with (refine wpList_new_var rfl rfl 31 16 (.tmp 74) rfl rfl rfl rfl 3 info31n (mC ⟨xn, 2, xt⟩) rfl (one_mC _) (by simp) rfl ?_; intro w7 y7 b7 hz7; have Y7 := hidden y7; have B7 := hidden b7; clear y7 b7 hz7)
            clear q0 q1 q2
            have X7 := hidden (X6.out.later B7.out)
            have AL7 : Hid (Below w7.heap.size w7 (w7.alloc (.cells #[.int .i64 0, .int .i64 2, .int .i64 1, .int .i64 4, .int .i64 3] 3))) := hidden ((Below.refl _ _).alloc (Nat.le_refl _) _)
            have hx1 : (w7.alloc (.cells #[.int .i64 0, .int .i64 2, .int .i64 1, .int .i64 4, .int .i64 3] 3)).cell? ⟨w5.heap.size, 1, none⟩ = some (.int .i64 2) := (X7.out.later AL7.out).cell 1
            have hy1 : (w7.alloc (.cells #[.int .i64 0, .int .i64 2, .int .i64 1, .int .i64 4, .int .i64 3] 3)).cell? ⟨w6.heap.size, 1, none⟩ = some (.int .i64 2) := (Y7.out.later AL7.out).cell 1
            have hyf := (Y7.out.later AL7.out).frozen 1
            go_upto_region 17 with fail
            obtain ⟨w8, hw8⟩ : ∃ w8, (w7.alloc (.cells #[.int .i64 0, .int .i64 2, .int .i64 1, .int .i64 4, .int .i64 3] 3)).setCell ⟨w6.heap.size, 1, none⟩ (.int .i64 1) = w8 := ⟨_, rfl⟩
            rw [hw8]
            have CS := Chg.set ⟨w6.heap.size, 1, none⟩ (.int .i64 1) (w7.alloc (.cells #[.int .i64 0, .int .i64 2, .int .i64 1, .int .i64 4, .int .i64 3] 3))
            have X8 : Hid (Blk w8 w5.heap.size 31 (mC ⟨xn, 2, xt⟩)) := hidden (by rw [← hw8]; exact CS.blk (X7.out.later AL7.out) (by show ¬ w5.heap.size = w6.heap.size; rw [Z6.out]; omega))
            have Y8 : Hid (Blk w8 w6.heap.size 31 (mC ⟨xn, 1, xt⟩)) := hidden (by rw [← hw8]; exact Blk.set (Y7.out.later AL7.out) 1 _)
            have B8 : Hid (Below w5.heap.size w5 w8) := hidden (by
              have k1 := B6.out.trans (B7.out.mono B6.out.size)
              have k2 := k1.trans (AL7.out.mono k1.size)
              rw [← hw8]
              exact k2.trans (CS.below k2.size (fun j hj => by simp only at hj; rw [hj]; exact B6.out.size)))
            clear CS hw8 hx1 hy1 hyf X7 Y7 X6 B6 B7 AL7 B6w
            have O8 := hidden (owl O5.out B8.out)
            have B8w : Hid (Below w.heap.size w w8) := hidden (B5w.out.trans (B8.out.mono B5w.out.size))
            have B83 : Hid (Below w3.heap.size w3 w8) := hidden (B5.out.trans (B8.out.mono B5.out.size))
            clear O5 B5 B5w B8 Z6
            generalize w5.heap.size = px at *
            generalize w6.heap.size = py at *
            have x0 : w8.cell? ⟨px, 0, none⟩ = some (.string xn) := X8.out.cell 0
            have x1 : w8.cell? ⟨px, 1, none⟩ = some (.int .i64 2) := X8.out.cell 1
            have x2 : w8.cell? ⟨px, 2, none⟩ = some (.string xt) := X8.out.cell 2
            have AL8 : Hid (Below w8.heap.size w8 (w8.alloc (.cells #[.string xn, .int .i64 2, .string xt] 31))) := hidden ((Below.refl _ _).alloc (Nat.le_refl _) _)
            have MS8 : Hid (Ms (w8.alloc (.cells #[.string xn, .int .i64 2, .string xt] 31)) (some ⟨w8.heap.size, 0, none⟩) [⟨xn, 2, xt⟩]) := hidden (ms_blk (Blk.new w8 31 _) (fun z hz => by rw [List.mem_singleton.1 hz]; exact HOKX.out))
            have N8 := hidden (newOkP B _ 1 1 [⟨xn, 2, xt⟩] _ rfl MS8.out (by omega) (HT.out.later (B8w.out.trans (AL8.out.mono B8w.out.size))) (newOk_one HMAY.out))
            clear MS8
            go_wp2_with fail
            refine N8.out.mono ?_
            rintro e w9 ⟨s9, F9, rfl, hs9, b9⟩
            have S9 := hidden hs9
            have B9 : Hid (Below w8.heap.size w8 w9) := hidden (AL8.out.trans (b9.mono AL8.out.size))
            clear hs9 b9 AL8 N8 x0 x1 x2 X8
            have O9 := hidden (owl O8.out B9.out)
            have B9w : Hid (Below w.heap.size w w9) := hidden (B8w.out.trans (B9.out.mono B8w.out.size))
            have B93 : Hid (Below w3.heap.size w3 w9) := hidden (B83.out.trans (B9.out.mono B83.out.size))
            have Y9 := hidden (Y8.out.later B9.out)
            clear O8 B8w B83 B9 Y8
            have x0 : w9.cell? ⟨py, 0, none⟩ = some (.string xn) := Y9.out.cell 0
            have x1 : w9.cell? ⟨py, 1, none⟩ = some (.int .i64 1) := Y9.out.cell 1
            have x2 : w9.cell? ⟨py, 2, none⟩ = some (.string xt) := Y9.out.cell 2
            have AL9 : Hid (Below w9.heap.size w9 (w9.alloc (.cells #[.string xn, .int .i64 1, .string xt] 31))) := hidden ((Below.refl _ _).alloc (Nat.le_refl _) _)
            have MS9 : Hid (Ms (w9.alloc (.cells #[.string xn, .int .i64 1, .string xt] 31)) (some ⟨w9.heap.size, 0, none⟩) [⟨xn, 1, xt⟩]) := hidden (ms_blk (Blk.new w9 31 _) (fun z hz => by rw [List.mem_singleton.1 hz]; exact ⟨HOKX.out.1, HOKX.out.2.1, by show (-9223372036854775808 : Int) ≤ 1; omega, by show (1 : Int) ≤ 9223372036854775807; omega⟩))
            have N9 := hidden (newOkP B _ 1 1 [⟨xn, 1, xt⟩] _ rfl MS9.out (by omega) (HT.out.later (B9w.out.trans (AL9.out.mono B9w.out.size))) (newOk_one HOPP.out))
            clear MS9
            go_wp2_with fail
            refine N9.out.mono ?_
            rintro e w10 ⟨s10, F10, rfl, hs10, b10⟩
            have S10 := hidden hs10
            have B10 : Hid (Below w9.heap.size w9 w10) := hidden (AL9.out.trans (b10.mono AL9.out.size))
            clear hs10 b10 AL9 N9 x0 x1 x2 Y9
            have O10 := hidden (owl O9.out B10.out)
            have B10w : Hid (Below w.heap.size w w10) := hidden (B9w.out.trans (B10.out.mono B9w.out.size))
            have B103 : Hid (Below w3.heap.size w3 w10) := hidden (B93.out.trans (B10.out.mono B93.out.size))
            replace S9 := hidden (S9.out.later B10.out)
            clear O9 B9w B93 B10
            obtain ⟨t1, ht1⟩ : ∃ t1, Mt.hold ⟨xn, 2, xt⟩ (gotL lb xn) = t1 := ⟨_, rfl⟩
            have HT1 : Hid (holdsL [⟨xn, 2, xt⟩] lb = t1) := hidden (by rw [holds_one]; exact ht1)
            have HT2 : Hid (holdsL [⟨xn, 1, xt⟩] lb = !t1) := hidden (by rw [holds_one, ← ht1]; exact HOH.out)
            have HTE : Hid (holdsL (l.drop i) lb = (t && t1)) := hidden (by rw [drop_holds HX.out, hA.out]; exact congrArg _ ht1)
            clear ht1
            have C10 := hidden (HOL.out w10 s9 F9 _ S9.out (by simp) B10w.out)
            rw [HT1.out] at C10
            go_wp2_with fail
            refine C10.out.mono ?_
            rintro e w11 ⟨rfl, b11⟩
            have O11 := hidden (owl O10.out b11)
            have B11w : Hid (Below w.heap.size w w11) := hidden (B10w.out.trans (b11.mono B10w.out.size))
            have B113 : Hid (Below w3.heap.size w3 w11) := hidden (B103.out.trans (b11.mono B103.out.size))
            replace S9 := hidden (S9.out.later b11)
            have C11 := hidden (HOL.out w11 s10 F10 _ (S10.out.later b11) (by simp) B11w.out)
            rw [HT2.out] at C11
            clear b11 C10 O10 B10w B103 S10
            go_wp2_with fail
            refine C11.out.mono ?_
            rintro e w12 ⟨rfl, b12⟩
            have O12 := hidden (owl O11.out b12)
            have B12w : Hid (Below w.heap.size w w12) := hidden (B11w.out.trans (b12.mono B11w.out.size))
            have B123 : Hid (Below w3.heap.size w3 w12) := hidden (B113.out.trans (b12.mono B113.out.size))
            have C12 := hidden (HOL.out w12 s9 F9 _ (S9.out.later b12) (by simp) B12w.out)
            rw [HT1.out] at C12
            clear b12 C11 O11 B11w B113 S9
            cases t1
            all_goals
              go_wp2_with fail
              refine C12.out.mono ?_
              rintro e w13 ⟨rfl, b13⟩
              have O13 := hidden (owl O12.out b13)
              have B133 : Hid (Below w3.heap.size w3 w13) := hidden (B123.out.trans (b13.mono B123.out.size))
              clear b13 C12 O12 B12w B123
              cases t
              all_goals
                go_wp2_with fail
                exact ⟨⟨i, _, by omega, by first | rfl | (congr 1; omega), rfl, HTE, O13, B133⟩, by simp [intOf]⟩
          · go_upto_region 14 with (refine wpList_pushT _ rfl (.tmp 60) (.tmp 65) rfl w3.heap.size _ (n - (i + 1)) (L.cM (l.drop (i + 1)).reverse) rfl wx hO.out ⟨xn, 3, xt⟩ rfl rfl (by omega) hbsz ?_
                                    intro g5 c5 w5 o5 b5
                                    have O5 := hidden o5
                                    have B5 : Hid (Below w3.heap.size w3 w5) := hidden (hB.out.trans b5)
                                    clear o5 b5)
            clear q0 q1 q2
            have hni : n - (i + 1) + 1 = n - i := by omega
            rw [hni]
            replace O5 : Hid (w5.ownsRow w3.heap.size 31 3 (.slice (some ⟨g5, 0, none⟩) (n - i) c5) (n - i) (L.cM (l.drop i).reverse)) := hidden (by
              rw [drop_rev HX.out, L.cM_append, ← hni]
              exact O5.out)
            have B5w : Hid (Below w.heap.size w w5) := hidden (BB3.out.trans (B5.out.mono BB3.out.size))
            obtain ⟨q0, q1, q2⟩ := CE.out w5 B5w.out
            simp only at q0 q1 q2
            go_upto_region 15 with (refine wpList_new_var rfl rfl 31 15 (.tmp 70) rfl rfl rfl rfl 3 info31n (mC ⟨xn, 3, xt⟩) rfl (one_mC _) (by simp) rfl ?_; intro w6 x6 b6 hz6; have X6 := hidden x6; have B6 := hidden b6; have Z6 := hidden hz6; clear x6 b6 hz6)
            clear q0 q1 q2
            have B6w : Hid (Below w.heap.size w w6) := hidden (B5w.out.trans (B6.out.mono B5w.out.size))
            obtain ⟨q0, q1, q2⟩ := CE.out w6 B6w.out
            simp only at q0 q1 q2
            go_upto_region 16 with (refine wpList_new_var rfl rfl 31 16 (.tmp 74) rfl rfl rfl rfl 3 info31n (mC ⟨xn, 3, xt⟩) rfl (one_mC _) (by simp) rfl ?_; intro w7 y7 b7 hz7; have Y7 := hidden y7; have B7 := hidden b7; clear y7 b7 hz7)
            clear q0 q1 q2
            have X7 := hidden (X6.out.later B7.out)
            have AL7 : Hid (Below w7.heap.size w7 (w7.alloc (.cells #[.int .i64 0, .int .i64 2, .int .i64 1, .int .i64 4, .int .i64 3] 3))) := hidden ((Below.refl _ _).alloc (Nat.le_refl _) _)
            have hx1 : (w7.alloc (.cells #[.int .i64 0, .int .i64 2, .int .i64 1, .int .i64 4, .int .i64 3] 3)).cell? ⟨w5.heap.size, 1, none⟩ = some (.int .i64 3) := (X7.out.later AL7.out).cell 1
            have hy1 : (w7.alloc (.cells #[.int .i64 0, .int .i64 2, .int .i64 1, .int .i64 4, .int .i64 3] 3)).cell? ⟨w6.heap.size, 1, none⟩ = some (.int .i64 3) := (Y7.out.later AL7.out).cell 1
            have hyf := (Y7.out.later AL7.out).frozen 1
            go_upto_region 17 with fail
            obtain ⟨w8, hw8⟩ : ∃ w8, (w7.alloc (.cells #[.int .i64 0, .int .i64 2, .int .i64 1, .int .i64 4, .int .i64 3] 3)).setCell ⟨w6.heap.size, 1, none⟩ (.int .i64 4) = w8 := ⟨_, rfl⟩
            rw [hw8]
            have CS := Chg.set ⟨w6.heap.size, 1, none⟩ (.int .i64 4) (w7.alloc (.cells #[.int .i64 0, .int .i64 2, .int .i64 1, .int .i64 4, .int .i64 3] 3))
            have X8 : Hid (Blk w8 w5.heap.size 31 (mC ⟨xn, 3, xt⟩)) := hidden (by rw [← hw8]; exact CS.blk (X7.out.later AL7.out) (by show ¬ w5.heap.size = w6.heap.size; rw [Z6.out]; omega))
            have Y8 : Hid (Blk w8 w6.heap.size 31 (mC ⟨xn, 4, xt⟩)) := hidden (by rw [← hw8]; exact Blk.set (Y7.out.later AL7.out) 1 _)
            have B8 : Hid (Below w5.heap.size w5 w8) := hidden (by
              have k1 := B6.out.trans (B7.out.mono B6.out.size)
              have k2 := k1.trans (AL7.out.mono k1.size)
              rw [← hw8]
              exact k2.trans (CS.below k2.size (fun j hj => by simp only at hj; rw [hj]; exact B6.out.size)))
            clear CS hw8 hx1 hy1 hyf X7 Y7 X6 B6 B7 AL7 B6w
            have O8 := hidden (owl O5.out B8.out)
            have B8w : Hid (Below w.heap.size w w8) := hidden (B5w.out.trans (B8.out.mono B5w.out.size))
            have B83 : Hid (Below w3.heap.size w3 w8) := hidden (B5.out.trans (B8.out.mono B5.out.size))
            clear O5 B5 B5w B8 Z6
            generalize w5.heap.size = px at *
            generalize w6.heap.size = py at *
            have x0 : w8.cell? ⟨px, 0, none⟩ = some (.string xn) := X8.out.cell 0
            have x1 : w8.cell? ⟨px, 1, none⟩ = some (.int .i64 3) := X8.out.cell 1
            have x2 : w8.cell? ⟨px, 2, none⟩ = some (.string xt) := X8.out.cell 2
            have AL8 : Hid (Below w8.heap.size w8 (w8.alloc (.cells #[.string xn, .int .i64 3, .string xt] 31))) := hidden ((Below.refl _ _).alloc (Nat.le_refl _) _)
            have MS8 : Hid (Ms (w8.alloc (.cells #[.string xn, .int .i64 3, .string xt] 31)) (some ⟨w8.heap.size, 0, none⟩) [⟨xn, 3, xt⟩]) := hidden (ms_blk (Blk.new w8 31 _) (fun z hz => by rw [List.mem_singleton.1 hz]; exact HOKX.out))
            have N8 := hidden (newOkP B _ 1 1 [⟨xn, 3, xt⟩] _ rfl MS8.out (by omega) (HT.out.later (B8w.out.trans (AL8.out.mono B8w.out.size))) (newOk_one HMAY.out))
            clear MS8
            go_wp2_with fail
            refine N8.out.mono ?_
            rintro e w9 ⟨s9, F9, rfl, hs9, b9⟩
            have S9 := hidden hs9
            have B9 : Hid (Below w8.heap.size w8 w9) := hidden (AL8.out.trans (b9.mono AL8.out.size))
            clear hs9 b9 AL8 N8 x0 x1 x2 X8
            have O9 := hidden (owl O8.out B9.out)
            have B9w : Hid (Below w.heap.size w w9) := hidden (B8w.out.trans (B9.out.mono B8w.out.size))
            have B93 : Hid (Below w3.heap.size w3 w9) := hidden (B83.out.trans (B9.out.mono B83.out.size))
            have Y9 := hidden (Y8.out.later B9.out)
            clear O8 B8w B83 B9 Y8
            have x0 : w9.cell? ⟨py, 0, none⟩ = some (.string xn) := Y9.out.cell 0
            have x1 : w9.cell? ⟨py, 1, none⟩ = some (.int .i64 4) := Y9.out.cell 1
            have x2 : w9.cell? ⟨py, 2, none⟩ = some (.string xt) := Y9.out.cell 2
            have AL9 : Hid (Below w9.heap.size w9 (w9.alloc (.cells #[.string xn, .int .i64 4, .string xt] 31))) := hidden ((Below.refl _ _).alloc (Nat.le_refl _) _)
            have MS9 : Hid (Ms (w9.alloc (.cells #[.string xn, .int .i64 4, .string xt] 31)) (some ⟨w9.heap.size, 0, none⟩) [⟨xn, 4, xt⟩]) := hidden (ms_blk (Blk.new w9 31 _) (fun z hz => by rw [List.mem_singleton.1 hz]; exact ⟨HOKX.out.1, HOKX.out.2.1, by show (-9223372036854775808 : Int) ≤ 4; omega, by show (4 : Int) ≤ 9223372036854775807; omega⟩))
            have N9 := hidden (newOkP B _ 1 1 [⟨xn, 4, xt⟩] _ rfl MS9.out (by omega) (HT.out.later (B9w.out.trans (AL9.out.mono B9w.out.size))) (newOk_one HOPP.out))
            clear MS9
            go_wp2_with fail
            refine N9.out.mono ?_
            rintro e w10 ⟨s10, F10, rfl, hs10, b10⟩
            have S10 := hidden hs10
            have B10 : Hid (Below w9.heap.size w9 w10) := hidden (AL9.out.trans (b10.mono AL9.out.size))
            clear hs10 b10 AL9 N9 x0 x1 x2 Y9
            have O10 := hidden (owl O9.out B10.out)
            have B10w : Hid (Below w.heap.size w w10) := hidden (B9w.out.trans (B10.out.mono B9w.out.size))
            have B103 : Hid (Below w3.heap.size w3 w10) := hidden (B93.out.trans (B10.out.mono B93.out.size))
            replace S9 := hidden (S9.out.later B10.out)
            clear O9 B9w B93 B10
            obtain ⟨t1, ht1⟩ : ∃ t1, Mt.hold ⟨xn, 3, xt⟩ (gotL lb xn) = t1 := ⟨_, rfl⟩
            have HT1 : Hid (holdsL [⟨xn, 3, xt⟩] lb = t1) := hidden (by rw [holds_one]; exact ht1)
            have HT2 : Hid (holdsL [⟨xn, 4, xt⟩] lb = !t1) := hidden (by rw [holds_one, ← ht1]; exact HOH.out)
            have HTE : Hid (holdsL (l.drop i) lb = (t && t1)) := hidden (by rw [drop_holds HX.out, hA.out]; exact congrArg _ ht1)
            clear ht1
            have C10 := hidden (HOL.out w10 s9 F9 _ S9.out (by simp) B10w.out)
            rw [HT1.out] at C10
            go_wp2_with fail
            refine C10.out.mono ?_
            rintro e w11 ⟨rfl, b11⟩
            have O11 := hidden (owl O10.out b11)
            have B11w : Hid (Below w.heap.size w w11) := hidden (B10w.out.trans (b11.mono B10w.out.size))
            have B113 : Hid (Below w3.heap.size w3 w11) := hidden (B103.out.trans (b11.mono B103.out.size))
            replace S9 := hidden (S9.out.later b11)
            have C11 := hidden (HOL.out w11 s10 F10 _ (S10.out.later b11) (by simp) B11w.out)
            rw [HT2.out] at C11
            clear b11 C10 O10 B10w B103 S10
            go_wp2_with fail
            refine C11.out.mono ?_
            rintro e w12 ⟨rfl, b12⟩
            have O12 := hidden (owl O11.out b12)
            have B12w : Hid (Below w.heap.size w w12) := hidden (B11w.out.trans (b12.mono B11w.out.size))
            have B123 : Hid (Below w3.heap.size w3 w12) := hidden (B113.out.trans (b12.mono B113.out.size))
            have C12 := hidden (HOL.out w12 s9 F9 _ (S9.out.later b12) (by simp) B12w.out)
            rw [HT1.out] at C12
            clear b12 C11 O11 B11w B113 S9
            cases t1
            all_goals
              go_wp2_with fail
              refine C12.out.mono ?_
              rintro e w13 ⟨rfl, b13⟩
              have O13 := hidden (owl O12.out b13)
              have B133 : Hid (Below w3.heap.size w3 w13) := hidden (B123.out.trans (b13.mono B123.out.size))
              clear b13 C12 O12 B12w B123
              cases t
              all_goals
                go_wp2_with fail
                exact ⟨⟨i, _, by omega, by first | rfl | (congr 1; omega), rfl, HTE, O13, B133⟩, by simp [intOf]⟩
          · go_upto_region 14 with (refine wpList_pushT _ rfl (.tmp 60) (.tmp 65) rfl w3.heap.size _ (n - (i + 1)) (L.cM (l.drop (i + 1)).reverse) rfl wx hO.out ⟨xn, 4, xt⟩ rfl rfl (by omega) hbsz ?_
                                    intro g5 c5 w5 o5 b5
                                    have O5 := hidden o5
                                    have B5 : Hid (Below w3.heap.size w3 w5) := hidden (hB.out.trans b5)
                                    clear o5 b5)
            clear q0 q1 q2
            have hni : n - (i + 1) + 1 = n - i := by omega
            rw [hni]
            replace O5 : Hid (w5.ownsRow w3.heap.size 31 3 (.slice (some ⟨g5, 0, none⟩) (n - i) c5) (n - i) (L.cM (l.drop i).reverse)) := hidden (by
              rw [drop_rev HX.out, L.cM_append, ← hni]
              exact O5.out)
            have B5w : Hid (Below w.heap.size w w5) := hidden (BB3.out.trans (B5.out.mono BB3.out.size))
            obtain ⟨q0, q1, q2⟩ := CE.out w5 B5w.out
            simp only at q0 q1 q2
            go_upto_region 15 with (refine wpList_new_var rfl rfl 31 15 (.tmp 70) rfl rfl rfl rfl 3 info31n (mC ⟨xn, 4, xt⟩) rfl (one_mC _) (by simp) rfl ?_; intro w6 x6 b6 hz6; have X6 := hidden x6; have B6 := hidden b6; have Z6 := hidden hz6; clear x6 b6 hz6)
            clear q0 q1 q2
            have B6w : Hid (Below w.heap.size w w6) := hidden (B5w.out.trans (B6.out.mono B5w.out.size))
            obtain ⟨q0, q1, q2⟩ := CE.out w6 B6w.out
            simp only at q0 q1 q2
            go_upto_region 16 with (refine wpList_new_var rfl rfl 31 16 (.tmp 74) rfl rfl rfl rfl 3 info31n (mC ⟨xn, 4, xt⟩) rfl (one_mC _) (by simp) rfl ?_; intro w7 y7 b7 hz7; have Y7 := hidden y7; have B7 := hidden b7; clear y7 b7 hz7)
            clear q0 q1 q2
            have X7 := hidden (X6.out.later B7.out)
            have AL7 : Hid (Below w7.heap.size w7 (w7.alloc (.cells #[.int .i64 0, .int .i64 2, .int .i64 1, .int .i64 4, .int .i64 3] 3))) := hidden ((Below.refl _ _).alloc (Nat.le_refl _) _)
            have hx1 : (w7.alloc (.cells #[.int .i64 0, .int .i64 2, .int .i64 1, .int .i64 4, .int .i64 3] 3)).cell? ⟨w5.heap.size, 1, none⟩ = some (.int .i64 4) := (X7.out.later AL7.out).cell 1
            have hy1 : (w7.alloc (.cells #[.int .i64 0, .int .i64 2, .int .i64 1, .int .i64 4, .int .i64 3] 3)).cell? ⟨w6.heap.size, 1, none⟩ = some (.int .i64 4) := (Y7.out.later AL7.out).cell 1
            have hyf := (Y7.out.later AL7.out).frozen 1
            go_upto_region 17 with fail
            obtain ⟨w8, hw8⟩ : ∃ w8, (w7.alloc (.cells #[.int .i64 0, .int .i64 2, .int .i64 1, .int .i64 4, .int .i64 3] 3)).setCell ⟨w6.heap.size, 1, none⟩ (.int .i64 3) = w8 := ⟨_, rfl⟩
            rw [hw8]
            have CS := Chg.set ⟨w6.heap.size, 1, none⟩ (.int .i64 3) (w7.alloc (.cells #[.int .i64 0, .int .i64 2, .int .i64 1, .int .i64 4, .int .i64 3] 3))
            have X8 : Hid (Blk w8 w5.heap.size 31 (mC ⟨xn, 4, xt⟩)) := hidden (by rw [← hw8]; exact CS.blk (X7.out.later AL7.out) (by show ¬ w5.heap.size = w6.heap.size; rw [Z6.out]; omega))
            have Y8 : Hid (Blk w8 w6.heap.size 31 (mC ⟨xn, 3, xt⟩)) := hidden (by rw [← hw8]; exact Blk.set (Y7.out.later AL7.out) 1 _)
            have B8 : Hid (Below w5.heap.size w5 w8) := hidden (by
              have k1 := B6.out.trans (B7.out.mono B6.out.size)
              have k2 := k1.trans (AL7.out.mono k1.size)
              rw [← hw8]
              exact k2.trans (CS.below k2.size (fun j hj => by simp only at hj; rw [hj]; exact B6.out.size)))
            clear CS hw8 hx1 hy1 hyf X7 Y7 X6 B6 B7 AL7 B6w
            have O8 := hidden (owl O5.out B8.out)
            have B8w : Hid (Below w.heap.size w w8) := hidden (B5w.out.trans (B8.out.mono B5w.out.size))
            have B83 : Hid (Below w3.heap.size w3 w8) := hidden (B5.out.trans (B8.out.mono B5.out.size))
            clear O5 B5 B5w B8 Z6
            generalize w5.heap.size = px at *
            generalize w6.heap.size = py at *
            have x0 : w8.cell? ⟨px, 0, none⟩ = some (.string xn) := X8.out.cell 0
            have x1 : w8.cell? ⟨px, 1, none⟩ = some (.int .i64 4) := X8.out.cell 1
            have x2 : w8.cell? ⟨px, 2, none⟩ = some (.string xt) := X8.out.cell 2
            have AL8 : Hid (Below w8.heap.size w8 (w8.alloc (.cells #[.string xn, .int .i64 4, .string xt] 31))) := hidden ((Below.refl _ _).alloc (Nat.le_refl _) _)
            have MS8 : Hid (Ms (w8.alloc (.cells #[.string xn, .int .i64 4, .string xt] 31)) (some ⟨w8.heap.size, 0, none⟩) [⟨xn, 4, xt⟩]) := hidden (ms_blk (Blk.new w8 31 _) (fun z hz => by rw [List.mem_singleton.1 hz]; exact HOKX.out))
            have N8 := hidden (newOkP B _ 1 1 [⟨xn, 4, xt⟩] _ rfl MS8.out (by omega) (HT.out.later (B8w.out.trans (AL8.out.mono B8w.out.size))) (newOk_one HMAY.out))
            clear MS8
            go_wp2_with fail
            refine N8.out.mono ?_
            rintro e w9 ⟨s9, F9, rfl, hs9, b9⟩
            have S9 := hidden hs9
            have B9 : Hid (Below w8.heap.size w8 w9) := hidden (AL8.out.trans (b9.mono AL8.out.size))
            clear hs9 b9 AL8 N8 x0 x1 x2 X8
            have O9 := hidden (owl O8.out B9.out)
            have B9w : Hid (Below w.heap.size w w9) := hidden (B8w.out.trans (B9.out.mono B8w.out.size))
            have B93 : Hid (Below w3.heap.size w3 w9) := hidden (B83.out.trans (B9.out.mono B83.out.size))
            have Y9 := hidden (Y8.out.later B9.out)
            clear O8 B8w B83 B9 Y8
            have x0 : w9.cell? ⟨py, 0, none⟩ = some (.string xn) := Y9.out.cell 0
            have x1 : w9.cell? ⟨py, 1, none⟩ = some (.int .i64 3) := Y9.out.cell 1
            have x2 : w9.cell? ⟨py, 2, none⟩ = some (.string xt) := Y9.out.cell 2
            have AL9 : Hid (Below w9.heap.size w9 (w9.alloc (.cells #[.string xn, .int .i64 3, .string xt] 31))) := hidden ((Below.refl _ _).alloc (Nat.le_refl _) _)
            have MS9 : Hid (Ms (w9.alloc (.cells #[.string xn, .int .i64 3, .string xt] 31)) (some ⟨w9.heap.size, 0, none⟩) [⟨xn, 3, xt⟩]) := hidden (ms_blk (Blk.new w9 31 _) (fun z hz => by rw [List.mem_singleton.1 hz]; exact ⟨HOKX.out.1, HOKX.out.2.1, by show (-9223372036854775808 : Int) ≤ 3; omega, by show (3 : Int) ≤ 9223372036854775807; omega⟩))
            have N9 := hidden (newOkP B _ 1 1 [⟨xn, 3, xt⟩] _ rfl MS9.out (by omega) (HT.out.later (B9w.out.trans (AL9.out.mono B9w.out.size))) (newOk_one HOPP.out))
            clear MS9
            go_wp2_with fail
            refine N9.out.mono ?_
            rintro e w10 ⟨s10, F10, rfl, hs10, b10⟩
            have S10 := hidden hs10
            have B10 : Hid (Below w9.heap.size w9 w10) := hidden (AL9.out.trans (b10.mono AL9.out.size))
            clear hs10 b10 AL9 N9 x0 x1 x2 Y9
            have O10 := hidden (owl O9.out B10.out)
            have B10w : Hid (Below w.heap.size w w10) := hidden (B9w.out.trans (B10.out.mono B9w.out.size))
            have B103 : Hid (Below w3.heap.size w3 w10) := hidden (B93.out.trans (B10.out.mono B93.out.size))
            replace S9 := hidden (S9.out.later B10.out)
            clear O9 B9w B93 B10
            obtain ⟨t1, ht1⟩ : ∃ t1, Mt.hold ⟨xn, 4, xt⟩ (gotL lb xn) = t1 := ⟨_, rfl⟩
            have HT1 : Hid (holdsL [⟨xn, 4, xt⟩] lb = t1) := hidden (by rw [holds_one]; exact ht1)
            have HT2 : Hid (holdsL [⟨xn, 3, xt⟩] lb = !t1) := hidden (by rw [holds_one, ← ht1]; exact HOH.out)
            have HTE : Hid (holdsL (l.drop i) lb = (t && t1)) := hidden (by rw [drop_holds HX.out, hA.out]; exact congrArg _ ht1)
            clear ht1
            have C10 := hidden (HOL.out w10 s9 F9 _ S9.out (by simp) B10w.out)
            rw [HT1.out] at C10
            go_wp2_with fail
            refine C10.out.mono ?_
            rintro e w11 ⟨rfl, b11⟩
            have O11 := hidden (owl O10.out b11)
            have B11w : Hid (Below w.heap.size w w11) := hidden (B10w.out.trans (b11.mono B10w.out.size))
            have B113 : Hid (Below w3.heap.size w3 w11) := hidden (B103.out.trans (b11.mono B103.out.size))
            replace S9 := hidden (S9.out.later b11)
            have C11 := hidden (HOL.out w11 s10 F10 _ (S10.out.later b11) (by simp) B11w.out)
            rw [HT2.out] at C11
            clear b11 C10 O10 B10w B103 S10
            go_wp2_with fail
            refine C11.out.mono ?_
            rintro e w12 ⟨rfl, b12⟩
            have O12 := hidden (owl O11.out b12)
            have B12w : Hid (Below w.heap.size w w12) := hidden (B11w.out.trans (b12.mono B11w.out.size))
            have B123 : Hid (Below w3.heap.size w3 w12) := hidden (B113.out.trans (b12.mono B113.out.size))
            have C12 := hidden (HOL.out w12 s9 F9 _ (S9.out.later b12) (by simp) B12w.out)
            rw [HT1.out] at C12
            clear b12 C11 O11 B11w B113 S9
            cases t1
            all_goals
              go_wp2_with fail
              refine C12.out.mono ?_
              rintro e w13 ⟨rfl, b13⟩
              have O13 := hidden (owl O12.out b13)
              have B133 : Hid (Below w3.heap.size w3 w13) := hidden (B123.out.trans (b13.mono B123.out.size))
              clear b13 C12 O12 B12w B123
              cases t
              all_goals
                go_wp2_with fail
                exact ⟨⟨i, _, by omega, by first | rfl | (congr 1; omega), rfl, HTE, O13, B133⟩, by simp [intOf]⟩
    · clear SA2 SA3 HOL
      go_wp2_with fail
      go_ret
      exact ⟨by first | rfl | trivial, BB3.out⟩
  · go_wp2_with fail
    refine N2.out.mono ?_
    rintro e w3 ⟨b3, hR3⟩
    have BB3 : Hid (Below w.heap.size w w3) := hidden (BB2.out.trans (b3.mono BB2.out.size))
    clear b3 N2 HOL
    rcases hR3 with ⟨-, sb, Fb, rfl, -, -⟩ | ⟨-, rfl⟩
    all_goals
      go_wp2_with fail
      go_ret
      exact ⟨by first | rfl | trivial, BB3.out⟩

end Go.Proofs.YtanlgplgplncdaaDoor
