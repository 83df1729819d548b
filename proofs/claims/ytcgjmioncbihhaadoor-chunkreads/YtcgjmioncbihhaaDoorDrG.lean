/-
  The document's own Read.
-/
import Derived.Test.YtcgjmioncbihhaaDoorDrF
import Derived.Test.YtcgjmioncbihhaaDoorNumF
import Derived.Deep.CutBlock
namespace Go.Proofs.YtcgjmioncbihhaaDoor
open Go.RowKit
set_option linter.unusedVariables false
set_option linter.unusedSimpArgs false

theorem strOfNums_inj {l m : List Int} (hl : Byte l) (hm : Byte m) (h : strOfNums l = strOfNums m) : l = m := by
  have h2 := congrArg (fun s : ByteArray => s.data.toList) h
  simp only [strOfNums_data] at h2
  have hlen : l.length = m.length := by simpa using congrArg List.length h2
  apply List.ext_getElem hlen
  intro i h1 h3
  have h4 := congrArg (fun s => s[i]?) h2
  simp only [List.getElem?_map, List.getElem?_eq_getElem h1, List.getElem?_eq_getElem h3, Option.map_some, Option.some.injEq] at h4
  have b1 := hl _ (List.getElem_mem h1)
  have b2 := hm _ (List.getElem_mem h3)
  have h5 := congrArg UInt8.toNat h4
  simp only [UInt8.toNat_ofNat'] at h5
  omega
theorem str_neB {l m : List Int} (hl : Byte l) (hm : Byte m) (h : ¬ l = m) : ((strOfNums l).toList != (strOfNums m).toList) = true := by
  rw [bne_iff_ne]
  intro e
  apply h
  apply strOfNums_inj hl hm
  rw [ByteArray.toList_eq, ByteArray.toList_eq] at e
  have e2 : (strOfNums l).data = (strOfNums m).data := by
    rw [← Array.toArray_toList (xs := (strOfNums l).data), e]
  cases h1 : strOfNums l
  cases h2 : strOfNums m
  rw [h1, h2] at e2
  simp only at e2
  rw [e2]
theorem encC_byteD (l : List Sm) (h : l.length < 18446744073709551616) : Byte (encC l) := by
  unfold encC
  split
  · intro x hx; exact absurd hx (by simp)
  · intro x hx
    rcases List.mem_append.1 hx with hx | hx
    · exact Q.enc_byte _ h x hx
    · exact pk_byte _ x hx
theorem built69 (ad : Option Addr) (n c : Nat) : Tryd.prog.built 69 [(0, .slice ad n c)] = some #[.slice ad n c, .int .i64 0, .bool false] := by kernel_rfl
theorem own_apart69 {wx : World} {v : Value} {n g b : Nat} {xs vs : List Value} (h : wx.ownsRow b 32 2 v n xs) (hB : Blk wx g 69 vs) : ∀ i, v.ownBlock = some i → ¬ i = g := by
  rintro i hi rfl
  rcases h.2 with ⟨rfl, _⟩ | ⟨g', cap, cur, rfl, _, hg, _⟩
  · exact absurd hi (by simp [Value.ownBlock])
  · simp [Value.ownBlock] at hi
    subst hi
    have := hB.symm.trans hg
    injection this with this
    injection this with _ h2 _
    exact absurd h2 (by decide)
/-- What a round of the document's Read holds. -/
structure RL (w wx : World) (r c2 : Nat) (ad2 : Option Addr) (b bs : List Int) (T : List Bool) (v : Value) (i : Nat) (out : List Sm) (st : Int) (Bi : List Bool) (bi : Bool) : Prop where
  ys : YS wx r ad2 c2 bs Bi bi
  own : wx.ownsRow w.heap.size 32 2 v i (cS out)
  len : out.length = i
  ok : ∀ x ∈ out, OkS x
  ist : I64 st
  bel : Below w.heap.size w wx
  dx : DX b T i out st Bi bi
theorem RL.later {w wx wy : World} {r c2 i : Nat} {ad2 : Option Addr} {b bs : List Int} {T Bi : List Bool} {v : Value} {out : List Sm} {st : Int} {bi : Bool} (h : RL w wx r c2 ad2 b bs T v i out st Bi bi) (hb : Below wx.heap.size wx wy) : RL w wy r c2 ad2 b bs T v i out st Bi bi := ⟨h.ys.later hb, owl h.own hb, h.len, h.ok, h.ist, h.bel.trans (hb.mono h.bel.size), h.dx⟩

theorem step_pushM (w : World) {ops : Array Oper} {o : Oper} {a : Act} {K : Act → World → Prop} {Q : Exit → Act → World → Prop} {E : Prop} (hgd : o.guard = none) (s x : Operand)
    (ho : o.op = .call { callee := .builtin .append, args := #[s, x], argTypes := #[40, 40] }) (base : Nat) (v : Value) (n : Nat) (xs : List Sm) (hs : a.eval s = v) (w0 : World) (hown : w0.ownsRow base 32 2 v n (cS xs)) (y : Sm)
    (hw : w = w0.alloc (.cells #[.int .i64 y.t, .int .u64 (y.v : Int)] 32)) (hx : a.eval x = .slice (some ⟨w0.heap.size, 0, none⟩) 1 1) (hn : n ≤ 1000000000) (hbase : base ≤ w0.heap.size)
    (h : ∀ g' c' w', w'.ownsRow base 32 2 (.slice (some ⟨g', 0, none⟩) (n + 1) c') (n + 1) (cS (xs ++ [y])) → Below base w0 w' → Chg (fun i => v.ownBlock = some i) w0 w' → K (a.put o.dst (.slice (some ⟨g', 0, none⟩) (n + 1) c')) w') :
    if Region.wanted o (yielded ops a.tmps) = true then Oper.wp Tryd.prog o a w K Q else E := by
  subst hw
  obtain ⟨i0, hi0, hz0, hz1, hz2⟩ := info_parts info32
  refine step_push2 _ hgd s x 40 ho 32 i0 (.agg #[.int .i64 0, .int .u64 0]) 16 Tryd.underlying40 hi0 hz0 hz1 hz2 rfl base v n (cS xs) hs (hown.alloc _) ⟨w0.heap.size, 0, none⟩ [.int .i64 y.t, .int .u64 (y.v : Int)] hx rfl (fun j u hu => by
    have := (Blk.new w0 32 [.int .i64 y.t, .int .u64 (y.v : Int)]).cell (0 + j)
    rw [Addr.add_lit, this, Nat.zero_add]
    exact hu) (by intro u hu; simp at hu; rcases hu with rfl | rfl <;> rfl) (by unfold maxLen; omega) (by omega) (by simp; omega) ?_
  intro g' c' w' ho' hp'
  exact h g' c' w' (by rw [cS_append]; exact ho') (hp'.chg.1.below hbase (fun q hq => (hown.lt q hq).1)) hp'.chg.1
theorem DX.first2 {b : List Int} {T Bi B1 B2 : List Bool} {bi b1 b2 : Bool} {st : Int} (hb : Byte b) (hn : b ≠ []) (hT : T = ub (b.drop (Q.dec b).2)) (h : DX b T 0 [] st Bi bi) (h1 : 64 ≤ Bi.length → B1 = Bi.drop 64 ∧ b1 = bi) (h2 : 64 ≤ B1.length → B2 = B1.drop 64 ∧ b2 = b1) :
    DX b T 1 [⟨wr (tkV 64 Bi : Nat), tkV 64 B1⟩] st B2 b2 := by
  intro L hL
  obtain ⟨j1, _, j3, j4⟩ := h L hL
  have e : T = Bi := by rw [j4]; rfl
  subst e
  have hst : st = 0 := j3
  subst hst
  exact DX.first hb hn hT (fun hh => by obtain ⟨i1, i2⟩ := h1 hh; exact ⟨i1, by rw [i2, j1]⟩) h2 L hL
theorem RL.ch {w wx wy : World} {r c2 i : Nat} {ad2 : Option Addr} {b bs : List Int} {T Bi B' : List Bool} {v : Value} {out : List Sm} {st : Int} {bi b' : Bool} (h : RL w wx r c2 ad2 b bs T v i out st Bi bi) (hr : w.heap.size ≤ r) (hy : YS wy r ad2 c2 bs B' b') (hc : Chg (fun i => i = r) wx wy) : wy.ownsRow w.heap.size 32 2 v i (cS out) ∧ Below w.heap.size w wy := by
  obtain ⟨t, _, hB, _⟩ := h.ys.blk
  exact ⟨hc.owns h.own (own_apart69 h.own hB), h.bel.trans (hc.below h.bel.size (fun i hi => by omega))⟩
set_option maxRecDepth 100000 in
set_option maxHeartbeats 16000000 in
theorem readD (w : World) (ad : Option Addr) (len cap : Nat) (b : List Int) (h : Sl w ad len b) (hl : len ≤ 100000) (hlc : len ≤ cap) (hcm : cap ≤ 9223372036854775807) (hno : ad = none → len = 0 ∧ cap = 0) :
    Calls Tryd.prog 14 #[.slice ad len cap] w (RdP w b) := by
  have HS := hidden h
  have hlen := h.len
  have HU := hidden (Q.refUint_any ad len cap b w h (by omega))
  have hdb := Q.dec_bound b h.byte
  by_cases h0 : len = 0
  · subst h0
    have HR : Hid (rdR b = some []) := hidden (by rw [List.eq_nil_of_length_eq_zero hlen]; rfl)
    clear h hno hlen hdb HU
    go_enter Tryd.func14, Tryd.ntmps14
    go_wp2
    go_ret2
    exact ⟨none, 0, [], 0, rfl, World.ownsRow_nil _ _ _ _, by simp, Below.refl _ _, .inl ⟨HR.out, rfl⟩⟩
  · have hbn : b ≠ [] := fun e => h0 (by rw [← hlen, e]; rfl)
    have h0z : ¬ (len : Int) = 0 := by omega
    obtain ⟨n, hn⟩ : ∃ n, (Q.dec b).1 = n := ⟨_, rfl⟩
    obtain ⟨k, hk⟩ : ∃ k, (Q.dec b).2 = k := ⟨_, rfl⟩
    rw [hn, hk] at HU
    have HNN := hidden hn
    have HKK := hidden hk
    rw [hn, hk] at hdb
    have HBN := hidden hbn
    obtain ⟨bb, off, rfl, hbl, _⟩ := h.at (by omega)
    by_cases hg : k = 0 ∨ n = 0 ∨ 4 * len < n
    · have HR : Hid (rdR b = none) := hidden (by
        cases hr : rdR b with
        | none => rfl
        | some L =>
          exfalso
          obtain ⟨k1, k2, k3, k4, _⟩ := rdR_bits HS.out.byte HBN.out hr
          have k5 := len_enc4 k1
          rw [k3, hlen] at k5
          rw [HNN.out] at k4
          rcases hg with hg | hg | hg
          · have := Q.decAt_nil b 0 0 (by show (Q.dec b).2 = 0; rw [HKK.out, hg])
            have h6 : (Q.dec b).1 = 0 := this
            rw [HNN.out] at h6
            exact k1 (List.eq_nil_of_length_eq_zero (by omega))
          · exact k1 (List.eq_nil_of_length_eq_zero (by omega))
          · omega)
      have hgz : (k : Int) = 0 ∨ (¬ (k : Int) = 0 ∧ (n : Int) = 0) ∨ (¬ (k : Int) = 0 ∧ ¬ (n : Int) = 0 ∧ 4 * (len : Int) < (n : Int)) := by omega
      clear h hno hlen hg hn hk hbn
      rcases hgz with g1 | ⟨g1, g2⟩ | ⟨g1, g2, g3⟩
      all_goals
        go_enter Tryd.func14, Tryd.ntmps14
        go_wp2_with fail
        refine HU.out.mono ?_
        rintro e w1 ⟨rfl, rfl⟩
        go_wp2
        go_ret2
        exact ⟨none, 0, [], 100, rfl, World.ownsRow_nil _ _ _ _, by simp, Below.refl _ _, .inr ⟨HR.out, rfl, rfl⟩⟩
    · have g1 : ¬ (k : Int) = 0 := by omega
      have g2 : ¬ (n : Int) = 0 := by omega
      have g3 : ¬ 4 * (len : Int) < (n : Int) := by omega
      have CUT := hidden (fun (ad : Option Addr) (hh : 0 < len - k → ad = some ⟨bb, off + k, none⟩) => sl_tail HS.out (show k ≤ len by omega) hh)
      have hkl : k ≤ len := by omega
      have hBL : (b.drop k).length = len - k := by rw [List.length_drop, hlen]
      clear h hno hg hn hk hbn
      have gb1 : ((k : Int) == 0) = false := by simp; omega
      have gb2 : ((n : Int) == 0) = false := by simp; omega
      have gb3 : decide (4 * (len : Int) < (n : Int)) = false := by simp; omega
      go_enter Tryd.func14, Tryd.ntmps14
      go_wp2_with fail
      refine HU.out.mono ?_
      rintro e w1 ⟨rfl, rfl⟩
      go_upto_region 6 with fail
      go_cut [6] from 36 to 40 (fun s6 wx => ∃ (r c2 : Nat) (ad2 : Option Addr), s6 = .pointer (some ⟨r, 0, none⟩) ∧ Hid (YS wx r ad2 c2 (b.drop k) (ub (b.drop k)) false) ∧ Hid (Below w1.heap.size w1 wx) ∧ Hid (w1.heap.size ≤ r ∧ ∀ z, ad2 = some z → z.block < w1.heap.size))
      case first =>
        by_cases hck : cap = k
        · have hcl : len = cap := by omega
          subst hck
          subst hcl
          have hBL0 : (b.drop len).length = 0 := by rw [hBL]; omega
          have CUT0 : Sl w1 (some ⟨bb, off, none⟩) 0 (b.drop len) := by have := CUT.out (some ⟨bb, off, none⟩) (by intro hh; omega); rwa [Nat.sub_self] at this
          go_wp2_with (first
            | (refine wpList_build_to rfl 69 #[(0, .tmp 38)] rfl [(0, .slice (some ⟨bb, off, none⟩) 0 0)] #[.slice (some ⟨bb, off, none⟩) 0 0, .int .i64 0, .bool false] rfl (built69 _ _ _) ?_)
            | (refine wpList_box_blk rfl 69 (.tmp 39) rfl [.slice (some ⟨bb, off, none⟩) 0 0, .int .i64 0, .bool false] rfl ?_; intro w3 B3 bl3 hz3; have HB3 := hidden B3; have BL3 := hidden bl3; clear B3 bl3 hz3))
          go_meet
          refine ⟨w1.heap.size, _, _, rfl, hidden ⟨⟨0, by omega, by rw [hBL0]; exact HB3.out, by rw [List.drop_zero]⟩, by rw [hBL0]; exact CUT0.later BL3.out, fun z hz _ e => ?_, by rw [hBL0]; omega⟩, BL3, hidden ⟨Nat.le_refl _, fun z hz => ?_⟩⟩
          · injection hz with hz
            subst hz
            simp only at e
            omega
          · injection hz with hz
            subst hz
            exact hbl
        · have hckz : ¬ (cap : Int) = (k : Int) := by omega
          go_wp2_with (first
            | (refine wpList_build_to rfl 69 #[(0, .tmp 38)] rfl [(0, .slice (some ⟨bb, off + k, none⟩) (len - k) (cap - k))] #[.slice (some ⟨bb, off + k, none⟩) (len - k) (cap - k), .int .i64 0, .bool false] rfl (built69 _ _ _) ?_)
            | (refine wpList_box_blk rfl 69 (.tmp 39) rfl [.slice (some ⟨bb, off + k, none⟩) (len - k) (cap - k), .int .i64 0, .bool false] rfl ?_; intro w3 B3 bl3 hz3; have HB3 := hidden B3; have BL3 := hidden bl3; clear B3 bl3 hz3))
          go_meet
          refine ⟨w1.heap.size, _, _, rfl, hidden ⟨⟨0, by omega, by rw [hBL]; exact HB3.out, by rw [List.drop_zero]⟩, by rw [hBL]; exact (CUT.out _ (by first | (intro _; rfl) | (intro hh; omega))).later BL3.out, fun z hz _ e => ?_, by rw [hBL]; omega⟩, BL3, hidden ⟨Nat.le_refl _, fun z hz => ?_⟩⟩
          · injection hz with hz
            subst hz
            simp only at e
            omega
          · injection hz with hz
            subst hz
            exact hbl
      case rest =>
        rename World => w2
        obtain ⟨r, c2, ad2, rfl, hY, hB2, hR⟩ := hcut
        obtain ⟨T, hT⟩ : ∃ T, ub (b.drop k) = T := ⟨_, rfl⟩
        have HT : Hid (T = ub (b.drop (Q.dec b).2)) := hidden (by rw [HKK.out, hT])
        rw [hT] at hY
        have hn4 : n ≤ 400000 := by omega
        generalize b.drop k = bs at *
        have RL0 : Hid (RL w1 w2 r c2 ad2 b bs T (.slice none 0 0) 0 [] 0 T false) := hidden ⟨hY.out, World.ownsRow_nil _ _ _ _, rfl, by simp, by unfold I64; omega, hB2.out, DX.start b T⟩
        clear hY hB2 CUT HU hT hBL gb1 gb2 gb3 g1 g2 g3
        generalize ((k : Int) == 0) = z1 at *
        generalize ((n : Int) == 0) = z2 at *
        generalize decide (4 * (len : Int) < (n : Int)) = z3 at *
        go_upto_block 0 with fail
        go_cut [7, 8, 9, 10, 11, 12, 13] from 41 to 93 (fun v7 v8 v9 v10 v11 v12 v13 wx => ∃ (i : Nat) (out : List Sm) (st : Int) (Bi : List Bool) (bi : Bool), (∃ a7 c7, v7 = .slice a7 i c7) ∧ i ≤ n ∧ (i = n ∨ bi = true) ∧ Hid (RL w1 wx r c2 ad2 b bs T v7 i out st Bi bi))
        case first =>
          go_wp2_with fail
          go_loopw [7, 8, 9, 10, 11, 12, 13] (fun v7 v8 v9 v10 v11 v12 v13 wx => ∃ (i : Nat) (out : List Sm) (st : Int) (Bi : List Bool) (bi : Bool), (∃ a7 c7, v7 = .slice a7 i c7) ∧ v8 = .int .i64 st ∧ v9 = .int .i64 (i : Int) ∧ i ≤ n ∧ Hid (RL w1 wx r c2 ad2 b bs T v7 i out st Bi bi)) (fun _ _ v9 _ _ _ _ _ => n - (intOf v9).toNat)
          case atStart => exact ⟨0, [], 0, T, false, ⟨_, _, rfl⟩, rfl, rfl, by omega, RL0⟩
          case round =>
            rename World => wx
            obtain ⟨i, out, st, Bi, bi, ⟨a7, c7, rfl⟩, rfl, rfl, hi, hP⟩ := hrel
            clear RL0
            obtain ⟨t, -, hBk, -⟩ := hP.out.ys.blk
            have cb := hBk.cell 2
            simp at cb
            clear hBk
            by_cases hlt : i < n
            · have hltz : (i : Int) < (n : Int) := by omega
              cases bi with
              | true =>
                go_wp2_with fail
                go_meet
                exact ⟨i, out, st, Bi, true, ⟨_, _, rfl⟩, by omega, .inr rfl, hP⟩
              | false =>
                by_cases hi0 : i = 0
                · subst hi0
                  have ho : out = [] := List.eq_nil_of_length_eq_zero hP.out.len
                  subst ho
                  rw [show ((0 : Nat) : Int) = 0 from rfl]
                  have G64 : Hid (∀ wq B1 b1, YS wq r ad2 c2 bs B1 b1 → Calls Tryd.prog 28 #[.pointer (some ⟨r, 0, none⟩), .int .i64 64] wq fun e w' => e = .returned (.int .u64 (tkV 64 B1 : Int)) ∧ (∃ B' bad', YS w' r ad2 c2 bs B' bad' ∧ (64 ≤ B1.length → B' = B1.drop 64 ∧ bad' = b1) ∧ (¬ 64 ≤ B1.length → bad' = true)) ∧ Chg (fun i => i = r) wq w') := hidden (fun wq B1 b1 h1 => getD wq r c2 64 ad2 bs B1 b1 h1 (by omega))
                  go_wp2_with fail
                  refine (G64.out wx Bi false hP.out.ys).mono ?_
                  rintro e w3 ⟨rfl, ⟨B3, b3, hY3, hk3, _⟩, hc3⟩
                  have Y3 := hidden hY3
                  have C3 := hidden hc3
                  have K3 := hidden hk3
                  clear hY3 hc3 hk3
                  go_wp2_with fail
                  refine (G64.out w3 B3 b3 Y3.out).mono ?_
                  rintro e w4 ⟨rfl, ⟨B4, b4, hY4, hk4, _⟩, hc4⟩
                  have Y4 := hidden hY4
                  have RC := hidden (hP.out.ch hR.out.1 hY4 (C3.out.trans hc4 (fun _ _ e => e)))
                  have DX4 := hidden (DX.first2 HS.out.byte HBN.out HT.out hP.out.dx K3.out hk4)
                  clear hY4 hk4 hc4
                  have hv1 := tkV_lt (n := 64) (B := Bi) (by omega)
                  have hv2 := tkV_lt (n := 64) (B := B3) (by omega)
                  have hcv : IntKind.i64.wrap ((tkV 64 Bi : Nat) : Int) = wr (tkV 64 Bi : Nat) := by
                    rw [IntKind.wrap_i64]
                    unfold wr
                    rfl
                  have HOKn : Hid (OkS ⟨wr (tkV 64 Bi : Nat), tkV 64 B3⟩) := hidden ⟨wr_i64 _, hv2⟩
                  rw [← hcv] at DX4 HOKn
                  generalize hW : IntKind.i64.wrap ((tkV 64 Bi : Nat) : Int) = W at *
                  generalize tkV 64 B3 = V2 at *
                  clear hcv
                  have hbs := RC.out.2.size
                  go_wp2_with (first
                    | simp only [hW]
                    | (refine wpList_build_to rfl 32 #[(0, .tmp 62), (1, .tmp 63)] rfl [(0, .int .i64 W), (1, .int .u64 (V2 : Int))] #[.int .i64 W, .int .u64 (V2 : Int)] rfl (built32 _ _ _ _ rfl rfl) ?_)
                    | (refine wpList_pushM _ rfl (.tmp 60) (.tmp 65) rfl w1.heap.size (.slice a7 0 c7) 0 [] rfl w4 RC.out.1 ⟨W, V2⟩ rfl rfl (by omega) hbs ?_
                       intro g9 c9 w9 o9 b9 ch9
                       have O9 := hidden o9
                       have B9 := hidden b9
                       have CH9 := hidden ch9
                       clear o9 b9 ch9))
                  have RL9 : Hid (RL w1 w9 r c2 ad2 b bs T (.slice (some ⟨g9, 0, none⟩) (0 + 1) c9) (0 + 1) [⟨W, V2⟩] st B4 b4) := hidden (by
                    obtain ⟨t4, q1, q2, q3⟩ := Y4.out.blk
                    refine ⟨⟨⟨t4, q1, CH9.out.blk q2 (fun e => own_apart69 RC.out.1 q2 r e rfl), q3⟩, CH9.out.sl Y4.out.sl (fun z hz _ e => ?_), Y4.out.ne, Y4.out.len⟩, O9.out, rfl, ?_, hP.out.ist, RC.out.2.trans B9.out, DX4.out⟩
                    · have h1 := hR.out.2 z hz
                      have h2 := (RC.out.1.lt z.block e).1
                      omega
                    · intro y hy
                      rw [List.mem_singleton.1 hy]
                      exact HOKn.out)
                  exact ⟨⟨0 + 1, _, st, B4, b4, ⟨_, _, rfl⟩, rfl, rfl, by omega, RL9⟩, by simp [intOf]; omega⟩
                · obtain ⟨j, rfl⟩ : ∃ j, i = j + 1 := ⟨i - 1, by omega⟩
                  have hjz : ((j + 1 : Nat) : Int) = (j : Int) + 1 := by omega
                  rw [hjz]
                  have hj0 : ¬ (j : Int) + 1 = 0 := by omega
                  have hj1 : (j : Int) + 1 < (n : Int) := by omega
                  clear hjz hltz
                  go_wp2_with fail
                  refine (dD wx r c2 ad2 bs Bi false hP.out.ys).mono ?_
                  rintro e w3 ⟨dd, rfl, hdi, ⟨B3, b3, hY3, hk3⟩, hc3⟩
                  have Y3 := hidden hY3
                  have C3 := hidden hc3
                  have K3 := hidden hk3
                  unfold I64 at hdi
                  clear hY3 hc3 hk3
                  go_wp2_with fail
                  refine (xD w3 r c2 ad2 bs B3 b3 Y3.out).mono ?_
                  rintro e w4 ⟨xx, rfl, hxl, ⟨B4, b4, hY4, hk4⟩, hc4⟩
                  have Y4 := hidden hY4
                  have RC := hidden (hP.out.ch hR.out.1 hY4 (C3.out.trans hc4 (fun _ _ e => e)))
                  obtain ⟨y, hy⟩ : ∃ y, out[j]? = some y := ⟨out[j]'(by rw [hP.out.len]; omega), by simp [hP.out.len]⟩
                  have DX4 := hidden (DX.step HS.out.byte HBN.out HT.out hP.out.dx (by rw [HNN.out]; exact hlt) hy K3.out hk4)
                  clear hY4 hk4 hc4
                  obtain ⟨g0, o0, y', e0, _, hy', _, d0, d1, oky⟩ := (ss_of_owns (by have := RC.out.1; exact this) hP.out.ok).get (i := j) (by rw [hP.out.len]; omega)
                  obtain rfl : y' = y := by rw [hy] at hy'; exact (Option.some.inj hy').symm
                  have hist := hP.out.ist
                  unfold I64 at hist
                  have hyt := oky.t
                  unfold I64 at hyt
                  have hyv := oky.v
                  have hW1 := i64w (st + dd)
                  have hee : I64 (wr (st + dd)) := wr_i64 _
                  have hW2 := i64w (y'.t + wr (st + dd))
                  have hxor := bits_xor_u64_nat y'.v xx hyv hxl
                  have HOKn : Hid (OkS ⟨wr (y'.t + wr (st + dd)), y'.v ^^^ xx⟩) := hidden ⟨wr_i64 _, xor_lt hyv hxl⟩
                  have HEE := hidden hee
                  generalize wr (y'.t + wr (st + dd)) = T2 at *
                  generalize wr (st + dd) = ee at *
                  generalize y'.v ^^^ xx = V2 at *
                  have hwj : IntKind.i64.wrap (j : Int) = (j : Int) := i64_id (by omega) (by omega)
                  have hjn : j < j + 1 := by omega
                  have hjn2 : (j : Int) < (j : Int) + 1 := by omega
                  have hbs := RC.out.2.size
                  unfold I64 at hee
                  subst e0
                  go_upto_region 19 with fail
                  go_region_law (first
                    | (refine step_pushM _ (by rfl) (.tmp 74) (.tmp 92) (by rfl) w1.heap.size (.slice (some ⟨g0, o0, none⟩) (j + 1) c7) (j + 1) out (by rfl) w4.drew RC.out.1 ⟨T2, V2⟩ (by rfl) (by rfl) (by omega) hbs ?_
                       intro g9 c9 w9 o9 b9 ch9
                       have O9 := hidden o9
                       have B9 := hidden b9
                       have CH9 := hidden ch9
                       clear o9 b9 ch9))
                  all_goals
                    go_wp2_with fail
                    have RL9 : Hid (RL w1 w9 r c2 ad2 b bs T (.slice (some ⟨g9, 0, none⟩) (j + 1 + 1) c9) (j + 1 + 1) (out ++ [⟨T2, V2⟩]) ee B4 b4) := hidden (by
                      obtain ⟨t4, q1, q2, q3⟩ := Y4.out.blk
                      have CX := (Chg.drew _ w4).trans CH9.out (fun _ _ e => e)
                      refine ⟨⟨⟨t4, q1, CX.blk q2 (fun e => own_apart69 RC.out.1 q2 r e rfl), q3⟩, CX.sl Y4.out.sl (fun z hz _ e => ?_), Y4.out.ne, Y4.out.len⟩, O9.out, by rw [List.length_append, hP.out.len]; rfl, ?_, HEE.out, RC.out.2.drew.trans B9.out, DX4.out⟩
                      · have h1 := hR.out.2 z hz
                        have h2 := (RC.out.1.lt z.block e).1
                        omega
                      · intro y hy
                        rcases List.mem_append.1 hy with hy | hy
                        · exact hP.out.ok y hy
                        · rw [List.mem_singleton.1 hy]
                          exact HOKn.out)
                    exact ⟨⟨j + 1 + 1, _, ee, B4, b4, ⟨_, _, rfl⟩, rfl, by simp, by omega, RL9⟩, by simp [intOf]; omega⟩
            · have hge : ¬ (i : Int) < (n : Int) := by omega
              go_wp2_with fail
              go_meet
              exact ⟨i, out, st, Bi, bi, ⟨_, _, rfl⟩, by omega, .inl (by omega), hP⟩
        case rest =>
          rename World => wx
          obtain ⟨i, out, st, Bi, bi, ⟨a7, c7, rfl⟩, hi, hor, hP⟩ := hcut
          clear RL0
          have hlo := hP.out.len
          subst hlo
          obtain ⟨t, -, hBk, -⟩ := hP.out.ys.blk
          have cb := hBk.cell 2
          simp at cb
          have HBk := hidden hBk
          clear hBk
          cases bi with
          | true =>
            have HRN := hidden hP.out.dx.bad
            go_upto_region 20 with fail
            refine read_r20t r wx _ _ (by rfl) (by rfl) (fun w5 h5 => by have := (HBk.out.later h5).cell 2; simpa using this) ?_
            intro v94 v95 v96 v97 v98 v99 v100 v101 v102 v103 v104 w6 hL6
            have HL6 : Hid (Below w1.heap.size w1 w6) := hidden (hP.out.bel.trans (hL6.mono hP.out.bel.size))
            clear hL6 cb HBk
            simp only [Act.put, List.setIfInBounds_toArray, List.set_cons_succ, List.set_cons_zero]
            go_wp2
            go_ret2
            exact ⟨none, 0, [], 100, rfl, World.ownsRow_nil _ _ _ _, by simp, HL6.out, .inr ⟨HRN.out, rfl, rfl⟩⟩
          | false =>
            have hin : out.length = n := by
              rcases hor with hh | hh
              · exact hh
              · exact absurd hh (by simp)
            have HD := hidden (hP.out.dx.done HS.out.byte HBN.out (by rw [HNN.out]; exact hin) hP.out.ok (by omega))
            have HEB : Hid (Byte (encC out)) := hidden (encC_byteD _ (by omega))
            go_upto_region 20 with fail
            refine read_r20 r out.length c7 len cap a7 (some ⟨bb, off, none⟩) (encC out) b wx _ _ (by rfl) (by rfl) (by rfl) (by rfl) (fun w5 h5 => by have := (HBk.out.later h5).cell 2; simpa using this) (fun w5 h5 => run_string_of (P := Tryd.prog) 38 5 9 Tryd.underlying38 Tryd.underlying5 Tryd.underlying9 (cap := cap) (HS.out.later (hP.out.bel.trans (h5.mono hP.out.bel.size)))) (fun w5 h5 => (encodeD w5 a7 out.length c7 out (ss_of_owns (owl hP.out.own h5) hP.out.ok) rfl (by omega)).mono (by rintro e w6 ⟨ad6, c6, rfl, o6, b6⟩; exact ⟨ad6, c6, rfl, sl_of_owns o6 HEB.out, b6⟩)) ?_
            intro v94 v95 v96 v97 v98 v99 v100 v101 v102 v103 v104 v105 w6 hL6 h105
            have HO6 := hidden (owl hP.out.own hL6)
            have HL6 : Hid (Below w1.heap.size w1 w6) := hidden (hP.out.bel.trans (hL6.mono hP.out.bel.size))
            clear hL6
            by_cases he : encC out = b
            · have HRS := hidden (HD.out.1 ⟨rfl, he⟩)
              rw [he, show ((strOfNums b).toList != (strOfNums b).toList) = false by simp] at h105
              subst h105
              clear he HD cb HBk
              simp only [Act.put, List.setIfInBounds_toArray, List.set_cons_succ, List.set_cons_zero]
              go_wp2
              go_ret2
              exact ⟨a7, c7, out, 0, rfl, HO6.out, hP.out.ok, HL6.out, .inl ⟨HRS.out, rfl⟩⟩
            · have HRS := hidden (HD.out.2 (fun hh => he hh.2))
              rw [str_neB HEB.out HS.out.byte he] at h105
              subst h105
              clear he HD cb HBk
              simp only [Act.put, List.setIfInBounds_toArray, List.set_cons_succ, List.set_cons_zero]
              go_wp2
              go_ret2
              exact ⟨none, 0, [], 100, rfl, World.ownsRow_nil _ _ _ _, by simp, HL6.out, .inr ⟨HRS.out, rfl, rfl⟩⟩

end Go.Proofs.YtcgjmioncbihhaaDoor
