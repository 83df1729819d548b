import Derived.Test.YtndegcgcbhcokaaDoorQaK
import Derived.Test.YtndegcgcbhcokaaDoorQaC
import Derived.Test.YtndegcgcbhcokaaDoorShelf
import Derived.Lib.ValidLaws
import Derived.Test.YtndegcgcbhcokaaDoorPuK
import Derived.Test.YtndegcgcbhcokaaDoorQaI
/-
  The document's reader: runes.
-/
namespace Go.Proofs.YtndegcgcbhcokaaDoor
open Go.RowKit
set_option linter.unusedVariables false
set_option linter.unusedSimpArgs false

/-- Go's tables of UTF-8 lie below B, as its text lays them. -/
def Tb (B : Nat) (w : World) : Prop := ∃ W0, W0.heap.size = B ∧ Lib.Utf8Tabs 0 1 W0 ∧ Below B W0 w
theorem Tb.size {B : Nat} {w : World} (h : Tb B w) : B ≤ w.heap.size := by
  obtain ⟨W0, e, _, hb⟩ := h
  rw [← e]; exact hb.size
theorem Tb.below {B B' : Nat} {w w' : World} (h : Tb B w) (hb : Below B' w w') (hB : B ≤ B') : Tb B w' := by
  obtain ⟨W0, e, ht, h0⟩ := h
  exact ⟨W0, e, ht, h0.trans (hb.mono hB)⟩
theorem Tb.later {B : Nat} {w w' : World} (h : Tb B w) (hb : Below w.heap.size w w') : Tb B w' := h.below hb h.size
theorem Tb.chg {B : Nat} {F : Nat → Prop} {w w' : World} (h : Tb B w) (hc : Chg F w w') (hF : ∀ i, F i → B ≤ i) : Tb B w' := h.below (hc.below h.size hF) (Nat.le_refl _)
theorem Tb.tabs {B : Nat} {w : World} (h : Tb B w) : Lib.Utf8Tabs 0 1 w := by
  obtain ⟨W0, e, ht, h0⟩ := h
  rw [← e] at h0
  exact Utf8Tabs_below ht h0
theorem Tb.new {w : World} (h : Lib.Utf8Tabs 0 1 w) : Tb w.heap.size w := ⟨w, rfl, h, Below.refl _ _⟩

theorem decodeR (B : Nat) (s : ByteArray) (w : World) (hT : Tb B w) : Calls Tryd.prog 28 #[.string s] w fun e w' => e = .returned (.tuple #[.int .i32 ((Lib.decodeGo s).1 : Int), .int .i64 ((Lib.decodeGo s).2 : Int)]) ∧ Below w.heap.size w w' :=
  Any.utf8_DecodeRuneInString Tryd.lays197 s w hT.tabs

theorem info21 : (Tryd.prog.info? 21).map (fun i => (i.zero, i.size, i.bytes)) = some (some (.int .i32 0), 1, 4) := by kernel_rfl
theorem info3 : (Tryd.prog.info? 3).map (fun i => (i.zero, i.size, i.bytes)) = some (some (.int .i64 0), 1, 8) := by kernel_rfl
def c32 (l : List Int) : List Value := l.map (fun x => .int .i32 x)
def c64 (l : List Nat) : List Value := l.map (fun (x : Nat) => Value.int .i64 (x : Int))
/-- Code points and places that grow. -/
structure RU (w wx : World) (ra : Option Addr) (n rc : Nat) (aa : Option Addr) (m ac : Nat) (rl : List Int) (al : List Nat) : Prop where
  bel : Below w.heap.size w wx
  o1 : wx.ownsRow w.heap.size 21 1 (.slice ra n rc) n (c32 rl)
  o2 : wx.ownsRow w.heap.size 3 1 (.slice aa m ac) m (c64 al)
  ne : ∀ b, (Value.slice ra n rc).ownBlock = some b → (Value.slice aa m ac).ownBlock ≠ some b
theorem RU.later {w wx wy : World} {ra : Option Addr} {n rc : Nat} {aa : Option Addr} {m ac : Nat} {rl : List Int} {al : List Nat} (h : RU w wx ra n rc aa m ac rl al) (hb : Below wx.heap.size wx wy) : RU w wy ra n rc aa m ac rl al :=
  ⟨h.bel.trans (hb.mono h.bel.size), owl h.o1 hb, owl h.o2 hb, h.ne⟩
theorem RU.push1 {w wx w6 : World} {ra : Option Addr} {n rc : Nat} {aa : Option Addr} {m ac : Nat} {rl : List Int} {al : List Nat} (h : RU w wx ra n rc aa m ac rl al) {o : Obj} {g6 c6 : Nat} {x : Int} (ho : w6.ownsRow w.heap.size 21 1 (.slice (some ⟨g6, 0, none⟩) (n + 1) c6) (n + 1) (c32 rl ++ [.int .i32 x])) (hp : Pushed (wx.alloc o) w6 (.slice ra n rc) g6) : RU w w6 (some ⟨g6, 0, none⟩) (n + 1) c6 aa m ac (rl ++ [x]) al := by
  obtain ⟨hc, hm⟩ := hp.chg
  refine ⟨h.bel.trans (hc.below h.bel.size (fun i hi => (h.o1.lt i hi).1)), by simpa [c32] using ho, hc.owns h.o2 (fun b hb e => h.ne b e hb), fun b hb e => ?_⟩
  simp [Value.ownBlock] at hb
  subst hb
  rcases hm with e2 | ⟨y, e2, hy⟩
  · exact h.ne g6 e2.symm e
  · injection e2 with e2
    have := owns_lt h.o2 g6 e
    omega
theorem RU.push2 {w wx w6 : World} {ra : Option Addr} {n rc : Nat} {aa : Option Addr} {m ac : Nat} {rl : List Int} {al : List Nat} (h : RU w wx ra n rc aa m ac rl al) {o : Obj} {g6 c6 : Nat} {x : Nat} (ho : w6.ownsRow w.heap.size 3 1 (.slice (some ⟨g6, 0, none⟩) (m + 1) c6) (m + 1) (c64 al ++ [.int .i64 (x : Int)])) (hp : Pushed (wx.alloc o) w6 (.slice aa m ac) g6) : RU w w6 ra n rc (some ⟨g6, 0, none⟩) (m + 1) c6 rl (al ++ [x]) := by
  obtain ⟨hc, hm⟩ := hp.chg
  refine ⟨h.bel.trans (hc.below h.bel.size (fun i hi => (h.o2.lt i hi).1)), hc.owns h.o1 (fun b hb e => h.ne b hb e), by simpa [c64] using ho, fun b hb e => ?_⟩
  simp [Value.ownBlock] at e
  subst e
  rcases hm with e2 | ⟨y, e2, hy⟩
  · exact h.ne g6 hb e2.symm
  · injection e2 with e2
    have := owns_lt h.o1 g6 hb
    omega
/-- What runes answers. -/
def RunesR (s : ByteArray) (w : World) (e : Ending) (w' : World) : Prop := ∃ ra n rc aa ac rl al, e = .returned (.tuple #[.slice ra n rc, .slice aa (n + 1) ac]) ∧ Rn (bts s) 0 rl al ∧ RU w w' ra n rc aa (n + 1) ac rl al ∧ n ≤ s.size

set_option maxRecDepth 100000 in
set_option maxHeartbeats 0 in
theorem runesR (B : Nat) (s : ByteArray) (w : World) (hs : s.size ≤ 100000) (hT : Tb B w) : Calls Tryd.prog 14 #[.string s] w (RunesR s w) := by
  obtain ⟨i0, hi0, hz0, hz1, hz2⟩ := info_parts info21
  have HI := hidden hi0
  obtain ⟨j0, hj0, hy0, hy1, hy2⟩ := info_parts info3
  have HJ := hidden hj0
  have HT := hidden hT
  have HSB := hidden (size_bts s)
  have H0 : Hid (RU w w none 0 0 none 0 0 [] []) := hidden ⟨Below.refl _ _, World.ownsRow_nil _ _ _ _, World.ownsRow_nil _ _ _ _, fun b hb => by simp [Value.ownBlock] at hb⟩
  have HR0 : Hid (∀ cs ps, Rn (bts s) 0 cs ps → Rn (bts s) 0 ([] ++ cs) ([] ++ ps)) := hidden (fun cs ps h => h)
  clear hi0 hj0 hT
  go_enter Tryd.func14, Tryd.ntmps14
  go_wp2_with fail
  go_loopw [4, 5, 6] (fun s4 s5 s6 wx => ∃ (ra : Option Addr) (n rc : Nat) (aa : Option Addr) (ac a : Nat), s4 = .slice ra n rc ∧ s5 = .slice aa n ac ∧ s6 = .int .i64 (a : Int) ∧ a ≤ s.size ∧ n ≤ a ∧ Hid (∃ rl al, RU w wx ra n rc aa n ac rl al ∧ ∀ cs ps, Rn (bts s) a cs ps → Rn (bts s) 0 (rl ++ cs) (al ++ ps))) (fun _ _ s6 _ => s.size - (intOf s6).toNat)
  case atStart => exact ⟨none, 0, 0, none, 0, 0, rfl, rfl, rfl, by omega, by omega, hidden ⟨[], [], H0.out, HR0.out⟩⟩
  case round =>
    rename World => wr
    obtain ⟨ra, n, rc, aa, ac, a, rfl, rfl, rfl, ha, hna, hex⟩ := hrel
    clear H0 HR0
    obtain ⟨rl, al, hU, hN⟩ := hex.out
    clear hex
    have HU := hidden hU
    have HN := hidden hN
    clear hU hN
    by_cases hlt : a < s.size
    · have hltz : (a : Int) < (s.size : Int) := by omega
      have haz : (a : Int) ≤ (s.size : Int) := by omega
      obtain ⟨t, ht⟩ : ∃ t, s.extract a s.size = t := ⟨_, rfl⟩
      have HTT := hidden ht
      have hbt : bts t = (bts s).drop a := by rw [← ht, bts_extract, List.take_of_length_le (by rw [List.length_drop, ← HSB.out]; omega)]
      have hne : bts t ≠ [] := by
        intro e
        have := congrArg List.length e
        rw [hbt, List.length_drop, ← HSB.out] at this
        simp at this
        omega
      have hdg : Lib.decodeGo t = Utf8.decode t 0 := by
        unfold Lib.decodeGo
        rw [if_neg]
        intro e
        rw [size_bts] at e
        exact hne (List.eq_nil_of_length_eq_zero e)
      have kD := decodeR B t wr (HT.out.later (HU.out.bel.mono (Nat.le_refl _)))
      rw [hdg] at kD
      have hOK := dec_ok t hne
      have hNO := dec_no t
      rw [hbt] at hOK hNO
      obtain ⟨⟨c, k⟩, hck⟩ : ∃ r, Utf8.decode t 0 = r := ⟨_, rfl⟩
      rw [hck] at kD hOK hNO
      simp only at kD hOK hNO
      have HOK := hidden hOK
      have HNO := hidden hNO
      clear hOK hNO hck hdg hne hbt ht
      have HCN : Hid (∀ wx : World, (wx.alloc (.cells #[.int .i64 (a : Int)] 3)).cell? ⟨wx.heap.size, 0, none⟩ = some (.int .i64 (a : Int))) := hidden (fun wx => (Blk.new wx 3 [.int .i64 (a : Int)]).cell 0)
      have HCM : Hid (∀ (wx : World) (x : Int), (wx.alloc (.cells #[.int .i32 x] 21)).cell? ⟨wx.heap.size, 0, none⟩ = some (.int .i32 x)) := hidden (fun wx x => (Blk.new wx 21 [.int .i32 x]).cell 0)
      have HBS : Hid (∀ wx, Below w.heap.size w wx → w.heap.size ≤ wx.heap.size) := hidden (fun wx h => h.size)
      by_cases hbad : c = 65533 ∧ k < 2
      · obtain ⟨hc0, hk0⟩ := hbad
        have hcz : (c : Int) = 65533 := by omega
        have hkz : (k : Int) < 2 := by omega
        have HF := hidden (HNO.out ⟨hc0, hk0⟩)
        have HEND : Hid (Rn (bts s) 0 (rl ++ [-2]) (al ++ [a, a])) := hidden (HN.out _ _ (.bad a (by rw [← HSB.out]; exact hlt) HF.out))
        clear HOK HNO hc0 hk0
        go_upto_region 6 with (go_at_call 28; rw [HTT.out]; refine kD.mono ?_; rintro e w2 ⟨rfl, g2⟩; have U2 := hidden (HU.out.later g2); clear kD g2)
        go_wp2_with (first
          | (refine wpList_push _ rfl (.tmp 20) (.tmp 22) 62 rfl 3 j0 (.int .i64 0) 8 Tryd.underlying62 HJ.out hy0 hy1 hy2 rfl w.heap.size (.slice aa n ac) n (c64 al) rfl (U2.out.o2.alloc _) ⟨w2.heap.size, 0, none⟩ (.int .i64 (a : Int)) rfl (HCN.out w2) rfl (by unfold maxLen; omega) (by omega) (by have := HBS.out _ U2.out.bel; simp; omega) ?_; intro g3 c3 w3 ho3 hp3; have U3 := hidden (U2.out.push2 ho3 hp3); clear ho3 hp3)
          | (refine wpList_push _ rfl (.tmp 30) (.tmp 31) 61 rfl 21 i0 (.int .i32 0) 4 Tryd.underlying61 HI.out hz0 hz1 hz2 rfl w.heap.size (.slice ra n rc) n (c32 rl) rfl (U3.out.o1.alloc _) ⟨w3.heap.size, 0, none⟩ (.int .i32 (-2)) rfl (HCM.out w3 (-2)) rfl (by unfold maxLen; omega) (by omega) (by have := HBS.out _ U3.out.bel; simp; omega) ?_; intro g4 c4 w4 ho4 hp4; have U4 := hidden (U3.out.push1 ho4 hp4); clear ho4 hp4)
          | (refine wpList_push _ rfl (.tmp 34) (.tmp 36) 62 rfl 3 j0 (.int .i64 0) 8 Tryd.underlying62 HJ.out hy0 hy1 hy2 rfl w.heap.size (.slice (some ⟨g3, 0, none⟩) (n + 1) c3) (n + 1) (c64 (al ++ [a])) rfl (U4.out.o2.alloc _) ⟨w4.heap.size, 0, none⟩ (.int .i64 (a : Int)) rfl (HCN.out w4) rfl (by unfold maxLen; omega) (by omega) (by have := HBS.out _ U4.out.bel; simp; omega) ?_; intro g5 c5 w5 ho5 hp5; have U5 := hidden (U4.out.push2 ho5 hp5); clear ho5 hp5))
        go_ret2
        refine ⟨_, n + 1, c4, _, c5, rl ++ [-2], al ++ [a] ++ [a], rfl, ?_, U5.out, by omega⟩
        rw [List.append_assoc]
        exact HEND.out
      · have HF := hidden (HOK.out hbad)
        have hkl := fp_len HF.out
        rw [List.length_drop, ← HSB.out] at hkl
        have HEND : Hid (∀ cs ps, Rn (bts s) (a + k) cs ps → Rn (bts s) 0 ((rl ++ [(c : Int)]) ++ cs) ((al ++ [a]) ++ ps)) := hidden (fun cs ps h => by
          rw [List.append_assoc, List.append_assoc]
          exact HN.out _ _ (.step a c k cs ps HF.out h))
        clear HOK HNO
        go_upto_region 7 with (first
          | (go_at_call 28; rw [HTT.out]; refine kD.mono ?_; rintro e w2 ⟨rfl, g2⟩; have U2 := hidden (HU.out.later g2); clear kD g2)
          | (refine wpList_push _ rfl (.tmp 20) (.tmp 22) 62 rfl 3 j0 (.int .i64 0) 8 Tryd.underlying62 HJ.out hy0 hy1 hy2 rfl w.heap.size (.slice aa n ac) n (c64 al) rfl (U2.out.o2.alloc _) ⟨w2.heap.size, 0, none⟩ (.int .i64 (a : Int)) rfl (HCN.out w2) rfl (by unfold maxLen; omega) (by omega) (by have := HBS.out _ U2.out.bel; simp; omega) ?_; intro g3 c3 w3 ho3 hp3; have U3 := hidden (U2.out.push2 ho3 hp3); clear ho3 hp3))
        go_cut [29] from 9 to 44 (fun s wx => s = .bool false ∧ wx = w3)
        case first =>
          by_cases hc0 : (c : Int) = 65533
          · have hkz : ¬ (k : Int) < 2 := fun e => hbad ⟨by omega, by omega⟩
            have hcc : ((c : Int) == 65533) = true := by simp [hc0]
            have HC0 := hidden hc0
            clear hc0
            go_wp2_with fail
            go_meet
            exact ⟨rfl, rfl⟩
          · go_wp2_with fail
            go_meet
            exact ⟨rfl, rfl⟩
        case rest =>
          obtain ⟨rfl, hwc⟩ := hcut
          obtain rfl := hwc.symm
          clear hwc hbad
          go_wp2_with (refine wpList_push _ rfl (.tmp 38) (.tmp 40) 61 rfl 21 i0 (.int .i32 0) 4 Tryd.underlying61 HI.out hz0 hz1 hz2 rfl w.heap.size (.slice ra n rc) n (c32 rl) rfl (U3.out.o1.alloc _) ⟨w3.heap.size, 0, none⟩ (.int .i32 (c : Int)) rfl (HCM.out w3 (c : Int)) rfl (by unfold maxLen; omega) (by omega) (by have := HBS.out _ U3.out.bel; simp; omega) ?_; intro g4 c4 w4 ho4 hp4; have U4 := hidden (U3.out.push1 ho4 hp4); clear ho4 hp4)
          refine ⟨⟨some ⟨g4, 0, none⟩, n + 1, c4, some ⟨g3, 0, none⟩, c3, a + k, by first | rfl | simp, by first | rfl | simp, by first | rfl | simp, by omega, by omega, hidden ⟨_, _, U4.out, HEND.out⟩⟩, ?_⟩
          simp [intOf]
          omega
    · have hltz : ¬ (a : Int) < (s.size : Int) := by omega
      have HCN : Hid ((wr.alloc (.cells #[.int .i64 (s.size : Int)] 3)).cell? ⟨wr.heap.size, 0, none⟩ = some (.int .i64 (s.size : Int))) := hidden ((Blk.new wr 3 [.int .i64 (s.size : Int)]).cell 0)
      have HEND : Hid (Rn (bts s) 0 rl (al ++ [s.size])) := hidden (by
        have := HN.out [] [(bts s).length] (by rw [show a = (bts s).length by rw [← HSB.out]; omega]; exact .fin)
        rw [List.append_nil, ← HSB.out] at this
        exact this)
      have HBS : Hid (w.heap.size ≤ wr.heap.size) := hidden HU.out.bel.size
      go_wp2_with (refine wpList_push _ rfl (.tmp 46) (.tmp 49) 62 rfl 3 j0 (.int .i64 0) 8 Tryd.underlying62 HJ.out hy0 hy1 hy2 rfl w.heap.size (.slice aa n ac) n (c64 al) rfl (HU.out.o2.alloc _) ⟨wr.heap.size, 0, none⟩ (.int .i64 (s.size : Int)) rfl HCN.out rfl (by unfold maxLen; omega) (by omega) (by have := HBS.out; simp; omega) ?_; intro g3 c3 w3 ho3 hp3; have U3 := hidden (HU.out.push2 ho3 hp3); clear ho3 hp3)
      go_ret2
      exact ⟨_, n, rc, _, c3, rl, al ++ [s.size], rfl, HEND.out, U3.out, by omega⟩

end Go.Proofs.YtndegcgcbhcokaaDoor

/-
  PatternJoins, purely: texts put together.
-/
namespace Go.Proofs.YtndegcgcbhcokaaDoor
open Go
set_option linter.unusedVariables false
set_option linter.unusedSimpArgs false

/-- With more steps the answer is the same. -/
theorem read_more (S : List UInt8) : ∀ (f g : Nat), f ≤ g → ∀ d a,
    (rowsF S f d a ≠ .out → rowsF S g d a = rowsF S f d a) ∧ (rowF S f d a ≠ .out → rowF S g d a = rowF S f d a) ∧ (itemF S f d a ≠ .out → itemF S g d a = itemF S f d a) ∧ (atomF S f d a ≠ .out → atomF S g d a = atomF S f d a)
  | 0, g, hg, d, a => by
    refine ⟨fun h => ?_, fun h => ?_, fun h => ?_, fun h => ?_⟩
    · exact absurd (by rw [rowsF]) h
    · exact absurd (by rw [rowF]) h
    · exact absurd (by rw [itemF]) h
    · exact absurd (by rw [atomF]) h
  | f + 1, 0, hg, d, a => by omega
  | f + 1, g + 1, hg, d, a => by
    have ih := read_more S f g (by omega)
    refine ⟨fun h => ?_, fun h => ?_, fun h => ?_, fun h => ?_⟩
    · rw [rowsF] at h
      rw [rowsF, rowsF]
      cases h1 : rowF S f d a with
      | out => rw [h1] at h; exact absurd rfl h
      | bad k => rw [(ih d a).2.1 (by rw [h1]; simp), h1]
      | ok r b =>
        rw [(ih d a).2.1 (by rw [h1]; simp), h1]
        rw [h1] at h
        simp only at h ⊢
        split
        · rename_i h124
          rw [if_pos h124] at h
          cases h2 : rowsF S f d (b + 1) with
          | out => rw [h2] at h; exact absurd rfl h
          | bad k => rw [(ih d (b + 1)).1 (by rw [h2]; simp), h2]
          | ok l c => rw [(ih d (b + 1)).1 (by rw [h2]; simp), h2]
        · rfl
    · rw [rowF] at h
      rw [rowF, rowF]
      split
      · rfl
      · rename_i hst
        rw [if_neg hst] at h
        cases h1 : itemF S f d a with
        | out => rw [h1] at h; exact absurd rfl h
        | bad k => rw [(ih d a).2.2.1 (by rw [h1]; simp), h1]
        | ok p b =>
          rw [(ih d a).2.2.1 (by rw [h1]; simp), h1]
          rw [h1] at h
          simp only at h ⊢
          cases h2 : rowF S f d b with
          | out => rw [h2] at h; exact absurd rfl h
          | bad k => rw [(ih d b).2.1 (by rw [h2]; simp), h2]
          | ok l c => rw [(ih d b).2.1 (by rw [h2]; simp), h2]
    · rw [itemF] at h
      rw [itemF, itemF]
      cases h1 : atomF S f d a with
      | out => rw [h1] at h; exact absurd rfl h
      | bad k => rw [(ih d a).2.2.2 (by rw [h1]; simp), h1]
      | ok p b => rw [(ih d a).2.2.2 (by rw [h1]; simp), h1]
    · rw [atomF] at h
      rw [atomF, atomF]
      split
      · rfl
      · rename_i h46
        rw [if_neg h46] at h
        split
        · rfl
        · rename_i h91
          rw [if_neg h91] at h
          split
          · rename_i h40
            rw [if_pos h40] at h
            cases h1 : rowsF S f (d + 1) (a + 1) with
            | out => rw [h1] at h; exact absurd rfl h
            | bad k => rw [(ih (d + 1) (a + 1)).1 (by rw [h1]; simp), h1]
            | ok p b => rw [(ih (d + 1) (a + 1)).1 (by rw [h1]; simp), h1]
          · rfl

section
variable {S : List UInt8} {f d a b c : Nat} {p : Pt} {r t : List Pt} {l : List (List Pt)}
theorem item_plain (h : atomF S f d a = .ok p b) (h1 : S[b]? ≠ some 42) (h2 : S[b]? ≠ some 43) (h3 : S[b]? ≠ some 63) : itemF S (f + 1) d a = .ok p b := by
  rw [itemF, h]; simp only; rw [if_neg h1, if_neg h2, if_neg h3]
theorem item_star (h : atomF S f d a = .ok p b) (h1 : S[b]? = some 42) : itemF S (f + 1) d a = .ok (.rep p 42) (b + 1) := by
  rw [itemF, h]; simp only; rw [if_pos h1]
theorem row_end (h : S[a]? = none ∨ S[a]? = some 124 ∨ S[a]? = some 41) : rowF S (f + 1) d a = .ok [] a := by rw [rowF, if_pos h]
theorem row_cons (h0 : ¬ (S[a]? = none ∨ S[a]? = some 124 ∨ S[a]? = some 41)) (h : itemF S f d a = .ok p b) (h2 : rowF S f d b = .ok t c) : rowF S (f + 1) d a = .ok (p :: t) c := by
  rw [rowF, if_neg h0, h]; simp only; rw [h2]
theorem rows_one (h : rowF S f d a = .ok r b) (h1 : S[b]? ≠ some 124) : rowsF S (f + 1) d a = .ok [r] b := by
  rw [rowsF, h]; simp only; rw [if_neg h1]
theorem rows_cons (h : rowF S f d a = .ok r b) (h1 : S[b]? = some 124) (h2 : rowsF S f d (b + 1) = .ok l c) : rowsF S (f + 1) d a = .ok (r :: l) c := by
  rw [rowsF, h]; simp only; rw [if_pos h1, h2]
end
theorem no_stop {S : List UInt8} {a : Nat} (h : S[a]? = some 40) : ¬ (S[a]? = none ∨ S[a]? = some 124 ∨ S[a]? = some 41) := by rw [h]; simp

/-- A text between brackets, as an atom. -/
theorem atom_grp {S s : List UInt8} {a : Nat} (h : S[a]? = some 40) (hs : Sub S s (a + 1)) {f : Nat} {l : List (List Pt)} (hl : rowsF s f 0 0 = .ok l s.length) :
    (rowsDep l ≤ 15 → atomF S (f + 1) 0 a = .ok (.grp l) (a + s.length + 2)) ∧ (15 < rowsDep l → ∃ k, atomF S (f + 1) 0 a = .bad k) := by
  have hm := (loc_main hs 1 f 0 0 (Nat.zero_le _)).1 l s.length hl
  have hat : atomF S (f + 1) 0 a = match rowsF S f 1 (a + 1) with
      | .ok l b => if S[b]? = some 41 then .ok (.grp l) (b + 1) else .bad b
      | .bad k => .bad k
      | .out => .out := by
    rw [atomF, if_neg (by rw [h]; decide), if_neg (by rw [h]; decide), if_pos ⟨by decide, h⟩]
    rfl
  have hlo := hm.2.2
  simp only [Nat.zero_add, Nat.add_zero] at hlo
  refine ⟨fun hd => ?_, fun hd => ?_⟩
  · rw [hat, hlo.1 (by omega)]
    simp only
    rw [if_pos hs.stop]
    congr 1
    omega
  · obtain ⟨k, hk⟩ := hlo.2 (by omega) (by omega)
    exact ⟨k, by rw [hat, hk]⟩
theorem bad_up {S : List UInt8} {f d a k : Nat} (h40 : S[a]? = some 40) (h : atomF S f d a = .bad k) : rowF S (f + 2) d a = .bad k ∧ rowsF S (f + 3) d a = .bad k := by
  have h1 : itemF S (f + 1) d a = .bad k := by rw [itemF, h]
  have h2 : rowF S (f + 2) d a = .bad k := by rw [rowF, if_neg (no_stop h40), h1]
  exact ⟨h2, by rw [rowsF, h2]⟩
/-- What Parse takes is read from end to end, with any steps that are enough. -/
theorem prs_ok {s : List UInt8} {l : List (List Pt)} {b : Nat} (h : prs s = .ok l b) : s.length ≤ 64 ∧ b = s.length ∧ ∀ g, 4 * s.length + 4 ≤ g → rowsF s g 0 0 = .ok l s.length := by
  unfold prs at h
  split at h
  · cases h
  · rename_i h64
    cases h1 : rowsF s (4 * s.length + 4) 0 0 with
    | out => rw [h1] at h; cases h
    | bad k => rw [h1] at h; cases h
    | ok l' b' =>
      rw [h1, endF] at h
      split at h
      · cases h
      · rename_i hlt
        injection h with e1 e2
        subst e1 e2
        have hb := ((read_bd s (4 * s.length + 4) 0 0 (Nat.zero_le _)).1.1 _ _ h1).2
        have hbe : b' = s.length := by omega
        subst hbe
        refine ⟨by omega, rfl, fun g hg => ?_⟩
        rw [((read_more s _ g hg 0 0).1 (by rw [h1]; simp)), h1]
theorem prs_of {S : List UInt8} {l : List (List Pt)} {f : Nat} (h64 : S.length ≤ 64) (hf : f ≤ 4 * S.length + 4) (h : rowsF S f 0 0 = .ok l S.length) : prs S = .ok l S.length := by
  unfold prs
  rw [if_neg (by omega), (read_more S f _ hf 0 0).1 (by rw [h]; simp), h, endF, if_neg (by omega)]
theorem prs_bad {S : List UInt8} {k : Nat} {f : Nat} (h64 : S.length ≤ 64) (hf : f ≤ 4 * S.length + 4) (h : rowsF S f 0 0 = .bad k) : prs S = .bad k := by
  unfold prs
  rw [if_neg (by omega), (read_more S f _ hf 0 0).1 (by rw [h]; simp), h, endF]

theorem get_app_r {a b : List UInt8} {n i : Nat} (h : a.length = n) : (a ++ b)[n + i]? = b[i]? := by
  rw [List.getElem?_append_right (by omega)]; congr 1; omega

section
variable {s t : List UInt8} {ls lt : List (List Pt)} {bs bt : Nat}
/-- (s)* -/
theorem prs_star (hs : prs s = .ok ls bs) (hl : s.length ≤ 58) : (rowsDep ls ≤ 15 → ∃ b, prs (40 :: s ++ [41, 42]) = .ok [[.rep (.grp ls) 42]] b) ∧ (15 < rowsDep ls → ∃ k, prs (40 :: s ++ [41, 42]) = .bad k) := by
  obtain ⟨_, _, hs'⟩ := prs_ok hs
  have hlen : (40 :: s ++ [41, 42]).length = s.length + 3 := by simp
  have hsub : Sub (40 :: s ++ [41, 42]) s 1 := Sub.mk' [40] s [42]
  have h0 : (40 :: s ++ [41, 42])[0]? = some 40 := rfl
  have h1 : (40 :: s ++ [41, 42])[s.length + 2]? = some 42 := by
    have := get_app_r (a := 40 :: s) (b := [41, 42]) (n := s.length + 1) (i := 1) (by simp)
    exact this
  have h2 : (40 :: s ++ [41, 42])[s.length + 3]? = none := List.getElem?_eq_none (by omega)
  obtain ⟨hA, hB⟩ := atom_grp h0 hsub (hs' (4 * s.length + 4) (Nat.le_refl _))
  refine ⟨fun hd => ?_, fun hd => ?_⟩
  · have k1 := hA hd
    rw [Nat.zero_add] at k1
    have k2 := item_star k1 h1
    have k3 := row_cons (no_stop h0) k2 (row_end (Or.inl h2))
    have k4 := rows_one k3 (by rw [h2]; simp)
    rw [show s.length + 2 + 1 = (40 :: s ++ [41, 42]).length by omega] at k4
    exact ⟨_, prs_of (by omega) (by omega) k4⟩
  · obtain ⟨k, hk⟩ := hB hd
    exact ⟨k, prs_bad (by omega) (by omega) (bad_up h0 hk).2⟩

/-- (s)|(t) -/
theorem prs_or (hs : prs s = .ok ls bs) (ht : prs t = .ok lt bt) (hl : s.length + t.length ≤ 58) :
    (rowsDep ls ≤ 15 → rowsDep lt ≤ 15 → ∃ b, prs (40 :: s ++ [41, 124, 40] ++ t ++ [41]) = .ok [[.grp ls], [.grp lt]] b) ∧ ((15 < rowsDep ls ∨ 15 < rowsDep lt) → ∃ k, prs (40 :: s ++ [41, 124, 40] ++ t ++ [41]) = .bad k) := by
  obtain ⟨_, _, hs'⟩ := prs_ok hs
  obtain ⟨_, _, ht'⟩ := prs_ok ht
  obtain ⟨S, hS⟩ : ∃ S, 40 :: s ++ [41, 124, 40] ++ t ++ [41] = S := ⟨_, rfl⟩
  have hlen : S.length = s.length + t.length + 5 := by rw [← hS]; simp; omega
  have hsub1 : Sub S s (0 + 1) := by
    have := Sub.mk' [40] s ([124, 40] ++ t ++ [41])
    rw [← hS]
    simpa using this
  have hsub2 : Sub S t (s.length + 3 + 1) := by
    have := Sub.mk' (40 :: s ++ [41, 124, 40]) t []
    rw [show ((40 :: s ++ [41, 124, 40] : List UInt8)).length = s.length + 3 + 1 by simp] at this
    rw [← hS]
    exact this
  have h0 : S[0]? = some 40 := by rw [← hS]; rfl
  have hi : ∀ i, i < 3 → S[s.length + 1 + i]? = ([41, 124, 40] : List UInt8)[i]? := fun i hi => by
    have := get_app_r (a := 40 :: s) (b := [41, 124, 40] ++ t ++ [41]) (n := s.length + 1) (i := i) (by simp)
    rw [show 40 :: s ++ ([41, 124, 40] ++ t ++ [41]) = S by rw [← hS]; simp] at this
    rw [this, List.append_assoc, List.getElem?_append_left hi]
  have h1 : S[0 + s.length + 2]? = some 124 := by rw [show 0 + s.length + 2 = s.length + 1 + 1 by omega]; exact hi 1 (by omega)
  have h2 : S[s.length + 3]? = some 40 := by rw [show s.length + 3 = s.length + 1 + 2 by omega]; exact hi 2 (by omega)
  have h3 : S[s.length + 3 + t.length + 2]? = none := List.getElem?_eq_none (by omega)
  rw [hS]
  have F0 : 4 * s.length + 4 ≤ 4 * s.length + 4 * t.length + 12 := by omega
  obtain ⟨hA, hB⟩ := atom_grp h0 hsub1 (hs' (4 * s.length + 4 * t.length + 12) F0)
  obtain ⟨hC, hD⟩ := atom_grp h2 hsub2 (ht' (4 * s.length + 4 * t.length + 11) (by omega))
  refine ⟨fun hd1 hd2 => ?_, fun hd => ?_⟩
  · have k1 := item_plain (hA hd1) (by rw [h1]; decide) (by rw [h1]; decide) (by rw [h1]; decide)
    have k2 := row_cons (no_stop h0) k1 (row_end (Or.inr (Or.inl h1)))
    have j1 := item_plain (hC hd2) (by rw [h3]; decide) (by rw [h3]; decide) (by rw [h3]; decide)
    have j2 := row_cons (no_stop h2) j1 (row_end (Or.inl h3))
    have j3 := rows_one j2 (by rw [h3]; simp)
    have k3 := rows_cons k2 h1 (by rw [show 0 + s.length + 2 + 1 = s.length + 3 by omega]; exact j3)
    rw [show s.length + 3 + t.length + 2 = S.length by omega] at k3
    exact ⟨_, prs_of (by omega) (by omega) k3⟩
  · by_cases hd1 : rowsDep ls ≤ 15
    · have hd2 : 15 < rowsDep lt := by omega
      have k1 := item_plain (hA hd1) (by rw [h1]; decide) (by rw [h1]; decide) (by rw [h1]; decide)
      have k2 := row_cons (no_stop h0) k1 (row_end (Or.inr (Or.inl h1)))
      obtain ⟨k, hk⟩ := hD hd2
      have j3 := (bad_up h2 hk).2
      have k3 : rowsF S (4 * s.length + 4 * t.length + 12 + 1 + 1 + 1 + 1) 0 0 = .bad k := by
        rw [rowsF, k2]
        simp only
        rw [if_pos h1, show 0 + s.length + 2 + 1 = s.length + 3 by omega]
        rw [show 4 * s.length + 4 * t.length + 12 + 1 + 1 + 1 = 4 * s.length + 4 * t.length + 11 + 1 + 3 by omega, j3]
      exact ⟨k, prs_bad (by omega) (by omega) k3⟩
    · obtain ⟨k, hk⟩ := hB (by omega)
      exact ⟨k, prs_bad (by omega) (by omega) (bad_up h0 hk).2⟩

/-- (s)(t) -/
theorem prs_cat (hs : prs s = .ok ls bs) (ht : prs t = .ok lt bt) (hl : s.length + t.length ≤ 58) (hd1 : rowsDep ls ≤ 15) (hd2 : rowsDep lt ≤ 15) : ∃ b, prs (40 :: s ++ [41, 40] ++ t ++ [41]) = .ok [[.grp ls, .grp lt]] b := by
  obtain ⟨_, _, hs'⟩ := prs_ok hs
  obtain ⟨_, _, ht'⟩ := prs_ok ht
  obtain ⟨S, hS⟩ : ∃ S, 40 :: s ++ [41, 40] ++ t ++ [41] = S := ⟨_, rfl⟩
  have hlen : S.length = s.length + t.length + 4 := by rw [← hS]; simp; omega
  have hsub1 : Sub S s (0 + 1) := by
    have := Sub.mk' [40] s ([40] ++ t ++ [41])
    rw [← hS]
    simpa using this
  have hsub2 : Sub S t (0 + s.length + 2 + 1) := by
    have := Sub.mk' (40 :: s ++ [41, 40]) t []
    rw [show ((40 :: s ++ [41, 40] : List UInt8)).length = 0 + s.length + 2 + 1 by simp] at this
    rw [← hS]
    exact this
  have h0 : S[0]? = some 40 := by rw [← hS]; rfl
  have hi : ∀ i, i < 2 → S[s.length + 1 + i]? = ([41, 40] : List UInt8)[i]? := fun i hi => by
    have := get_app_r (a := 40 :: s) (b := [41, 40] ++ t ++ [41]) (n := s.length + 1) (i := i) (by simp)
    rw [show 40 :: s ++ ([41, 40] ++ t ++ [41]) = S by rw [← hS]; simp] at this
    rw [this, List.append_assoc, List.getElem?_append_left hi]
  have h1 : S[0 + s.length + 2]? = some 40 := by rw [show 0 + s.length + 2 = s.length + 1 + 1 by omega]; exact hi 1 (by omega)
  have h3 : S[0 + s.length + 2 + t.length + 2]? = none := List.getElem?_eq_none (by omega)
  rw [hS]
  obtain ⟨hA, hB⟩ := atom_grp h0 hsub1 (hs' (4 * s.length + 4 * t.length + 10) (by omega))
  obtain ⟨hC, hD⟩ := atom_grp h1 hsub2 (ht' (4 * s.length + 4 * t.length + 9) (by omega))
  have k1 := item_plain (hA hd1) (by rw [h1]; decide) (by rw [h1]; decide) (by rw [h1]; decide)
  have j1 := item_plain (hC hd2) (by rw [h3]; decide) (by rw [h3]; decide) (by rw [h3]; decide)
  have j2 := row_cons (no_stop h1) j1 (row_end (Or.inl h3))
  have k2 := row_cons (no_stop h0) k1 j2
  have k3 := rows_one k2 (by rw [h3]; simp)
  rw [show 0 + s.length + 2 + t.length + 2 = S.length by omega] at k3
  exact ⟨_, prs_of (by omega) (by omega) k3⟩
end

/-! ### what they mean -/
theorem rs_app {A B : List UInt8} {u v : Tx} (h : Rs A u) (k : Rs B v) : Rs (A ++ B) (u ++ v) :=
  ⟨fun c hc => by rcases List.mem_append.1 hc with h1 | h1; exact h.1 c h1; exact k.1 c h1, by rw [h.2, k.2, List.flatMap_append]⟩
theorem rs_cut {L : List UInt8} {u v : Tx} (h : Rs L (u ++ v)) : ∃ i, i ≤ L.length ∧ Rs (L.take i) u ∧ Rs (L.drop i) v ∧ (u ≠ [] → 0 < i) := by
  have h2 := h.2
  rw [List.flatMap_append] at h2
  refine ⟨(u.flatMap enc).length, by rw [h2]; simp, ⟨fun c hc => h.1 c (by simp [hc]), by rw [h2, List.take_left]⟩, ⟨fun c hc => h.1 c (by simp [hc]), by rw [h2, List.drop_left]⟩, fun h0 => ?_⟩
  cases u with
  | nil => exact absurd rfl h0
  | cons c t =>
    have := (enc_len (h.1 c (by simp))).1
    simp only [List.flatMap_cons, List.length_append]
    omega
theorem rowHas_one (p : Pt) (v : Tx) : rowHas [p] v ↔ p.has v := by
  have e : rowHas [] = fun v => v = [] := by funext v; simp [rowHas]
  rw [rowHas, e, cat_nil]
theorem means_or (ls lt : List (List Pt)) (L : List UInt8) : Means [[.grp ls], [.grp lt]] L ↔ Means ls L ∨ Means lt L := by
  unfold Means
  have key : ∀ t, rowsHas [[.grp ls], [.grp lt]] t ↔ rowsHas ls t ∨ rowsHas lt t := fun t => by
    simp only [rowsHas, rowHas_one, or_false, Pt.has]
  constructor
  · rintro ⟨t, h1, h2⟩
    rcases (key t).1 h2 with h | h
    · exact Or.inl ⟨t, h1, h⟩
    · exact Or.inr ⟨t, h1, h⟩
  · rintro (⟨t, h1, h2⟩ | ⟨t, h1, h2⟩)
    · exact ⟨t, h1, (key t).2 (Or.inl h2)⟩
    · exact ⟨t, h1, (key t).2 (Or.inr h2)⟩
theorem means_cat (ls lt : List (List Pt)) (L : List UInt8) : Means [[.grp ls, .grp lt]] L ↔ ∃ i, i ≤ L.length ∧ Means ls (L.take i) ∧ Means lt (L.drop i) := by
  have key : ∀ t, rowsHas [[.grp ls, .grp lt]] t ↔ Cat (rowsHas ls) (rowsHas lt) t := fun t => by
    have e : rowHas [.grp lt] = rowsHas lt := by funext v; rw [rowHas_one]; simp only [Pt.has]
    have e2 : (Pt.grp ls).has = rowsHas ls := by funext v; simp only [Pt.has]
    simp only [rowsHas, or_false]
    rw [rowHas, e, e2]
  constructor
  · rintro ⟨t, h1, h2⟩
    obtain ⟨u, v, rfl, h3, h4⟩ := (key t).1 h2
    obtain ⟨i, hi, k1, k2, _⟩ := rs_cut h1
    exact ⟨i, hi, ⟨u, k1, h3⟩, ⟨v, k2, h4⟩⟩
  · rintro ⟨i, hi, ⟨u, k1, h3⟩, ⟨v, k2, h4⟩⟩
    refine ⟨u ++ v, ?_, (key _).2 ⟨u, v, rfl, h3, h4⟩⟩
    have := rs_app k1 k2
    rwa [List.take_append_drop] at this
theorem plus_cut {P : Tx → Prop} {v : Tx} (h : Plus P v) : v = [] ∨ ∃ u w, v = u ++ w ∧ u ≠ [] ∧ P u ∧ (w = [] ∨ Plus P w) := by
  induction h with
  | @one v h =>
    by_cases h0 : v = []
    · exact Or.inl h0
    · exact Or.inr ⟨v, [], by simp, h0, h, Or.inl rfl⟩
  | @more u v h hp ih =>
    by_cases h0 : u = []
    · subst h0; simpa using ih
    · exact Or.inr ⟨u, v, rfl, h0, h, Or.inr hp⟩
theorem means_star (ls : List (List Pt)) (L : List UInt8) : Means [[.rep (.grp ls) 42]] L ↔ L = [] ∨ ∃ i, 0 < i ∧ i ≤ L.length ∧ Means ls (L.take i) ∧ Means [[.rep (.grp ls) 42]] (L.drop i) := by
  have key : ∀ t, rowsHas [[.rep (.grp ls) 42]] t ↔ t = [] ∨ Plus (rowsHas ls) t := fun t => by
    have e2 : (Pt.grp ls).has = rowsHas ls := by funext v; simp only [Pt.has]
    simp only [rowsHas, or_false, rowHas_one]
    rw [Pt.has, e2]
    simp
  constructor
  · rintro ⟨t, h1, h2⟩
    rcases (key t).1 h2 with h | h
    · subst h; exact Or.inl h1.2
    · rcases plus_cut h with h | ⟨u, w, rfl, h3, h4, h5⟩
      · subst h; exact Or.inl h1.2
      · obtain ⟨i, hi, k1, k2, k3⟩ := rs_cut h1
        exact Or.inr ⟨i, k3 h3, hi, ⟨u, k1, h4⟩, ⟨w, k2, (key w).2 h5⟩⟩
  · rintro (rfl | ⟨i, h0, hi, ⟨u, k1, h4⟩, ⟨w, k2, h5⟩⟩)
    · exact ⟨[], Rs.nil, (key _).2 (Or.inl rfl)⟩
    · refine ⟨u ++ w, ?_, (key _).2 (Or.inr ?_)⟩
      · have := rs_app k1 k2
        rwa [List.take_append_drop] at this
      · rcases (key w).1 h5 with h | h
        · subst h; simpa using Plus.one h4
        · exact .more h4 h

end Go.Proofs.YtndegcgcbhcokaaDoor

/-
  PatternJoins: the walk.
-/
namespace Go.Proofs.YtndegcgcbhcokaaDoor
open Go.RowKit
set_option linter.unusedVariables false
set_option linter.unusedSimpArgs false

theorem prs_no (S : List UInt8) : prs S ≠ .out := by
  unfold prs
  split
  · simp
  · have := (read_bd S (4 * S.length + 4) 0 0 (Nat.zero_le _)).1.2 (by omega)
    cases h : rowsF S (4 * S.length + 4) 0 0 with
    | out => exact absurd h this
    | bad k => simp [endF]
    | ok l b => rw [endF]; split <;> simp
theorem parse_ok {s : ByteArray} {l : List (List Pt)} {b : Nat} (h : prs (bts s) = .ok l b) (w : World) : Calls Tryd.prog 5 #[.string s] w fun e w' => ∃ p F, e = .returned (.tuple #[.pointer (some ⟨p, 0, none⟩), .nilIface]) ∧ PaR F w' p l ∧ Below w.heap.size w w' := by
  refine (parseP s w).mono ?_
  rintro e w' ⟨hb, ⟨p, F, l', ⟨b', h1⟩, rfl, h2, _⟩ | ⟨k, g, h1, _⟩⟩
  · rw [h] at h1
    injection h1 with e1 e2
    subst e1
    exact ⟨p, F, rfl, h2, hb⟩
  · rw [h] at h1; cases h1
theorem parse_bad {s : ByteArray} {k : Nat} (h : prs (bts s) = .bad k) (w : World) : Calls Tryd.prog 5 #[.string s] w fun e w' => ∃ g, e = .returned (.tuple #[.pointer none, .iface 41 (.pointer (some ⟨g, 0, none⟩))]) ∧ Below w.heap.size w w' := by
  refine (parseP s w).mono ?_
  rintro e w' ⟨hb, ⟨p, F, l', ⟨b', h1⟩, rfl, h2, _⟩ | ⟨k, g, h1, rfl, _⟩⟩
  · rw [h] at h1; cases h1
  · exact ⟨g, rfl, hb⟩
theorem parse_any (s : ByteArray) (w : World) : Calls Tryd.prog 5 #[.string s] w fun e w' => ∃ P Er, e = .returned (.tuple #[P, Er]) ∧ Below w.heap.size w w' := by
  refine (parseP s w).mono ?_
  rintro e w' ⟨hb, ⟨p, F, l', ⟨b', h1⟩, rfl, h2, _⟩ | ⟨k, g, h1, rfl, _⟩⟩
  · exact ⟨_, _, rfl, hb⟩
  · exact ⟨_, _, rfl, hb⟩

theorem bts_append (a b : ByteArray) : bts (a ++ b) = bts a ++ bts b := by
  simp [bts]
def bothK (p q : Nat → Bool) : Nat → Bool
  | 0 => false
  | i + 1 => bothK p q i || (p i && q i)
def againK (e : Bool) (p c : Nat → Bool) : Nat → Bool
  | 0 => e
  | i + 1 => againK e p c i || (decide (0 < i) && p i && c i)
theorem bothK_iff (p q : Nat → Bool) : ∀ n, bothK p q n = true ↔ ∃ j, j < n ∧ p j = true ∧ q j = true
  | 0 => by simp [bothK]
  | n + 1 => by
    rw [bothK, Bool.or_eq_true, bothK_iff p q n, Bool.and_eq_true]
    constructor
    · rintro (⟨j, h1, h2⟩ | h)
      · exact ⟨j, by omega, h2⟩
      · exact ⟨n, by omega, h⟩
    · rintro ⟨j, h1, h2⟩
      rcases (show j < n ∨ j = n by omega) with h | rfl
      · exact Or.inl ⟨j, h, h2⟩
      · exact Or.inr h2
theorem againK_iff (e : Bool) (p c : Nat → Bool) : ∀ n, againK e p c n = true ↔ e = true ∨ ∃ j, 0 < j ∧ j < n ∧ p j = true ∧ c j = true
  | 0 => by simp [againK]
  | n + 1 => by
    rw [againK, Bool.or_eq_true, againK_iff e p c n, Bool.and_eq_true, Bool.and_eq_true, decide_eq_true_eq]
    constructor
    · rintro ((h | ⟨j, h0, h1, h2⟩) | ⟨⟨h0, h1⟩, h2⟩)
      · exact Or.inl h
      · exact Or.inr ⟨j, h0, by omega, h2⟩
      · exact Or.inr ⟨n, h0, by omega, h1, h2⟩
    · rintro (h | ⟨j, h0, h1, h2⟩)
      · exact Or.inl (Or.inl h)
      · rcases (show j < n ∨ j = n by omega) with h | rfl
        · exact Or.inl (Or.inr ⟨j, h0, h, h2⟩)
        · exact Or.inr ⟨⟨h0, h2.1⟩, h2.2⟩
open Classical in
/-- Does it mean the bytes, as a Bool? -/
noncomputable def mB (l : List (List Pt)) (L : List UInt8) : Bool := decide (Means l L)
theorem mB_iff (l : List (List Pt)) (L : List UInt8) : mB l L = true ↔ Means l L := by unfold mB; exact @decide_eq_true_iff _ (Classical.propDecidable _)
theorem match_mB {F : Nat → Prop} {w : World} {p : Nat} {l : List (List Pt)} (hP : PaR F w p l) (v : ByteArray) (hv : v.size ≤ 100000) (R : Bool) (hR : mB l (bts v) = R) :
    Calls Tryd.prog 10 #[.pointer (some ⟨p, 0, none⟩), .string v] w fun e w' => e = .returned (.bool R) ∧ Below w.heap.size w w' :=
  matchP F w p l hP v hv R (by rw [← hR]; exact mB_iff _ _)
theorem bts_pre (v : ByteArray) (i : Nat) : bts (v.extract 0 i) = (bts v).take i := by rw [bts_extract]; simp
theorem bts_suf (v : ByteArray) (i : Nat) : bts (v.extract i v.size) = (bts v).drop i := by rw [bts_extract, List.take_of_length_le (by rw [List.length_drop, size_bts]; exact Nat.le_refl _)]
theorem size_pre (v : ByteArray) (i : Nat) : (v.extract 0 i).size ≤ v.size := by rw [size_bts, bts_pre, size_bts]; simp; omega
theorem size_suf (v : ByteArray) (i : Nat) : (v.extract i v.size).size ≤ v.size := by rw [size_bts, bts_suf, size_bts]; simp

end Go.Proofs.YtndegcgcbhcokaaDoor

/-
  The document's Parse.
-/
namespace Go.Proofs.YtndegcgcbhcokaaDoor
open Go.RowKit
set_option linter.unusedVariables false
set_option linter.unusedSimpArgs false

/-- The document's pattern in memory. -/
structure PaN (F : Nat → Prop) (w : World) (p : Nat) (l : List (List Pt)) (u : List Value) : Prop where
  blk : Blk w p 75 u
  an : AnV F w l u
  lt : ∀ b, F b → b < w.heap.size
theorem PaN.later {F : Nat → Prop} {w w' : World} {p : Nat} {l : List (List Pt)} {u : List Value} (h : PaN F w p l u) (hb : Below w.heap.size w w') : PaN F w' p l u :=
  ⟨h.blk.later hb, h.an.keep (Chg.of_below (F := fun _ => False) hb) (fun _ _ h => h), fun b hb' => Nat.lt_of_lt_of_le (h.lt b hb') hb.size⟩
/-- What the document's Parse answers. -/
def ParN (s : ByteArray) (w : World) (e : Ending) (w' : World) : Prop :=
  Below w.heap.size w w' ∧ ((∃ p F l b u, prs (bts s) = .ok l b ∧ e = .returned (.tuple #[.pointer (some ⟨p, 0, none⟩), .int .i64 0, .int .i64 0]) ∧ PaN F w' p l u) ∨
    (∃ k : Nat, prs (bts s) = .bad k ∧ e = .returned (.tuple #[.pointer none, .int .i64 (k : Int), .int .i64 80])))
theorem RU.rx {w wx : World} {ra : Option Addr} {n rc : Nat} {aa : Option Addr} {m ac : Nat} {rl : List Int} {al : List Nat} (h : RU w wx ra n rc aa m ac rl al) (hm : 0 < m) : ∃ rb ab, (∀ (j : Nat) (c : Int), rl[j]? = some c → ra = some ⟨rb, 0, none⟩ ∧ wx.cell? ⟨rb, j, none⟩ = some (.int .i32 c)) ∧ aa = some ⟨ab, 0, none⟩ ∧ (∀ (j a : Nat), al[j]? = some a → wx.cell? ⟨ab, j, none⟩ = some (.int .i64 (a : Int))) ∧ w.heap.size ≤ rb ∧ rb < wx.heap.size ∧ w.heap.size ≤ ab ∧ ab < wx.heap.size := by
  rcases h.o2.2 with ⟨_, e⟩ | ⟨ab, cap, cur, e0, hb, _⟩
  · omega
  · injection e0 with e0 _ _
    subst e0
    have hal : ab < wx.heap.size := owns_lt h.o2 ab (by simp [Value.ownBlock])
    have hA : ∀ (j a : Nat), al[j]? = some a → wx.cell? ⟨ab, j, none⟩ = some (.int .i64 (a : Int)) := fun j a hj => by
      have := h.o2.cells (g := ab) (by simp [Value.ownBlock]) j (.int .i64 (a : Int)) (by simp [c64, hj])
      rw [Addr.add_lit, Nat.zero_add] at this
      exact this
    rcases h.o1.2 with ⟨_, e⟩ | ⟨rb, cap1, cur1, e1, hb1, _⟩
    · refine ⟨ab, ab, fun j c hj => ?_, rfl, hA, hb, hal, hb, hal⟩
      have hl := h.o1.1
      rw [e] at hl
      simp [c32] at hl
      rw [hl] at hj
      simp at hj
    · injection e1 with e1 _ _
      subst e1
      refine ⟨rb, ab, fun j c hj => ⟨rfl, ?_⟩, rfl, hA, hb1, owns_lt h.o1 rb (by simp [Value.ownBlock]), hb, hal⟩
      have := h.o1.cells (g := rb) (by simp [Value.ownBlock]) j (.int .i32 c) (by simp [c32, hj])
      rw [Addr.add_lit, Nat.zero_add] at this
      exact this

set_option maxRecDepth 100000 in
set_option maxHeartbeats 0 in
theorem parseN (B : Nat) (s : ByteArray) (w : World) (hT : Tb B w) : Calls Tryd.prog 6 #[.string s] w (ParN s w) := by
  have hsb := size_bts s
  by_cases h64 : s.size ≤ 64
  · have h64z : ¬ (64 : Int) < (s.size : Int) := by omega
    obtain ⟨w1, hw1, hB1, hb1, hs1⟩ : ∃ w1, w.alloc (.cells #[.slice none 0 0, .slice none 0 0, .int .i64 0, .int .i64 0, .int .i64 (-1)] 64) = w1 ∧ Blk w1 w.heap.size 64 [.slice none 0 0, .slice none 0 0, .int .i64 0, .int .i64 0, .int .i64 (-1)] ∧ Below w.heap.size w w1 ∧ w1.heap.size = w.heap.size + 1 := one_new w 64 [.slice none 0 0, .slice none 0 0, .int .i64 0, .int .i64 0, .int .i64 (-1)]
    have kR := runesR B s w1 (by omega) (hT.later hb1)
    have HW1 := hidden hw1
    have B1 := hidden hB1
    have HB1 := hidden hb1
    obtain ⟨R, hR⟩ : ∃ R, rowsF (bts s) (4 * (bts s).length + 4) 0 0 = R := ⟨_, rfl⟩
    have hno : R ≠ .out := by rw [← hR]; exact (read_bd (bts s) (4 * (bts s).length + 4) 0 0 (by omega)).1.2 (by omega)
    have HPR : Hid (prs (bts s) = endF (bts s) R) := hidden (by unfold prs; rw [if_neg (by omega), hR])
    have HR := hidden hR
    have HNO := hidden hno
    have HS1 := hidden hs1
    have HSB := hidden hsb
    clear hw1 hB1 hb1 hs1 hR hno hT hsb
    unfold RunesR at kR
    go_enter Tryd.func6, Tryd.ntmps6
    go_upto_region 4 with fail
    rw [HW1.out]
    clear HW1
    have x0 : w1.cell? ⟨w.heap.size, 0, none⟩ = some (.slice none 0 0) := B1.out.cell 0
    go_upto_region 5 with (go_at_call 14; refine kR.mono ?_; rintro e w2 ⟨ra, n, rc, aa, ac, rl, al, rfl, hN, hU, hns⟩; have HN := hidden hN; have HU := hidden hU; have B2 := hidden (B1.out.later (hU.bel.mono (Nat.le_refl _))); have y0 : w2.cell? ⟨w.heap.size, 0, none⟩ = some (.slice none 0 0) := B2.out.cell 0; have fy0 := B2.out.frozen 0; have y1 : (w2.setCell ⟨w.heap.size, 0, none⟩ (.slice ra n rc)).cell? ⟨w.heap.size, 1, none⟩ = some (.slice none 0 0) := (B2.out.set 0 _).cell 1; have fy1 := (B2.out.set 0 (.slice ra n rc)).frozen 1; clear kR hN hU)
    obtain ⟨w3, hw3⟩ : ∃ w3, (w2.setCell ⟨w.heap.size, 0, none⟩ (.slice ra n rc)).setCell ⟨w.heap.size, 1, none⟩ (.slice aa (n + 1) ac) = w3 := ⟨_, rfl⟩
    rw [hw3]
    have B3 : Blk w3 w.heap.size 64 [.slice ra n rc, .slice aa (n + 1) ac, .int .i64 0, .int .i64 0, .int .i64 (-1)] := by rw [← hw3]; exact (B2.out.set 0 _).set 1 _
    have C3 : Chg (fun b => b = w.heap.size) w2 w3 := by
      rw [← hw3]
      exact (Chg.set ⟨w.heap.size, 0, none⟩ _ w2).put 1 _
    clear hw3 y0 fy0 y1 fy1 x0
    obtain ⟨rb, ab, q1, q2, q3, q4, q5, q6, q7⟩ := HU.out.rx (by omega)
    subst q2
    have hll := HN.out.len
    have hrl : rl.length = n := by have := HU.out.o1.1; simpa [c32] using this
    have hal : al.length = n + 1 := by rw [hll.1, hrl]
    have hs1 := HS1.out
    have R3 : Rr w3 w.heap.size ⟨some ⟨rb, 0, none⟩, rc, ac, rb, ab, rl, al⟩ 0 0 (-1) ∨ rl = [] := by
      by_cases h0 : rl = []
      · exact .inr h0
      · left
        have hra : ra = some ⟨rb, 0, none⟩ := by
          cases rl with
          | nil => exact absurd rfl h0
          | cons x t => exact (q1 0 x rfl).1
        refine ⟨?_, fun j c hj => ⟨rfl, ?_⟩, fun j a hj => ?_, ⟨by show rb ≠ _; omega, by show ab ≠ _; omega⟩, ?_⟩
        · show Blk w3 w.heap.size 64 [.slice (some ⟨rb, 0, none⟩) rl.length rc, .slice (some ⟨ab, 0, none⟩) al.length ac, _, _, _]
          rw [hrl, hal, ← hra]; exact B3
        · have := (q1 j c hj).2
          exact (World.cell?_of_block (C3.block rb (cell_lt this) (fun e => by have e' : rb = w.heap.size := e; omega))).trans this
        · have := q3 j a hj
          exact (World.cell?_of_block (C3.block ab (cell_lt this) (fun e => by have e' : ab = w.heap.size := e; omega))).trans this
        · exact ⟨by show rl.length ≤ _; omega, by show al.length ≤ _; omega, by omega, by omega⟩
    have R3' : ∃ X : Rx, X.rl = rl ∧ X.al = al ∧ X.rb < w3.heap.size ∧ X.ab < w3.heap.size ∧ Rr w3 w.heap.size X 0 0 (-1) ∧ X.ra = ra ∧ X.rc = rc := by
      have h23 := C3.size
      rcases R3 with h | h0
      · have hx := h.blk
        have : some ⟨rb, 0, none⟩ = ra := by
          have e1 : w3.cell? ⟨w.heap.size, 0, none⟩ = some (.slice (some ⟨rb, 0, none⟩) rl.length rc) := hx.cell 0
          have e2 : w3.cell? ⟨w.heap.size, 0, none⟩ = some (.slice ra n rc) := B3.cell 0
          rw [e1] at e2
          injection e2 with e2
          injection e2 with e2
        exact ⟨_, rfl, rfl, by show rb < _; omega, by show ab < _; omega, h, this, rfl⟩
      · refine ⟨⟨ra, rc, ac, ab, ab, rl, al⟩, rfl, rfl, by show ab < _; omega, by show ab < _; omega, ⟨?_, fun j c hj => ?_, fun j a hj => ?_, ⟨by show ab ≠ _; omega, by show ab ≠ _; omega⟩, ?_⟩, rfl, rfl⟩
        · show Blk w3 w.heap.size 64 [.slice ra rl.length rc, .slice (some ⟨ab, 0, none⟩) al.length ac, _, _, _]
          rw [hrl, hal]; exact B3
        · have hj' : rl[j]? = some c := hj
          rw [h0] at hj'; simp at hj'
        · have := q3 j a hj
          exact (World.cell?_of_block (C3.block ab (cell_lt this) (fun e => by have e' : ab = w.heap.size := e; omega))).trans this
        · exact ⟨by show rl.length ≤ _; omega, by show al.length ≤ _; omega, by omega, by omega⟩
    obtain ⟨X, hXl, hXal, hXr, hXa, hR3, hXra, hXrc⟩ := R3'
    have hA3 : At X (bts s) 0 0 := by unfold At; rw [hXl, hXal]; exact HN.out
    have kA := (readsR (4 * (bts s).length + 4)).1 w.heap.size X (bts s) 0 0 0 w3 hR3 hA3 hXr hXa (by omega) (by rw [HR.out]; exact HNO.out)
    rw [HR.out] at kA
    have HB3 : Hid (Below w.heap.size w w3) := hidden ((HB1.out.trans (HU.out.bel.mono HB1.out.size)).trans (C3.below (by have := HU.out.bel.size; omega) (fun i e => by have e' : i = w.heap.size := e; omega)))
    have HXL : Hid (X.rl.length = n ∧ X.ra = ra ∧ X.rc = rc) := hidden ⟨by rw [hXl]; exact hrl, hXra, hXrc⟩
    have hg3 : w.heap.size < w3.heap.size := hR3.blk.lt
    clear R3 B3 C3 q1 q3 q4 q5 q6 q7 hll hA3 hR3 hXra hXrc hXl hXal HU HN B1 B2 hrl hal
    go_upto_region 6 with (go_at_call 15; refine kA.mono ?_; rintro e w4 ⟨ch4, u4, j4, bad4, rfl, sh4, r4, or4⟩; have C4 := hidden ch4; have R4 := hidden r4; have O4 := hidden or4; obtain ⟨K, A, N', G, ad1, n1, c1, ad2, n2, c2, hu4⟩ := sh4; have HU4 := hidden hu4; rw [hu4]; simp only [nV]; clear kA ch4 r4 or4 hu4)
    obtain ⟨w5, hw5, hB5, hb5, hs5⟩ : ∃ w5, w4.alloc (.cells #[.int .i64 (K : Int), .int .i32 (A : Int), .bool N', .int .u8 (G : Int), .slice ad1 n1 c1, .slice ad2 n2 c2] 70) = w5 ∧ Blk w5 w4.heap.size 70 (nV K A N' G (.slice ad1 n1 c1) (.slice ad2 n2 c2)) ∧ Below w4.heap.size w4 w5 ∧ w5.heap.size = w4.heap.size + 1 := one_new w4 70 (nV K A N' G (.slice ad1 n1 c1) (.slice ad2 n2 c2))
    rw [hw5]
    clear hw5
    have R5 := hidden (R4.out.later hb5)
    have B5 := hidden hB5
    have HB5 := hidden hb5
    have h34 := C4.out.size
    have HB35 : Hid (Below w.heap.size w w5) := hidden ((HB3.out.trans (C4.out.below (by omega) (fun i e => by have e' : i = w.heap.size := e; omega))).trans (hb5.mono (by omega)))
    have z0 : w5.cell? ⟨w.heap.size, 0, none⟩ = some (.slice ra n rc) := by
      have := R5.out.blk.cell 0
      have e : w5.cell? ⟨w.heap.size, 0, none⟩ = some (.slice X.ra X.rl.length X.rc) := this
      rw [HXL.out.1, HXL.out.2.1, HXL.out.2.2] at e
      exact e
    have z2 : w5.cell? ⟨w.heap.size, 2, none⟩ = some (.int .i64 (j4 : Int)) := R5.out.blk.cell 2
    have z4 : w5.cell? ⟨w.heap.size, 4, none⟩ = some (.int .i64 bad4) := R5.out.blk.cell 4
    clear hB5 hb5 hs5
    rcases O4.out with ⟨l, b, q1, rfl, q3, q4, q5⟩ | ⟨k, q1, rfl, q3⟩
    · by_cases hbl : b < s.size
      · -- something is left over
        have hpr : prs (bts s) = .bad b := by rw [HPR.out, q1, endF, if_pos (by rw [← HSB.out]; exact hbl)]
        have hj4 : j4 < n := by
          rcases Nat.lt_or_ge j4 n with h | h
          · exact h
          · have hd : X.rl.drop j4 = [] := List.drop_of_length_le (by rw [HXL.out.1]; exact h)
            have := (Rn.last q4).1 hd
            rw [← HSB.out] at this
            omega
        have hd2 : decide (j4 < n) = true := decide_eq_true hj4
        have hj4z : (j4 : Int) < (n : Int) := by omega
        have HPRB := hidden hpr
        have HAL := hidden q4.al
        clear q1 q3 q4 hpr
        go_wp2_with fail
        go_quiet (fail)
        rename_i nq
        have R6 : Hid (Rr (w5.drewN nq) w.heap.size X j4 0 (-1)) := hidden (R5.out.later (below_drewN (Below.refl _ _) _))
        have HB6 : Hid (Below w.heap.size w (w5.drewN nq)) := hidden (below_drewN HB35.out _)
        generalize w5.drewN nq = w6 at *
        have k17 := placeR b w6 R6.out HAL.out
        go_upto_region 9 with (first
          | (go_at_call 17; refine k17.mono ?_; rintro e w7 ⟨rfl, g7⟩; have R7 := hidden (R6.out.later g7); have HB7 := hidden (HB6.out.trans (g7.mono HB6.out.size)); have k16 := failR (b : Int) w7 R7.out; rw [if_pos (by omega)] at k16; clear k17 g7)
          | (go_at_call 16; refine k16.mono ?_; rintro e w8 ⟨rfl, g8, d8⟩; have R8 := hidden g8; have HB8 := hidden (HB7.out.trans (d8.below HB7.out.size (fun i e => by have e' : i = w.heap.size := e; omega))); have t4 : w8.cell? ⟨w.heap.size, 4, none⟩ = some (.int .i64 (b : Int)) := R8.out.blk.cell 4; clear k16 g8 d8))
        go_quiet (fail)
        go_wp2
        go_ret3
        exact ⟨below_drewN HB8.out _, .inr ⟨b, HPRB.out, rfl⟩⟩
      · -- the pattern
        have hpr : prs (bts s) = .ok l b := by rw [HPR.out, q1, endF, if_neg (by rw [← HSB.out]; exact hbl)]
        have hj4 : ¬ j4 < n := fun h => by
          have hq := q4.len.2.2
          rw [← HSB.out] at hq
          have := (Rn.last q4).2 (by rw [← HSB.out]; omega)
          have := congrArg List.length this
          rw [List.length_drop, HXL.out.1] at this
          simp at this
          omega
        have hd2 : decide (j4 < n) = false := decide_eq_false hj4
        have hj4z : ¬ (j4 : Int) < (n : Int) := by omega
        have HPRB := hidden hpr
        have HAN := hidden q3
        clear q1 q3 q4 hpr
        go_wp2_with fail
        go_quiet (fail)
        rename_i nq
        have R6 : Hid (Rr (w5.drewN nq) w.heap.size X j4 0 (-1)) := hidden (R5.out.later (below_drewN (Below.refl _ _) _))
        have HB6 : Hid (Below w.heap.size w (w5.drewN nq)) := hidden (below_drewN HB35.out _)
        have B6 : Hid (Blk (w5.drewN nq) w4.heap.size 70 (nV K A N' G (.slice ad1 n1 c1) (.slice ad2 n2 c2))) := hidden (B5.out.drewN nq)
        have C46 : Hid (Below w4.heap.size w4 (w5.drewN nq)) := hidden (below_drewN HB5.out _)
        generalize w5.drewN nq = w6 at *
        have t4 : w6.cell? ⟨w.heap.size, 4, none⟩ = some (.int .i64 (-1)) := R6.out.blk.cell 4
        go_wp2_with (refine wpList_load_blk rfl 70 (.tmp 6) rfl w4.heap.size B6.out rfl Tryd.underlying70 rfl info70s ?_; simp only [nV])
        go_ret3
        have hba : Below w6.heap.size w6 (w6.alloc (.cells #[.int .i64 (K : Int), .int .i32 (A : Int), .bool N', .int .u8 (G : Int), .slice ad1 n1 c1, .slice ad2 n2 c2] 75)) := (Below.refl _ _).alloc (Nat.le_refl _) _
        refine ⟨HB6.out.trans (hba.mono HB6.out.size), .inl ⟨w6.heap.size, FW w3 w4, l, b, nV K A N' G (.slice ad1 n1 c1) (.slice ad2 n2 c2), HPRB.out, rfl, Blk.new w6 75 (nV K A N' G (.slice ad1 n1 c1) (.slice ad2 n2 c2)), ?_, fun b hb => ?_⟩⟩
        · rw [← HU4.out]
          exact HAN.out.keep (Chg.of_below (F := fun _ => False) (C46.out.trans (hba.mono C46.out.size))) (fun _ _ h => h)
        · have h1 := hb.2
          have h2 := C46.out.size
          have h3 := hba.size
          omega
    · -- it has failed
      have hpr : prs (bts s) = .bad k := by rw [HPR.out, q1, endF]
      have hk0 : ¬ (k : Int) < 0 := by omega
      have hd1 : decide ((k : Int) < 0) = false := decide_eq_false hk0
      have HPRB := hidden hpr
      clear q1 q3 hpr
      go_wp2_with fail
      go_quiet (fail)
      rename_i nq
      have R6 : Hid (Rr (w5.drewN nq) w.heap.size X j4 0 (k : Int)) := hidden (R5.out.later (below_drewN (Below.refl _ _) _))
      have HB6 : Hid (Below w.heap.size w (w5.drewN nq)) := hidden (below_drewN HB35.out _)
      generalize w5.drewN nq = w6 at *
      have t4 : w6.cell? ⟨w.heap.size, 4, none⟩ = some (.int .i64 (k : Int)) := R6.out.blk.cell 4
      go_wp2_with fail
      go_quiet (fail)
      go_wp2
      go_ret3
      exact ⟨below_drewN HB6.out _, .inr ⟨k, HPRB.out, rfl⟩⟩
  · have h64z : (64 : Int) < (s.size : Int) := by omega
    have HPB : Hid (prs (bts s) = .bad 64) := hidden (by unfold prs; rw [if_pos (by omega)])
    go_enter Tryd.func6, Tryd.ntmps6
    go_wp2
    go_ret3
    exact ⟨Below.refl _ _, .inr ⟨64, HPB.out, rfl⟩⟩

end Go.Proofs.YtndegcgcbhcokaaDoor
