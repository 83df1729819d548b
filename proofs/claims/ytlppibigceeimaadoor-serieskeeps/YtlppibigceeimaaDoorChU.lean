/-
  Package chunk: the reader's samples.
-/
import Derived.Test.YtlppibigceeimaaDoorChO
namespace Go.Proofs.YtlppibigceeimaaDoor
open Go.RowKit
set_option linter.unusedVariables false
set_option linter.unusedSimpArgs false

def tC (a : Tr) : List Value := [.int .i64 a.t, .int .u64 (a.v : Int), .int .i64 a.st]
theorem built53a (a b : Value) (s : Sm) : Tryd.prog.built 112 [(0, .agg #[.int .i64 s.t, .int .u64 (s.v : Int)])] = some #[.int .i64 s.t, .int .u64 (s.v : Int), .int .i64 0] := by kernel_rfl
theorem Blk.ownsM {w : World} {g : Nat} {l : List Sm} (h : Blk w g 35 (cS l)) (hn : l.length ≤ 1000000000) (b : Nat) (hb : b ≤ g) : w.ownsRow b 35 2 (.slice (some ⟨g, 0, none⟩) l.length l.length) l.length (cS l) :=
  ⟨cS_length l, .inr ⟨g, l.length, (cS l).toArray, rfl, hb, h, Nat.le_refl _, by unfold maxLen; omega, by simp [cS_length], by simp [List.take_of_length_le, cS_length]⟩⟩
theorem own_far {w wx : World} {v : Value} {n r p : Nat} {xs : List Value} (h : wx.ownsRow w.heap.size 35 2 v n xs) (hr : r < w.heap.size) (hp : p < r) : ∀ i, v.ownBlock = some i → ¬ F2 r p i := by
  intro i hi
  have := (h.lt i hi).1
  unfold F2
  omega
theorem own_apart {wx : World} {v : Value} {n g b : Nat} {xs : List Value} {vs : List Value} (h : wx.ownsRow b 35 2 v n xs) (hB : Blk wx g 112 vs) : ∀ i, v.ownBlock = some i → ¬ i = g := by
  rintro i hi rfl
  rcases h.2 with ⟨rfl, _⟩ | ⟨g', cap, cur, rfl, _, hg, _⟩
  · exact absurd hi (by simp [Value.ownBlock])
  · simp [Value.ownBlock] at hi
    subst hi
    have := hB.symm.trans hg
    injection this with this
    injection this with _ h2 _
    exact absurd h2 (by decide)
theorem chg_far {b : Nat} {w w' : World} (hb : Below b w w') : Chg (fun i => b ≤ i) w w' := ⟨hb.os, hb.tape, hb.output, hb.size, fun i hi hn => hb.block i (by omega)⟩
theorem b8_blk {w w' : World} {v : Value} {n g b : Nat} {xs vs : List Value} (h : w.ownsRow b 35 2 v n xs) (hB : Blk w g 112 vs) (hc : Chg (fun i => v.ownBlock = some i) w w') : Blk w' g 112 vs := hc.blk hB (fun e => own_apart h hB g e rfl)
/-- What samples leaves. -/
def SaP (w : World) (r p n : Nat) (B : List Bool) (e : Ending) (w' : World) : Prop :=
  ∃ ad c l B' wg', e = .returned (.slice ad l.length c) ∧ w'.ownsRow w.heap.size 35 2 (.slice ad l.length c) l.length (cS l) ∧ (∀ x ∈ l, OkS x) ∧ XS w' r p B' wg' ∧ RdE (rdF n B) l B' wg' ∧ Chg (F2 r p) w w'
/-- What a round of samples holds. -/
structure SL (w wx : World) (r p g n : Nat) (B : List Bool) (i : Nat) (v : Value) (out : List Sm) (a : Tr) (Bi : List Bool) (wg : Bool) : Prop where
  xs : XS wx r p Bi wg
  blk : Blk wx g 112 (tC a)
  own : wx.ownsRow w.heap.size 35 2 v out.length (cS out)
  ok : ∀ x ∈ out, OkS x
  oka : Ok a
  si : SI n B i out a Bi wg
  len : out.length = i + 1
  chg : Chg (F2 r p) w wx

set_option maxRecDepth 100000 in
set_option maxHeartbeats 8000000 in
theorem samplesP (w : World) (r p n : Nat) (B : List Bool) (h : XS w r p B false) (hG : Gv w) (hlo : 1 < r ∧ 1 < p) (hn : 1 ≤ n) (hn2 : n < 18446744073709551616) :
    Calls Tryd.prog 60 #[.pointer (some ⟨r, 0, none⟩), .int .u64 (n : Int)] w (SaP w r p n B) := by
  have HX := hidden h
  have HG := hidden hG
  have hrl := h.blk.lt
  have hBl := h.len
  have hpr := h.lt
  clear h hG
  have HF := hidden (firstP w r p B false HX.out)
  unfold smV at HF
  have HO := hidden (f1_ok B)
  obtain ⟨s, hs⟩ : ∃ s, f1 B = s := ⟨_, rfl⟩
  have HS0 := hidden (SI.start n B)
  rw [hs] at HF HO HS0
  clear hs
  go_enter Tryd.func60, Tryd.ntmps60
  go_wp2_with fail
  refine HF.out.mono ?_
  rintro e w1 ⟨rfl, h1, hc1⟩
  have X1 := hidden h1
  have C1 := hidden hc1
  clear h1 hc1
  go_wp2_with (first
    | (refine wpList_build_to rfl 112 #[(0, .tmp 10)] rfl [(0, .agg #[.int .i64 s.t, .int .u64 (s.v : Int)])] #[.int .i64 s.t, .int .u64 (s.v : Int), .int .i64 0] rfl (built53a undef undef s) ?_)
    | (refine wpList_alloc_blk rfl 112 rfl 5 rfl tz3 info53 ?_; intro w2 B2 bl2 hz2; have HB2 := hidden B2; have X2 := hidden (X1.out.later bl2); have C2 := hidden (C1.out.trans (Chg.of_below (F := F2 r p) bl2) (fun i _ hi => hi)); clear B2 bl2 hz2)
    | (refine wpList_store_blk rfl 112 (.tmp 5) (.tmp 11) rfl rfl w1.heap.size (l := [.int .i64 s.t, .int .u64 (s.v : Int), .int .i64 0]) HB2.out rfl rfl rfl size53 (by intro v hv; simp at hv; rcases hv with rfl | rfl | rfl <;> rfl) ?_
       have BN := blk_stored (l := [.int .i64 s.t, .int .u64 (s.v : Int), .int .i64 0]) HB2.out rfl
       have CN := Chg.sets w1.heap.size [.int .i64 s.t, .int .u64 (s.v : Int), .int .i64 0] 0 w2
       generalize w2.setCells w1.heap.size 0 [.int .i64 s.t, .int .u64 (s.v : Int), .int .i64 0] = w3 at BN CN ⊢
       have e0 := BN.cell 0
       have e1 := BN.cell 1
       simp at e0 e1
       have HBN := hidden BN
       have HCN := hidden CN
       clear BN CN))
  have hsz1 := C1.out.size
  have hsz3 := HCN.out.size
  have hb2 := HB2.out.lt
  have SL0 : Hid (SL w (w3.alloc (.cells #[.int .i64 s.t, .int .u64 (s.v : Int)] 35)) r p w1.heap.size n B 0 (.slice (some ⟨w3.heap.size, 0, none⟩) 1 1) [s] (tr0 s) (g1 B) (h1 B false)) := hidden (by
    have X3 : XS w3 r p (g1 B) (h1 B false) := X2.out.bel (b := w1.heap.size) (by omega) (HCN.out.below (by omega) (fun i hi => by omega))
    have bl : Below w3.heap.size w3 (w3.alloc (.cells #[.int .i64 s.t, .int .u64 (s.v : Int)] 35)) := (Below.refl _ _).alloc (Nat.le_refl _) _
    refine ⟨X3.later bl, HBN.out.later bl, (Blk.new w3 35 (cS [s])).ownsM (by simp) _ (by omega), ?_, tr0_ok HO.out, HS0.out, rfl, ?_⟩
    · intro x hx; rw [List.mem_singleton.1 hx]; exact HO.out
    · exact (C2.out.trans HCN.out (fun i hi e => by omega)).trans (Chg.of_below (F := F2 r p) bl) (fun i _ hi => hi))
  have hgw : w.heap.size ≤ w1.heap.size := hsz1
  clear HBN HCN e0 e1 X1 X2 C1 C2 HB2 HF HS0 hsz1 hsz3 hb2
  generalize w1.heap.size = g at *
  go_loopw [6, 17] (fun v6 v17 wx => ∃ (i : Nat) (out : List Sm) (a : Tr) (Bi : List Bool) (wg : Bool), v17 = .int .u64 (i : Int) ∧ i ≤ n - 1 ∧ (∃ ad c, v6 = .slice ad out.length c) ∧ Hid (SL w wx r p g n B i v6 out a Bi wg)) (fun _ v17 _ => (n - 1) - (intOf v17).toNat)
  case atStart => exact ⟨0, [s], tr0 s, _, _, rfl, by omega, ⟨_, _, rfl⟩, SL0⟩
  case round =>
    rename World => wx
    obtain ⟨i, out, a, Bi, wg, rfl, hi, ⟨ad, c, rfl⟩, hS⟩ := hrel
    clear SL0 HX HO
    have c0 := hS.out.xs.blk.cell 1
    simp at c0
    have HLEN := hidden hS.out.len
    by_cases hlt : i < n - 1
    · have hltz : (i : Int) < (n : Int) - 1 := by omega
      cases wg with
      | true =>
        go_wp2
        go_ret
        exact ⟨none, 0, [], Bi, true, rfl, World.ownsRow_nil _ _ _ _, by simp, hS.out.xs, hS.out.si.bad [] Bi, hS.out.chg⟩
      | false =>
        have HG1 := hidden (gv_chg HG.out hS.out.chg (by unfold F2; omega))
        have hil : i ≤ 400000000 := by
          rcases hS.out.si with ⟨h, _⟩ | ⟨_, h, _⟩
          · exact absurd h (by simp)
          · omega
        go_wp2_with fail
        refine (driftP wx r p Bi false hS.out.xs HG1.out).mono ?_
        rintro e w4 ⟨dd, B1, wg1, rfl, hd, hR1, hX1, hc1⟩
        have HR1 := hidden hR1
        have HX1 := hidden hX1
        have HC1 := hidden hc1
        have HG2 := hidden (gv_chg HG1.out hc1 (by unfold F2; omega))
        have hdb := hd
        unfold I64 at hdb
        have HD := hidden hd
        clear hR1 hX1 hc1 hd
        go_wp2_with fail
        refine (flipsP w4 r p B1 wg1 HX1.out HG2.out hlo).mono ?_
        rintro e w5 ⟨x, B2, wg2, rfl, hx, hR2, hX2, hc2⟩
        have HC2 := hidden (HC1.out.trans hc2 (fun i _ hi => hi))
        have HX2 := hidden hX2
        have hgF : ¬ F2 r p g := by unfold F2; omega
        have HB5 := hidden (HC2.out.blk hS.out.blk hgF)
        have HSN := hidden (hS.out.si.next hlt HR1.out hR2)
        have HOA := hidden (by_ok (d := dd) hS.out.oka hx)
        have HBY := hidden (byP w5 a dd x HD.out hx hS.out.oka.t hS.out.oka.s hS.out.oka.v)
        unfold trV at HBY
        have e0 := HB5.out.cell 0
        have e1 := HB5.out.cell 1
        have e2 := HB5.out.cell 2
        simp [tC] at e0 e1 e2
        clear hX2 hc2 hR2 HX1 HR1
        generalize hab : a.by' dd x = b at *
        go_wp2_with fail
        refine HBY.out.mono ?_
        rintro e w6 ⟨rfl, bl6⟩
        have HB6 := hidden (HB5.out.later bl6)
        have X6 := hidden (HX2.out.later bl6)
        have C6 := hidden (HC2.out.trans (Chg.of_below (F := F2 r p) bl6) (fun i _ hi => hi))
        clear bl6 HBY HX2 HC2 HB5 e0 e1 e2
        have hgl := hS.out.blk.lt
        go_wp2_with (first
          | (refine wpList_store_blk rfl 112 (.tmp 5) (.tmp 30) rfl rfl g (l := [.int .i64 b.t, .int .u64 (b.v : Int), .int .i64 b.st]) HB6.out rfl rfl rfl size53 (by intro v hv; simp at hv; rcases hv with rfl | rfl | rfl <;> rfl) ?_
             have BN := blk_stored (l := [.int .i64 b.t, .int .u64 (b.v : Int), .int .i64 b.st]) HB6.out rfl
             have CN := Chg.sets g [.int .i64 b.t, .int .u64 (b.v : Int), .int .i64 b.st] 0 w6
             generalize w6.setCells g 0 [.int .i64 b.t, .int .u64 (b.v : Int), .int .i64 b.st] = w7 at BN CN ⊢
             have e0 := BN.cell 0
             have e1 := BN.cell 1
             simp at e0 e1
             have HBN := hidden BN
             have X7 := hidden (X6.out.bel (b := w.heap.size) hrl (CN.below (by have := C6.out.size; have := hS.out.chg.size; omega) (fun i hi => by omega)))
             have C7 := hidden (((hS.out.chg.trans C6.out (fun i _ hi => hi))).trans CN (fun i hi e => by omega))
             have O7 := hidden (CN.owns (C6.out.owns hS.out.own (own_far hS.out.own hrl hpr)) (own_apart hS.out.own hS.out.blk))
             clear BN CN)
          | (refine wpList_pushM _ rfl (.tmp 31) (.tmp 34) rfl w.heap.size (.slice ad out.length c) out.length out rfl w7 O7.out ⟨b.t, b.v⟩ rfl rfl (by have := HLEN.out; omega) (by have := C7.out.size; omega) ?_
             intro g' c' w8 o8 b8 p8
             have P8 := hidden p8
             have O8 := hidden o8
             have B8 := hidden b8
             clear o8 b8 p8))
        have hwb : (i : Int) + 1 = ((i + 1 : Nat) : Int) := by omega
        have X8 := hidden (X7.out.bel hrl B8.out)
        have BK8 := hidden (b8_blk O7.out HBN.out P8.out)
        refine ⟨⟨i + 1, out ++ [⟨b.t, b.v⟩], b, B2, wg2, by first | rfl | (rw [← hwb]; rfl), by omega, ⟨some ⟨g', 0, none⟩, c', by simp⟩, hidden ⟨X8.out, BK8.out, by simpa using O8.out, ?_, HOA.out, HSN.out, by simp [HLEN.out], C7.out.trans (chg_far B8.out) (fun i hi e => by omega)⟩⟩, ?_⟩
        · intro y hy
          rcases List.mem_append.1 hy with hy | hy
          · exact hS.out.ok y hy
          · rw [List.mem_singleton.1 hy]; exact ⟨HOA.out.t, HOA.out.v⟩
        · simp [intOf]
          omega
    · have hge : ¬ (i : Int) < (n : Int) - 1 := by omega
      go_wp2
      go_ret
      exact ⟨ad, c, out, Bi, wg, rfl, hS.out.own, hS.out.ok, hS.out.xs, hS.out.si.done (by omega), hS.out.chg⟩

end Go.Proofs.YtlppibigceeimaaDoor
