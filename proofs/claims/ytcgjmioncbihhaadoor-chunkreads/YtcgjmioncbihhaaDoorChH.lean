/-
  Package chunk: Chunk.put.
-/
import Derived.Test.YtcgjmioncbihhaaDoorNumD
namespace Go.Proofs.YtcgjmioncbihhaaDoor
open Go.RowKit
set_option linter.unusedVariables false
set_option linter.unusedSimpArgs false

/-- A chunk's own cells. -/
def chC (most : Int) (n : Nat) (a : Tr) (p : Nat) : List Value := [.int .i64 most, .int .i64 (n : Int), .int .i64 a.t, .int .u64 (a.v : Int), .int .i64 a.st, .pointer (some ⟨p, 0, none⟩)]
def tz3 : List Value := [.int .i64 0, .int .u64 0, .int .i64 0]
theorem info53 : (Tryd.prog.info? 53).map (fun i => i.zero.map (·.cells)) = some (some tz3.toArray) := by kernel_rfl
theorem res_put (tmps : Array Value) (w : World) (g : Nat) (a b c : Value) (hp : tmps.getD 4 undef = .pointer (some ⟨g, 0, none⟩)) (h0 : w.cell? ⟨g, 0, none⟩ = some a) (h1 : w.cell? ⟨g, 1, none⟩ = some b) (h2 : w.cell? ⟨g, 2, none⟩ = some c) :
    (results Tryd.f21 tmps).run Tryd.prog w = .ok (.agg #[a, b, c]) w := by
  have h : Tryd.f21.results = #[.cell 4 53] := by kernel_rfl
  have hp' : tmps[4]?.getD undef = .pointer (some ⟨g, 0, none⟩) := by simpa using hp
  simp [results, h, hp', asAddr, loadVar, h0, h1, h2, go_sem]

/-- The bits of one sample more, and what the next one is told by. -/
def onB (n : Nat) (a : Tr) (s : Sm) : List Bool := if n = 0 then fiB s else drB (a.drift s) ++ flB (a.flips s)
def onT (n : Nat) (a : Tr) (s : Sm) : Tr := if n = 0 then tr0 s else a.next s

theorem WU.sets {w w4 : World} {p g : Nat} {rb : Option Nat} {L : List Bool} {ty : TypeId} {l0 : List Value} (h : WU w w4 p rb L) (hB : Blk w4 g ty l0) (h5 : ty ≠ 5) (h81 : ty ≠ 81) (hg : w.heap.size ≤ g) (l : List Value) : WU w (w4.setCells g 0 l) p rb L := by
  obtain ⟨rb', h1, h2, h3⟩ := h
  have hc := Chg.sets g l 0 w4
  refine ⟨rb', h1.chg hc (fun i hi e => ?_), h2.trans hc (fun i hi e => by omega), h3⟩
  subst e
  exact ws_ne h1 hB h5 h81 hi
theorem WU.base {w w3 w4 : World} {p : Nat} {rb : Option Nat} {L : List Bool} (h : WU w3 w4 p rb L) (hb : Below w.heap.size w w3) : WU w w4 p rb L := WU.more (Chg.of_below hb) (.inl rfl) h
theorem WS.later {w w' : World} {p : Nat} {rb : Option Nat} {L : List Bool} (h : WS w p rb L) (hb : Below w.heap.size w w') : WS w' p rb L := h.chg (Chg.of_below (F := fun _ => False) hb) (fun _ _ e => e)
theorem drB_len (d : Int) : (drB d).length ≤ 68 := by
  unfold drB
  repeat' split
  all_goals simp [low_len]
theorem size53 : (Tryd.prog.info? 53).map (·.size) = some 3 := by kernel_rfl
theorem ok_drift (a : Tr) (s : Sm) : I64 (a.drift s) := wr_i64 _
theorem ok_flips {a : Tr} {s : Sm} (ha : Ok a) (hs : OkS s) : a.flips s < 18446744073709551616 := flips_lt hs.v ha.v

theorem Gv.wu {w w' : World} {p : Nat} {rb : Option Nat} {L : List Bool} (h : Gv w) (hu : WU w w' p rb L) (hlo : 1 < p ∧ ∀ i, rb = some i → 1 < i) : Gv w' := by
  obtain ⟨rb', h1, h2, h3⟩ := hu
  have key : ∀ g, g ≤ 1 → ¬ fpt p rb g := by
    rintro g hg (e | e)
    · omega
    · have := hlo.2 g e; omega
  exact ⟨fun j hj => by
      have hc := h.wid j hj
      rw [World.cell?_of_block (w := w) (h2.block 0 (World.block_lt_of_cell? w _ hc) (key 0 (by omega)))]; exact hc,
    fun j hj => by
      have hc := h.tab j hj
      rw [World.cell?_of_block (w := w) (h2.block 1 (World.block_lt_of_cell? w _ hc) (key 1 (by omega)))]; exact hc⟩

/-- What Put's first call leaves beside the row. -/
theorem first_x {w w3 wx : World} {p gs gt : Nat} {rb : Option Nat} {L : List Bool} {s : Sm} {ls lt : List Value} (hs : OkS s) (hW : WS w3 p rb L) (hL : L.length ≤ 900000000) (hb0 : Below w.heap.size w w3) (hS : Blk w3 gs 32 ls) (hT : Blk w3 gt 53 lt) (hb : Below w3.heap.size w3 wx) :
    Calls Tryd.prog 37 #[.agg #[.pointer (some ⟨p, 0, none⟩)], .agg #[.int .i64 s.t, .int .u64 (s.v : Int)]] wx fun e w' => e = .returned (.tuple #[]) ∧ WU w w' p rb (L ++ fiB s) ∧ Blk w' gs 32 ls ∧ Blk w' gt 53 lt := by
  refine (putFirstP wx p rb L s (hW.later hb) hs.t hs.v (by omega)).mono ?_
  rintro e w' ⟨rfl, hu⟩
  exact ⟨rfl, hu.base (hb0.trans (hb.mono hb0.size)), hu.blk (hW.later hb) (hS.later hb) (by decide) (by decide), hu.blk (hW.later hb) (hT.later hb) (by decide) (by decide)⟩

set_option maxRecDepth 100000 in
set_option maxHeartbeats 8000000 in
theorem cputP (w : World) (c p : Nat) (rb : Option Nat) (most : Int) (n : Nat) (a : Tr) (L : List Bool) (s : Sm) (hB : Blk w c 58 (chC most n a p)) (h : WS w p rb L) (hG : Gv w) (ha : Ok a) (hs : OkS s) (hn : n ≤ 1000000000) (hL : L.length ≤ 900000000) (hlo : 1 < p ∧ ∀ i, rb = some i → 1 < i) :
    Calls Tryd.prog 21 #[.pointer (some ⟨c, 0, none⟩), smV s] w fun e w' => e = .returned (trV (onT n a s)) ∧ WU w w' p rb (L ++ onB n a s) := by
  have HB := hidden hB
  have HW := hidden h
  have HG := hidden hG
  have hst := hs.t
  unfold I64 at hst
  have hsv := hs.v
  have HS := hidden hs
  have HA := hidden ha
  clear hB h hG hs ha
  unfold smV
  go_enter Tryd.func21, Tryd.ntmps21
  by_cases hn0 : n = 0
  · subst hn0
    have HE := hidden (show trV (onT 0 a s) = .agg #[.int .i64 s.t, .int .u64 (s.v : Int), .int .i64 0] from rfl)
    have HO := hidden (show onB 0 a s = fiB s from rfl)
    go_wp2_with (first
      | (refine wpList_box_blk rfl 32 (.tmp 1) rfl [.int .i64 s.t, .int .u64 (s.v : Int)] rfl ?_; intro w2 B2 bl2 hz2; have HB2 := hidden B2; have HL2 := hidden bl2; clear B2 bl2 hz2)
      | (refine wpList_alloc_blk rfl 53 rfl 4 rfl tz3 info53 ?_; intro w3 B3 bl3 hz3; have HB3 := hidden B3; have HB2' := hidden (HB2.out.later bl3); have HL3 := hidden (HL2.out.trans (bl3.mono HL2.out.size)); clear B3 bl3 hz3; have HBc := hidden (HB.out.later HL3.out); have c1 := HBc.out.cell 1; have c5 := HBc.out.cell 5; simp [chC] at c1 c5; have d0 := HB2'.out.cell 0; have d1 := HB2'.out.cell 1; simp at d0 d1))
    have HP := hidden (fun (wx : World) (hb : Below w3.heap.size w3 wx) => first_x HS.out (HW.out.later HL3.out) hL HL3.out HB2'.out HB3.out hb)
    have hg4 := HL2.out.size
    go_region_with (refine (HP.out _ ((Below.refl _ _).drew)).mono ?_; rintro e w4 ⟨rfl, h4, S4, T4⟩)
    all_goals
      have H4 := hidden h4
      have HS4 := hidden S4
      have HT4 := hidden T4
      have e0 := S4.cell 0
      have e1 := S4.cell 1
      simp at e0 e1
      clear h4 S4 T4
      go_wp2_with (refine wpList_store_blk rfl 53 (.tmp 4) (.tmp 19) rfl rfl w2.heap.size (l := [.int .i64 s.t, .int .u64 (s.v : Int), .int .i64 0]) HT4.out rfl rfl rfl size53 (by intro v hv; simp at hv; rcases hv with rfl | rfl | rfl <;> rfl) ?_)
      have hN := blk_stored (l := [.int .i64 s.t, .int .u64 (s.v : Int), .int .i64 0]) HT4.out rfl
      refine bodyPost_ret (res_put _ _ w2.heap.size _ _ _ rfl (hN.cell 0) (hN.cell 1) (hN.cell 2)) rfl ?_
      rw [HE.out, HO.out]
      exact ⟨rfl, H4.out.sets HT4.out (by decide) (by decide) hg4 _⟩
  · have hn0z : ¬ (n : Int) = 0 := by omega
    have HE : Hid (trV (onT n a s) = .agg #[.int .i64 s.t, .int .u64 (s.v : Int), .int .i64 (wr (s.t - a.t))]) := hidden (by unfold onT; rw [if_neg hn0]; rfl)
    have HO : Hid (onB n a s = drB (a.drift s) ++ flB (a.flips s)) := hidden (by unfold onB; rw [if_neg hn0])
    have HY : Hid (trV (a.by' (a.drift s) (a.flips s)) = .agg #[.int .i64 s.t, .int .u64 (s.v : Int), .int .i64 (wr (s.t - a.t))]) := hidden (by rw [by_next a s HS.out.t]; rfl)
    have TO := hidden (fun wx => toP wx a s HS.out.t HS.out.v HA.out.t HA.out.s HA.out.v)
    have BY := hidden (fun wx => byP wx a (a.drift s) (a.flips s) (ok_drift a s) (ok_flips HA.out HS.out) HA.out.t HA.out.s HA.out.v)
    have PD := hidden (fun wx rb L hw hg hl => putDriftP wx p rb L (a.drift s) hw hg (ok_drift a s) hl)
    have PF := hidden (fun wx rb L hw hg hl => putFlipsP wx p rb L (a.flips s) hw hg (ok_flips HA.out HS.out) hl)
    have hfl := ok_flips HA.out HS.out
    have hdl := drB_len (a.drift s)
    have hdi := ok_drift a s
    rw [HO.out, HE.out]
    unfold trV smV at TO
    unfold rwV at PD PF
    unfold trV at BY HY
    generalize a.drift s = dd at *
    generalize a.flips s = ff at *
    generalize a.by' dd ff = nx at *
    unfold I64 at hdi
    go_wp2_with (first
      | (refine wpList_box_blk rfl 32 (.tmp 1) rfl [.int .i64 s.t, .int .u64 (s.v : Int)] rfl ?_; intro w2 B2 bl2 hz2; have HB2 := hidden B2; have HL2 := hidden bl2; clear B2 bl2 hz2)
      | (refine wpList_alloc_blk rfl 53 rfl 4 rfl tz3 info53 ?_; intro w3 B3 bl3 hz3; have HB3 := hidden B3; have HB2' := hidden (HB2.out.later bl3); have HL3 := hidden (HL2.out.trans (bl3.mono HL2.out.size)); clear B3 bl3 hz3; have HBc := hidden (HB.out.later HL3.out); have c1 := HBc.out.cell 1; have c2 := HBc.out.cell 2; have c3 := HBc.out.cell 3; have c4 := HBc.out.cell 4; have c5 := HBc.out.cell 5; simp [chC] at c1 c2 c3 c4 c5; have d0 := HB2'.out.cell 0; have d1 := HB2'.out.cell 1; simp at d0 d1))
    have hg4 := HL2.out.size
    go_region_with (refine (TO.out _).mono ?_; rintro e w4 ⟨rfl, b4⟩)
    all_goals
      have L4 := hidden (show Below w3.heap.size w3 w4 from ((Below.refl _ _).drew).trans b4)
      have Z4 := hidden (HL3.out.trans (L4.out.mono HL3.out.size))
      have BC4 := hidden (HBc.out.later L4.out)
      have BT4 := hidden (HB3.out.later L4.out)
      have e5 := BC4.out.cell 5
      simp [chC] at e5
      clear b4
      have W4 := hidden (HW.out.later Z4.out)
      go_wp2_with fail
      refine (PD.out w4 rb L W4.out (HG.out.later Z4.out) (by omega)).mono ?_
      rintro e w5 ⟨rfl, h5⟩
      have BC5 := hidden (h5.blk W4.out BC4.out (by decide) (by decide))
      have BT5 := hidden (h5.blk W4.out BT4.out (by decide) (by decide))
      have G5 := hidden ((HG.out.later Z4.out).wu h5 hlo)
      obtain ⟨rb5, k1, k2, k3⟩ := h5
      have K1 := hidden k1
      have K2 := hidden k2
      have K3 := hidden k3
      clear k1 k2 k3
      have f5 := BC5.out.cell 5
      simp [chC] at f5
      go_wp2_with fail
      refine (PF.out w5 rb5 _ K1.out G5.out (by simp; omega)).mono ?_
      rintro e w6 ⟨rfl, h6⟩
      have BC6 := hidden (h6.blk K1.out BC5.out (by decide) (by decide))
      have BT6 := hidden (h6.blk K1.out BT5.out (by decide) (by decide))
      have U6 := hidden ((WU.more K2.out K3.out h6).base Z4.out)
      have g2 := BC6.out.cell 2
      have g3 := BC6.out.cell 3
      have g4 := BC6.out.cell 4
      simp [chC] at g2 g3 g4
      clear h6
      go_wp2_with fail
      refine (BY.out w6).mono ?_
      rintro e w7 ⟨rfl, b7⟩
      rw [HY.out]
      have BT7 := hidden (BT6.out.later b7)
      have U7 := hidden (U6.out.later b7)
      clear b7
      go_wp2_with (refine wpList_store_blk rfl 53 (.tmp 4) (.tmp 47) rfl rfl w2.heap.size (l := [.int .i64 s.t, .int .u64 (s.v : Int), .int .i64 (wr (s.t - a.t))]) BT7.out rfl rfl rfl size53 (by intro v hv; simp at hv; rcases hv with rfl | rfl | rfl <;> rfl) ?_)
      have hN := blk_stored (l := [.int .i64 s.t, .int .u64 (s.v : Int), .int .i64 (wr (s.t - a.t))]) BT7.out rfl
      refine bodyPost_ret (res_put _ _ w2.heap.size _ _ _ rfl (hN.cell 0) (hN.cell 1) (hN.cell 2)) rfl ?_
      refine ⟨rfl, ?_⟩
      have h8 := U7.out.sets BT7.out (by decide) (by decide) hg4 [.int .i64 s.t, .int .u64 (s.v : Int), .int .i64 (wr (s.t - a.t))]
      rw [← List.append_assoc]
      exact h8

end Go.Proofs.YtcgjmioncbihhaaDoor
