import Derived.Test.YtalmpmhnkilalaaGreatDoorChC
import Derived.Test.YtalmpmhnkilalaaGreatDoorMath
import Derived.Laws.Bits64
/-
  Package chunk: trail.to, trail.by, row.size, countBytes.
-/
namespace Go.Proofs.YtalmpmhnkilalaaGreatDoor
open Go.RowKit
set_option linter.unusedVariables false
set_option linter.unusedSimpArgs false

theorem i64w (x : Int) : IntKind.i64.wrap x = wr x := by rw [IntKind.wrap_i64]; rfl
/-- A trail, as a value. -/
def trV (a : Tr) : Value := .agg #[.int .i64 a.t, .int .u64 (a.v : Int), .int .i64 a.st]
theorem flips_lt {x y : Nat} (hx : x < 18446744073709551616) (hy : y < 18446744073709551616) : x ^^^ y < 18446744073709551616 := Nat.xor_lt_two_pow (n := 64) hx hy

set_option maxRecDepth 100000 in
set_option maxHeartbeats 4000000 in
theorem toP (w : World) (a : Tr) (s : Sm) (ht : I64 s.t) (hv : s.v < 18446744073709551616) (hat : I64 a.t) (has : I64 a.st) (hav : a.v < 18446744073709551616) :
    Calls Tryz.prog 208 #[trV a, smV s] w fun e w' => e = .returned (.tuple #[.int .i64 (a.drift s), .int .u64 (a.flips s : Int)]) ∧ Below w.heap.size w w' := by
  have hxor := bits_xor_u64_nat s.v a.v hv hav
  have hW1 := i64w (s.t - a.t)
  have hW2 := i64w (wr (s.t - a.t) - a.st)
  have HD := hidden (show a.drift s = wr (wr (s.t - a.t) - a.st) from rfl)
  have HF := hidden (show a.flips s = s.v ^^^ a.v from rfl)
  unfold trV smV
  obtain ⟨t, v⟩ := s
  obtain ⟨at', av, ast⟩ := a
  simp only at hxor hW1 hW2 HD HF ht hv hat has hav
  simp only []
  rw [HD.out, HF.out]
  clear HD HF
  generalize wr (wr (t - at') - ast) = dd at *
  generalize wr (t - at') = ee at *
  generalize v ^^^ av = ff at *
  go_enter Tryz.func208, Tryz.ntmps208
  go_wp2_with (first
    | (refine wpList_box_blk rfl 196 (.tmp 0) rfl [.int .i64 at', .int .u64 (av : Int), .int .i64 ast] rfl ?_; intro w2 B2 bl2 hz2; have HB2 := hidden B2; have HL2 := hidden bl2; clear B2 bl2 hz2)
    | (refine wpList_box_blk rfl 50 (.tmp 1) rfl [.int .i64 t, .int .u64 (v : Int)] rfl ?_; intro w3 B3 bl3 hz3; have HB3 := hidden B3; have HB2' := hidden (HB2.out.later bl3); have HL3 := hidden (HL2.out.trans (bl3.mono HL2.out.size)); clear B3 bl3 hz3; have c2 := HB2'.out.cell 0; have c3 := HB2'.out.cell 1; have c4 := HB2'.out.cell 2; have c5 := HB3.out.cell 0; have c6 := HB3.out.cell 1; simp at c2 c3 c4 c5 c6))
  go_quiet (fail)
  go_wp2
  go_ret2
  exact ⟨by simp, below_drewN HL3.out _⟩

theorem sizeP (w : World) (p : Nat) (rb : Option Nat) (L : List Bool) (h : WS w p rb L) (hL : L.length ≤ 1000000000000) :
    Calls Tryz.prog 201 #[rwV p] w fun e w' => e = .returned (.int .i64 (((L.length + 7) / 8 : Nat) : Int)) ∧ Below w.heap.size w w' := by
  have HW := hidden h
  unfold rwV
  obtain ⟨n, hn⟩ : ∃ n, L.length = n := ⟨_, rfl⟩
  have HN := hidden hn
  rw [hn] at hL ⊢
  clear h hn
  go_enter Tryz.func201, Tryz.ntmps201
  go_wp2_with (refine wpList_box_blk rfl 194 (.tmp 0) rfl [.pointer (some ⟨p, 0, none⟩)] rfl ?_; intro w2 B2 bl2 hz2; have HL2 := hidden bl2; have c2 := B2.cell 0; simp at c2; have HW2 := hidden (HW.out.chg (Chg.of_below (F := fun _ => False) bl2) (fun _ _ e => e)); clear B2 bl2 hz2)
  refine (len_any p rb L w2 HW2.out).mono ?_
  rintro e w3 ⟨rfl, rfl⟩
  rw [HN.out]
  have hq : Int.tdiv ((n : Int) + 8 - 1) 8 = (((n + 7) / 8 : Nat) : Int) := by rw [Int.tdiv_eq_ediv_of_nonneg (by omega)]; omega
  go_wp2
  go_ret
  exact ⟨by simp, HL2.out⟩

theorem countP (w : World) (n : Nat) (hn : n ≤ 1000000000) :
    Calls Tryz.prog 200 #[.int .i64 (n : Int)] w fun e w' => e = .returned (.slice (some ⟨w.heap.size, 0, none⟩) (0 + Q.grp n + 1) (0 + (Q.grp n + 1))) ∧
      w'.ownsRow w.heap.size 5 1 (.slice (some ⟨w.heap.size, 0, none⟩) (0 + Q.grp n + 1) (0 + (Q.grp n + 1))) (0 + Q.grp n + 1) (cells8 ([] ++ Q.enc n)) ∧ Below w.heap.size w w' := by
  go_enter Tryz.func200, Tryz.ntmps200
  go_wp2_with fail
  refine (Q.putUint_any none 0 0 n [] w (Sl.nil _ _) (by omega) (by omega)).mono ?_
  rintro e w1 ⟨rfl, h1, h2⟩
  have H1 := hidden h1
  have H2 := hidden h2
  clear h1 h2
  go_wp2
  go_ret
  exact ⟨by simp, H1.out, H2.out⟩

end Go.Proofs.YtalmpmhnkilalaaGreatDoor

/-
  Package chunk: trail.by.
-/
namespace Go.Proofs.YtalmpmhnkilalaaGreatDoor
open Go.RowKit
set_option linter.unusedVariables false
set_option linter.unusedSimpArgs false

theorem res_by (tmps : Array Value) (w : World) (g : Nat) (a b c : Value) (hp : tmps.getD 6 undef = .pointer (some ⟨g, 0, none⟩)) (h0 : w.cell? ⟨g, 0, none⟩ = some a) (h1 : w.cell? ⟨g, 1, none⟩ = some b) (h2 : w.cell? ⟨g, 2, none⟩ = some c) (ha : a.oneCell' = true) (hb : b.oneCell' = true) (hc : c.oneCell' = true) :
    (results Tryz.f211 tmps).run Tryz.prog w = .ok (.agg #[a, b, c]) w := by
  have h : Tryz.f211.results = #[.cell 6 196] := by kernel_rfl
  have hp' : tmps[6]?.getD undef = .pointer (some ⟨g, 0, none⟩) := by simpa using hp
  simp [results, h, hp', asAddr, loadVar, h0, h1, h2, go_sem]

set_option maxRecDepth 100000 in
set_option maxHeartbeats 4000000 in
theorem byP (w : World) (a : Tr) (d : Int) (x : Nat) (hd : I64 d) (hx : x < 18446744073709551616) (hat : I64 a.t) (has : I64 a.st) (hav : a.v < 18446744073709551616) :
    Calls Tryz.prog 211 #[trV a, .int .i64 d, .int .u64 (x : Int)] w fun e w' => e = .returned (trV (a.by' d x)) ∧ Below w.heap.size w w' := by
  have hxor := bits_xor_u64_nat a.v x hav hx
  have hW1 := i64w (a.st + d)
  have hW2 := i64w (a.t + wr (a.st + d))
  have HD := hidden (show trV (a.by' d x) = .agg #[.int .i64 (wr (a.t + wr (a.st + d))), .int .u64 ((a.v ^^^ x : Nat) : Int), .int .i64 (wr (a.st + d))] from rfl)
  rw [HD.out]
  unfold trV
  obtain ⟨at', av, ast⟩ := a
  simp only at hxor hW1 hW2 hat has hav
  simp only []
  clear HD
  have hr1 := wr_i64 (at' + wr (ast + d))
  have hr2 := wr_i64 (ast + d)
  generalize wr (at' + wr (ast + d)) = dd at *
  generalize wr (ast + d) = ee at *
  generalize av ^^^ x = ff at *
  unfold I64 at *
  go_enter Tryz.func211, Tryz.ntmps211
  go_wp2_with (refine wpList_box_blk rfl 196 (.tmp 0) rfl [.int .i64 at', .int .u64 (av : Int), .int .i64 ast] rfl ?_; intro w2 B2 bl2 hz2; have HL2 := hidden bl2; have hlt2 := B2.lt; have c2 := (B2.alloc (.cells #[.int .i64 0, .int .u64 0, .int .i64 0] 196)).cell 0; have c3 := (B2.alloc (.cells #[.int .i64 0, .int .u64 0, .int .i64 0] 196)).cell 1; have c4 := (B2.alloc (.cells #[.int .i64 0, .int .u64 0, .int .i64 0] 196)).cell 2; simp only [List.getElem?_cons_zero, List.getElem?_cons_succ] at c2 c3 c4; clear B2 bl2 hz2)
  have hN := Blk.new w2 196 [.int .i64 dd, .int .u64 (ff : Int), .int .i64 ee]
  refine bodyPost_ret (res_by _ _ w2.heap.size (.int .i64 dd) (.int .u64 (ff : Int)) (.int .i64 ee) rfl (hN.cell 0) (hN.cell 1) (hN.cell 2) rfl rfl rfl) rfl ?_
  exact ⟨rfl, HL2.out.alloc HL2.out.size _⟩

end Go.Proofs.YtalmpmhnkilalaaGreatDoor

/-
  Package chunk: Chunk.put.
-/
namespace Go.Proofs.YtalmpmhnkilalaaGreatDoor
open Go.RowKit
set_option linter.unusedVariables false
set_option linter.unusedSimpArgs false

/-- A chunk's own cells. -/
def chC (most : Int) (n : Nat) (a : Tr) (p : Nat) : List Value := [.int .i64 most, .int .i64 (n : Int), .int .i64 a.t, .int .u64 (a.v : Int), .int .i64 a.st, .pointer (some ⟨p, 0, none⟩)]
def tz3 : List Value := [.int .i64 0, .int .u64 0, .int .i64 0]
theorem info53 : (Tryz.prog.info? 196).map (fun i => i.zero.map (·.cells)) = some (some tz3.toArray) := by kernel_rfl
theorem res_put (tmps : Array Value) (w : World) (g : Nat) (a b c : Value) (hp : tmps.getD 4 undef = .pointer (some ⟨g, 0, none⟩)) (h0 : w.cell? ⟨g, 0, none⟩ = some a) (h1 : w.cell? ⟨g, 1, none⟩ = some b) (h2 : w.cell? ⟨g, 2, none⟩ = some c) :
    (results Tryz.f199 tmps).run Tryz.prog w = .ok (.agg #[a, b, c]) w := by
  have h : Tryz.f199.results = #[.cell 4 196] := by kernel_rfl
  have hp' : tmps[4]?.getD undef = .pointer (some ⟨g, 0, none⟩) := by simpa using hp
  simp [results, h, hp', asAddr, loadVar, h0, h1, h2, go_sem]

/-- The bits of one sample more, and what the next one is told by. -/
def onB (n : Nat) (a : Tr) (s : Sm) : List Bool := if n = 0 then fiB s else drB (a.drift s) ++ flB (a.flips s)
def onT (n : Nat) (a : Tr) (s : Sm) : Tr := if n = 0 then tr0 s else a.next s

theorem WU.sets {w w4 : World} {p g : Nat} {rb : Option Nat} {L : List Bool} {ty : TypeId} {l0 : List Value} (h : WU w w4 p rb L) (hB : Blk w4 g ty l0) (h5 : ty ≠ 5) (h81 : ty ≠ 208) (hg : w.heap.size ≤ g) (l : List Value) : WU w (w4.setCells g 0 l) p rb L := by
  obtain ⟨rb', h1, h2, h3⟩ := h
  have hc := Chg.sets g l 0 w4
  refine ⟨rb', h1.chg hc (fun i hi e => ?_), h2.trans hc (fun i hi e => by omega), h3⟩
  subst e
  exact ws_ne h1 hB h5 h81 hi
theorem WU.base {w w3 w4 : World} {p : Nat} {rb : Option Nat} {L : List Bool} (h : WU w3 w4 p rb L) (hb : Below w.heap.size w w3) : WU w w4 p rb L := WU.more (Chg.of_below hb) (.inl rfl) h
theorem WS.later {w w' : World} {p : Nat} {rb : Option Nat} {L : List Bool} (h : WS w p rb L) (hb : Below w.heap.size w w') : WS w' p rb L := h.chg (Chg.of_below (F := fun _ => False) hb) (fun _ _ e => e)
theorem drB_len (d : Int) : (drB d).length ≤ 68 := by
  unfold drB
  repeat' split
  all_goals simp [low_len]
theorem size53 : (Tryz.prog.info? 196).map (·.size) = some 3 := by kernel_rfl
theorem ok_drift (a : Tr) (s : Sm) : I64 (a.drift s) := wr_i64 _
theorem ok_flips {a : Tr} {s : Sm} (ha : Ok a) (hs : OkS s) : a.flips s < 18446744073709551616 := flips_lt hs.v ha.v

theorem Gv.wu {w w' : World} {p : Nat} {rb : Option Nat} {L : List Bool} (h : Gv w) (hu : WU w w' p rb L) (hlo : 1 < p ∧ ∀ i, rb = some i → 1 < i) : Gv w' := by
  obtain ⟨rb', h1, h2, h3⟩ := hu
  have key : ∀ g, g ≤ 1 → ¬ fpt p rb g := by
    rintro g hg (e | e)
    · omega
    · have := hlo.2 g e; omega
  exact ⟨fun j hj => by
      have hc := h.wid j hj
      rw [World.cell?_of_block (w := w) (h2.block 0 (World.block_lt_of_cell? w _ hc) (key 0 (by omega)))]; exact hc,
    fun j hj => by
      have hc := h.tab j hj
      rw [World.cell?_of_block (w := w) (h2.block 1 (World.block_lt_of_cell? w _ hc) (key 1 (by omega)))]; exact hc⟩

/-- What Put's first call leaves beside the row. -/
theorem first_x {w w3 wx : World} {p gs gt : Nat} {rb : Option Nat} {L : List Bool} {s : Sm} {ls lt : List Value} (hs : OkS s) (hW : WS w3 p rb L) (hL : L.length ≤ 900000000) (hb0 : Below w.heap.size w w3) (hS : Blk w3 gs 50 ls) (hT : Blk w3 gt 196 lt) (hb : Below w3.heap.size w3 wx) :
    Calls Tryz.prog 207 #[.agg #[.pointer (some ⟨p, 0, none⟩)], .agg #[.int .i64 s.t, .int .u64 (s.v : Int)]] wx fun e w' => e = .returned (.tuple #[]) ∧ WU w w' p rb (L ++ fiB s) ∧ Blk w' gs 50 ls ∧ Blk w' gt 196 lt := by
  refine (putFirstP wx p rb L s (hW.later hb) hs.t hs.v (by omega)).mono ?_
  rintro e w' ⟨rfl, hu⟩
  exact ⟨rfl, hu.base (hb0.trans (hb.mono hb0.size)), hu.blk (hW.later hb) (hS.later hb) (by decide) (by decide), hu.blk (hW.later hb) (hT.later hb) (by decide) (by decide)⟩

set_option maxRecDepth 100000 in
set_option maxHeartbeats 8000000 in
theorem cputP (w : World) (c p : Nat) (rb : Option Nat) (most : Int) (n : Nat) (a : Tr) (L : List Bool) (s : Sm) (hB : Blk w c 198 (chC most n a p)) (h : WS w p rb L) (hG : Gv w) (ha : Ok a) (hs : OkS s) (hn : n ≤ 1000000000) (hL : L.length ≤ 900000000) (hlo : 1 < p ∧ ∀ i, rb = some i → 1 < i) :
    Calls Tryz.prog 199 #[.pointer (some ⟨c, 0, none⟩), smV s] w fun e w' => e = .returned (trV (onT n a s)) ∧ WU w w' p rb (L ++ onB n a s) := by
  have HB := hidden hB
  have HW := hidden h
  have HG := hidden hG
  have hst := hs.t
  unfold I64 at hst
  have hsv := hs.v
  have HS := hidden hs
  have HA := hidden ha
  clear hB h hG hs ha
  unfold smV
  go_enter Tryz.func199, Tryz.ntmps199
  by_cases hn0 : n = 0
  · subst hn0
    have HE := hidden (show trV (onT 0 a s) = .agg #[.int .i64 s.t, .int .u64 (s.v : Int), .int .i64 0] from rfl)
    have HO := hidden (show onB 0 a s = fiB s from rfl)
    go_wp2_with (first
      | (refine wpList_box_blk rfl 50 (.tmp 1) rfl [.int .i64 s.t, .int .u64 (s.v : Int)] rfl ?_; intro w2 B2 bl2 hz2; have HB2 := hidden B2; have HL2 := hidden bl2; clear B2 bl2 hz2)
      | (refine wpList_alloc_blk rfl 196 rfl 4 rfl tz3 info53 ?_; intro w3 B3 bl3 hz3; have HB3 := hidden B3; have HB2' := hidden (HB2.out.later bl3); have HL3 := hidden (HL2.out.trans (bl3.mono HL2.out.size)); clear B3 bl3 hz3; have HBc := hidden (HB.out.later HL3.out); have c1 := HBc.out.cell 1; have c5 := HBc.out.cell 5; simp [chC] at c1 c5; have d0 := HB2'.out.cell 0; have d1 := HB2'.out.cell 1; simp at d0 d1))
    have HP := hidden (fun (wx : World) (hb : Below w3.heap.size w3 wx) => first_x HS.out (HW.out.later HL3.out) hL HL3.out HB2'.out HB3.out hb)
    have hg4 := HL2.out.size
    go_region_with (refine (HP.out _ ((Below.refl _ _).drew)).mono ?_; rintro e w4 ⟨rfl, h4, S4, T4⟩)
    all_goals
      have H4 := hidden h4
      have HS4 := hidden S4
      have HT4 := hidden T4
      have e0 := S4.cell 0
      have e1 := S4.cell 1
      simp at e0 e1
      clear h4 S4 T4
      go_wp2_with (refine wpList_store_blk rfl 196 (.tmp 4) (.tmp 19) rfl rfl w2.heap.size (l := [.int .i64 s.t, .int .u64 (s.v : Int), .int .i64 0]) HT4.out rfl rfl rfl size53 (by intro v hv; simp at hv; rcases hv with rfl | rfl | rfl <;> rfl) ?_)
      have hN := blk_stored (l := [.int .i64 s.t, .int .u64 (s.v : Int), .int .i64 0]) HT4.out rfl
      refine bodyPost_ret (res_put _ _ w2.heap.size _ _ _ rfl (hN.cell 0) (hN.cell 1) (hN.cell 2)) rfl ?_
      rw [HE.out, HO.out]
      exact ⟨rfl, H4.out.sets HT4.out (by decide) (by decide) hg4 _⟩
  · have hn0z : ¬ (n : Int) = 0 := by omega
    have HE : Hid (trV (onT n a s) = .agg #[.int .i64 s.t, .int .u64 (s.v : Int), .int .i64 (wr (s.t - a.t))]) := hidden (by unfold onT; rw [if_neg hn0]; rfl)
    have HO : Hid (onB n a s = drB (a.drift s) ++ flB (a.flips s)) := hidden (by unfold onB; rw [if_neg hn0])
    have HY : Hid (trV (a.by' (a.drift s) (a.flips s)) = .agg #[.int .i64 s.t, .int .u64 (s.v : Int), .int .i64 (wr (s.t - a.t))]) := hidden (by rw [by_next a s HS.out.t]; rfl)
    have TO := hidden (fun wx => toP wx a s HS.out.t HS.out.v HA.out.t HA.out.s HA.out.v)
    have BY := hidden (fun wx => byP wx a (a.drift s) (a.flips s) (ok_drift a s) (ok_flips HA.out HS.out) HA.out.t HA.out.s HA.out.v)
    have PD := hidden (fun wx rb L hw hg hl => putDriftP wx p rb L (a.drift s) hw hg (ok_drift a s) hl)
    have PF := hidden (fun wx rb L hw hg hl => putFlipsP wx p rb L (a.flips s) hw hg (ok_flips HA.out HS.out) hl)
    have hfl := ok_flips HA.out HS.out
    have hdl := drB_len (a.drift s)
    have hdi := ok_drift a s
    rw [HO.out, HE.out]
    unfold trV smV at TO
    unfold rwV at PD PF
    unfold trV at BY HY
    generalize a.drift s = dd at *
    generalize a.flips s = ff at *
    generalize a.by' dd ff = nx at *
    unfold I64 at hdi
    go_wp2_with (first
      | (refine wpList_box_blk rfl 50 (.tmp 1) rfl [.int .i64 s.t, .int .u64 (s.v : Int)] rfl ?_; intro w2 B2 bl2 hz2; have HB2 := hidden B2; have HL2 := hidden bl2; clear B2 bl2 hz2)
      | (refine wpList_alloc_blk rfl 196 rfl 4 rfl tz3 info53 ?_; intro w3 B3 bl3 hz3; have HB3 := hidden B3; have HB2' := hidden (HB2.out.later bl3); have HL3 := hidden (HL2.out.trans (bl3.mono HL2.out.size)); clear B3 bl3 hz3; have HBc := hidden (HB.out.later HL3.out); have c1 := HBc.out.cell 1; have c2 := HBc.out.cell 2; have c3 := HBc.out.cell 3; have c4 := HBc.out.cell 4; have c5 := HBc.out.cell 5; simp [chC] at c1 c2 c3 c4 c5; have d0 := HB2'.out.cell 0; have d1 := HB2'.out.cell 1; simp at d0 d1))
    have hg4 := HL2.out.size
    go_region_with (refine (TO.out _).mono ?_; rintro e w4 ⟨rfl, b4⟩)
    all_goals
      have L4 := hidden (show Below w3.heap.size w3 w4 from ((Below.refl _ _).drew).trans b4)
      have Z4 := hidden (HL3.out.trans (L4.out.mono HL3.out.size))
      have BC4 := hidden (HBc.out.later L4.out)
      have BT4 := hidden (HB3.out.later L4.out)
      have e5 := BC4.out.cell 5
      simp [chC] at e5
      clear b4
      have W4 := hidden (HW.out.later Z4.out)
      go_wp2_with fail
      refine (PD.out w4 rb L W4.out (HG.out.later Z4.out) (by omega)).mono ?_
      rintro e w5 ⟨rfl, h5⟩
      have BC5 := hidden (h5.blk W4.out BC4.out (by decide) (by decide))
      have BT5 := hidden (h5.blk W4.out BT4.out (by decide) (by decide))
      have G5 := hidden ((HG.out.later Z4.out).wu h5 hlo)
      obtain ⟨rb5, k1, k2, k3⟩ := h5
      have K1 := hidden k1
      have K2 := hidden k2
      have K3 := hidden k3
      clear k1 k2 k3
      have f5 := BC5.out.cell 5
      simp [chC] at f5
      go_wp2_with fail
      refine (PF.out w5 rb5 _ K1.out G5.out (by simp; omega)).mono ?_
      rintro e w6 ⟨rfl, h6⟩
      have BC6 := hidden (h6.blk K1.out BC5.out (by decide) (by decide))
      have BT6 := hidden (h6.blk K1.out BT5.out (by decide) (by decide))
      have U6 := hidden ((WU.more K2.out K3.out h6).base Z4.out)
      have g2 := BC6.out.cell 2
      have g3 := BC6.out.cell 3
      have g4 := BC6.out.cell 4
      simp [chC] at g2 g3 g4
      clear h6
      go_wp2_with fail
      refine (BY.out w6).mono ?_
      rintro e w7 ⟨rfl, b7⟩
      rw [HY.out]
      have BT7 := hidden (BT6.out.later b7)
      have U7 := hidden (U6.out.later b7)
      clear b7
      go_wp2_with (refine wpList_store_blk rfl 196 (.tmp 4) (.tmp 47) rfl rfl w2.heap.size (l := [.int .i64 s.t, .int .u64 (s.v : Int), .int .i64 (wr (s.t - a.t))]) BT7.out rfl rfl rfl size53 (by intro v hv; simp at hv; rcases hv with rfl | rfl | rfl <;> rfl) ?_)
      have hN := blk_stored (l := [.int .i64 s.t, .int .u64 (s.v : Int), .int .i64 (wr (s.t - a.t))]) BT7.out rfl
      refine bodyPost_ret (res_put _ _ w2.heap.size _ _ _ rfl (hN.cell 0) (hN.cell 1) (hN.cell 2)) rfl ?_
      refine ⟨rfl, ?_⟩
      have h8 := U7.out.sets BT7.out (by decide) (by decide) hg4 [.int .i64 s.t, .int .u64 (s.v : Int), .int .i64 (wr (s.t - a.t))]
      rw [← List.append_assoc]
      exact h8

end Go.Proofs.YtalmpmhnkilalaaGreatDoor
