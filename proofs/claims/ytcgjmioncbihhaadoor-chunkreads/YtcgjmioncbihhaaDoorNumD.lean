import Derived.Test.YtcgjmioncbihhaaDoorNumA
import Derived.Test.YtcgjmioncbihhaaDoorChE
import Derived.Laws.Bits64
namespace Go.Proofs.YtcgjmioncbihhaaDoor.Q
open Go.RowKit
set_option linter.unusedVariables false

set_option maxHeartbeats 400000 in
theorem putUint_any (ad : Option Addr) (len cap N : Nat) (l : List Int) (w : World) (hs : Sl w ad len l) (hb : len ≤ 140737488355328) (h1 : N ≤ 18446744073709551615) :
    Calls Tryd.prog 42 #[.slice ad len cap, .int .u64 N] w fun e w' => e = .returned (.slice (some ⟨w.heap.size, 0, none⟩) (len + grp N + 1) (len + (grp N + 1))) ∧
      w'.ownsRow w.heap.size 5 1 (.slice (some ⟨w.heap.size, 0, none⟩) (len + grp N + 1) (len + (grp N + 1))) (len + grp N + 1) (cells8 (l ++ enc N)) ∧ Below w.heap.size w w' := by
  have hg := grp_le N
  go_enter Tryd.func42, Tryd.ntmps42
  go_wp2_with fail
  refine (uintSize_any _ _ (by omega) (by omega)).mono ?_
  rintro e w' ⟨rfl, rfl⟩
  rw [Int.toNat_natCast]
  go_wp2_with fail
  rw [show ((grp N : Int) + 1) = ((grp N + 1 : Nat) : Int) by omega]
  refine (copyWithRoom_any ad len cap (grp N + 1) l _ hs (by omega)).mono ?_
  rintro e w1 ⟨rfl, hown, hbel⟩
  go_wp2_with fail
  refine (appendUint_any w'.heap.size _ len _ N l _ hown hbel.size h1 (by omega)).mono ?_
  rintro e w2 ⟨rfl, hown2, hbel2⟩
  go_wp2
  go_ret
  exact ⟨rfl, hown2, hbel.trans hbel2⟩

theorem fold_le (m : Int) (h0 : -9223372036854775808 ≤ m) (h1 : m ≤ 9223372036854775807) : fold m ≤ 18446744073709551615 := by
  unfold fold
  split <;> omega

end Go.Proofs.YtcgjmioncbihhaaDoor.Q

/-
  Package chunk: trail.to, trail.by, row.size, countBytes.
-/
namespace Go.Proofs.YtcgjmioncbihhaaDoor
open Go.RowKit
set_option linter.unusedVariables false
set_option linter.unusedSimpArgs false

theorem i64w (x : Int) : IntKind.i64.wrap x = wr x := by rw [IntKind.wrap_i64]; rfl
/-- A trail, as a value. -/
def trV (a : Tr) : Value := .agg #[.int .i64 a.t, .int .u64 (a.v : Int), .int .i64 a.st]
theorem flips_lt {x y : Nat} (hx : x < 18446744073709551616) (hy : y < 18446744073709551616) : x ^^^ y < 18446744073709551616 := Nat.xor_lt_two_pow (n := 64) hx hy

set_option maxRecDepth 100000 in
set_option maxHeartbeats 4000000 in
theorem toP (w : World) (a : Tr) (s : Sm) (ht : I64 s.t) (hv : s.v < 18446744073709551616) (hat : I64 a.t) (has : I64 a.st) (hav : a.v < 18446744073709551616) :
    Calls Tryd.prog 38 #[trV a, smV s] w fun e w' => e = .returned (.tuple #[.int .i64 (a.drift s), .int .u64 (a.flips s : Int)]) ∧ Below w.heap.size w w' := by
  have hxor := bits_xor_u64_nat s.v a.v hv hav
  have hW1 := i64w (s.t - a.t)
  have hW2 := i64w (wr (s.t - a.t) - a.st)
  have HD := hidden (show a.drift s = wr (wr (s.t - a.t) - a.st) from rfl)
  have HF := hidden (show a.flips s = s.v ^^^ a.v from rfl)
  unfold trV smV
  obtain ⟨t, v⟩ := s
  obtain ⟨at', av, ast⟩ := a
  simp only at hxor hW1 hW2 HD HF ht hv hat has hav
  simp only []
  rw [HD.out, HF.out]
  clear HD HF
  generalize wr (wr (t - at') - ast) = dd at *
  generalize wr (t - at') = ee at *
  generalize v ^^^ av = ff at *
  go_enter Tryd.func38, Tryd.ntmps38
  go_wp2_with (first
    | (refine wpList_box_blk rfl 53 (.tmp 0) rfl [.int .i64 at', .int .u64 (av : Int), .int .i64 ast] rfl ?_; intro w2 B2 bl2 hz2; have HB2 := hidden B2; have HL2 := hidden bl2; clear B2 bl2 hz2)
    | (refine wpList_box_blk rfl 32 (.tmp 1) rfl [.int .i64 t, .int .u64 (v : Int)] rfl ?_; intro w3 B3 bl3 hz3; have HB3 := hidden B3; have HB2' := hidden (HB2.out.later bl3); have HL3 := hidden (HL2.out.trans (bl3.mono HL2.out.size)); clear B3 bl3 hz3; have c2 := HB2'.out.cell 0; have c3 := HB2'.out.cell 1; have c4 := HB2'.out.cell 2; have c5 := HB3.out.cell 0; have c6 := HB3.out.cell 1; simp at c2 c3 c4 c5 c6))
  go_quiet (fail)
  go_wp2
  go_ret2
  exact ⟨by simp, below_drewN HL3.out _⟩

theorem sizeP (w : World) (p : Nat) (rb : Option Nat) (L : List Bool) (h : WS w p rb L) (hL : L.length ≤ 1000000000000) :
    Calls Tryd.prog 23 #[rwV p] w fun e w' => e = .returned (.int .i64 (((L.length + 7) / 8 : Nat) : Int)) ∧ Below w.heap.size w w' := by
  have HW := hidden h
  unfold rwV
  obtain ⟨n, hn⟩ : ∃ n, L.length = n := ⟨_, rfl⟩
  have HN := hidden hn
  rw [hn] at hL ⊢
  clear h hn
  go_enter Tryd.func23, Tryd.ntmps23
  go_wp2_with (refine wpList_box_blk rfl 56 (.tmp 0) rfl [.pointer (some ⟨p, 0, none⟩)] rfl ?_; intro w2 B2 bl2 hz2; have HL2 := hidden bl2; have c2 := B2.cell 0; simp at c2; have HW2 := hidden (HW.out.chg (Chg.of_below (F := fun _ => False) bl2) (fun _ _ e => e)); clear B2 bl2 hz2)
  refine (len_any p rb L w2 HW2.out).mono ?_
  rintro e w3 ⟨rfl, rfl⟩
  rw [HN.out]
  have hq : Int.tdiv ((n : Int) + 8 - 1) 8 = (((n + 7) / 8 : Nat) : Int) := by rw [Int.tdiv_eq_ediv_of_nonneg (by omega)]; omega
  go_wp2
  go_ret
  exact ⟨by simp, HL2.out⟩

theorem countP (w : World) (n : Nat) (hn : n ≤ 1000000000) :
    Calls Tryd.prog 22 #[.int .i64 (n : Int)] w fun e w' => e = .returned (.slice (some ⟨w.heap.size, 0, none⟩) (0 + Q.grp n + 1) (0 + (Q.grp n + 1))) ∧
      w'.ownsRow w.heap.size 5 1 (.slice (some ⟨w.heap.size, 0, none⟩) (0 + Q.grp n + 1) (0 + (Q.grp n + 1))) (0 + Q.grp n + 1) (cells8 ([] ++ Q.enc n)) ∧ Below w.heap.size w w' := by
  go_enter Tryd.func22, Tryd.ntmps22
  go_wp2_with fail
  refine (Q.putUint_any none 0 0 n [] w (Sl.nil _ _) (by omega) (by omega)).mono ?_
  rintro e w1 ⟨rfl, h1, h2⟩
  have H1 := hidden h1
  have H2 := hidden h2
  clear h1 h2
  go_wp2
  go_ret
  exact ⟨by simp, H1.out, H2.out⟩

end Go.Proofs.YtcgjmioncbihhaaDoor

/-
  Package chunk: trail.by.
-/
namespace Go.Proofs.YtcgjmioncbihhaaDoor
open Go.RowKit
set_option linter.unusedVariables false
set_option linter.unusedSimpArgs false

theorem res_by (tmps : Array Value) (w : World) (g : Nat) (a b c : Value) (hp : tmps.getD 6 undef = .pointer (some ⟨g, 0, none⟩)) (h0 : w.cell? ⟨g, 0, none⟩ = some a) (h1 : w.cell? ⟨g, 1, none⟩ = some b) (h2 : w.cell? ⟨g, 2, none⟩ = some c) (ha : a.oneCell' = true) (hb : b.oneCell' = true) (hc : c.oneCell' = true) :
    (results Tryd.f41 tmps).run Tryd.prog w = .ok (.agg #[a, b, c]) w := by
  have h : Tryd.f41.results = #[.cell 6 53] := by kernel_rfl
  have hp' : tmps[6]?.getD undef = .pointer (some ⟨g, 0, none⟩) := by simpa using hp
  simp [results, h, hp', asAddr, loadVar, h0, h1, h2, go_sem]

set_option maxRecDepth 100000 in
set_option maxHeartbeats 4000000 in
theorem byP (w : World) (a : Tr) (d : Int) (x : Nat) (hd : I64 d) (hx : x < 18446744073709551616) (hat : I64 a.t) (has : I64 a.st) (hav : a.v < 18446744073709551616) :
    Calls Tryd.prog 41 #[trV a, .int .i64 d, .int .u64 (x : Int)] w fun e w' => e = .returned (trV (a.by' d x)) ∧ Below w.heap.size w w' := by
  have hxor := bits_xor_u64_nat a.v x hav hx
  have hW1 := i64w (a.st + d)
  have hW2 := i64w (a.t + wr (a.st + d))
  have HD := hidden (show trV (a.by' d x) = .agg #[.int .i64 (wr (a.t + wr (a.st + d))), .int .u64 ((a.v ^^^ x : Nat) : Int), .int .i64 (wr (a.st + d))] from rfl)
  rw [HD.out]
  unfold trV
  obtain ⟨at', av, ast⟩ := a
  simp only at hxor hW1 hW2 hat has hav
  simp only []
  clear HD
  have hr1 := wr_i64 (at' + wr (ast + d))
  have hr2 := wr_i64 (ast + d)
  generalize wr (at' + wr (ast + d)) = dd at *
  generalize wr (ast + d) = ee at *
  generalize av ^^^ x = ff at *
  unfold I64 at *
  go_enter Tryd.func41, Tryd.ntmps41
  go_wp2_with (refine wpList_box_blk rfl 53 (.tmp 0) rfl [.int .i64 at', .int .u64 (av : Int), .int .i64 ast] rfl ?_; intro w2 B2 bl2 hz2; have HL2 := hidden bl2; have hlt2 := B2.lt; have c2 := (B2.alloc (.cells #[.int .i64 0, .int .u64 0, .int .i64 0] 53)).cell 0; have c3 := (B2.alloc (.cells #[.int .i64 0, .int .u64 0, .int .i64 0] 53)).cell 1; have c4 := (B2.alloc (.cells #[.int .i64 0, .int .u64 0, .int .i64 0] 53)).cell 2; simp only [List.getElem?_cons_zero, List.getElem?_cons_succ] at c2 c3 c4; clear B2 bl2 hz2)
  have hN := Blk.new w2 53 [.int .i64 dd, .int .u64 (ff : Int), .int .i64 ee]
  refine bodyPost_ret (res_by _ _ w2.heap.size (.int .i64 dd) (.int .u64 (ff : Int)) (.int .i64 ee) rfl (hN.cell 0) (hN.cell 1) (hN.cell 2) rfl rfl rfl) rfl ?_
  exact ⟨rfl, HL2.out.alloc HL2.out.size _⟩

end Go.Proofs.YtcgjmioncbihhaaDoor
