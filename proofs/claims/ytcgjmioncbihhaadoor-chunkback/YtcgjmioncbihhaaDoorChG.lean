/-
  Package chunk: trail.by.
-/
import Derived.Test.YtcgjmioncbihhaaDoorChF
namespace Go.Proofs.YtcgjmioncbihhaaDoor
open Go.RowKit
set_option linter.unusedVariables false
set_option linter.unusedSimpArgs false

theorem res_by (tmps : Array Value) (w : World) (g : Nat) (a b c : Value) (hp : tmps.getD 6 undef = .pointer (some ⟨g, 0, none⟩)) (h0 : w.cell? ⟨g, 0, none⟩ = some a) (h1 : w.cell? ⟨g, 1, none⟩ = some b) (h2 : w.cell? ⟨g, 2, none⟩ = some c) (ha : a.oneCell' = true) (hb : b.oneCell' = true) (hc : c.oneCell' = true) :
    (results Tryd.f41 tmps).run Tryd.prog w = .ok (.agg #[a, b, c]) w := by
  have h : Tryd.f41.results = #[.cell 6 53] := by kernel_rfl
  have hp' : tmps[6]?.getD undef = .pointer (some ⟨g, 0, none⟩) := by simpa using hp
  simp [results, h, hp', asAddr, loadVar, h0, h1, h2, go_sem]

set_option maxRecDepth 100000 in
set_option maxHeartbeats 4000000 in
theorem byP (w : World) (a : Tr) (d : Int) (x : Nat) (hd : I64 d) (hx : x < 18446744073709551616) (hat : I64 a.t) (has : I64 a.st) (hav : a.v < 18446744073709551616) :
    Calls Tryd.prog 41 #[trV a, .int .i64 d, .int .u64 (x : Int)] w fun e w' => e = .returned (trV (a.by' d x)) ∧ Below w.heap.size w w' := by
  have hxor := bits_xor_u64_nat a.v x hav hx
  have hW1 := i64w (a.st + d)
  have hW2 := i64w (a.t + wr (a.st + d))
  have HD := hidden (show trV (a.by' d x) = .agg #[.int .i64 (wr (a.t + wr (a.st + d))), .int .u64 ((a.v ^^^ x : Nat) : Int), .int .i64 (wr (a.st + d))] from rfl)
  rw [HD.out]
  unfold trV
  obtain ⟨at', av, ast⟩ := a
  simp only at hxor hW1 hW2 hat has hav
  simp only []
  clear HD
  have hr1 := wr_i64 (at' + wr (ast + d))
  have hr2 := wr_i64 (ast + d)
  generalize wr (at' + wr (ast + d)) = dd at *
  generalize wr (ast + d) = ee at *
  generalize av ^^^ x = ff at *
  unfold I64 at *
  go_enter Tryd.func41, Tryd.ntmps41
  go_wp2_with (refine wpList_box_blk rfl 53 (.tmp 0) rfl [.int .i64 at', .int .u64 (av : Int), .int .i64 ast] rfl ?_; intro w2 B2 bl2 hz2; have HL2 := hidden bl2; have hlt2 := B2.lt; have c2 := (B2.alloc (.cells #[.int .i64 0, .int .u64 0, .int .i64 0] 53)).cell 0; have c3 := (B2.alloc (.cells #[.int .i64 0, .int .u64 0, .int .i64 0] 53)).cell 1; have c4 := (B2.alloc (.cells #[.int .i64 0, .int .u64 0, .int .i64 0] 53)).cell 2; simp only [List.getElem?_cons_zero, List.getElem?_cons_succ] at c2 c3 c4; clear B2 bl2 hz2)
  have hN := Blk.new w2 53 [.int .i64 dd, .int .u64 (ff : Int), .int .i64 ee]
  refine bodyPost_ret (res_by _ _ w2.heap.size (.int .i64 dd) (.int .u64 (ff : Int)) (.int .i64 ee) rfl (hN.cell 0) (hN.cell 1) (hN.cell 2) rfl rfl rfl) rfl ?_
  exact ⟨rfl, HL2.out.alloc HL2.out.size _⟩

end Go.Proofs.YtcgjmioncbihhaaDoor
