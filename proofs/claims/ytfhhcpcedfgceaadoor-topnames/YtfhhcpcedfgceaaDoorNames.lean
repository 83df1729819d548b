import Derived.Test.YtfhhcpcedfgceaaDoorWalk
import Derived.Test.YtfhhcpcedfgceaaDoorCells
import Derived.Deep.Cut
import Derived.Handy
namespace Go.Proofs.YtfhhcpcedfgceaaDoor
open Go.RowKit
set_option linter.unusedVariables false

def dig (n : Int) : Array Value := #[.int .u8 n, .int .u8 0, .int .u8 0, .int .u8 0, .int .u8 0, .int .u8 0, .int .u8 0, .int .u8 0, .int .u8 0, .int .u8 0, .int .u8 0, .int .u8 0, .int .u8 0, .int .u8 0, .int .u8 0, .int .u8 0, .int .u8 0, .int .u8 0, .int .u8 0, .int .u8 0, .int .u8 0, .int .u8 0, .int .u8 0, .int .u8 0, .int .u8 0, .int .u8 0, .int .u8 0, .int .u8 0, .int .u8 0, .int .u8 0, .int .u8 0, .int .u8 0]
def grantC (p : Value) : Array Value := dig 1 ++ #[.int .i64 2, p]
def changeC (p q : Value) : Array Value := #[.int .i64 1, .string ⟨#[116]⟩, .int .i64 2, .int .i64 3] ++ grantC p ++ dig 4 ++ #[.int .i64 5, q]
theorem info44 : (Tryd.prog.info? 44).map (fun i => (i.zero.map (·.cells.size), i.size)) = some (some 34, 34) := by kernel_rfl
theorem info47 : (Tryd.prog.info? 47).map (fun i => (i.zero.map (·.cells.size), i.size)) = some (some 72, 72) := by kernel_rfl
theorem parts_of {e : TypeId} {k n : Nat} (h : (Tryd.prog.info? e).map (fun i => (i.zero.map (·.cells.size), i.size)) = some (some k, n)) :
    ∃ i z, Tryd.prog.info? e = some i ∧ i.zero = some z ∧ z.cells.size = k ∧ i.size = n := by
  obtain ⟨i, hi, hzz⟩ := Option.map_eq_some_iff.1 h
  simp only [Prod.mk.injEq] at hzz
  obtain ⟨z, hz, hs⟩ := Option.map_eq_some_iff.1 hzz.1
  exact ⟨i, z, hi, hz, hs, hzz.2⟩

theorem changeC_size (p q : Value) : (changeC p q).size = 72 := by kernel_rfl
theorem built1 (p q : Value) (W : World) (o : Oper) (a : Act) (ho : o.op = .buildSlice 45 1 #[(0, .tmp 35)]) (ha : a.tmps.getD 35 undef = .agg #[p, q]) :
    (execOp a.eval o).run Tryd.prog W = .ok (.value (.slice (some ⟨W.heap.size, 0, none⟩) 1 1)) (W.alloc (.cells #[p, q] 41)) := by
  have e : (Instr.buildSlice 45 1 #[(0, .agg #[p, q])]).run Tryd.prog W = .ok (.slice (some ⟨W.heap.size, 0, none⟩) 1 1) (W.alloc (.cells #[p, q] 41)) := by kernel_rfl
  simp only [execOp, ho, List.map_toArray, List.map_cons, List.map_nil, Act.eval, ha, Sem.run_bind, e, Result.andThen_ok, Sem.run_pure]

theorem cell_here (w : World) (C : Array Value) (t : TypeId) (j : Nat) : (w.alloc (.cells C t)).cell? ⟨w.heap.size, j, none⟩ = C[j]? := World.cell?_alloc_mark w C t (0, 0) j
theorem cell_far (w : World) (o : Obj) (g j : Nat) (x : Option Value) (h : g < w.heap.size) (hx : w.cell? ⟨g, j, none⟩ = x) : (w.alloc o).cell? ⟨g, j, none⟩ = x :=
  (World.cell?_of_block (w := w) (Below.heap_alloc w o g h)).trans hx

theorem eq90 (w : World) : (binOp .eql 27 (.iface 23 (.int .i64 90)) (.iface 23 (.int .i64 90))).run Tryd.prog w = .ok (.bool true) w := by kernel_rfl

theorem at_new (w : World) (o : Obj) (g : Nat) (h : g = w.heap.size) : (w.alloc o).heap[g]? = some o := by subst h; exact heap_alloc_new w o
theorem at_old (w : World) (o o' : Obj) (g : Nat) (h : g < w.heap.size) (h' : w.heap[g]? = some o') : (w.alloc o).heap[g]? = some o' := (Below.heap_alloc w o g h).trans h'

set_option maxRecDepth 100000 in
set_option maxHeartbeats 4000000 in
theorem names_walk (w : World) : Calls Tryd.prog 3 #[] w fun e w' => e = .returned (.bool true) ∧ Below w.heap.size w w' := by
  obtain ⟨i44, z44, a44, b44, d44, e44⟩ := parts_of info44
  obtain ⟨i47, z47, a47, b47, d47, e47⟩ := parts_of info47
  have A44 : Hid (Tryd.prog.info? 44 = some i44) := a44
  have A47 : Hid (Tryd.prog.info? 47 = some i47) := a47
  clear a44 a47
  go_enter Tryd.func3, Tryd.ntmps3
  go_wp2_with fail
  refine (unwrap_any _ _ (by simp [World.cell?_alloc_mark])).mono ?_
  rintro e w1 ⟨rfl, rfl⟩
  go_wp2_with fail
  refine (num_any 90 _).mono ?_
  rintro e w2 ⟨rfl, rfl⟩
  go_upto_region 8 with fail
  refine wp_region_lit ?_
  refine wpList_build rfl 42 #[(0, .const (.int .u8 1))] rfl [(0, .int .u8 1)] (dig 1) (by kernel_rfl) (by kernel_rfl) ?_
  refine wpList_moved rfl (.tmp 5) rfl _ rfl ?_
  refine wpList_build rfl 44 #[(0, .tmp 30), (1, .const (.int .i64 2)), (2, .tmp 31)] rfl [(0, .agg (dig 1)), (1, .int .i64 2), (2, .slice (some ⟨w.heap.size + 1 + 1, 0, none⟩) 1 1)] (grantC (.slice (some ⟨w.heap.size + 1 + 1, 0, none⟩) 1 1)) (by kernel_rfl) (by kernel_rfl) ?_
  refine wpList_alloc_store rfl rfl 44 7 (.tmp 32) rfl rfl rfl rfl i44 z44 A44.out b44 (grantC (.slice (some ⟨w.heap.size + 1 + 1, 0, none⟩) 1 1)) d44 e44 (by kernel_rfl) (of_decide_eq_true (by kernel_rfl)) (by kernel_rfl) ?_
  refine wpList_nil ?_
  simp only [Act.put, Act.eval, Array.getD_eq_getD_getElem?, List.getElem?_toArray, List.getElem?_cons_succ, List.getElem?_cons_zero, Option.getD_some, List.setIfInBounds_toArray, List.set_cons_succ, List.set_cons_zero, World.size_alloc]
  go_upto_region 9 with fail
  refine wp_region_lit ?_
  refine wpList_load_row rfl 44 (.tmp 7) rfl (w.heap.size + 1 + 1 + 1 + 1 + 1) rfl 44 (grantC (.slice (some ⟨w.heap.size + 1 + 1, 0, none⟩) 1 1)) (0, 0) _ (at_new _ _ _ (by simp)) Tryd.underlying44 rfl (by kernel_rfl) ?_
  refine wpList_build rfl 42 #[(0, .const (.int .u8 4))] rfl [(0, .int .u8 4)] (dig 4) (by kernel_rfl) (by kernel_rfl) ?_
  refine wpList_load_row rfl 41 (.tmp 6) rfl (w.heap.size + 1 + 1 + 1 + 1) rfl 41 #[(.slice (some ⟨w.heap.size + 1, 0, none⟩) 1 1), .slice (some ⟨w.heap.size + 1 + 1 + 1, 0, none⟩) 1 1] (0, 0) _ (at_old _ _ _ _ (by simp) (at_new _ _ _ (by simp))) Tryd.underlying41 rfl (by kernel_rfl) ?_
  refine wpList_made rfl _ _ (built1 (.slice (some ⟨w.heap.size + 1, 0, none⟩) 1 1) (.slice (some ⟨w.heap.size + 1 + 1 + 1, 0, none⟩) 1 1) _ _ _ rfl (by kernel_rfl)) ?_
  simp only [Act.put, List.setIfInBounds_toArray, List.set_cons_succ, List.set_cons_zero, World.size_alloc]
  refine wpList_build rfl 47 #[(0, .const (.int .i64 1)), (1, .const (.string ⟨#[116]⟩)), (2, .const (.int .i64 2)), (3, .const (.int .i64 3)), (4, .tmp 33), (5, .tmp 34), (6, .const (.int .i64 5)), (7, .tmp 36)] rfl [(0, .int .i64 1), (1, .string ⟨#[116]⟩), (2, .int .i64 2), (3, .int .i64 3), (4, .agg (grantC (.slice (some ⟨w.heap.size + 1 + 1, 0, none⟩) 1 1))), (5, .agg (dig 4)), (6, .int .i64 5), (7, (.slice (some ⟨w.heap.size + 1 + 1 + 1 + 1 + 1 + 1, 0, none⟩) 1 1))] (changeC (.slice (some ⟨w.heap.size + 1 + 1, 0, none⟩) 1 1) (.slice (some ⟨w.heap.size + 1 + 1 + 1 + 1 + 1 + 1, 0, none⟩) 1 1)) (by kernel_rfl) (by kernel_rfl) ?_
  refine wpList_alloc_store rfl rfl 47 8 (.tmp 37) rfl rfl rfl rfl i47 z47 A47.out b47 (changeC (.slice (some ⟨w.heap.size + 1 + 1, 0, none⟩) 1 1) (.slice (some ⟨w.heap.size + 1 + 1 + 1 + 1 + 1 + 1, 0, none⟩) 1 1)) (d47.trans (changeC_size _ _).symm) (e47.trans (changeC_size _ _).symm) (by kernel_rfl) (of_decide_eq_true (by kernel_rfl)) (by kernel_rfl) ?_
  refine wpList_nil ?_
  simp only [Act.put, List.setIfInBounds_toArray, List.set_cons_succ, List.set_cons_zero, World.size_alloc]
  have k71 := fun p q : Value => show (changeC p q)[71]? = some q by kernel_rfl
  have k70 := fun p q : Value => show (changeC p q)[70]? = some (.int .i64 5) by kernel_rfl
  have k37 := fun p q : Value => show (changeC p q)[37]? = some p by kernel_rfl
  clear A44 A47 b44 b47 d44 d47 e44 e47
  have q90 := eq90
  go_upto_region 12 with fail
  go_wp2_with fail
  refine Calls.mono (fault_any w.heap.size _ ?c0 ?c1) ?_
  case c0 =>
    refine (Below.cell (B := w.heap.size + 1) (w := w.alloc (.cells #[.int .i64 7, .int .i64 90] 25)) ?_ (Nat.lt_succ_self _)).trans (cell_here _ _ _ _)
    go_grown
  case c1 =>
    refine (Below.cell (B := w.heap.size + 1) (w := w.alloc (.cells #[.int .i64 7, .int .i64 90] 25)) ?_ (Nat.lt_succ_self _)).trans (cell_here _ _ _ _)
    go_grown
  rintro e w3 ⟨rfl, n3, rfl⟩
  go_wp2_with fail
  refine (errno1 _).mono ?_
  rintro e w4 ⟨rfl, rfl⟩
  go_wp2
  go_ret
  refine ⟨rfl, below_drewN ?_ _⟩
  go_grown
end Go.Proofs.YtfhhcpcedfgceaaDoor
