/-
  Package wire: requestParts: a region of 101 operations that draws its order. By genrqf19.py.
-/
import Derived.Test.YtalmpmhnkilalaaGreatDoorRqF
import Derived.Test.YtalmpmhnkilalaaGreatDoorAny
import Derived.Test.YtalmpmhnkilalaaGreatDoorBlk
import Derived.Test.YtalmpmhnkilalaaGreatDoorAnyB
namespace Go.Proofs.YtalmpmhnkilalaaGreatDoor
open Go Go.RowKit
set_option linter.unusedVariables false
set_option linter.unusedSimpArgs false

def cells59 (q bx : Nat) (t0 : ByteArray) (n1 n2 n3 : Nat) (m4 m5 : Int) (t6 t7 : ByteArray) (m8 m9 m10 : Int) (n11 : Nat) : List Value := [.bool (t0.toList.isEmpty), .func (.func 88) #[] #[.pointer (some ⟨bx, 0, none⟩)], .func (.func 90) #[] #[.pointer (some ⟨bx, 0, none⟩)], .bool ((n1 : Int) == 0), .func (.func 92) #[] #[.pointer (some ⟨bx, 0, none⟩)], .func (.func 94) #[] #[.pointer (some ⟨bx, 0, none⟩)], .bool ((n2 : Int) == 0), .func (.func 96) #[] #[.pointer (some ⟨bx, 0, none⟩)], .func (.func 98) #[] #[.pointer (some ⟨bx, 0, none⟩)], .bool ((n3 : Int) == 0), .func (.func 100) #[] #[.pointer (some ⟨bx, 0, none⟩)], .func (.func 102) #[] #[.pointer (some ⟨bx, 0, none⟩)], .bool (m4 == 0), .func (.func 104) #[] #[.pointer (some ⟨bx, 0, none⟩)], .func (.func 106) #[] #[.pointer (some ⟨bx, 0, none⟩)], .bool (m5 == 0), .func (.func 108) #[] #[.pointer (some ⟨bx, 0, none⟩)], .func (.func 109) #[] #[.pointer (some ⟨bx, 0, none⟩)], .bool (t6.toList.isEmpty), .func (.func 110) #[] #[.pointer (some ⟨bx, 0, none⟩)], .func (.func 112) #[] #[.pointer (some ⟨bx, 0, none⟩)], .bool (t7.toList.isEmpty), .func (.func 114) #[] #[.pointer (some ⟨bx, 0, none⟩)], .func (.func 115) #[] #[.pointer (some ⟨bx, 0, none⟩)], .bool (m8 == 0), .func (.func 116) #[] #[.pointer (some ⟨bx, 0, none⟩)], .func (.func 118) #[] #[.pointer (some ⟨bx, 0, none⟩)], .bool (m9 == 0), .func (.func 120) #[] #[.pointer (some ⟨bx, 0, none⟩)], .func (.func 121) #[] #[.pointer (some ⟨bx, 0, none⟩)], .bool (m10 == 0), .func (.func 122) #[] #[.pointer (some ⟨bx, 0, none⟩)], .func (.func 123) #[] #[.pointer (some ⟨bx, 0, none⟩)], .bool ((n11 : Int) == 0), .func (.func 124) #[] #[.pointer (some ⟨bx, 0, none⟩)], .func (.func 125) #[] #[.pointer (some ⟨bx, 0, none⟩)]]
set_option maxRecDepth 100000 in
theorem buildS59 (q bx : Nat) (t0 : ByteArray) (n1 n2 n3 : Nat) (m4 m5 : Int) (t6 t7 : ByteArray) (m8 m9 m10 : Int) (n11 : Nat) (w1 : World) : (Instr.buildSlice 111 12 #[(0, .agg #[.bool (t0.toList.isEmpty), .func (.func 88) #[] #[.pointer (some ⟨bx, 0, none⟩)], .func (.func 90) #[] #[.pointer (some ⟨bx, 0, none⟩)]]), (1, .agg #[.bool ((n1 : Int) == 0), .func (.func 92) #[] #[.pointer (some ⟨bx, 0, none⟩)], .func (.func 94) #[] #[.pointer (some ⟨bx, 0, none⟩)]]), (2, .agg #[.bool ((n2 : Int) == 0), .func (.func 96) #[] #[.pointer (some ⟨bx, 0, none⟩)], .func (.func 98) #[] #[.pointer (some ⟨bx, 0, none⟩)]]), (3, .agg #[.bool ((n3 : Int) == 0), .func (.func 100) #[] #[.pointer (some ⟨bx, 0, none⟩)], .func (.func 102) #[] #[.pointer (some ⟨bx, 0, none⟩)]]), (4, .agg #[.bool (m4 == 0), .func (.func 104) #[] #[.pointer (some ⟨bx, 0, none⟩)], .func (.func 106) #[] #[.pointer (some ⟨bx, 0, none⟩)]]), (5, .agg #[.bool (m5 == 0), .func (.func 108) #[] #[.pointer (some ⟨bx, 0, none⟩)], .func (.func 109) #[] #[.pointer (some ⟨bx, 0, none⟩)]]), (6, .agg #[.bool (t6.toList.isEmpty), .func (.func 110) #[] #[.pointer (some ⟨bx, 0, none⟩)], .func (.func 112) #[] #[.pointer (some ⟨bx, 0, none⟩)]]), (7, .agg #[.bool (t7.toList.isEmpty), .func (.func 114) #[] #[.pointer (some ⟨bx, 0, none⟩)], .func (.func 115) #[] #[.pointer (some ⟨bx, 0, none⟩)]]), (8, .agg #[.bool (m8 == 0), .func (.func 116) #[] #[.pointer (some ⟨bx, 0, none⟩)], .func (.func 118) #[] #[.pointer (some ⟨bx, 0, none⟩)]]), (9, .agg #[.bool (m9 == 0), .func (.func 120) #[] #[.pointer (some ⟨bx, 0, none⟩)], .func (.func 121) #[] #[.pointer (some ⟨bx, 0, none⟩)]]), (10, .agg #[.bool (m10 == 0), .func (.func 122) #[] #[.pointer (some ⟨bx, 0, none⟩)], .func (.func 123) #[] #[.pointer (some ⟨bx, 0, none⟩)]]), (11, .agg #[.bool ((n11 : Int) == 0), .func (.func 124) #[] #[.pointer (some ⟨bx, 0, none⟩)], .func (.func 125) #[] #[.pointer (some ⟨bx, 0, none⟩)]])]).run Tryz.prog w1 = .ok (.slice (some ⟨w1.heap.size, 0, none⟩) 12 12) (w1.alloc (.cells (cells59 q bx t0 n1 n2 n3 m4 m5 t6 t7 m8 m9 m10 n11).toArray 139)) := by
  simp [go_sem, cells59]
set_option maxRecDepth 100000 in
set_option maxHeartbeats 8000000 in
theorem parts59_r1 (q bx : Nat) (t0 : ByteArray) (a1 : Option Addr) (n1 c1 : Nat) (a2 : Option Addr) (n2 c2 : Nat) (a3 : Option Addr) (n3 c3 : Nat) (m4 : Int) (m5 : Int) (t6 : ByteArray) (t7 : ByteArray) (m8 : Int) (m9 : Int) (m10 : Int) (a11 : Option Addr) (n11 c11 : Nat) (w : World) (a0 : Act) (Q : Exit → Act → World → Prop) (hsz : a0.tmps.size = 104) (s1 : a0.tmps.getD 1 undef = .pointer (some ⟨bx, 0, none⟩))
    (hbx : ∀ w1, Lat w w1 → w1.cell? ⟨bx, 0, none⟩ = some (.pointer (some ⟨q, 0, none⟩)))
    (hc1 : ∀ w1, Lat w w1 → w1.cell? ⟨q, 1, none⟩ = some (.string t0))
    (hc2 : ∀ w1, Lat w w1 → w1.cell? ⟨q, 2, none⟩ = some (.slice a1 n1 c1))
    (hc3 : ∀ w1, Lat w w1 → w1.cell? ⟨q, 3, none⟩ = some (.slice a2 n2 c2))
    (hc4 : ∀ w1, Lat w w1 → w1.cell? ⟨q, 4, none⟩ = some (.slice a3 n3 c3))
    (hc5 : ∀ w1, Lat w w1 → w1.cell? ⟨q, 5, none⟩ = some (.int .i64 m4))
    (hc6 : ∀ w1, Lat w w1 → w1.cell? ⟨q, 6, none⟩ = some (.int .i64 m5))
    (hc7 : ∀ w1, Lat w w1 → w1.cell? ⟨q, 7, none⟩ = some (.string t6))
    (hc8 : ∀ w1, Lat w w1 → w1.cell? ⟨q, 8, none⟩ = some (.string t7))
    (hc9 : ∀ w1, Lat w w1 → w1.cell? ⟨q, 9, none⟩ = some (.int .i64 m8))
    (hc10 : ∀ w1, Lat w w1 → w1.cell? ⟨q, 10, none⟩ = some (.int .i64 m9))
    (hc11 : ∀ w1, Lat w w1 → w1.cell? ⟨q, 11, none⟩ = some (.int .i64 m10))
    (hc12 : ∀ w1, Lat w w1 → w1.cell? ⟨q, 12, none⟩ = some (.slice a11 n11 c11))
    (hQ : ∀ (a : Act) (w1 : World) (g : Nat), a.tmps.size = 104 → a.defers = a0.defers → a.tmps.getD 2 undef = .slice (some ⟨g, 0, none⟩) 12 12 → w.heap.size ≤ g → Blk w1 g 139 (cells59 q bx t0 n1 n2 n3 m4 m5 t6 t7 m8 m9 m10 n11) → Lat w w1 → Q .normal a w1) :
    Code.wp Tryz.prog ((Tryz.f59.body.bind (findRegion 1)).getD .skip) Q a0 w := by
  conv => arg 2; whnf
  simp only [List.append]
  refine wp_region_last 101 Lat (TE [Ent.val (.pointer (some ⟨q, 0, none⟩)), Ent.val (.pointer (some ⟨q, 0, none⟩)), Ent.val (.pointer (some ⟨q, 1, none⟩)), Ent.val (.string t0), Ent.val (.bool (t0.toList.isEmpty)), Ent.val (.func (.func 88) #[] #[.pointer (some ⟨bx, 0, none⟩)]), Ent.val (.func (.func 90) #[] #[.pointer (some ⟨bx, 0, none⟩)]), Ent.val (.agg #[.bool (t0.toList.isEmpty), .func (.func 88) #[] #[.pointer (some ⟨bx, 0, none⟩)], .func (.func 90) #[] #[.pointer (some ⟨bx, 0, none⟩)]]), Ent.val (.pointer (some ⟨q, 0, none⟩)), Ent.val (.pointer (some ⟨q, 0, none⟩)), Ent.val (.pointer (some ⟨q, 2, none⟩)), Ent.val (.slice a1 n1 c1), Ent.val (.int .i64 (n1 : Int)), Ent.val (.bool ((n1 : Int) == 0)), Ent.val (.func (.func 92) #[] #[.pointer (some ⟨bx, 0, none⟩)]), Ent.val (.func (.func 94) #[] #[.pointer (some ⟨bx, 0, none⟩)]), Ent.val (.agg #[.bool ((n1 : Int) == 0), .func (.func 92) #[] #[.pointer (some ⟨bx, 0, none⟩)], .func (.func 94) #[] #[.pointer (some ⟨bx, 0, none⟩)]]), Ent.val (.pointer (some ⟨q, 0, none⟩)), Ent.val (.pointer (some ⟨q, 0, none⟩)), Ent.val (.pointer (some ⟨q, 3, none⟩)), Ent.val (.slice a2 n2 c2), Ent.val (.int .i64 (n2 : Int)), Ent.val (.bool ((n2 : Int) == 0)), Ent.val (.func (.func 96) #[] #[.pointer (some ⟨bx, 0, none⟩)]), Ent.val (.func (.func 98) #[] #[.pointer (some ⟨bx, 0, none⟩)]), Ent.val (.agg #[.bool ((n2 : Int) == 0), .func (.func 96) #[] #[.pointer (some ⟨bx, 0, none⟩)], .func (.func 98) #[] #[.pointer (some ⟨bx, 0, none⟩)]]), Ent.val (.pointer (some ⟨q, 0, none⟩)), Ent.val (.pointer (some ⟨q, 0, none⟩)), Ent.val (.pointer (some ⟨q, 4, none⟩)), Ent.val (.slice a3 n3 c3), Ent.val (.int .i64 (n3 : Int)), Ent.val (.bool ((n3 : Int) == 0)), Ent.val (.func (.func 100) #[] #[.pointer (some ⟨bx, 0, none⟩)]), Ent.val (.func (.func 102) #[] #[.pointer (some ⟨bx, 0, none⟩)]), Ent.val (.agg #[.bool ((n3 : Int) == 0), .func (.func 100) #[] #[.pointer (some ⟨bx, 0, none⟩)], .func (.func 102) #[] #[.pointer (some ⟨bx, 0, none⟩)]]), Ent.val (.pointer (some ⟨q, 0, none⟩)), Ent.val (.pointer (some ⟨q, 0, none⟩)), Ent.val (.pointer (some ⟨q, 5, none⟩)), Ent.val (.int .i64 m4), Ent.val (.bool (m4 == 0)), Ent.val (.func (.func 104) #[] #[.pointer (some ⟨bx, 0, none⟩)]), Ent.val (.func (.func 106) #[] #[.pointer (some ⟨bx, 0, none⟩)]), Ent.val (.agg #[.bool (m4 == 0), .func (.func 104) #[] #[.pointer (some ⟨bx, 0, none⟩)], .func (.func 106) #[] #[.pointer (some ⟨bx, 0, none⟩)]]), Ent.val (.pointer (some ⟨q, 0, none⟩)), Ent.val (.pointer (some ⟨q, 0, none⟩)), Ent.val (.pointer (some ⟨q, 6, none⟩)), Ent.val (.int .i64 m5), Ent.val (.bool (m5 == 0)), Ent.val (.func (.func 108) #[] #[.pointer (some ⟨bx, 0, none⟩)]), Ent.val (.func (.func 109) #[] #[.pointer (some ⟨bx, 0, none⟩)]), Ent.val (.agg #[.bool (m5 == 0), .func (.func 108) #[] #[.pointer (some ⟨bx, 0, none⟩)], .func (.func 109) #[] #[.pointer (some ⟨bx, 0, none⟩)]]), Ent.val (.pointer (some ⟨q, 0, none⟩)), Ent.val (.pointer (some ⟨q, 0, none⟩)), Ent.val (.pointer (some ⟨q, 7, none⟩)), Ent.val (.string t6), Ent.val (.bool (t6.toList.isEmpty)), Ent.val (.func (.func 110) #[] #[.pointer (some ⟨bx, 0, none⟩)]), Ent.val (.func (.func 112) #[] #[.pointer (some ⟨bx, 0, none⟩)]), Ent.val (.agg #[.bool (t6.toList.isEmpty), .func (.func 110) #[] #[.pointer (some ⟨bx, 0, none⟩)], .func (.func 112) #[] #[.pointer (some ⟨bx, 0, none⟩)]]), Ent.val (.pointer (some ⟨q, 0, none⟩)), Ent.val (.pointer (some ⟨q, 0, none⟩)), Ent.val (.pointer (some ⟨q, 8, none⟩)), Ent.val (.string t7), Ent.val (.bool (t7.toList.isEmpty)), Ent.val (.func (.func 114) #[] #[.pointer (some ⟨bx, 0, none⟩)]), Ent.val (.func (.func 115) #[] #[.pointer (some ⟨bx, 0, none⟩)]), Ent.val (.agg #[.bool (t7.toList.isEmpty), .func (.func 114) #[] #[.pointer (some ⟨bx, 0, none⟩)], .func (.func 115) #[] #[.pointer (some ⟨bx, 0, none⟩)]]), Ent.val (.pointer (some ⟨q, 0, none⟩)), Ent.val (.pointer (some ⟨q, 0, none⟩)), Ent.val (.pointer (some ⟨q, 9, none⟩)), Ent.val (.int .i64 m8), Ent.val (.bool (m8 == 0)), Ent.val (.func (.func 116) #[] #[.pointer (some ⟨bx, 0, none⟩)]), Ent.val (.func (.func 118) #[] #[.pointer (some ⟨bx, 0, none⟩)]), Ent.val (.agg #[.bool (m8 == 0), .func (.func 116) #[] #[.pointer (some ⟨bx, 0, none⟩)], .func (.func 118) #[] #[.pointer (some ⟨bx, 0, none⟩)]]), Ent.val (.pointer (some ⟨q, 0, none⟩)), Ent.val (.pointer (some ⟨q, 0, none⟩)), Ent.val (.pointer (some ⟨q, 10, none⟩)), Ent.val (.int .i64 m9), Ent.val (.bool (m9 == 0)), Ent.val (.func (.func 120) #[] #[.pointer (some ⟨bx, 0, none⟩)]), Ent.val (.func (.func 121) #[] #[.pointer (some ⟨bx, 0, none⟩)]), Ent.val (.agg #[.bool (m9 == 0), .func (.func 120) #[] #[.pointer (some ⟨bx, 0, none⟩)], .func (.func 121) #[] #[.pointer (some ⟨bx, 0, none⟩)]]), Ent.val (.pointer (some ⟨q, 0, none⟩)), Ent.val (.pointer (some ⟨q, 0, none⟩)), Ent.val (.pointer (some ⟨q, 11, none⟩)), Ent.val (.int .i64 m10), Ent.val (.bool (m10 == 0)), Ent.val (.func (.func 122) #[] #[.pointer (some ⟨bx, 0, none⟩)]), Ent.val (.func (.func 123) #[] #[.pointer (some ⟨bx, 0, none⟩)]), Ent.val (.agg #[.bool (m10 == 0), .func (.func 122) #[] #[.pointer (some ⟨bx, 0, none⟩)], .func (.func 123) #[] #[.pointer (some ⟨bx, 0, none⟩)]]), Ent.val (.pointer (some ⟨q, 0, none⟩)), Ent.val (.pointer (some ⟨q, 0, none⟩)), Ent.val (.pointer (some ⟨q, 12, none⟩)), Ent.val (.slice a11 n11 c11), Ent.val (.int .i64 (n11 : Int)), Ent.val (.bool ((n11 : Int) == 0)), Ent.val (.func (.func 124) #[] #[.pointer (some ⟨bx, 0, none⟩)]), Ent.val (.func (.func 125) #[] #[.pointer (some ⟨bx, 0, none⟩)]), Ent.val (.agg #[.bool ((n11 : Int) == 0), .func (.func 124) #[] #[.pointer (some ⟨bx, 0, none⟩)], .func (.func 125) #[] #[.pointer (some ⟨bx, 0, none⟩)]]), (⟨fun v w1 => ∃ g, v = .slice (some ⟨g, 0, none⟩) 12 12 ∧ w.heap.size ≤ g ∧ Blk w1 g 139 (cells59 q bx t0 n1 n2 n3 m4 m5 t6 t7 m8 m9 m10 n11), fun v x y h hl => by obtain ⟨g, h1, h3, h2⟩ := h; exact ⟨g, h1, h3, h2.later hl⟩⟩ : Ent Lat)]) (by kernel_rfl) (by kernel_rfl) (by kernel_rfl) (by rw [hsz]; kernel_rfl) (by kernel_rfl) (by kernel_rfl) Lat.refl Lat.trans (TE_stable _) (Lat.draw w) ?hop ?hlast
  case hlast =>
    intro o a w1 ho hL hS hT
    obtain rfl := Option.some.inj ho
    obtain ⟨g, dq, hg, hB⟩ := hT 100 _ (by omega) rfl
    have dS : a.tmps.getD 103 undef = .slice (some ⟨g, 0, none⟩) 12 12 := dq
    have dS' : a.tmps[103]?.getD undef = .slice (some ⟨g, 0, none⟩) 12 12 := by simpa using dS
    refine wp_valP (.slice (some ⟨g, 0, none⟩) 12 12) (w' := w1) (by simp [execOp, Act.eval, dS', go_sem]) ?_
    exact hQ _ w1 g ((Act.size_put _ 2 _).trans (hS.size.trans hsz)) hS.defers (put_same _ 2 _ (by rw [hS.size, hsz]; decide)) hg hB hL
  case hop =>
    intro i o hlt hi
    rcases (show i = 0 ∨ i = 1 ∨ i = 2 ∨ i = 3 ∨ i = 4 ∨ i = 5 ∨ i = 6 ∨ i = 7 ∨ i = 8 ∨ i = 9 ∨ i = 10 ∨ i = 11 ∨ i = 12 ∨ i = 13 ∨ i = 14 ∨ i = 15 ∨ i = 16 ∨ i = 17 ∨ i = 18 ∨ i = 19 ∨ i = 20 ∨ i = 21 ∨ i = 22 ∨ i = 23 ∨ i = 24 ∨ i = 25 ∨ i = 26 ∨ i = 27 ∨ i = 28 ∨ i = 29 ∨ i = 30 ∨ i = 31 ∨ i = 32 ∨ i = 33 ∨ i = 34 ∨ i = 35 ∨ i = 36 ∨ i = 37 ∨ i = 38 ∨ i = 39 ∨ i = 40 ∨ i = 41 ∨ i = 42 ∨ i = 43 ∨ i = 44 ∨ i = 45 ∨ i = 46 ∨ i = 47 ∨ i = 48 ∨ i = 49 ∨ i = 50 ∨ i = 51 ∨ i = 52 ∨ i = 53 ∨ i = 54 ∨ i = 55 ∨ i = 56 ∨ i = 57 ∨ i = 58 ∨ i = 59 ∨ i = 60 ∨ i = 61 ∨ i = 62 ∨ i = 63 ∨ i = 64 ∨ i = 65 ∨ i = 66 ∨ i = 67 ∨ i = 68 ∨ i = 69 ∨ i = 70 ∨ i = 71 ∨ i = 72 ∨ i = 73 ∨ i = 74 ∨ i = 75 ∨ i = 76 ∨ i = 77 ∨ i = 78 ∨ i = 79 ∨ i = 80 ∨ i = 81 ∨ i = 82 ∨ i = 83 ∨ i = 84 ∨ i = 85 ∨ i = 86 ∨ i = 87 ∨ i = 88 ∨ i = 89 ∨ i = 90 ∨ i = 91 ∨ i = 92 ∨ i = 93 ∨ i = 94 ∨ i = 95 ∨ i = 96 ∨ i = 97 ∨ i = 98 ∨ i = 99 ∨ i = 100 by omega) with rfl | rfl | rfl | rfl | rfl | rfl | rfl | rfl | rfl | rfl | rfl | rfl | rfl | rfl | rfl | rfl | rfl | rfl | rfl | rfl | rfl | rfl | rfl | rfl | rfl | rfl | rfl | rfl | rfl | rfl | rfl | rfl | rfl | rfl | rfl | rfl | rfl | rfl | rfl | rfl | rfl | rfl | rfl | rfl | rfl | rfl | rfl | rfl | rfl | rfl | rfl | rfl | rfl | rfl | rfl | rfl | rfl | rfl | rfl | rfl | rfl | rfl | rfl | rfl | rfl | rfl | rfl | rfl | rfl | rfl | rfl | rfl | rfl | rfl | rfl | rfl | rfl | rfl | rfl | rfl | rfl | rfl | rfl | rfl | rfl | rfl | rfl | rfl | rfl | rfl | rfl | rfl | rfl | rfl | rfl | rfl | rfl | rfl | rfl | rfl | rfl
    · obtain rfl := Option.some.inj hi
      clear hi hlt
      intro a w1 hL hS hD
      have e1 : a.tmps.getD 1 undef = .pointer (some ⟨bx, 0, none⟩) := (hS.slot 1 (by kernel_rfl)).trans s1
      refine step_yes rfl ?_
      simp only [Array.getD_eq_getD_getElem?] at e1
      exact ok_value Lat.refl (.pointer (some ⟨q, 0, none⟩)) (by simp [execOp, resolve, invoke, builtin, Act.eval, e1, hbx w1 hL, go_sem]) rfl
    · obtain rfl := Option.some.inj hi
      clear hi hlt
      intro a w1 hL hS hD
      have d0 : a.tmps.getD 3 undef = .pointer (some ⟨q, 0, none⟩) := hD ⟨0, .data⟩ (by simp) rfl _ rfl
      refine step_yes rfl ?_
      simp only [Array.getD_eq_getD_getElem?] at d0
      exact ok_value Lat.refl (.pointer (some ⟨q, 0, none⟩)) (by simp [execOp, resolve, invoke, builtin, Act.eval, d0, go_sem]) rfl
    · obtain rfl := Option.some.inj hi
      clear hi hlt
      intro a w1 hL hS hD
      have d1 : a.tmps.getD 4 undef = .pointer (some ⟨q, 0, none⟩) := hD ⟨1, .data⟩ (by simp) rfl _ rfl
      refine step_yes rfl ?_
      simp only [Array.getD_eq_getD_getElem?] at d1
      exact ok_value Lat.refl (.pointer (some ⟨q, 1, none⟩)) (by simp [execOp, resolve, invoke, builtin, Act.eval, d1, go_sem]) rfl
    · obtain rfl := Option.some.inj hi
      clear hi hlt
      intro a w1 hL hS hD
      have d2 : a.tmps.getD 5 undef = .pointer (some ⟨q, 1, none⟩) := hD ⟨2, .data⟩ (by simp) rfl _ rfl
      refine step_yes rfl ?_
      simp only [Array.getD_eq_getD_getElem?] at d2
      exact ok_value Lat.refl (.string t0) (by simp [execOp, resolve, invoke, builtin, Act.eval, d2, hc1 w1 hL, go_sem]) rfl
    · obtain rfl := Option.some.inj hi
      clear hi hlt
      intro a w1 hL hS hD
      have d3 : a.tmps.getD 6 undef = .string t0 := hD ⟨3, .data⟩ (by simp) rfl _ rfl
      refine step_yes rfl ?_
      simp only [Array.getD_eq_getD_getElem?] at d3
      exact ok_value Lat.refl (.bool (t0.toList.isEmpty)) (by simp [execOp, resolve, invoke, builtin, Act.eval, d3, go_sem]) rfl
    · obtain rfl := Option.some.inj hi
      clear hi hlt
      intro a w1 hL hS hD
      have e1 : a.tmps.getD 1 undef = .pointer (some ⟨bx, 0, none⟩) := (hS.slot 1 (by kernel_rfl)).trans s1
      refine step_yes rfl ?_
      simp only [Array.getD_eq_getD_getElem?] at e1
      exact ok_value Lat.refl (.func (.func 88) #[] #[.pointer (some ⟨bx, 0, none⟩)]) (by simp [execOp, resolve, invoke, builtin, Act.eval, e1, go_sem]) rfl
    · obtain rfl := Option.some.inj hi
      clear hi hlt
      intro a w1 hL hS hD
      have e1 : a.tmps.getD 1 undef = .pointer (some ⟨bx, 0, none⟩) := (hS.slot 1 (by kernel_rfl)).trans s1
      refine step_yes rfl ?_
      simp only [Array.getD_eq_getD_getElem?] at e1
      exact ok_value Lat.refl (.func (.func 90) #[] #[.pointer (some ⟨bx, 0, none⟩)]) (by simp [execOp, resolve, invoke, builtin, Act.eval, e1, go_sem]) rfl
    · obtain rfl := Option.some.inj hi
      clear hi hlt
      intro a w1 hL hS hD
      have d4 : a.tmps.getD 7 undef = .bool (t0.toList.isEmpty) := hD ⟨4, .data⟩ (by simp) rfl _ rfl
      have d5 : a.tmps.getD 8 undef = .func (.func 88) #[] #[.pointer (some ⟨bx, 0, none⟩)] := hD ⟨5, .data⟩ (by simp) rfl _ rfl
      have d6 : a.tmps.getD 9 undef = .func (.func 90) #[] #[.pointer (some ⟨bx, 0, none⟩)] := hD ⟨6, .data⟩ (by simp) rfl _ rfl
      refine step_yes rfl ?_
      refine ok_value Lat.refl (.agg #[.bool (t0.toList.isEmpty), .func (.func 88) #[] #[.pointer (some ⟨bx, 0, none⟩)], .func (.func 90) #[] #[.pointer (some ⟨bx, 0, none⟩)]]) ?_ rfl
      simp only [Array.getD_eq_getD_getElem?] at d4 d5 d6
      have hb := built139 ((t0.toList.isEmpty)) 88 90 (.pointer (some ⟨bx, 0, none⟩))
      simp [execOp, Act.eval, d4, d5, d6, Instr.build, hb, go_sem]
    · obtain rfl := Option.some.inj hi
      clear hi hlt
      intro a w1 hL hS hD
      have e1 : a.tmps.getD 1 undef = .pointer (some ⟨bx, 0, none⟩) := (hS.slot 1 (by kernel_rfl)).trans s1
      refine step_yes rfl ?_
      simp only [Array.getD_eq_getD_getElem?] at e1
      exact ok_value Lat.refl (.pointer (some ⟨q, 0, none⟩)) (by simp [execOp, resolve, invoke, builtin, Act.eval, e1, hbx w1 hL, go_sem]) rfl
    · obtain rfl := Option.some.inj hi
      clear hi hlt
      intro a w1 hL hS hD
      have d8 : a.tmps.getD 11 undef = .pointer (some ⟨q, 0, none⟩) := hD ⟨8, .data⟩ (by simp) rfl _ rfl
      refine step_yes rfl ?_
      simp only [Array.getD_eq_getD_getElem?] at d8
      exact ok_value Lat.refl (.pointer (some ⟨q, 0, none⟩)) (by simp [execOp, resolve, invoke, builtin, Act.eval, d8, go_sem]) rfl
    · obtain rfl := Option.some.inj hi
      clear hi hlt
      intro a w1 hL hS hD
      have d9 : a.tmps.getD 12 undef = .pointer (some ⟨q, 0, none⟩) := hD ⟨9, .data⟩ (by simp) rfl _ rfl
      refine step_yes rfl ?_
      simp only [Array.getD_eq_getD_getElem?] at d9
      exact ok_value Lat.refl (.pointer (some ⟨q, 2, none⟩)) (by simp [execOp, resolve, invoke, builtin, Act.eval, d9, go_sem]) rfl
    · obtain rfl := Option.some.inj hi
      clear hi hlt
      intro a w1 hL hS hD
      have d10 : a.tmps.getD 13 undef = .pointer (some ⟨q, 2, none⟩) := hD ⟨10, .data⟩ (by simp) rfl _ rfl
      refine step_yes rfl ?_
      simp only [Array.getD_eq_getD_getElem?] at d10
      exact ok_value Lat.refl (.slice a1 n1 c1) (by simp [execOp, resolve, invoke, builtin, Act.eval, d10, hc2 w1 hL, go_sem]) rfl
    · obtain rfl := Option.some.inj hi
      clear hi hlt
      intro a w1 hL hS hD
      have d11 : a.tmps.getD 14 undef = .slice a1 n1 c1 := hD ⟨11, .data⟩ (by simp) rfl _ rfl
      refine step_yes rfl ?_
      simp only [Array.getD_eq_getD_getElem?] at d11
      exact ok_value Lat.refl (.int .i64 (n1 : Int)) (by simp [execOp, resolve, invoke, builtin, Act.eval, d11, go_sem]) rfl
    · obtain rfl := Option.some.inj hi
      clear hi hlt
      intro a w1 hL hS hD
      have d12 : a.tmps.getD 15 undef = .int .i64 (n1 : Int) := hD ⟨12, .data⟩ (by simp) rfl _ rfl
      refine step_yes rfl ?_
      simp only [Array.getD_eq_getD_getElem?] at d12
      exact ok_value Lat.refl (.bool ((n1 : Int) == 0)) (by simp [execOp, resolve, invoke, builtin, Act.eval, d12, go_sem]) rfl
    · obtain rfl := Option.some.inj hi
      clear hi hlt
      intro a w1 hL hS hD
      have e1 : a.tmps.getD 1 undef = .pointer (some ⟨bx, 0, none⟩) := (hS.slot 1 (by kernel_rfl)).trans s1
      refine step_yes rfl ?_
      simp only [Array.getD_eq_getD_getElem?] at e1
      exact ok_value Lat.refl (.func (.func 92) #[] #[.pointer (some ⟨bx, 0, none⟩)]) (by simp [execOp, resolve, invoke, builtin, Act.eval, e1, go_sem]) rfl
    · obtain rfl := Option.some.inj hi
      clear hi hlt
      intro a w1 hL hS hD
      have e1 : a.tmps.getD 1 undef = .pointer (some ⟨bx, 0, none⟩) := (hS.slot 1 (by kernel_rfl)).trans s1
      refine step_yes rfl ?_
      simp only [Array.getD_eq_getD_getElem?] at e1
      exact ok_value Lat.refl (.func (.func 94) #[] #[.pointer (some ⟨bx, 0, none⟩)]) (by simp [execOp, resolve, invoke, builtin, Act.eval, e1, go_sem]) rfl
    · obtain rfl := Option.some.inj hi
      clear hi hlt
      intro a w1 hL hS hD
      have d13 : a.tmps.getD 16 undef = .bool ((n1 : Int) == 0) := hD ⟨13, .data⟩ (by simp) rfl _ rfl
      have d14 : a.tmps.getD 17 undef = .func (.func 92) #[] #[.pointer (some ⟨bx, 0, none⟩)] := hD ⟨14, .data⟩ (by simp) rfl _ rfl
      have d15 : a.tmps.getD 18 undef = .func (.func 94) #[] #[.pointer (some ⟨bx, 0, none⟩)] := hD ⟨15, .data⟩ (by simp) rfl _ rfl
      refine step_yes rfl ?_
      refine ok_value Lat.refl (.agg #[.bool ((n1 : Int) == 0), .func (.func 92) #[] #[.pointer (some ⟨bx, 0, none⟩)], .func (.func 94) #[] #[.pointer (some ⟨bx, 0, none⟩)]]) ?_ rfl
      simp only [Array.getD_eq_getD_getElem?] at d13 d14 d15
      have hb := built139 (((n1 : Int) == 0)) 92 94 (.pointer (some ⟨bx, 0, none⟩))
      simp [execOp, Act.eval, d13, d14, d15, Instr.build, hb, go_sem]
    · obtain rfl := Option.some.inj hi
      clear hi hlt
      intro a w1 hL hS hD
      have e1 : a.tmps.getD 1 undef = .pointer (some ⟨bx, 0, none⟩) := (hS.slot 1 (by kernel_rfl)).trans s1
      refine step_yes rfl ?_
      simp only [Array.getD_eq_getD_getElem?] at e1
      exact ok_value Lat.refl (.pointer (some ⟨q, 0, none⟩)) (by simp [execOp, resolve, invoke, builtin, Act.eval, e1, hbx w1 hL, go_sem]) rfl
    · obtain rfl := Option.some.inj hi
      clear hi hlt
      intro a w1 hL hS hD
      have d17 : a.tmps.getD 20 undef = .pointer (some ⟨q, 0, none⟩) := hD ⟨17, .data⟩ (by simp) rfl _ rfl
      refine step_yes rfl ?_
      simp only [Array.getD_eq_getD_getElem?] at d17
      exact ok_value Lat.refl (.pointer (some ⟨q, 0, none⟩)) (by simp [execOp, resolve, invoke, builtin, Act.eval, d17, go_sem]) rfl
    · obtain rfl := Option.some.inj hi
      clear hi hlt
      intro a w1 hL hS hD
      have d18 : a.tmps.getD 21 undef = .pointer (some ⟨q, 0, none⟩) := hD ⟨18, .data⟩ (by simp) rfl _ rfl
      refine step_yes rfl ?_
      simp only [Array.getD_eq_getD_getElem?] at d18
      exact ok_value Lat.refl (.pointer (some ⟨q, 3, none⟩)) (by simp [execOp, resolve, invoke, builtin, Act.eval, d18, go_sem]) rfl
    · obtain rfl := Option.some.inj hi
      clear hi hlt
      intro a w1 hL hS hD
      have d19 : a.tmps.getD 22 undef = .pointer (some ⟨q, 3, none⟩) := hD ⟨19, .data⟩ (by simp) rfl _ rfl
      refine step_yes rfl ?_
      simp only [Array.getD_eq_getD_getElem?] at d19
      exact ok_value Lat.refl (.slice a2 n2 c2) (by simp [execOp, resolve, invoke, builtin, Act.eval, d19, hc3 w1 hL, go_sem]) rfl
    · obtain rfl := Option.some.inj hi
      clear hi hlt
      intro a w1 hL hS hD
      have d20 : a.tmps.getD 23 undef = .slice a2 n2 c2 := hD ⟨20, .data⟩ (by simp) rfl _ rfl
      refine step_yes rfl ?_
      simp only [Array.getD_eq_getD_getElem?] at d20
      exact ok_value Lat.refl (.int .i64 (n2 : Int)) (by simp [execOp, resolve, invoke, builtin, Act.eval, d20, go_sem]) rfl
    · obtain rfl := Option.some.inj hi
      clear hi hlt
      intro a w1 hL hS hD
      have d21 : a.tmps.getD 24 undef = .int .i64 (n2 : Int) := hD ⟨21, .data⟩ (by simp) rfl _ rfl
      refine step_yes rfl ?_
      simp only [Array.getD_eq_getD_getElem?] at d21
      exact ok_value Lat.refl (.bool ((n2 : Int) == 0)) (by simp [execOp, resolve, invoke, builtin, Act.eval, d21, go_sem]) rfl
    · obtain rfl := Option.some.inj hi
      clear hi hlt
      intro a w1 hL hS hD
      have e1 : a.tmps.getD 1 undef = .pointer (some ⟨bx, 0, none⟩) := (hS.slot 1 (by kernel_rfl)).trans s1
      refine step_yes rfl ?_
      simp only [Array.getD_eq_getD_getElem?] at e1
      exact ok_value Lat.refl (.func (.func 96) #[] #[.pointer (some ⟨bx, 0, none⟩)]) (by simp [execOp, resolve, invoke, builtin, Act.eval, e1, go_sem]) rfl
    · obtain rfl := Option.some.inj hi
      clear hi hlt
      intro a w1 hL hS hD
      have e1 : a.tmps.getD 1 undef = .pointer (some ⟨bx, 0, none⟩) := (hS.slot 1 (by kernel_rfl)).trans s1
      refine step_yes rfl ?_
      simp only [Array.getD_eq_getD_getElem?] at e1
      exact ok_value Lat.refl (.func (.func 98) #[] #[.pointer (some ⟨bx, 0, none⟩)]) (by simp [execOp, resolve, invoke, builtin, Act.eval, e1, go_sem]) rfl
    · obtain rfl := Option.some.inj hi
      clear hi hlt
      intro a w1 hL hS hD
      have d22 : a.tmps.getD 25 undef = .bool ((n2 : Int) == 0) := hD ⟨22, .data⟩ (by simp) rfl _ rfl
      have d23 : a.tmps.getD 26 undef = .func (.func 96) #[] #[.pointer (some ⟨bx, 0, none⟩)] := hD ⟨23, .data⟩ (by simp) rfl _ rfl
      have d24 : a.tmps.getD 27 undef = .func (.func 98) #[] #[.pointer (some ⟨bx, 0, none⟩)] := hD ⟨24, .data⟩ (by simp) rfl _ rfl
      refine step_yes rfl ?_
      refine ok_value Lat.refl (.agg #[.bool ((n2 : Int) == 0), .func (.func 96) #[] #[.pointer (some ⟨bx, 0, none⟩)], .func (.func 98) #[] #[.pointer (some ⟨bx, 0, none⟩)]]) ?_ rfl
      simp only [Array.getD_eq_getD_getElem?] at d22 d23 d24
      have hb := built139 (((n2 : Int) == 0)) 96 98 (.pointer (some ⟨bx, 0, none⟩))
      simp [execOp, Act.eval, d22, d23, d24, Instr.build, hb, go_sem]
    · obtain rfl := Option.some.inj hi
      clear hi hlt
      intro a w1 hL hS hD
      have e1 : a.tmps.getD 1 undef = .pointer (some ⟨bx, 0, none⟩) := (hS.slot 1 (by kernel_rfl)).trans s1
      refine step_yes rfl ?_
      simp only [Array.getD_eq_getD_getElem?] at e1
      exact ok_value Lat.refl (.pointer (some ⟨q, 0, none⟩)) (by simp [execOp, resolve, invoke, builtin, Act.eval, e1, hbx w1 hL, go_sem]) rfl
    · obtain rfl := Option.some.inj hi
      clear hi hlt
      intro a w1 hL hS hD
      have d26 : a.tmps.getD 29 undef = .pointer (some ⟨q, 0, none⟩) := hD ⟨26, .data⟩ (by simp) rfl _ rfl
      refine step_yes rfl ?_
      simp only [Array.getD_eq_getD_getElem?] at d26
      exact ok_value Lat.refl (.pointer (some ⟨q, 0, none⟩)) (by simp [execOp, resolve, invoke, builtin, Act.eval, d26, go_sem]) rfl
    · obtain rfl := Option.some.inj hi
      clear hi hlt
      intro a w1 hL hS hD
      have d27 : a.tmps.getD 30 undef = .pointer (some ⟨q, 0, none⟩) := hD ⟨27, .data⟩ (by simp) rfl _ rfl
      refine step_yes rfl ?_
      simp only [Array.getD_eq_getD_getElem?] at d27
      exact ok_value Lat.refl (.pointer (some ⟨q, 4, none⟩)) (by simp [execOp, resolve, invoke, builtin, Act.eval, d27, go_sem]) rfl
    · obtain rfl := Option.some.inj hi
      clear hi hlt
      intro a w1 hL hS hD
      have d28 : a.tmps.getD 31 undef = .pointer (some ⟨q, 4, none⟩) := hD ⟨28, .data⟩ (by simp) rfl _ rfl
      refine step_yes rfl ?_
      simp only [Array.getD_eq_getD_getElem?] at d28
      exact ok_value Lat.refl (.slice a3 n3 c3) (by simp [execOp, resolve, invoke, builtin, Act.eval, d28, hc4 w1 hL, go_sem]) rfl
    · obtain rfl := Option.some.inj hi
      clear hi hlt
      intro a w1 hL hS hD
      have d29 : a.tmps.getD 32 undef = .slice a3 n3 c3 := hD ⟨29, .data⟩ (by simp) rfl _ rfl
      refine step_yes rfl ?_
      simp only [Array.getD_eq_getD_getElem?] at d29
      exact ok_value Lat.refl (.int .i64 (n3 : Int)) (by simp [execOp, resolve, invoke, builtin, Act.eval, d29, go_sem]) rfl
    · obtain rfl := Option.some.inj hi
      clear hi hlt
      intro a w1 hL hS hD
      have d30 : a.tmps.getD 33 undef = .int .i64 (n3 : Int) := hD ⟨30, .data⟩ (by simp) rfl _ rfl
      refine step_yes rfl ?_
      simp only [Array.getD_eq_getD_getElem?] at d30
      exact ok_value Lat.refl (.bool ((n3 : Int) == 0)) (by simp [execOp, resolve, invoke, builtin, Act.eval, d30, go_sem]) rfl
    · obtain rfl := Option.some.inj hi
      clear hi hlt
      intro a w1 hL hS hD
      have e1 : a.tmps.getD 1 undef = .pointer (some ⟨bx, 0, none⟩) := (hS.slot 1 (by kernel_rfl)).trans s1
      refine step_yes rfl ?_
      simp only [Array.getD_eq_getD_getElem?] at e1
      exact ok_value Lat.refl (.func (.func 100) #[] #[.pointer (some ⟨bx, 0, none⟩)]) (by simp [execOp, resolve, invoke, builtin, Act.eval, e1, go_sem]) rfl
    · obtain rfl := Option.some.inj hi
      clear hi hlt
      intro a w1 hL hS hD
      have e1 : a.tmps.getD 1 undef = .pointer (some ⟨bx, 0, none⟩) := (hS.slot 1 (by kernel_rfl)).trans s1
      refine step_yes rfl ?_
      simp only [Array.getD_eq_getD_getElem?] at e1
      exact ok_value Lat.refl (.func (.func 102) #[] #[.pointer (some ⟨bx, 0, none⟩)]) (by simp [execOp, resolve, invoke, builtin, Act.eval, e1, go_sem]) rfl
    · obtain rfl := Option.some.inj hi
      clear hi hlt
      intro a w1 hL hS hD
      have d31 : a.tmps.getD 34 undef = .bool ((n3 : Int) == 0) := hD ⟨31, .data⟩ (by simp) rfl _ rfl
      have d32 : a.tmps.getD 35 undef = .func (.func 100) #[] #[.pointer (some ⟨bx, 0, none⟩)] := hD ⟨32, .data⟩ (by simp) rfl _ rfl
      have d33 : a.tmps.getD 36 undef = .func (.func 102) #[] #[.pointer (some ⟨bx, 0, none⟩)] := hD ⟨33, .data⟩ (by simp) rfl _ rfl
      refine step_yes rfl ?_
      refine ok_value Lat.refl (.agg #[.bool ((n3 : Int) == 0), .func (.func 100) #[] #[.pointer (some ⟨bx, 0, none⟩)], .func (.func 102) #[] #[.pointer (some ⟨bx, 0, none⟩)]]) ?_ rfl
      simp only [Array.getD_eq_getD_getElem?] at d31 d32 d33
      have hb := built139 (((n3 : Int) == 0)) 100 102 (.pointer (some ⟨bx, 0, none⟩))
      simp [execOp, Act.eval, d31, d32, d33, Instr.build, hb, go_sem]
    · obtain rfl := Option.some.inj hi
      clear hi hlt
      intro a w1 hL hS hD
      have e1 : a.tmps.getD 1 undef = .pointer (some ⟨bx, 0, none⟩) := (hS.slot 1 (by kernel_rfl)).trans s1
      refine step_yes rfl ?_
      simp only [Array.getD_eq_getD_getElem?] at e1
      exact ok_value Lat.refl (.pointer (some ⟨q, 0, none⟩)) (by simp [execOp, resolve, invoke, builtin, Act.eval, e1, hbx w1 hL, go_sem]) rfl
    · obtain rfl := Option.some.inj hi
      clear hi hlt
      intro a w1 hL hS hD
      have d35 : a.tmps.getD 38 undef = .pointer (some ⟨q, 0, none⟩) := hD ⟨35, .data⟩ (by simp) rfl _ rfl
      refine step_yes rfl ?_
      simp only [Array.getD_eq_getD_getElem?] at d35
      exact ok_value Lat.refl (.pointer (some ⟨q, 0, none⟩)) (by simp [execOp, resolve, invoke, builtin, Act.eval, d35, go_sem]) rfl
    · obtain rfl := Option.some.inj hi
      clear hi hlt
      intro a w1 hL hS hD
      have d36 : a.tmps.getD 39 undef = .pointer (some ⟨q, 0, none⟩) := hD ⟨36, .data⟩ (by simp) rfl _ rfl
      refine step_yes rfl ?_
      simp only [Array.getD_eq_getD_getElem?] at d36
      exact ok_value Lat.refl (.pointer (some ⟨q, 5, none⟩)) (by simp [execOp, resolve, invoke, builtin, Act.eval, d36, go_sem]) rfl
    · obtain rfl := Option.some.inj hi
      clear hi hlt
      intro a w1 hL hS hD
      have d37 : a.tmps.getD 40 undef = .pointer (some ⟨q, 5, none⟩) := hD ⟨37, .data⟩ (by simp) rfl _ rfl
      refine step_yes rfl ?_
      simp only [Array.getD_eq_getD_getElem?] at d37
      exact ok_value Lat.refl (.int .i64 m4) (by simp [execOp, resolve, invoke, builtin, Act.eval, d37, hc5 w1 hL, go_sem]) rfl
    · obtain rfl := Option.some.inj hi
      clear hi hlt
      intro a w1 hL hS hD
      have d38 : a.tmps.getD 41 undef = .int .i64 m4 := hD ⟨38, .data⟩ (by simp) rfl _ rfl
      refine step_yes rfl ?_
      simp only [Array.getD_eq_getD_getElem?] at d38
      exact ok_value Lat.refl (.bool (m4 == 0)) (by simp [execOp, resolve, invoke, builtin, Act.eval, d38, go_sem]) rfl
    · obtain rfl := Option.some.inj hi
      clear hi hlt
      intro a w1 hL hS hD
      have e1 : a.tmps.getD 1 undef = .pointer (some ⟨bx, 0, none⟩) := (hS.slot 1 (by kernel_rfl)).trans s1
      refine step_yes rfl ?_
      simp only [Array.getD_eq_getD_getElem?] at e1
      exact ok_value Lat.refl (.func (.func 104) #[] #[.pointer (some ⟨bx, 0, none⟩)]) (by simp [execOp, resolve, invoke, builtin, Act.eval, e1, go_sem]) rfl
    · obtain rfl := Option.some.inj hi
      clear hi hlt
      intro a w1 hL hS hD
      have e1 : a.tmps.getD 1 undef = .pointer (some ⟨bx, 0, none⟩) := (hS.slot 1 (by kernel_rfl)).trans s1
      refine step_yes rfl ?_
      simp only [Array.getD_eq_getD_getElem?] at e1
      exact ok_value Lat.refl (.func (.func 106) #[] #[.pointer (some ⟨bx, 0, none⟩)]) (by simp [execOp, resolve, invoke, builtin, Act.eval, e1, go_sem]) rfl
    · obtain rfl := Option.some.inj hi
      clear hi hlt
      intro a w1 hL hS hD
      have d39 : a.tmps.getD 42 undef = .bool (m4 == 0) := hD ⟨39, .data⟩ (by simp) rfl _ rfl
      have d40 : a.tmps.getD 43 undef = .func (.func 104) #[] #[.pointer (some ⟨bx, 0, none⟩)] := hD ⟨40, .data⟩ (by simp) rfl _ rfl
      have d41 : a.tmps.getD 44 undef = .func (.func 106) #[] #[.pointer (some ⟨bx, 0, none⟩)] := hD ⟨41, .data⟩ (by simp) rfl _ rfl
      refine step_yes rfl ?_
      refine ok_value Lat.refl (.agg #[.bool (m4 == 0), .func (.func 104) #[] #[.pointer (some ⟨bx, 0, none⟩)], .func (.func 106) #[] #[.pointer (some ⟨bx, 0, none⟩)]]) ?_ rfl
      simp only [Array.getD_eq_getD_getElem?] at d39 d40 d41
      have hb := built139 ((m4 == 0)) 104 106 (.pointer (some ⟨bx, 0, none⟩))
      simp [execOp, Act.eval, d39, d40, d41, Instr.build, hb, go_sem]
    · obtain rfl := Option.some.inj hi
      clear hi hlt
      intro a w1 hL hS hD
      have e1 : a.tmps.getD 1 undef = .pointer (some ⟨bx, 0, none⟩) := (hS.slot 1 (by kernel_rfl)).trans s1
      refine step_yes rfl ?_
      simp only [Array.getD_eq_getD_getElem?] at e1
      exact ok_value Lat.refl (.pointer (some ⟨q, 0, none⟩)) (by simp [execOp, resolve, invoke, builtin, Act.eval, e1, hbx w1 hL, go_sem]) rfl
    · obtain rfl := Option.some.inj hi
      clear hi hlt
      intro a w1 hL hS hD
      have d43 : a.tmps.getD 46 undef = .pointer (some ⟨q, 0, none⟩) := hD ⟨43, .data⟩ (by simp) rfl _ rfl
      refine step_yes rfl ?_
      simp only [Array.getD_eq_getD_getElem?] at d43
      exact ok_value Lat.refl (.pointer (some ⟨q, 0, none⟩)) (by simp [execOp, resolve, invoke, builtin, Act.eval, d43, go_sem]) rfl
    · obtain rfl := Option.some.inj hi
      clear hi hlt
      intro a w1 hL hS hD
      have d44 : a.tmps.getD 47 undef = .pointer (some ⟨q, 0, none⟩) := hD ⟨44, .data⟩ (by simp) rfl _ rfl
      refine step_yes rfl ?_
      simp only [Array.getD_eq_getD_getElem?] at d44
      exact ok_value Lat.refl (.pointer (some ⟨q, 6, none⟩)) (by simp [execOp, resolve, invoke, builtin, Act.eval, d44, go_sem]) rfl
    · obtain rfl := Option.some.inj hi
      clear hi hlt
      intro a w1 hL hS hD
      have d45 : a.tmps.getD 48 undef = .pointer (some ⟨q, 6, none⟩) := hD ⟨45, .data⟩ (by simp) rfl _ rfl
      refine step_yes rfl ?_
      simp only [Array.getD_eq_getD_getElem?] at d45
      exact ok_value Lat.refl (.int .i64 m5) (by simp [execOp, resolve, invoke, builtin, Act.eval, d45, hc6 w1 hL, go_sem]) rfl
    · obtain rfl := Option.some.inj hi
      clear hi hlt
      intro a w1 hL hS hD
      have d46 : a.tmps.getD 49 undef = .int .i64 m5 := hD ⟨46, .data⟩ (by simp) rfl _ rfl
      refine step_yes rfl ?_
      simp only [Array.getD_eq_getD_getElem?] at d46
      exact ok_value Lat.refl (.bool (m5 == 0)) (by simp [execOp, resolve, invoke, builtin, Act.eval, d46, go_sem]) rfl
    · obtain rfl := Option.some.inj hi
      clear hi hlt
      intro a w1 hL hS hD
      have e1 : a.tmps.getD 1 undef = .pointer (some ⟨bx, 0, none⟩) := (hS.slot 1 (by kernel_rfl)).trans s1
      refine step_yes rfl ?_
      simp only [Array.getD_eq_getD_getElem?] at e1
      exact ok_value Lat.refl (.func (.func 108) #[] #[.pointer (some ⟨bx, 0, none⟩)]) (by simp [execOp, resolve, invoke, builtin, Act.eval, e1, go_sem]) rfl
    · obtain rfl := Option.some.inj hi
      clear hi hlt
      intro a w1 hL hS hD
      have e1 : a.tmps.getD 1 undef = .pointer (some ⟨bx, 0, none⟩) := (hS.slot 1 (by kernel_rfl)).trans s1
      refine step_yes rfl ?_
      simp only [Array.getD_eq_getD_getElem?] at e1
      exact ok_value Lat.refl (.func (.func 109) #[] #[.pointer (some ⟨bx, 0, none⟩)]) (by simp [execOp, resolve, invoke, builtin, Act.eval, e1, go_sem]) rfl
    · obtain rfl := Option.some.inj hi
      clear hi hlt
      intro a w1 hL hS hD
      have d47 : a.tmps.getD 50 undef = .bool (m5 == 0) := hD ⟨47, .data⟩ (by simp) rfl _ rfl
      have d48 : a.tmps.getD 51 undef = .func (.func 108) #[] #[.pointer (some ⟨bx, 0, none⟩)] := hD ⟨48, .data⟩ (by simp) rfl _ rfl
      have d49 : a.tmps.getD 52 undef = .func (.func 109) #[] #[.pointer (some ⟨bx, 0, none⟩)] := hD ⟨49, .data⟩ (by simp) rfl _ rfl
      refine step_yes rfl ?_
      refine ok_value Lat.refl (.agg #[.bool (m5 == 0), .func (.func 108) #[] #[.pointer (some ⟨bx, 0, none⟩)], .func (.func 109) #[] #[.pointer (some ⟨bx, 0, none⟩)]]) ?_ rfl
      simp only [Array.getD_eq_getD_getElem?] at d47 d48 d49
      have hb := built139 ((m5 == 0)) 108 109 (.pointer (some ⟨bx, 0, none⟩))
      simp [execOp, Act.eval, d47, d48, d49, Instr.build, hb, go_sem]
    · obtain rfl := Option.some.inj hi
      clear hi hlt
      intro a w1 hL hS hD
      have e1 : a.tmps.getD 1 undef = .pointer (some ⟨bx, 0, none⟩) := (hS.slot 1 (by kernel_rfl)).trans s1
      refine step_yes rfl ?_
      simp only [Array.getD_eq_getD_getElem?] at e1
      exact ok_value Lat.refl (.pointer (some ⟨q, 0, none⟩)) (by simp [execOp, resolve, invoke, builtin, Act.eval, e1, hbx w1 hL, go_sem]) rfl
    · obtain rfl := Option.some.inj hi
      clear hi hlt
      intro a w1 hL hS hD
      have d51 : a.tmps.getD 54 undef = .pointer (some ⟨q, 0, none⟩) := hD ⟨51, .data⟩ (by simp) rfl _ rfl
      refine step_yes rfl ?_
      simp only [Array.getD_eq_getD_getElem?] at d51
      exact ok_value Lat.refl (.pointer (some ⟨q, 0, none⟩)) (by simp [execOp, resolve, invoke, builtin, Act.eval, d51, go_sem]) rfl
    · obtain rfl := Option.some.inj hi
      clear hi hlt
      intro a w1 hL hS hD
      have d52 : a.tmps.getD 55 undef = .pointer (some ⟨q, 0, none⟩) := hD ⟨52, .data⟩ (by simp) rfl _ rfl
      refine step_yes rfl ?_
      simp only [Array.getD_eq_getD_getElem?] at d52
      exact ok_value Lat.refl (.pointer (some ⟨q, 7, none⟩)) (by simp [execOp, resolve, invoke, builtin, Act.eval, d52, go_sem]) rfl
    · obtain rfl := Option.some.inj hi
      clear hi hlt
      intro a w1 hL hS hD
      have d53 : a.tmps.getD 56 undef = .pointer (some ⟨q, 7, none⟩) := hD ⟨53, .data⟩ (by simp) rfl _ rfl
      refine step_yes rfl ?_
      simp only [Array.getD_eq_getD_getElem?] at d53
      exact ok_value Lat.refl (.string t6) (by simp [execOp, resolve, invoke, builtin, Act.eval, d53, hc7 w1 hL, go_sem]) rfl
    · obtain rfl := Option.some.inj hi
      clear hi hlt
      intro a w1 hL hS hD
      have d54 : a.tmps.getD 57 undef = .string t6 := hD ⟨54, .data⟩ (by simp) rfl _ rfl
      refine step_yes rfl ?_
      simp only [Array.getD_eq_getD_getElem?] at d54
      exact ok_value Lat.refl (.bool (t6.toList.isEmpty)) (by simp [execOp, resolve, invoke, builtin, Act.eval, d54, go_sem]) rfl
    · obtain rfl := Option.some.inj hi
      clear hi hlt
      intro a w1 hL hS hD
      have e1 : a.tmps.getD 1 undef = .pointer (some ⟨bx, 0, none⟩) := (hS.slot 1 (by kernel_rfl)).trans s1
      refine step_yes rfl ?_
      simp only [Array.getD_eq_getD_getElem?] at e1
      exact ok_value Lat.refl (.func (.func 110) #[] #[.pointer (some ⟨bx, 0, none⟩)]) (by simp [execOp, resolve, invoke, builtin, Act.eval, e1, go_sem]) rfl
    · obtain rfl := Option.some.inj hi
      clear hi hlt
      intro a w1 hL hS hD
      have e1 : a.tmps.getD 1 undef = .pointer (some ⟨bx, 0, none⟩) := (hS.slot 1 (by kernel_rfl)).trans s1
      refine step_yes rfl ?_
      simp only [Array.getD_eq_getD_getElem?] at e1
      exact ok_value Lat.refl (.func (.func 112) #[] #[.pointer (some ⟨bx, 0, none⟩)]) (by simp [execOp, resolve, invoke, builtin, Act.eval, e1, go_sem]) rfl
    · obtain rfl := Option.some.inj hi
      clear hi hlt
      intro a w1 hL hS hD
      have d55 : a.tmps.getD 58 undef = .bool (t6.toList.isEmpty) := hD ⟨55, .data⟩ (by simp) rfl _ rfl
      have d56 : a.tmps.getD 59 undef = .func (.func 110) #[] #[.pointer (some ⟨bx, 0, none⟩)] := hD ⟨56, .data⟩ (by simp) rfl _ rfl
      have d57 : a.tmps.getD 60 undef = .func (.func 112) #[] #[.pointer (some ⟨bx, 0, none⟩)] := hD ⟨57, .data⟩ (by simp) rfl _ rfl
      refine step_yes rfl ?_
      refine ok_value Lat.refl (.agg #[.bool (t6.toList.isEmpty), .func (.func 110) #[] #[.pointer (some ⟨bx, 0, none⟩)], .func (.func 112) #[] #[.pointer (some ⟨bx, 0, none⟩)]]) ?_ rfl
      simp only [Array.getD_eq_getD_getElem?] at d55 d56 d57
      have hb := built139 ((t6.toList.isEmpty)) 110 112 (.pointer (some ⟨bx, 0, none⟩))
      simp [execOp, Act.eval, d55, d56, d57, Instr.build, hb, go_sem]
    · obtain rfl := Option.some.inj hi
      clear hi hlt
      intro a w1 hL hS hD
      have e1 : a.tmps.getD 1 undef = .pointer (some ⟨bx, 0, none⟩) := (hS.slot 1 (by kernel_rfl)).trans s1
      refine step_yes rfl ?_
      simp only [Array.getD_eq_getD_getElem?] at e1
      exact ok_value Lat.refl (.pointer (some ⟨q, 0, none⟩)) (by simp [execOp, resolve, invoke, builtin, Act.eval, e1, hbx w1 hL, go_sem]) rfl
    · obtain rfl := Option.some.inj hi
      clear hi hlt
      intro a w1 hL hS hD
      have d59 : a.tmps.getD 62 undef = .pointer (some ⟨q, 0, none⟩) := hD ⟨59, .data⟩ (by simp) rfl _ rfl
      refine step_yes rfl ?_
      simp only [Array.getD_eq_getD_getElem?] at d59
      exact ok_value Lat.refl (.pointer (some ⟨q, 0, none⟩)) (by simp [execOp, resolve, invoke, builtin, Act.eval, d59, go_sem]) rfl
    · obtain rfl := Option.some.inj hi
      clear hi hlt
      intro a w1 hL hS hD
      have d60 : a.tmps.getD 63 undef = .pointer (some ⟨q, 0, none⟩) := hD ⟨60, .data⟩ (by simp) rfl _ rfl
      refine step_yes rfl ?_
      simp only [Array.getD_eq_getD_getElem?] at d60
      exact ok_value Lat.refl (.pointer (some ⟨q, 8, none⟩)) (by simp [execOp, resolve, invoke, builtin, Act.eval, d60, go_sem]) rfl
    · obtain rfl := Option.some.inj hi
      clear hi hlt
      intro a w1 hL hS hD
      have d61 : a.tmps.getD 64 undef = .pointer (some ⟨q, 8, none⟩) := hD ⟨61, .data⟩ (by simp) rfl _ rfl
      refine step_yes rfl ?_
      simp only [Array.getD_eq_getD_getElem?] at d61
      exact ok_value Lat.refl (.string t7) (by simp [execOp, resolve, invoke, builtin, Act.eval, d61, hc8 w1 hL, go_sem]) rfl
    · obtain rfl := Option.some.inj hi
      clear hi hlt
      intro a w1 hL hS hD
      have d62 : a.tmps.getD 65 undef = .string t7 := hD ⟨62, .data⟩ (by simp) rfl _ rfl
      refine step_yes rfl ?_
      simp only [Array.getD_eq_getD_getElem?] at d62
      exact ok_value Lat.refl (.bool (t7.toList.isEmpty)) (by simp [execOp, resolve, invoke, builtin, Act.eval, d62, go_sem]) rfl
    · obtain rfl := Option.some.inj hi
      clear hi hlt
      intro a w1 hL hS hD
      have e1 : a.tmps.getD 1 undef = .pointer (some ⟨bx, 0, none⟩) := (hS.slot 1 (by kernel_rfl)).trans s1
      refine step_yes rfl ?_
      simp only [Array.getD_eq_getD_getElem?] at e1
      exact ok_value Lat.refl (.func (.func 114) #[] #[.pointer (some ⟨bx, 0, none⟩)]) (by simp [execOp, resolve, invoke, builtin, Act.eval, e1, go_sem]) rfl
    · obtain rfl := Option.some.inj hi
      clear hi hlt
      intro a w1 hL hS hD
      have e1 : a.tmps.getD 1 undef = .pointer (some ⟨bx, 0, none⟩) := (hS.slot 1 (by kernel_rfl)).trans s1
      refine step_yes rfl ?_
      simp only [Array.getD_eq_getD_getElem?] at e1
      exact ok_value Lat.refl (.func (.func 115) #[] #[.pointer (some ⟨bx, 0, none⟩)]) (by simp [execOp, resolve, invoke, builtin, Act.eval, e1, go_sem]) rfl
    · obtain rfl := Option.some.inj hi
      clear hi hlt
      intro a w1 hL hS hD
      have d63 : a.tmps.getD 66 undef = .bool (t7.toList.isEmpty) := hD ⟨63, .data⟩ (by simp) rfl _ rfl
      have d64 : a.tmps.getD 67 undef = .func (.func 114) #[] #[.pointer (some ⟨bx, 0, none⟩)] := hD ⟨64, .data⟩ (by simp) rfl _ rfl
      have d65 : a.tmps.getD 68 undef = .func (.func 115) #[] #[.pointer (some ⟨bx, 0, none⟩)] := hD ⟨65, .data⟩ (by simp) rfl _ rfl
      refine step_yes rfl ?_
      refine ok_value Lat.refl (.agg #[.bool (t7.toList.isEmpty), .func (.func 114) #[] #[.pointer (some ⟨bx, 0, none⟩)], .func (.func 115) #[] #[.pointer (some ⟨bx, 0, none⟩)]]) ?_ rfl
      simp only [Array.getD_eq_getD_getElem?] at d63 d64 d65
      have hb := built139 ((t7.toList.isEmpty)) 114 115 (.pointer (some ⟨bx, 0, none⟩))
      simp [execOp, Act.eval, d63, d64, d65, Instr.build, hb, go_sem]
    · obtain rfl := Option.some.inj hi
      clear hi hlt
      intro a w1 hL hS hD
      have e1 : a.tmps.getD 1 undef = .pointer (some ⟨bx, 0, none⟩) := (hS.slot 1 (by kernel_rfl)).trans s1
      refine step_yes rfl ?_
      simp only [Array.getD_eq_getD_getElem?] at e1
      exact ok_value Lat.refl (.pointer (some ⟨q, 0, none⟩)) (by simp [execOp, resolve, invoke, builtin, Act.eval, e1, hbx w1 hL, go_sem]) rfl
    · obtain rfl := Option.some.inj hi
      clear hi hlt
      intro a w1 hL hS hD
      have d67 : a.tmps.getD 70 undef = .pointer (some ⟨q, 0, none⟩) := hD ⟨67, .data⟩ (by simp) rfl _ rfl
      refine step_yes rfl ?_
      simp only [Array.getD_eq_getD_getElem?] at d67
      exact ok_value Lat.refl (.pointer (some ⟨q, 0, none⟩)) (by simp [execOp, resolve, invoke, builtin, Act.eval, d67, go_sem]) rfl
    · obtain rfl := Option.some.inj hi
      clear hi hlt
      intro a w1 hL hS hD
      have d68 : a.tmps.getD 71 undef = .pointer (some ⟨q, 0, none⟩) := hD ⟨68, .data⟩ (by simp) rfl _ rfl
      refine step_yes rfl ?_
      simp only [Array.getD_eq_getD_getElem?] at d68
      exact ok_value Lat.refl (.pointer (some ⟨q, 9, none⟩)) (by simp [execOp, resolve, invoke, builtin, Act.eval, d68, go_sem]) rfl
    · obtain rfl := Option.some.inj hi
      clear hi hlt
      intro a w1 hL hS hD
      have d69 : a.tmps.getD 72 undef = .pointer (some ⟨q, 9, none⟩) := hD ⟨69, .data⟩ (by simp) rfl _ rfl
      refine step_yes rfl ?_
      simp only [Array.getD_eq_getD_getElem?] at d69
      exact ok_value Lat.refl (.int .i64 m8) (by simp [execOp, resolve, invoke, builtin, Act.eval, d69, hc9 w1 hL, go_sem]) rfl
    · obtain rfl := Option.some.inj hi
      clear hi hlt
      intro a w1 hL hS hD
      have d70 : a.tmps.getD 73 undef = .int .i64 m8 := hD ⟨70, .data⟩ (by simp) rfl _ rfl
      refine step_yes rfl ?_
      simp only [Array.getD_eq_getD_getElem?] at d70
      exact ok_value Lat.refl (.bool (m8 == 0)) (by simp [execOp, resolve, invoke, builtin, Act.eval, d70, go_sem]) rfl
    · obtain rfl := Option.some.inj hi
      clear hi hlt
      intro a w1 hL hS hD
      have e1 : a.tmps.getD 1 undef = .pointer (some ⟨bx, 0, none⟩) := (hS.slot 1 (by kernel_rfl)).trans s1
      refine step_yes rfl ?_
      simp only [Array.getD_eq_getD_getElem?] at e1
      exact ok_value Lat.refl (.func (.func 116) #[] #[.pointer (some ⟨bx, 0, none⟩)]) (by simp [execOp, resolve, invoke, builtin, Act.eval, e1, go_sem]) rfl
    · obtain rfl := Option.some.inj hi
      clear hi hlt
      intro a w1 hL hS hD
      have e1 : a.tmps.getD 1 undef = .pointer (some ⟨bx, 0, none⟩) := (hS.slot 1 (by kernel_rfl)).trans s1
      refine step_yes rfl ?_
      simp only [Array.getD_eq_getD_getElem?] at e1
      exact ok_value Lat.refl (.func (.func 118) #[] #[.pointer (some ⟨bx, 0, none⟩)]) (by simp [execOp, resolve, invoke, builtin, Act.eval, e1, go_sem]) rfl
    · obtain rfl := Option.some.inj hi
      clear hi hlt
      intro a w1 hL hS hD
      have d71 : a.tmps.getD 74 undef = .bool (m8 == 0) := hD ⟨71, .data⟩ (by simp) rfl _ rfl
      have d72 : a.tmps.getD 75 undef = .func (.func 116) #[] #[.pointer (some ⟨bx, 0, none⟩)] := hD ⟨72, .data⟩ (by simp) rfl _ rfl
      have d73 : a.tmps.getD 76 undef = .func (.func 118) #[] #[.pointer (some ⟨bx, 0, none⟩)] := hD ⟨73, .data⟩ (by simp) rfl _ rfl
      refine step_yes rfl ?_
      refine ok_value Lat.refl (.agg #[.bool (m8 == 0), .func (.func 116) #[] #[.pointer (some ⟨bx, 0, none⟩)], .func (.func 118) #[] #[.pointer (some ⟨bx, 0, none⟩)]]) ?_ rfl
      simp only [Array.getD_eq_getD_getElem?] at d71 d72 d73
      have hb := built139 ((m8 == 0)) 116 118 (.pointer (some ⟨bx, 0, none⟩))
      simp [execOp, Act.eval, d71, d72, d73, Instr.build, hb, go_sem]
    · obtain rfl := Option.some.inj hi
      clear hi hlt
      intro a w1 hL hS hD
      have e1 : a.tmps.getD 1 undef = .pointer (some ⟨bx, 0, none⟩) := (hS.slot 1 (by kernel_rfl)).trans s1
      refine step_yes rfl ?_
      simp only [Array.getD_eq_getD_getElem?] at e1
      exact ok_value Lat.refl (.pointer (some ⟨q, 0, none⟩)) (by simp [execOp, resolve, invoke, builtin, Act.eval, e1, hbx w1 hL, go_sem]) rfl
    · obtain rfl := Option.some.inj hi
      clear hi hlt
      intro a w1 hL hS hD
      have d75 : a.tmps.getD 78 undef = .pointer (some ⟨q, 0, none⟩) := hD ⟨75, .data⟩ (by simp) rfl _ rfl
      refine step_yes rfl ?_
      simp only [Array.getD_eq_getD_getElem?] at d75
      exact ok_value Lat.refl (.pointer (some ⟨q, 0, none⟩)) (by simp [execOp, resolve, invoke, builtin, Act.eval, d75, go_sem]) rfl
    · obtain rfl := Option.some.inj hi
      clear hi hlt
      intro a w1 hL hS hD
      have d76 : a.tmps.getD 79 undef = .pointer (some ⟨q, 0, none⟩) := hD ⟨76, .data⟩ (by simp) rfl _ rfl
      refine step_yes rfl ?_
      simp only [Array.getD_eq_getD_getElem?] at d76
      exact ok_value Lat.refl (.pointer (some ⟨q, 10, none⟩)) (by simp [execOp, resolve, invoke, builtin, Act.eval, d76, go_sem]) rfl
    · obtain rfl := Option.some.inj hi
      clear hi hlt
      intro a w1 hL hS hD
      have d77 : a.tmps.getD 80 undef = .pointer (some ⟨q, 10, none⟩) := hD ⟨77, .data⟩ (by simp) rfl _ rfl
      refine step_yes rfl ?_
      simp only [Array.getD_eq_getD_getElem?] at d77
      exact ok_value Lat.refl (.int .i64 m9) (by simp [execOp, resolve, invoke, builtin, Act.eval, d77, hc10 w1 hL, go_sem]) rfl
    · obtain rfl := Option.some.inj hi
      clear hi hlt
      intro a w1 hL hS hD
      have d78 : a.tmps.getD 81 undef = .int .i64 m9 := hD ⟨78, .data⟩ (by simp) rfl _ rfl
      refine step_yes rfl ?_
      simp only [Array.getD_eq_getD_getElem?] at d78
      exact ok_value Lat.refl (.bool (m9 == 0)) (by simp [execOp, resolve, invoke, builtin, Act.eval, d78, go_sem]) rfl
    · obtain rfl := Option.some.inj hi
      clear hi hlt
      intro a w1 hL hS hD
      have e1 : a.tmps.getD 1 undef = .pointer (some ⟨bx, 0, none⟩) := (hS.slot 1 (by kernel_rfl)).trans s1
      refine step_yes rfl ?_
      simp only [Array.getD_eq_getD_getElem?] at e1
      exact ok_value Lat.refl (.func (.func 120) #[] #[.pointer (some ⟨bx, 0, none⟩)]) (by simp [execOp, resolve, invoke, builtin, Act.eval, e1, go_sem]) rfl
    · obtain rfl := Option.some.inj hi
      clear hi hlt
      intro a w1 hL hS hD
      have e1 : a.tmps.getD 1 undef = .pointer (some ⟨bx, 0, none⟩) := (hS.slot 1 (by kernel_rfl)).trans s1
      refine step_yes rfl ?_
      simp only [Array.getD_eq_getD_getElem?] at e1
      exact ok_value Lat.refl (.func (.func 121) #[] #[.pointer (some ⟨bx, 0, none⟩)]) (by simp [execOp, resolve, invoke, builtin, Act.eval, e1, go_sem]) rfl
    · obtain rfl := Option.some.inj hi
      clear hi hlt
      intro a w1 hL hS hD
      have d79 : a.tmps.getD 82 undef = .bool (m9 == 0) := hD ⟨79, .data⟩ (by simp) rfl _ rfl
      have d80 : a.tmps.getD 83 undef = .func (.func 120) #[] #[.pointer (some ⟨bx, 0, none⟩)] := hD ⟨80, .data⟩ (by simp) rfl _ rfl
      have d81 : a.tmps.getD 84 undef = .func (.func 121) #[] #[.pointer (some ⟨bx, 0, none⟩)] := hD ⟨81, .data⟩ (by simp) rfl _ rfl
      refine step_yes rfl ?_
      refine ok_value Lat.refl (.agg #[.bool (m9 == 0), .func (.func 120) #[] #[.pointer (some ⟨bx, 0, none⟩)], .func (.func 121) #[] #[.pointer (some ⟨bx, 0, none⟩)]]) ?_ rfl
      simp only [Array.getD_eq_getD_getElem?] at d79 d80 d81
      have hb := built139 ((m9 == 0)) 120 121 (.pointer (some ⟨bx, 0, none⟩))
      simp [execOp, Act.eval, d79, d80, d81, Instr.build, hb, go_sem]
    · obtain rfl := Option.some.inj hi
      clear hi hlt
      intro a w1 hL hS hD
      have e1 : a.tmps.getD 1 undef = .pointer (some ⟨bx, 0, none⟩) := (hS.slot 1 (by kernel_rfl)).trans s1
      refine step_yes rfl ?_
      simp only [Array.getD_eq_getD_getElem?] at e1
      exact ok_value Lat.refl (.pointer (some ⟨q, 0, none⟩)) (by simp [execOp, resolve, invoke, builtin, Act.eval, e1, hbx w1 hL, go_sem]) rfl
    · obtain rfl := Option.some.inj hi
      clear hi hlt
      intro a w1 hL hS hD
      have d83 : a.tmps.getD 86 undef = .pointer (some ⟨q, 0, none⟩) := hD ⟨83, .data⟩ (by simp) rfl _ rfl
      refine step_yes rfl ?_
      simp only [Array.getD_eq_getD_getElem?] at d83
      exact ok_value Lat.refl (.pointer (some ⟨q, 0, none⟩)) (by simp [execOp, resolve, invoke, builtin, Act.eval, d83, go_sem]) rfl
    · obtain rfl := Option.some.inj hi
      clear hi hlt
      intro a w1 hL hS hD
      have d84 : a.tmps.getD 87 undef = .pointer (some ⟨q, 0, none⟩) := hD ⟨84, .data⟩ (by simp) rfl _ rfl
      refine step_yes rfl ?_
      simp only [Array.getD_eq_getD_getElem?] at d84
      exact ok_value Lat.refl (.pointer (some ⟨q, 11, none⟩)) (by simp [execOp, resolve, invoke, builtin, Act.eval, d84, go_sem]) rfl
    · obtain rfl := Option.some.inj hi
      clear hi hlt
      intro a w1 hL hS hD
      have d85 : a.tmps.getD 88 undef = .pointer (some ⟨q, 11, none⟩) := hD ⟨85, .data⟩ (by simp) rfl _ rfl
      refine step_yes rfl ?_
      simp only [Array.getD_eq_getD_getElem?] at d85
      exact ok_value Lat.refl (.int .i64 m10) (by simp [execOp, resolve, invoke, builtin, Act.eval, d85, hc11 w1 hL, go_sem]) rfl
    · obtain rfl := Option.some.inj hi
      clear hi hlt
      intro a w1 hL hS hD
      have d86 : a.tmps.getD 89 undef = .int .i64 m10 := hD ⟨86, .data⟩ (by simp) rfl _ rfl
      refine step_yes rfl ?_
      simp only [Array.getD_eq_getD_getElem?] at d86
      exact ok_value Lat.refl (.bool (m10 == 0)) (by simp [execOp, resolve, invoke, builtin, Act.eval, d86, go_sem]) rfl
    · obtain rfl := Option.some.inj hi
      clear hi hlt
      intro a w1 hL hS hD
      have e1 : a.tmps.getD 1 undef = .pointer (some ⟨bx, 0, none⟩) := (hS.slot 1 (by kernel_rfl)).trans s1
      refine step_yes rfl ?_
      simp only [Array.getD_eq_getD_getElem?] at e1
      exact ok_value Lat.refl (.func (.func 122) #[] #[.pointer (some ⟨bx, 0, none⟩)]) (by simp [execOp, resolve, invoke, builtin, Act.eval, e1, go_sem]) rfl
    · obtain rfl := Option.some.inj hi
      clear hi hlt
      intro a w1 hL hS hD
      have e1 : a.tmps.getD 1 undef = .pointer (some ⟨bx, 0, none⟩) := (hS.slot 1 (by kernel_rfl)).trans s1
      refine step_yes rfl ?_
      simp only [Array.getD_eq_getD_getElem?] at e1
      exact ok_value Lat.refl (.func (.func 123) #[] #[.pointer (some ⟨bx, 0, none⟩)]) (by simp [execOp, resolve, invoke, builtin, Act.eval, e1, go_sem]) rfl
    · obtain rfl := Option.some.inj hi
      clear hi hlt
      intro a w1 hL hS hD
      have d87 : a.tmps.getD 90 undef = .bool (m10 == 0) := hD ⟨87, .data⟩ (by simp) rfl _ rfl
      have d88 : a.tmps.getD 91 undef = .func (.func 122) #[] #[.pointer (some ⟨bx, 0, none⟩)] := hD ⟨88, .data⟩ (by simp) rfl _ rfl
      have d89 : a.tmps.getD 92 undef = .func (.func 123) #[] #[.pointer (some ⟨bx, 0, none⟩)] := hD ⟨89, .data⟩ (by simp) rfl _ rfl
      refine step_yes rfl ?_
      refine ok_value Lat.refl (.agg #[.bool (m10 == 0), .func (.func 122) #[] #[.pointer (some ⟨bx, 0, none⟩)], .func (.func 123) #[] #[.pointer (some ⟨bx, 0, none⟩)]]) ?_ rfl
      simp only [Array.getD_eq_getD_getElem?] at d87 d88 d89
      have hb := built139 ((m10 == 0)) 122 123 (.pointer (some ⟨bx, 0, none⟩))
      simp [execOp, Act.eval, d87, d88, d89, Instr.build, hb, go_sem]
    · obtain rfl := Option.some.inj hi
      clear hi hlt
      intro a w1 hL hS hD
      have e1 : a.tmps.getD 1 undef = .pointer (some ⟨bx, 0, none⟩) := (hS.slot 1 (by kernel_rfl)).trans s1
      refine step_yes rfl ?_
      simp only [Array.getD_eq_getD_getElem?] at e1
      exact ok_value Lat.refl (.pointer (some ⟨q, 0, none⟩)) (by simp [execOp, resolve, invoke, builtin, Act.eval, e1, hbx w1 hL, go_sem]) rfl
    · obtain rfl := Option.some.inj hi
      clear hi hlt
      intro a w1 hL hS hD
      have d91 : a.tmps.getD 94 undef = .pointer (some ⟨q, 0, none⟩) := hD ⟨91, .data⟩ (by simp) rfl _ rfl
      refine step_yes rfl ?_
      simp only [Array.getD_eq_getD_getElem?] at d91
      exact ok_value Lat.refl (.pointer (some ⟨q, 0, none⟩)) (by simp [execOp, resolve, invoke, builtin, Act.eval, d91, go_sem]) rfl
    · obtain rfl := Option.some.inj hi
      clear hi hlt
      intro a w1 hL hS hD
      have d92 : a.tmps.getD 95 undef = .pointer (some ⟨q, 0, none⟩) := hD ⟨92, .data⟩ (by simp) rfl _ rfl
      refine step_yes rfl ?_
      simp only [Array.getD_eq_getD_getElem?] at d92
      exact ok_value Lat.refl (.pointer (some ⟨q, 12, none⟩)) (by simp [execOp, resolve, invoke, builtin, Act.eval, d92, go_sem]) rfl
    · obtain rfl := Option.some.inj hi
      clear hi hlt
      intro a w1 hL hS hD
      have d93 : a.tmps.getD 96 undef = .pointer (some ⟨q, 12, none⟩) := hD ⟨93, .data⟩ (by simp) rfl _ rfl
      refine step_yes rfl ?_
      simp only [Array.getD_eq_getD_getElem?] at d93
      exact ok_value Lat.refl (.slice a11 n11 c11) (by simp [execOp, resolve, invoke, builtin, Act.eval, d93, hc12 w1 hL, go_sem]) rfl
    · obtain rfl := Option.some.inj hi
      clear hi hlt
      intro a w1 hL hS hD
      have d94 : a.tmps.getD 97 undef = .slice a11 n11 c11 := hD ⟨94, .data⟩ (by simp) rfl _ rfl
      refine step_yes rfl ?_
      simp only [Array.getD_eq_getD_getElem?] at d94
      exact ok_value Lat.refl (.int .i64 (n11 : Int)) (by simp [execOp, resolve, invoke, builtin, Act.eval, d94, go_sem]) rfl
    · obtain rfl := Option.some.inj hi
      clear hi hlt
      intro a w1 hL hS hD
      have d95 : a.tmps.getD 98 undef = .int .i64 (n11 : Int) := hD ⟨95, .data⟩ (by simp) rfl _ rfl
      refine step_yes rfl ?_
      simp only [Array.getD_eq_getD_getElem?] at d95
      exact ok_value Lat.refl (.bool ((n11 : Int) == 0)) (by simp [execOp, resolve, invoke, builtin, Act.eval, d95, go_sem]) rfl
    · obtain rfl := Option.some.inj hi
      clear hi hlt
      intro a w1 hL hS hD
      have e1 : a.tmps.getD 1 undef = .pointer (some ⟨bx, 0, none⟩) := (hS.slot 1 (by kernel_rfl)).trans s1
      refine step_yes rfl ?_
      simp only [Array.getD_eq_getD_getElem?] at e1
      exact ok_value Lat.refl (.func (.func 124) #[] #[.pointer (some ⟨bx, 0, none⟩)]) (by simp [execOp, resolve, invoke, builtin, Act.eval, e1, go_sem]) rfl
    · obtain rfl := Option.some.inj hi
      clear hi hlt
      intro a w1 hL hS hD
      have e1 : a.tmps.getD 1 undef = .pointer (some ⟨bx, 0, none⟩) := (hS.slot 1 (by kernel_rfl)).trans s1
      refine step_yes rfl ?_
      simp only [Array.getD_eq_getD_getElem?] at e1
      exact ok_value Lat.refl (.func (.func 125) #[] #[.pointer (some ⟨bx, 0, none⟩)]) (by simp [execOp, resolve, invoke, builtin, Act.eval, e1, go_sem]) rfl
    · obtain rfl := Option.some.inj hi
      clear hi hlt
      intro a w1 hL hS hD
      have d96 : a.tmps.getD 99 undef = .bool ((n11 : Int) == 0) := hD ⟨96, .data⟩ (by simp) rfl _ rfl
      have d97 : a.tmps.getD 100 undef = .func (.func 124) #[] #[.pointer (some ⟨bx, 0, none⟩)] := hD ⟨97, .data⟩ (by simp) rfl _ rfl
      have d98 : a.tmps.getD 101 undef = .func (.func 125) #[] #[.pointer (some ⟨bx, 0, none⟩)] := hD ⟨98, .data⟩ (by simp) rfl _ rfl
      refine step_yes rfl ?_
      refine ok_value Lat.refl (.agg #[.bool ((n11 : Int) == 0), .func (.func 124) #[] #[.pointer (some ⟨bx, 0, none⟩)], .func (.func 125) #[] #[.pointer (some ⟨bx, 0, none⟩)]]) ?_ rfl
      simp only [Array.getD_eq_getD_getElem?] at d96 d97 d98
      have hb := built139 (((n11 : Int) == 0)) 124 125 (.pointer (some ⟨bx, 0, none⟩))
      simp [execOp, Act.eval, d96, d97, d98, Instr.build, hb, go_sem]
    · obtain rfl := Option.some.inj hi
      clear hi hlt
      intro a w1 hL hS hD
      have d7 : a.tmps.getD 10 undef = .agg #[.bool (t0.toList.isEmpty), .func (.func 88) #[] #[.pointer (some ⟨bx, 0, none⟩)], .func (.func 90) #[] #[.pointer (some ⟨bx, 0, none⟩)]] := hD ⟨7, .data⟩ (by simp) rfl _ rfl
      have d16 : a.tmps.getD 19 undef = .agg #[.bool ((n1 : Int) == 0), .func (.func 92) #[] #[.pointer (some ⟨bx, 0, none⟩)], .func (.func 94) #[] #[.pointer (some ⟨bx, 0, none⟩)]] := hD ⟨16, .data⟩ (by simp) rfl _ rfl
      have d25 : a.tmps.getD 28 undef = .agg #[.bool ((n2 : Int) == 0), .func (.func 96) #[] #[.pointer (some ⟨bx, 0, none⟩)], .func (.func 98) #[] #[.pointer (some ⟨bx, 0, none⟩)]] := hD ⟨25, .data⟩ (by simp) rfl _ rfl
      have d34 : a.tmps.getD 37 undef = .agg #[.bool ((n3 : Int) == 0), .func (.func 100) #[] #[.pointer (some ⟨bx, 0, none⟩)], .func (.func 102) #[] #[.pointer (some ⟨bx, 0, none⟩)]] := hD ⟨34, .data⟩ (by simp) rfl _ rfl
      have d42 : a.tmps.getD 45 undef = .agg #[.bool (m4 == 0), .func (.func 104) #[] #[.pointer (some ⟨bx, 0, none⟩)], .func (.func 106) #[] #[.pointer (some ⟨bx, 0, none⟩)]] := hD ⟨42, .data⟩ (by simp) rfl _ rfl
      have d50 : a.tmps.getD 53 undef = .agg #[.bool (m5 == 0), .func (.func 108) #[] #[.pointer (some ⟨bx, 0, none⟩)], .func (.func 109) #[] #[.pointer (some ⟨bx, 0, none⟩)]] := hD ⟨50, .data⟩ (by simp) rfl _ rfl
      have d58 : a.tmps.getD 61 undef = .agg #[.bool (t6.toList.isEmpty), .func (.func 110) #[] #[.pointer (some ⟨bx, 0, none⟩)], .func (.func 112) #[] #[.pointer (some ⟨bx, 0, none⟩)]] := hD ⟨58, .data⟩ (by simp) rfl _ rfl
      have d66 : a.tmps.getD 69 undef = .agg #[.bool (t7.toList.isEmpty), .func (.func 114) #[] #[.pointer (some ⟨bx, 0, none⟩)], .func (.func 115) #[] #[.pointer (some ⟨bx, 0, none⟩)]] := hD ⟨66, .data⟩ (by simp) rfl _ rfl
      have d74 : a.tmps.getD 77 undef = .agg #[.bool (m8 == 0), .func (.func 116) #[] #[.pointer (some ⟨bx, 0, none⟩)], .func (.func 118) #[] #[.pointer (some ⟨bx, 0, none⟩)]] := hD ⟨74, .data⟩ (by simp) rfl _ rfl
      have d82 : a.tmps.getD 85 undef = .agg #[.bool (m9 == 0), .func (.func 120) #[] #[.pointer (some ⟨bx, 0, none⟩)], .func (.func 121) #[] #[.pointer (some ⟨bx, 0, none⟩)]] := hD ⟨82, .data⟩ (by simp) rfl _ rfl
      have d90 : a.tmps.getD 93 undef = .agg #[.bool (m10 == 0), .func (.func 122) #[] #[.pointer (some ⟨bx, 0, none⟩)], .func (.func 123) #[] #[.pointer (some ⟨bx, 0, none⟩)]] := hD ⟨90, .data⟩ (by simp) rfl _ rfl
      have d99 : a.tmps.getD 102 undef = .agg #[.bool ((n11 : Int) == 0), .func (.func 124) #[] #[.pointer (some ⟨bx, 0, none⟩)], .func (.func 125) #[] #[.pointer (some ⟨bx, 0, none⟩)]] := hD ⟨99, .data⟩ (by simp) rfl _ rfl
      refine step_yes rfl ?_
      simp only [Array.getD_eq_getD_getElem?] at d7 d16 d25 d34 d42 d50 d58 d66 d74 d82 d90 d99
      have hbs := buildS59 q bx t0 n1 n2 n3 m4 m5 t6 t7 m8 m9 m10 n11 w1
      refine wp_valP (.slice (some ⟨w1.heap.size, 0, none⟩) 12 12) (w' := w1.alloc (.cells (cells59 q bx t0 n1 n2 n3 m4 m5 t6 t7 m8 m9 m10 n11).toArray 139)) (by simp [execOp, Act.eval, d7, d16, d25, d34, d42, d50, d58, d66, d74, d82, d90, d99, hbs, Result.andThen]) ?_
      exact ⟨_, rfl, (Below.refl _ _).alloc (Nat.le_refl _) _, ⟨w1.heap.size, rfl, Below.size hL, Blk.new w1 139 _⟩⟩

end Go.Proofs.YtalmpmhnkilalaaGreatDoor
