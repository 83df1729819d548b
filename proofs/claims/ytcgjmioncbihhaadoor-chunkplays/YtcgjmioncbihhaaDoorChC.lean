/-
  Package chunk: the tables, spanOf, putFirst, putDrift.
-/
import Derived.Test.YtcgjmioncbihhaaDoorChB
import Derived.Test.YtcgjmioncbihhaaDoorLen
import Derived.Laws.Bits64b
namespace Go.Proofs.YtcgjmioncbihhaaDoor
open Go.RowKit
set_option linter.unusedVariables false
set_option linter.unusedSimpArgs false

/-- The program's variables as they are laid. -/
structure Gv (w : World) : Prop where
  wid : ∀ j, j < 4 → w.cell? ⟨0, j, none⟩ = some (.int .i64 ((wds.getD j 0 : Nat) : Int))
  tab : ∀ j, j < 64 → w.cell? ⟨1, j, none⟩ = some (.int .u8 ((Lib.deBruijn64tab.getD j 0 : Nat) : Int))
theorem Gv.later {w w' : World} (h : Gv w) (hb : Below w.heap.size w w') : Gv w' :=
  ⟨fun j hj => by rw [hb.cell (p := ⟨0, j, none⟩) (World.block_lt_of_cell? w _ (h.wid j hj))]; exact h.wid j hj,
   fun j hj => by rw [hb.cell (p := ⟨1, j, none⟩) (World.block_lt_of_cell? w _ (h.tab j hj))]; exact h.tab j hj⟩

theorem tz_key (x a : Nat) (hx : x < 18446744073709551616) (hx0 : x ≠ 0) (hlow : x &&& (18446744073709551616 - x) = a) :
    IntKind.u64.wrap (bits BinOp.and IntKind.u64 (x : Int) (IntKind.u64.wrap (-(x : Int))) * 285870213051353865) / 288230376151711744 = ((a * 285870213051353865 % 18446744073709551616 / 288230376151711744 : Nat) : Int) := by
  have e1 : IntKind.u64.wrap (-(x : Int)) = ((18446744073709551616 - x : Nat) : Int) := by rw [IntKind.wrap_u64]; omega
  rw [e1, bits_and_u64_nat x _ hx (by omega), hlow, IntKind.wrap_u64]
  omega

set_option maxHeartbeats 1000000 in
theorem tz_core (x k idx : Nat) (w : World) (hx0 : ((x : Int) == 0) = false)
    (key : IntKind.u64.wrap (bits BinOp.and IntKind.u64 (x : Int) (IntKind.u64.wrap (-(x : Int))) * 285870213051353865) / 288230376151711744 = (idx : Int))
    (hi : idx < 64) (hk : k < 64) (hcell : w.cell? ⟨1, idx, none⟩ = some (.int .u8 k)) :
    Calls Tryd.prog 67 #[.int .u64 x] w fun e w' => e = .returned (.int .i64 k) ∧ w' = w := by
  go_enter Tryd.func67, Tryd.ntmps67
  go_wp2_with (simp only [key])
  go_ret
  exact ⟨rfl, rfl⟩

theorem tzP (x : Nat) (w : World) (hx : x < 18446744073709551616) (hx0 : x ≠ 0) (hG : Gv w) :
    Calls Tryd.prog 67 #[.int .u64 (x : Int)] w fun e w' => e = .returned (.int .i64 (bhd x : Int)) ∧ w' = w := by
  obtain ⟨hlow, hk⟩ := Lib.lowest_bit 64 x hx0 hx
  obtain ⟨hi, htab⟩ := Lib.deBruijn64_at _ hk
  have hcell := hG.tab _ hi
  rw [htab] at hcell
  exact tz_core x _ _ w (by simpa using hx0) (tz_key x _ hx hx0 hlow) hi hk hcell

theorem len_uniq {x r s : Nat} (h0 : 0 < x) (h : Q.IsLen x r) (k : Q.IsLen x s) : r = s := by
  obtain ⟨h1, h2, _⟩ := h
  obtain ⟨k1, k2, _⟩ := k
  · obtain ⟨h3, h4⟩ := h2 h0
    obtain ⟨k3, k4⟩ := k2 h0
    rcases Nat.lt_trichotomy r s with hh | hh | hh
    · have : 2 ^ r ≤ 2 ^ (s - 1) := Nat.pow_le_pow_right (by omega) (by omega)
      omega
    · exact hh
    · have : 2 ^ s ≤ 2 ^ (r - 1) := Nat.pow_le_pow_right (by omega) (by omega)
      omega

theorem lzP (x : Nat) (w : World) (hx : x < 18446744073709551616) (hx0 : 0 < x) :
    Calls Tryd.prog 66 #[.int .u64 (x : Int)] w fun e w' => e = .returned (.int .i64 (ahd x : Int)) ∧ w' = w := by
  have hb := blen_lt 64 x (by omega)
  go_enter Tryd.func66, Tryd.ntmps66
  go_wp2_with fail
  refine (Q.len64_any (x : Int) w (by omega) (by omega)).mono ?_
  rintro e w' ⟨⟨r, rfl, hr⟩, rfl⟩
  rw [Int.toNat_natCast] at hr
  have hrr : r = blen 64 x := len_uniq hx0 hr ⟨hb.1, hb.2.1, hb.2.2⟩
  have h64 := hr.2.2
  clear hr hb
  have hah := hidden (show ahd x = 64 - r by unfold ahd; rw [hrr])
  clear hrr
  have hz : (64 : Int) - (r : Int) = ((64 - r : Nat) : Int) := by omega
  go_wp2
  go_ret
  rw [hah.out]
  exact ⟨by first | rfl | simp | (simp; omega), by first | trivial | rfl⟩

theorem spanP (x : Nat) (w : World) (hx : x < 18446744073709551616) (hx0 : 0 < x) (hG : Gv w) :
    Calls Tryd.prog 55 #[.int .u64 (x : Int)] w fun e w' => e = .returned (.tuple #[.int .i64 (ahd x : Int), .int .i64 (siz x : Int)]) ∧ w' = w := by
  have ha := lzP x w hx hx0
  have ht := tzP x w hx (by omega) hG
  have hs := (span_lt hx hx0).2.2.2.2
  unfold siz at hs ⊢
  have HA := hidden ha
  have HT := hidden ht
  clear ha ht hG
  generalize ahd x = a at *
  generalize bhd x = b at *
  go_enter Tryd.func55, Tryd.ntmps55
  go_wp2_with fail
  refine HA.out.mono ?_
  rintro e w' ⟨rfl, rfl⟩
  go_wp2_with fail
  refine HT.out.mono ?_
  rintro e w' ⟨rfl, rfl⟩
  go_wp2
  go_ret2
  exact ⟨by simp; omega, by first | trivial | rfl⟩

end Go.Proofs.YtcgjmioncbihhaaDoor
