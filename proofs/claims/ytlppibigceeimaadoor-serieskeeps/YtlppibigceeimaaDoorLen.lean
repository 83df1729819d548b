import Derived.Test.YtlppibigceeimaaDoorRows
import Derived.WalkKit
import Derived.WalkSpells
import Derived.WalkLawsBesides
import Derived.Test.YtlppibigceeimaaDoorChA
import Derived.Laws.Bits64b
namespace Go.Proofs.YtlppibigceeimaaDoor.Q
open Go.RowKit
set_option linter.unusedVariables false

/-- How many bits a byte wants. -/
def bits8 (i : Nat) : Nat := if i < 1 then 0 else if i < 2 then 1 else if i < 4 then 2 else if i < 8 then 3 else if i < 16 then 4 else if i < 32 then 5 else if i < 64 then 6 else if i < 128 then 7 else 8
def tab8 : ByteArray := ⟨((List.range 256).map fun i => UInt8.ofNat (bits8 i)).toArray⟩
theorem tab8_size : tab8.size = 256 := by decide +kernel
theorem tab8_get? : ∀ i : Fin 256, (tab8[i.val]?).map (fun b => b.toNat) = some (bits8 i.val) := by decide +kernel
theorem tab8_get (i : Nat) (h : i < 256) (h' : i < tab8.size) : (tab8[i]'h').toNat = bits8 i := by
  have e := tab8_get? ⟨i, h⟩
  simpa [h'] using e

/-- x wants r bits. -/
def IsLen (x r : Nat) : Prop := x < 2 ^ r ∧ (0 < x → 1 ≤ r ∧ 2 ^ (r - 1) ≤ x) ∧ r ≤ 64

theorem isLen_shift (x y k : Nat) (hk : k ≤ 56) (hy : y = x / 2 ^ k) (hy1 : y < 256) (hlo : 2 ^ k ≤ x ∨ k = 0) : IsLen x (k + bits8 y) := by
  have hp : 0 < 2 ^ k := Nat.two_pow_pos k
  have hx1 : 2 ^ k * y ≤ x := by rw [hy]; exact Nat.mul_div_le _ _
  have hx2 : x < 2 ^ k * (y + 1) := by rw [hy]; exact Nat.lt_mul_div_succ _ hp
  have key : y < 2 ^ bits8 y ∧ (0 < y → 1 ≤ bits8 y ∧ 2 ^ (bits8 y - 1) ≤ y) ∧ bits8 y ≤ 8 := by
    unfold bits8
    repeat' split
    all_goals (refine ⟨by simp; omega, fun h => ⟨by omega, by simp; omega⟩, by omega⟩)
  obtain ⟨k1, k2, k3⟩ := key
  refine ⟨?_, fun h0 => ?_, by omega⟩
  · rw [Nat.pow_add]
    exact Nat.lt_of_lt_of_le hx2 (Nat.mul_le_mul_left _ k1)
  · have hy0 : 0 < y := by
      rcases hlo with h | h
      · rw [hy]; exact Nat.div_pos h hp
      · subst h; simp at hy; omega
    obtain ⟨g1, g2⟩ := k2 hy0
    refine ⟨by omega, ?_⟩
    rw [show k + bits8 y - 1 = k + (bits8 y - 1) by omega, Nat.pow_add]
    exact Nat.le_trans (Nat.mul_le_mul_left _ g2) hx1

theorem bits8_le (y : Nat) : bits8 y ≤ 8 := by
  unfold bits8
  repeat' split
  all_goals omega

theorem len_leaf (T : ByteArray) (hT : T = tab8) (x y : Int) (k : Nat) (h0 : 0 ≤ x) (hy : y.toNat = x.toNat / 2 ^ k) (hlo : 2 ^ k ≤ x.toNat ∨ k = 0) (hy0 : 0 ≤ y) (hy1 : y < 256) (hk : k ≤ 56) (hlt : y.toNat < T.size) :
    ∃ r : Nat, wrap64 ((k : Int) + wrap64 ((T[y.toNat]'hlt).toNat : Int)) = (r : Int) ∧ IsLen x.toNat r := by
  subst hT
  have hb := bits8_le y.toNat
  refine ⟨k + bits8 y.toNat, ?_, isLen_shift _ _ _ hk hy (by omega) hlo⟩
  rw [tab8_get y.toNat (by omega)]
  generalize bits8 y.toNat = t at hb
  simp only [wrap64]
  omega

theorem len_leaf0 (T : ByteArray) (hT : T = tab8) (x : Int) (h0 : 0 ≤ x) (hx : x < 256) (hlt : x.toNat < T.size) :
    ∃ r : Nat, wrap64 (wrap64 ((T[x.toNat]'hlt).toNat : Int)) = (r : Int) ∧ IsLen x.toNat r := by
  obtain ⟨r, h, hr⟩ := len_leaf T hT x x 0 h0 (by simp) (.inr rfl) h0 hx (by omega) hlt
  exact ⟨r, by simpa using h, hr⟩

theorem ret_of {Q : World → Nat → Prop} {w : World} {a : Int} (h : ∃ r : Nat, a = (r : Int) ∧ Q w r) : ∃ r : Nat, Ending.returned (.int .i64 a) = .returned (.int .i64 r) ∧ Q w r := by
  obtain ⟨r, rfl, h⟩ := h
  exact ⟨r, rfl, h⟩

set_option maxHeartbeats 4000000 in
set_option maxRecDepth 100000 in
theorem len64_any (x : Int) (w : World) (h0 : 0 ≤ x) (h1 : x ≤ 18446744073709551615) :
    Calls Tryd.prog 86 #[.int .u64 x] w fun e w' => (∃ r : Nat, e = .returned (.int .i64 r) ∧ IsLen x.toNat r) ∧ w' = w := by
  go_enter Tryd.func86, Tryd.ntmps86
  go_wp2
  all_goals go_ret
  all_goals refine ⟨ret_of (Q := fun _ r => IsLen x.toNat r) (w := w) ?_, rfl⟩
  · exact len_leaf _ (by kernel_rfl) x _ 56 h0 (by omega) (.inl (by omega)) (by omega) (by omega) (by omega) _
  · exact len_leaf _ (by kernel_rfl) x _ 48 h0 (by omega) (.inl (by omega)) (by omega) (by omega) (by omega) _
  · exact len_leaf _ (by kernel_rfl) x _ 40 h0 (by omega) (.inl (by omega)) (by omega) (by omega) (by omega) _
  · exact len_leaf _ (by kernel_rfl) x _ 32 h0 (by omega) (.inl (by omega)) (by omega) (by omega) (by omega) _
  · exact len_leaf _ (by kernel_rfl) x _ 24 h0 (by omega) (.inl (by omega)) (by omega) (by omega) (by omega) _
  · exact len_leaf _ (by kernel_rfl) x _ 16 h0 (by omega) (.inl (by omega)) (by omega) (by omega) (by omega) _
  · exact len_leaf _ (by kernel_rfl) x _ 8 h0 (by omega) (.inl (by omega)) (by omega) (by omega) (by omega) _
  · exact len_leaf0 _ (by kernel_rfl) x h0 (by omega) _

end Go.Proofs.YtlppibigceeimaaDoor.Q

/-
  Package chunk: the tables, spanOf, putFirst, putDrift.
-/
namespace Go.Proofs.YtlppibigceeimaaDoor
open Go.RowKit
set_option linter.unusedVariables false
set_option linter.unusedSimpArgs false

/-- The program's variables as they are laid. -/
structure Gv (w : World) : Prop where
  wid : ∀ j, j < 4 → w.cell? ⟨1, j, none⟩ = some (.int .i64 ((wds.getD j 0 : Nat) : Int))
  tab : ∀ j, j < 64 → w.cell? ⟨0, j, none⟩ = some (.int .u8 ((Lib.deBruijn64tab.getD j 0 : Nat) : Int))
theorem Gv.later {w w' : World} (h : Gv w) (hb : Below w.heap.size w w') : Gv w' :=
  ⟨fun j hj => by rw [hb.cell (p := ⟨1, j, none⟩) (World.block_lt_of_cell? w _ (h.wid j hj))]; exact h.wid j hj,
   fun j hj => by rw [hb.cell (p := ⟨0, j, none⟩) (World.block_lt_of_cell? w _ (h.tab j hj))]; exact h.tab j hj⟩

theorem tz_key (x a : Nat) (hx : x < 18446744073709551616) (hx0 : x ≠ 0) (hlow : x &&& (18446744073709551616 - x) = a) :
    IntKind.u64.wrap (bits BinOp.and IntKind.u64 (x : Int) (IntKind.u64.wrap (-(x : Int))) * 285870213051353865) / 288230376151711744 = ((a * 285870213051353865 % 18446744073709551616 / 288230376151711744 : Nat) : Int) := by
  have e1 : IntKind.u64.wrap (-(x : Int)) = ((18446744073709551616 - x : Nat) : Int) := by rw [IntKind.wrap_u64]; omega
  rw [e1, bits_and_u64_nat x _ hx (by omega), hlow, IntKind.wrap_u64]
  omega

set_option maxHeartbeats 1000000 in
theorem tz_core (x k idx : Nat) (w : World) (hx0 : ((x : Int) == 0) = false)
    (key : IntKind.u64.wrap (bits BinOp.and IntKind.u64 (x : Int) (IntKind.u64.wrap (-(x : Int))) * 285870213051353865) / 288230376151711744 = (idx : Int))
    (hi : idx < 64) (hk : k < 64) (hcell : w.cell? ⟨0, idx, none⟩ = some (.int .u8 k)) :
    Calls Tryd.prog 57 #[.int .u64 x] w fun e w' => e = .returned (.int .i64 k) ∧ w' = w := by
  go_enter Tryd.func57, Tryd.ntmps57
  go_wp2_with (simp only [key])
  go_ret
  exact ⟨rfl, rfl⟩

theorem tzP (x : Nat) (w : World) (hx : x < 18446744073709551616) (hx0 : x ≠ 0) (hG : Gv w) :
    Calls Tryd.prog 57 #[.int .u64 (x : Int)] w fun e w' => e = .returned (.int .i64 (bhd x : Int)) ∧ w' = w := by
  obtain ⟨hlow, hk⟩ := Lib.lowest_bit 64 x hx0 hx
  obtain ⟨hi, htab⟩ := Lib.deBruijn64_at _ hk
  have hcell := hG.tab _ hi
  rw [htab] at hcell
  exact tz_core x _ _ w (by simpa using hx0) (tz_key x _ hx hx0 hlow) hi hk hcell

theorem len_uniq {x r s : Nat} (h0 : 0 < x) (h : Q.IsLen x r) (k : Q.IsLen x s) : r = s := by
  obtain ⟨h1, h2, _⟩ := h
  obtain ⟨k1, k2, _⟩ := k
  · obtain ⟨h3, h4⟩ := h2 h0
    obtain ⟨k3, k4⟩ := k2 h0
    rcases Nat.lt_trichotomy r s with hh | hh | hh
    · have : 2 ^ r ≤ 2 ^ (s - 1) := Nat.pow_le_pow_right (by omega) (by omega)
      omega
    · exact hh
    · have : 2 ^ s ≤ 2 ^ (r - 1) := Nat.pow_le_pow_right (by omega) (by omega)
      omega

theorem lzP (x : Nat) (w : World) (hx : x < 18446744073709551616) (hx0 : 0 < x) :
    Calls Tryd.prog 85 #[.int .u64 (x : Int)] w fun e w' => e = .returned (.int .i64 (ahd x : Int)) ∧ w' = w := by
  have hb := blen_lt 64 x (by omega)
  go_enter Tryd.func85, Tryd.ntmps85
  go_wp2_with fail
  refine (Q.len64_any (x : Int) w (by omega) (by omega)).mono ?_
  rintro e w' ⟨⟨r, rfl, hr⟩, rfl⟩
  rw [Int.toNat_natCast] at hr
  have hrr : r = blen 64 x := len_uniq hx0 hr ⟨hb.1, hb.2.1, hb.2.2⟩
  have h64 := hr.2.2
  clear hr hb
  have hah := hidden (show ahd x = 64 - r by unfold ahd; rw [hrr])
  clear hrr
  have hz : (64 : Int) - (r : Int) = ((64 - r : Nat) : Int) := by omega
  go_wp2
  go_ret
  rw [hah.out]
  exact ⟨by first | rfl | simp | (simp; omega), by first | trivial | rfl⟩

theorem spanP (x : Nat) (w : World) (hx : x < 18446744073709551616) (hx0 : 0 < x) (hG : Gv w) :
    Calls Tryd.prog 77 #[.int .u64 (x : Int)] w fun e w' => e = .returned (.tuple #[.int .i64 (ahd x : Int), .int .i64 (siz x : Int)]) ∧ w' = w := by
  have ha := lzP x w hx hx0
  have ht := tzP x w hx (by omega) hG
  have hs := (span_lt hx hx0).2.2.2.2
  unfold siz at hs ⊢
  have HA := hidden ha
  have HT := hidden ht
  clear ha ht hG
  generalize ahd x = a at *
  generalize bhd x = b at *
  go_enter Tryd.func77, Tryd.ntmps77
  go_wp2_with fail
  refine HA.out.mono ?_
  rintro e w' ⟨rfl, rfl⟩
  go_wp2_with fail
  refine HT.out.mono ?_
  rintro e w' ⟨rfl, rfl⟩
  go_wp2
  go_ret2
  exact ⟨by simp; omega, by first | trivial | rfl⟩

end Go.Proofs.YtlppibigceeimaaDoor
