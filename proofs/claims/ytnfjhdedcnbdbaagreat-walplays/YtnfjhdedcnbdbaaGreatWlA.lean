import Derived.Test.YtnfjhdedcnbdbaaGreatFrA
import Derived.Test.YtnfjhdedcnbdbaaGreatWlM
import Derived.Lib.AppendStr
/-
  The head of a log file: may it be, its numbers.
-/
namespace Go.Proofs.YtnfjhdedcnbdbaaGreat
open Go.RowKit
set_option linter.unusedVariables false
set_option linter.unusedSimpArgs false

set_option maxRecDepth 100000 in
theorem allowedP (g : Nat) (cap slots : Int) (w : World) (hg : g < 18446744073709551616) : Calls Tryz.prog 41 #[.agg #[.int .u64 (g : Int), .int .i64 cap, .int .i64 slots]] w fun e w' => e = .returned (.bool (okH g cap slots)) ∧ Below w.heap.size w w' := by
  have hq : Hid (okH g cap slots = decide (0 < (g : Int) ∧ 1024 ≤ cap ∧ cap ≤ 4194304 ∧ 1 ≤ slots ∧ slots ≤ 65536)) := rfl
  obtain ⟨q, hqq⟩ : ∃ q, okH g cap slots = q := ⟨_, rfl⟩
  rw [hqq] at hq ⊢
  clear hqq
  by_cases h1 : 0 < (g : Int)
  · by_cases h2 : 1024 ≤ cap
    · by_cases h3 : cap ≤ 4194304
      · by_cases h4 : 1 ≤ slots
        · by_cases h5 : slots ≤ 65536
          · have hb : q = true := by rw [hq.out]; exact decide_eq_true ⟨h1, h2, h3, h4, h5⟩
            subst hb
            go_enter Tryz.func41, Tryz.ntmps41
            go_wp2_with (refine wpList_box_blk rfl 66 (.tmp 0) rfl [.int .u64 (g : Int), .int .i64 cap, .int .i64 slots] rfl ?_; intro w2 B2 bl2 hz2; have c0 := B2.cell 0; have c1 := B2.cell 1; have c2 := B2.cell 2; have HB := hidden bl2; clear B2 bl2 hz2; simp only [List.getElem?_cons_succ, List.getElem?_cons_zero] at c0 c1 c2)
            go_ret
            exact ⟨rfl, HB.out⟩
          · have hb : q = false := by rw [hq.out]; exact decide_eq_false (fun h => h5 h.2.2.2.2)
            subst hb
            go_enter Tryz.func41, Tryz.ntmps41
            go_wp2_with (refine wpList_box_blk rfl 66 (.tmp 0) rfl [.int .u64 (g : Int), .int .i64 cap, .int .i64 slots] rfl ?_; intro w2 B2 bl2 hz2; have c0 := B2.cell 0; have c1 := B2.cell 1; have c2 := B2.cell 2; have HB := hidden bl2; clear B2 bl2 hz2; simp only [List.getElem?_cons_succ, List.getElem?_cons_zero] at c0 c1 c2)
            go_ret
            exact ⟨rfl, HB.out⟩
        · have hb : q = false := by rw [hq.out]; exact decide_eq_false (fun h => h4 h.2.2.2.1)
          subst hb
          go_enter Tryz.func41, Tryz.ntmps41
          go_wp2_with (refine wpList_box_blk rfl 66 (.tmp 0) rfl [.int .u64 (g : Int), .int .i64 cap, .int .i64 slots] rfl ?_; intro w2 B2 bl2 hz2; have c0 := B2.cell 0; have c1 := B2.cell 1; have c2 := B2.cell 2; have HB := hidden bl2; clear B2 bl2 hz2; simp only [List.getElem?_cons_succ, List.getElem?_cons_zero] at c0 c1 c2)
          go_ret
          exact ⟨rfl, HB.out⟩
      · have hb : q = false := by rw [hq.out]; exact decide_eq_false (fun h => h3 h.2.2.1)
        subst hb
        go_enter Tryz.func41, Tryz.ntmps41
        go_wp2_with (refine wpList_box_blk rfl 66 (.tmp 0) rfl [.int .u64 (g : Int), .int .i64 cap, .int .i64 slots] rfl ?_; intro w2 B2 bl2 hz2; have c0 := B2.cell 0; have c1 := B2.cell 1; have c2 := B2.cell 2; have HB := hidden bl2; clear B2 bl2 hz2; simp only [List.getElem?_cons_succ, List.getElem?_cons_zero] at c0 c1 c2)
        go_ret
        exact ⟨rfl, HB.out⟩
    · have hb : q = false := by rw [hq.out]; exact decide_eq_false (fun h => h2 h.2.1)
      subst hb
      go_enter Tryz.func41, Tryz.ntmps41
      go_wp2_with (refine wpList_box_blk rfl 66 (.tmp 0) rfl [.int .u64 (g : Int), .int .i64 cap, .int .i64 slots] rfl ?_; intro w2 B2 bl2 hz2; have c0 := B2.cell 0; have c1 := B2.cell 1; have c2 := B2.cell 2; have HB := hidden bl2; clear B2 bl2 hz2; simp only [List.getElem?_cons_succ, List.getElem?_cons_zero] at c0 c1 c2)
      go_ret
      exact ⟨rfl, HB.out⟩
  · have hb : q = false := by rw [hq.out]; exact decide_eq_false (fun h => h1 h.1)
    subst hb
    go_enter Tryz.func41, Tryz.ntmps41
    go_wp2_with (refine wpList_box_blk rfl 66 (.tmp 0) rfl [.int .u64 (g : Int), .int .i64 cap, .int .i64 slots] rfl ?_; intro w2 B2 bl2 hz2; have c0 := B2.cell 0; have c1 := B2.cell 1; have c2 := B2.cell 2; have HB := hidden bl2; clear B2 bl2 hz2; simp only [List.getElem?_cons_succ, List.getElem?_cons_zero] at c0 c1 c2)
    go_ret
    exact ⟨rfl, HB.out⟩

end Go.Proofs.YtnfjhdedcnbdbaaGreat

/-
  Numbers in bytes, the lowest first.
-/
namespace Go.Proofs.YtnfjhdedcnbdbaaGreat
open Go.RowKit
set_option linter.unusedVariables false
set_option linter.unusedSimpArgs false

theorem or64 (a b k : Nat) (ha : a < 2 ^ k) (hb : b * 2 ^ k < 18446744073709551616) (hk : k < 64) : bits .or .u64 (a : Int) ((b : Int) * ((2 ^ k : Nat) : Int)) = ((a + 2 ^ k * b : Nat) : Int) := by
  have h := u64_or_nat a (b * 2 ^ k) (Nat.lt_of_lt_of_le ha (by have := Nat.pow_le_pow_right (n := 2) (by decide) (Nat.le_of_lt hk); omega)) hb
  rw [Int.natCast_mul] at h
  refine h.trans ?_
  rw [Nat.or_comm, Nat.mul_comm, ← Nat.two_pow_add_eq_or_of_lt ha, Nat.add_comm]
theorem wrapU64 (z : Int) (h0 : 0 ≤ z) (h1 : z < 18446744073709551616) : IntKind.u64.wrap z = z := by
  rw [IntKind.wrap_u64]
  omega
theorem pow8 (i : Nat) : (2 : Nat) ^ (8 * i) = 256 ^ i := by rw [Nat.pow_mul]
theorem or_step (l : List Int) (i : Nat) (hb : Byte l) (hi : i < l.length) (h8 : i < 8) : bits .or .u64 ((num (l.take i) : Nat) : Int) (IntKind.u64.wrap (IntKind.u64.wrap (l[i]?.getD 0) * 2 ^ (8 * i))) = ((num (l.take (i + 1)) : Nat) : Int) := by
  have hx := hb l[i] (List.getElem_mem hi)
  have e1 : l[i]?.getD 0 = l[i] := by simp [hi]
  have e2 : l.take (i + 1) = l.take i ++ [l[i]] := by rw [List.take_add_one]; simp [hi]
  obtain ⟨x, hx'⟩ : ∃ x : Nat, l[i] = x := ⟨l[i].toNat, by omega⟩
  have hlt : num (l.take i) < 2 ^ (8 * i) := by
    have := num_lt (l.take i) (fun z hz => hb z (List.mem_of_mem_take hz))
    rw [List.length_take, Nat.min_eq_left (by omega), ← pow8] at this
    exact this
  have hp : (2 : Nat) ^ (8 * i) ≤ 2 ^ 56 := Nat.pow_le_pow_right (by decide) (by omega)
  have hm : x * 2 ^ (8 * i) ≤ 255 * 2 ^ 56 := Nat.mul_le_mul (by omega) hp
  rw [e1, e2, hx', num_snoc, List.length_take, Nat.min_eq_left (by omega), ← pow8]
  have w1 : IntKind.u64.wrap (x : Int) = (x : Int) := wrapU64 _ (by omega) (by omega)
  have e3 : ((x : Int) * 2 ^ (8 * i)) = ((x * 2 ^ (8 * i) : Nat) : Int) := by simp
  have w2 : IntKind.u64.wrap ((x * 2 ^ (8 * i) : Nat) : Int) = ((x * 2 ^ (8 * i) : Nat) : Int) := wrapU64 _ (by omega) (by omega)
  rw [w1, e3, w2, Int.natCast_mul]
  rw [or64 _ x (8 * i) hlt (by omega) (by omega)]
  simp

set_option maxRecDepth 100000 in
theorem numberP (ad : Option Addr) (n c : Nat) (l : List Int) (w : World) (hs : Sl w ad n l) (hn : n ≤ 8) : Calls Tryz.prog 100 #[.slice ad n c] w fun e w' => e = .returned (.int .u64 (num l : Nat)) ∧ w' = w := by
  have HS := hidden hs
  have hl := hidden hs.len
  clear hs
  go_enter Tryz.func100, Tryz.ntmps100
  go_wp2_with fail
  go_loopw [3, 4, 5, 8] (fun v3 v4 v5 v8 wr => ∃ i : Nat, v8 = .int .i64 (i : Int) ∧ i ≤ n ∧ v3 = .int .u64 ((num (l.take i) : Nat) : Int) ∧ wr = w)
    (fun v3 v4 v5 v8 _ => match v8 with | .int _ k => n - k.toNat | _ => 0)
  case atStart => exact ⟨0, rfl, Nat.zero_le _, by simp [num], rfl⟩
  case round =>
    obtain ⟨i, rfl, hi, rfl, rfl⟩ := hrel
    by_cases hin : i < n
    · have hin' : (i : Int) < (n : Int) := by omega
      obtain ⟨b, off, rfl, _, hcell⟩ := HS.out.at (by omega)
      have hc := hcell i hin
      clear hcell
      have HO := hidden (or_step l i HS.out.byte (by rw [hl.out]; exact hin) (by omega))
      go_wp2_with fail
      refine ⟨⟨i + 1, by simp, hin, by rw [HO.out], trivial⟩, ?_⟩
      simp only []
      omega
    · have hin' : ¬ (i : Int) < (n : Int) := by omega
      go_wp2_with fail
      go_ret
      have e : l.take i = l := List.take_of_length_le (by rw [hl.out]; omega)
      rw [e]
      exact ⟨rfl, rfl⟩

end Go.Proofs.YtnfjhdedcnbdbaaGreat
