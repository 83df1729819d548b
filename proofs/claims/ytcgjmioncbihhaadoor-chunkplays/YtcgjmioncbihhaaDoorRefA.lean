import Derived.Test.YtcgjmioncbihhaaDoorNumF
import Derived.Test.YtcgjmioncbihhaaDoorRowB
namespace Go.Proofs.YtcgjmioncbihhaaDoor.Q
open Go.RowKit
set_option linter.unusedVariables false

theorem sum_acc (acc k : Nat) (c : Int) (h0 : 0 ≤ c) (hacc : acc < 128 ^ k) (hk : k < 9 ∨ k = 9 ∧ c ≤ 1) :
    IntKind.u64.wrap ((acc : Int) + IntKind.u64.wrap (c % 128 * 2 ^ (7 * k))) = ((acc + c.toNat % 128 * 128 ^ k : Nat) : Int) := by
  have hb := acc_bound acc k (c.toNat % 128) hacc (by omega) (by omega)
  have e1 : c % 128 * 2 ^ (7 * k) = ((c.toNat % 128 * 128 ^ k : Nat) : Int) := by
    rw [Int.natCast_mul, pow128]
    have : ((c.toNat % 128 : Nat) : Int) = c % 128 := by omega
    rw [this]
    simp
  rw [e1, IntKind.wrap_u64, IntKind.wrap_u64, Int.emod_eq_of_lt (b := 18446744073709551616) (a := ((c.toNat % 128 * 128 ^ k : Nat) : Int)) (by omega) (by omega), Int.emod_eq_of_lt (by omega) (by omega)]
  omega

theorem sum_acc9 (acc : Nat) (c : Int) (h0 : 0 ≤ c) (h1 : c ≤ 1) (hacc : acc < 128 ^ 9) :
    IntKind.u64.wrap ((acc : Int) + c % 128 * 9223372036854775808) = ((acc + c.toNat % 128 * 128 ^ 9 : Nat) : Int) := by
  have e := sum_acc acc 9 c h0 hacc (.inr ⟨rfl, h1⟩)
  have e2 : IntKind.u64.wrap (c % 128 * 2 ^ (7 * 9)) = c % 128 * 9223372036854775808 := by
    rw [IntKind.wrap_u64]
    omega
  rw [e2] at e
  exact e

set_option maxHeartbeats 2000000 in
theorem refUint_pos (b off len cap : Nat) (l : List Int) (w : World) (hl : l.length = len) (hby : Byte l) (hc : ∀ j, j < len → w.cell? ⟨b, off + j, none⟩ = some (.int .u8 (l.getD j 0))) (hp : 0 < len) (hb : len ≤ 140737488355328) :
    Calls Tryd.prog 27 #[.slice (some ⟨b, off, none⟩) len cap] w fun e w' => e = .returned (.tuple #[.int .u64 (dec l).1, .int .i64 (dec l).2]) ∧ w' = w := by
  have HC := hidden hc
  clear hc
  go_enter Tryd.func27, Tryd.ntmps27
  go_wp2_with fail
  go_loop [4, 5] (fun n i => ∃ k acc : Nat, k ≤ len ∧ k ≤ 10 ∧ i = .int .i64 k ∧ n = .int .u64 acc ∧ acc < 128 ^ k ∧ acc ≤ 18446744073709551615 ∧ dec l = decAt (l.drop k) k acc) (fun _ i => 10 - (intOf i).toNat)
  case atStart => exact ⟨0, 0, Nat.zero_le _, Nat.zero_le _, rfl, rfl, by simp, by omega, rfl⟩
  case round =>
    obtain ⟨k, acc, hk, hk2, rfl, rfl, hacc, hacc2, hdec⟩ := hrel
    have HD := hidden hdec
    have HA := hidden hacc
    clear hdec hacc
    by_cases hlt : k < len
    · by_cases hlt2 : k < 10
      · have hck := HC.out k (by omega)
        have hcb := hby.at k
        obtain ⟨c, hcc⟩ : ∃ c, l.getD k 0 = c := ⟨_, rfl⟩
        rw [hcc] at hck hcb
        have HK := hidden hcc
        clear hcc
        by_cases h9 : k < 9
        · have hor := sum_acc acc k c hcb.1 HA.out (.inl h9)
          have hbd := acc_bound acc k (c.toNat % 128) HA.out (by omega) (.inl h9)
          have HB := hidden hbd
          clear hbd
          generalize hnew : acc + c.toNat % 128 * 128 ^ k = new at *
          have HW := hidden hnew
          clear hnew
          go_wp2
          · go_round
            case rel => exact ⟨k + 1, new, by omega, by omega, by go_num, rfl, HB.out.1, by have := HB.out.2; omega, by rw [HD.out, dec_more l k acc (by omega) c HK.out h9 (by assumption), HW.out]⟩
            case measure => simp [intOf]; omega
          · go_ret2
            exact ⟨ret_ui 0 0 (by rw [HD.out]; exact dec_zero l k acc (by omega) c HK.out (by omega) (by assumption) (by assumption)) rfl rfl, rfl⟩
          · go_ret2
            exact ⟨ret_ui new (k + 1) (by rw [HD.out, dec_last l k acc (by omega) c HK.out (.inl h9) (by omega) (by omega), HW.out]) rfl (by go_num), rfl⟩
          · go_ret2
            exact ⟨ret_ui new (k + 1) (by rw [HD.out, dec_last l k acc (by omega) c HK.out (.inl h9) (by omega) (by omega), HW.out]) rfl (by go_num), rfl⟩
        · obtain rfl : k = 9 := by omega
          go_wp2
          · go_ret2
            exact ⟨ret_ui 0 0 (by rw [HD.out]; exact dec_great l 9 acc (by omega) c HK.out rfl (by assumption)) rfl rfl, rfl⟩
          · go_ret2
            exact ⟨ret_ui 0 0 (by rw [HD.out]; exact dec_zero l 9 acc (by omega) c HK.out (by omega) (by assumption) (by omega)) rfl rfl, rfl⟩
          · go_ret2
            exact ⟨ret_ui _ 10 (by rw [HD.out, dec_last l 9 acc (by omega) c HK.out (.inr ⟨rfl, by omega⟩) (by omega) (by omega)]) (sum_acc9 acc c hcb.1 (by omega) HA.out) rfl, rfl⟩
      · go_wp2
        go_ret2
        exact ⟨ret_ui 0 0 (by rw [HD.out]; exact dec_out l k acc (by omega)) rfl rfl, rfl⟩
    · go_wp2
      all_goals go_ret2
      all_goals exact ⟨ret_ui 0 0 (by rw [HD.out]; exact dec_out l k acc (by omega)) rfl rfl, rfl⟩

set_option maxHeartbeats 400000 in
theorem refUint_any (ad : Option Addr) (len cap : Nat) (l : List Int) (w : World) (hs : Sl w ad len l) (hb : len ≤ 140737488355328) :
    Calls Tryd.prog 27 #[.slice ad len cap] w fun e w' => e = .returned (.tuple #[.int .u64 (dec l).1, .int .i64 (dec l).2]) ∧ w' = w := by
  by_cases hp : 0 < len
  · obtain ⟨b, off, rfl, _, hc⟩ := hs.at hp
    exact refUint_pos b off len cap l w hs.len hs.byte hc hp hb
  · obtain rfl : len = 0 := by omega
    have hl : l = [] := List.eq_nil_of_length_eq_zero hs.len
    subst hl
    clear hs
    go_enter Tryd.func27, Tryd.ntmps27
    go_wp2_with fail
    refine wp_loop_rounds 1 ?_
    rw [rounds_succ]
    go_wp2
    go_ret2
    exact ⟨ret_ui 0 0 rfl rfl rfl, rfl⟩

theorem ret_ii {a b c d : Int} (ha : a = c) (hb : b = d) : Ending.returned (.tuple #[.int .i64 a, .int .i64 b]) = .returned (.tuple #[.int .i64 c, .int .i64 d]) := by
  rw [ha, hb]

theorem dec_none (l : List Int) (hb : Byte l) (h : (dec l).2 = 0) : (dec l).1 = 0 := by
  have key : ∀ (l : List Int) (i n : Nat), (decAt l i n).2 = 0 → (decAt l i n).1 = 0 := by
    intro l
    induction l with
    | nil => intro i n _; rfl
    | cons c t ih =>
      intro i n h
      rw [decAt] at h ⊢
      split at h
      · rename_i h1; rw [if_pos h1]
      · rename_i h1; rw [if_neg h1]
        split at h
        · rename_i h2; rw [if_pos h2]
        · rename_i h2; rw [if_neg h2]
          split at h
          · rename_i h3; rw [if_pos h3]; exact ih _ _ h
          · rename_i h3; rw [if_neg h3]
            split at h
            · rename_i h4; rw [if_pos h4]
            · simp at h
  exact key l 0 0 h

end Go.Proofs.YtcgjmioncbihhaaDoor.Q
