import Derived.Test.YtjpelnbffodaiaaNumA
namespace Go.Proofs.Ytjpelnbffodaiaa
open Go.RowKit
set_option linter.unusedVariables false

theorem u8_and127 (c : Int) (h0 : 0 ≤ c) (h1 : c ≤ 255) : bits .and .u8 c 127 = c % 128 :=
  bits_mask .u8 8 (by decide) wraps_u8 7 (by decide) c h0 (by omega)
theorem u8_and128 (c : Int) (h0 : 128 ≤ c) (h1 : c ≤ 255) : bits .and .u8 c 128 = 128 := by
  rw [u8_and c 128 (by omega) (by omega) (by decide) (by decide)]
  have : c.toNat &&& (128 : Int).toNat = c.toNat / 2 ^ 7 % 2 * 2 ^ 7 := nat_bit 7 _
  rw [this]
  omega
theorem u8_and128' (c : Int) (h0 : 0 ≤ c) (h1 : c < 128) : bits .and .u8 c 128 = 0 := by
  rw [u8_and c 128 (by omega) (by omega) (by decide) (by decide)]
  have : c.toNat &&& (128 : Int).toNat = c.toNat / 2 ^ 7 % 2 * 2 ^ 7 := nat_bit 7 _
  rw [this]
  omega

theorem acc_bound (acc k d : Nat) (hacc : acc < 128 ^ k) (hd : d < 128) (hk : k < 9 ∨ k = 9 ∧ d ≤ 1) : acc + d * 128 ^ k < 128 ^ (k + 1) ∧ acc + d * 128 ^ k < 18446744073709551616 := by
  have hp : 0 < 128 ^ k := Nat.pow_pos (by omega)
  have e : 128 ^ (k + 1) = 128 * 128 ^ k := by rw [Nat.pow_succ, Nat.mul_comm]
  have h2 : (d + 1) * 128 ^ k ≤ 128 * 128 ^ k := Nat.mul_le_mul_right _ (by omega)
  rw [Nat.add_mul] at h2
  refine ⟨by omega, ?_⟩
  rcases hk with h | ⟨rfl, h⟩
  · have h3 : 128 ^ (k + 1) ≤ 128 ^ 9 := Nat.pow_le_pow_right (by omega) (by omega)
    omega
  · have : d * 128 ^ 9 ≤ 1 * 128 ^ 9 := Nat.mul_le_mul_right _ h
    omega

theorem or_acc (acc k : Nat) (c : Int) (h0 : 0 ≤ c) (hacc : acc < 128 ^ k) (hk : k < 9 ∨ k = 9 ∧ c ≤ 1) :
    bits .or .u64 (acc : Int) (IntKind.u64.wrap (c % 128 * 2 ^ (7 * k))) = ((acc + c.toNat % 128 * 128 ^ k : Nat) : Int) := by
  have hb := acc_bound acc k (c.toNat % 128) hacc (by omega) (by omega)
  have e1 : c % 128 * 2 ^ (7 * k) = ((c.toNat % 128 * 128 ^ k : Nat) : Int) := by
    rw [Int.natCast_mul, pow128]
    have : ((c.toNat % 128 : Nat) : Int) = c % 128 := by omega
    rw [this]
    simp
  rw [e1, IntKind.wrap_u64, Int.emod_eq_of_lt (by omega) (by omega), u64_or_nat _ _ (by omega) (by omega), Nat.or_comm, nat_join (7 * k) _ _ ?_ (by rw [← pow128]; exact hacc), Nat.add_comm]
  rw [← pow128]
  exact Nat.mul_mod_left _ _

theorem or_acc9 (acc : Nat) (c : Int) (h0 : 0 ≤ c) (h1 : c ≤ 1) (hacc : acc < 128 ^ 9) :
    bits .or .u64 (acc : Int) (c % 128 * 9223372036854775808) = ((acc + c.toNat % 128 * 128 ^ 9 : Nat) : Int) := by
  have e := or_acc acc 9 c h0 hacc (.inr ⟨rfl, h1⟩)
  have e2 : IntKind.u64.wrap (c % 128 * 2 ^ (7 * 9)) = c % 128 * 9223372036854775808 := by
    rw [IntKind.wrap_u64]
    omega
  rw [e2] at e
  exact e

theorem drop_getD (l : List Int) (k : Nat) (h : k < l.length) : l.drop k = l.getD k 0 :: l.drop (k + 1) := by
  rw [List.drop_eq_getElem_cons h]
  simp [List.getD, h]

theorem dec_more (l : List Int) (k acc : Nat) (h : k < l.length) (c : Int) (hc : l.getD k 0 = c) (hk : k < 9) (hge : 128 ≤ c) :
    decAt (l.drop k) k acc = decAt (l.drop (k + 1)) (k + 1) (acc + c.toNat % 128 * 128 ^ k) := by
  rw [drop_getD l k h, hc, decAt, if_neg (by omega), if_neg (by omega), if_pos hge]
theorem dec_zero (l : List Int) (k acc : Nat) (h : k < l.length) (c : Int) (hc : l.getD k 0 = c) (hk : k < 10) (h0 : c = 0) (hp : 0 < k) : decAt (l.drop k) k acc = (0, 0) := by
  rw [drop_getD l k h, hc, decAt, if_neg (by omega), if_neg (by omega), if_neg (by omega), if_pos ⟨h0, hp⟩]
theorem dec_great (l : List Int) (k acc : Nat) (h : k < l.length) (c : Int) (hc : l.getD k 0 = c) (hk : k = 9) (h0 : 1 < c) : decAt (l.drop k) k acc = (0, 0) := by
  rw [drop_getD l k h, hc, decAt, if_neg (by omega), if_pos ⟨hk, h0⟩]
theorem dec_last (l : List Int) (k acc : Nat) (h : k < l.length) (c : Int) (hc : l.getD k 0 = c) (hk : k < 9 ∨ k = 9 ∧ c ≤ 1) (h0 : c < 128) (hp : c = 0 → k = 0) : decAt (l.drop k) k acc = (acc + c.toNat % 128 * 128 ^ k, k + 1) := by
  rw [drop_getD l k h, hc, decAt, if_neg (by omega), if_neg (by omega), if_neg (by omega), if_neg (by omega)]
theorem dec_out (l : List Int) (k acc : Nat) (h : l.length ≤ k ∨ 10 ≤ k) : decAt (l.drop k) k acc = (0, 0) := by
  by_cases hl : l.length ≤ k
  · rw [List.drop_eq_nil_of_le hl]; rfl
  · rw [drop_getD l k (by omega), decAt, if_pos (by omega)]

theorem ret_ui {a b : Int} {p : Nat × Nat} (x y : Nat) (hp : p = (x, y)) (ha : a = x) (hb : b = y) : Ending.returned (.tuple #[.int .u64 a, .int .i64 b]) = .returned (.tuple #[.int .u64 p.1, .int .i64 p.2]) := by
  rw [hp, ha, hb]

set_option maxHeartbeats 2000000 in
theorem uint_pos (b off len cap : Nat) (l : List Int) (w : World) (hl : l.length = len) (hby : Byte l) (hc : ∀ j, j < len → w.cell? ⟨b, off + j, none⟩ = some (.int .u8 (l.getD j 0))) (hp : 0 < len) (hb : len ≤ 140737488355328) :
    Calls Try.prog 43 #[.slice (some ⟨b, off, none⟩) len cap] w fun e w' => e = .returned (.tuple #[.int .u64 (dec l).1, .int .i64 (dec l).2]) ∧ w' = w := by
  have hsplit : ∃ m : Nat, m ≤ len ∧ m ≤ 10 ∧ ((len ≤ 10 ∧ m = len) ∨ (10 < len ∧ m = 10)) := by
    by_cases h : len ≤ 10
    · exact ⟨len, by omega, by omega, .inl ⟨h, rfl⟩⟩
    · exact ⟨10, by omega, by omega, .inr ⟨by omega, rfl⟩⟩
  obtain ⟨m, hm1, hm2, hm3⟩ := hsplit
  rcases hm3 with ⟨hm4, hm5⟩ | ⟨hm4, hm5⟩
  all_goals
    have hm6 : m ≤ len ∧ len ≤ m ∨ m ≤ 10 ∧ 10 ≤ m := by omega
    clear hm5
    have HC : Hid (∀ j, j < len → w.cell? ⟨b, off + j, none⟩ = some (.int .u8 (l.getD j 0))) := hc
    clear hc
    go_enter Try.func43, Try.ntmps43
    go_wp2_with fail
    go_loop [4, 9] (fun n i => ∃ k acc : Nat, k ≤ m ∧ i = .int .i64 k ∧ n = .int .u64 acc ∧ acc < 128 ^ k ∧ acc ≤ 18446744073709551615 ∧ dec l = decAt (l.drop k) k acc) (fun _ i => m - (intOf i).toNat)
    case atStart => exact ⟨0, 0, Nat.zero_le _, rfl, rfl, by simp, by omega, rfl⟩
    case round =>
      obtain ⟨k, acc, hk, rfl, rfl, hacc, hacc2, hdec⟩ := hrel
      have HD : Hid (dec l = decAt (l.drop k) k acc) := hdec
      have HA : Hid (acc < 128 ^ k) := hacc
      clear hdec hacc
      by_cases hlt : k < m
      · have hck := HC.out k (by omega)
        have hcb := hby.at k
        obtain ⟨c, hcc⟩ : ∃ c, l.getD k 0 = c := ⟨_, rfl⟩
        rw [hcc] at hck hcb
        have HK : Hid (l.getD k 0 = c) := hcc
        clear hcc
        have ha127 : bits .and .u8 c 127 = c % 128 := u8_and127 c hcb.1 hcb.2
        by_cases h9 : k < 9
        · have hor := or_acc acc k c hcb.1 HA.out (.inl h9)
          have hbd := acc_bound acc k (c.toNat % 128) HA.out (by omega) (.inl h9)
          have HB : Hid (acc + c.toNat % 128 * 128 ^ k < 128 ^ (k + 1) ∧ acc + c.toNat % 128 * 128 ^ k < 18446744073709551616) := hbd
          clear hbd
          generalize hnew : acc + c.toNat % 128 * 128 ^ k = new at *
          have HW : Hid (acc + c.toNat % 128 * 128 ^ k = new) := hnew
          clear hnew
          by_cases hge : 128 ≤ c
          · have ha128 : bits .and .u8 c 128 = 128 := u8_and128 c hge hcb.2
            go_wp2
            go_round
            case rel => exact ⟨k + 1, new, by omega, by go_num, rfl, HB.out.1, by have := HB.out.2; omega, by rw [HD.out, dec_more l k acc (by omega) c HK.out h9 hge, HW.out]⟩
            case measure => simp [intOf]; omega
          · have ha128 : bits .and .u8 c 128 = 0 := u8_and128' c hcb.1 (by omega)
            go_wp2
            all_goals go_ret2
            · exact ⟨ret_ui 0 0 (by rw [HD.out]; exact dec_zero l k acc (by omega) c HK.out (by omega) (by assumption) (by assumption)) rfl rfl, rfl⟩
            · exact ⟨ret_ui new (k + 1) (by rw [HD.out, dec_last l k acc (by omega) c HK.out (.inl h9) (by omega) (by omega), HW.out]) rfl (by go_num), rfl⟩
            · exact ⟨ret_ui new (k + 1) (by rw [HD.out, dec_last l k acc (by omega) c HK.out (.inl h9) (by omega) (by omega), HW.out]) rfl (by go_num), rfl⟩
        · obtain rfl : k = 9 := by omega
          by_cases h1c : 1 < c
          · go_wp2
            go_ret2
            exact ⟨ret_ui 0 0 (by rw [HD.out]; exact dec_great l 9 acc (by omega) c HK.out rfl h1c) rfl rfl, rfl⟩
          · have ha128 : bits .and .u8 c 128 = 0 := u8_and128' c hcb.1 (by omega)
            have hor := or_acc9 acc c hcb.1 (by omega) HA.out
            have HO : Hid (bits .or .u64 (acc : Int) (c % 128 * 9223372036854775808) = ((acc + c.toNat % 128 * 128 ^ 9 : Nat) : Int)) := hor
            clear hor
            go_wp2
            all_goals go_ret2
            · exact ⟨ret_ui 0 0 (by rw [HD.out]; exact dec_zero l 9 acc (by omega) c HK.out (by omega) (by assumption) (by omega)) rfl rfl, rfl⟩
            · exact ⟨ret_ui _ 10 (by rw [HD.out, dec_last l 9 acc (by omega) c HK.out (.inr ⟨rfl, by omega⟩) (by omega) (by omega)]) HO.out rfl, rfl⟩
      · go_wp2
        go_ret2
        exact ⟨ret_ui 0 0 (by rw [HD.out]; exact dec_out l k acc (by omega)) rfl rfl, rfl⟩

set_option maxHeartbeats 400000 in
theorem uint_any (ad : Option Addr) (len cap : Nat) (l : List Int) (w : World) (hs : Sl w ad len l) (hb : len ≤ 140737488355328) :
    Calls Try.prog 43 #[.slice ad len cap] w fun e w' => e = .returned (.tuple #[.int .u64 (dec l).1, .int .i64 (dec l).2]) ∧ w' = w := by
  by_cases hp : 0 < len
  · obtain ⟨b, off, rfl, _, hc⟩ := hs.at hp
    exact uint_pos b off len cap l w hs.len hs.byte hc hp hb
  · obtain rfl : len = 0 := by omega
    have hl : l = [] := List.eq_nil_of_length_eq_zero hs.len
    subst hl
    clear hs
    go_enter Try.func43, Try.ntmps43
    go_wp2_with fail
    refine wp_loop_rounds 1 ?_
    rw [rounds_succ]
    go_wp2
    go_ret2
    exact ⟨ret_ui 0 0 rfl rfl rfl, rfl⟩

end Go.Proofs.Ytjpelnbffodaiaa
