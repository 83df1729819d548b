import Derived.Test.YtcgjmioncbihhaaDoorNumB
namespace Go.Proofs.YtcgjmioncbihhaaDoor.Q
open Go.RowKit
set_option linter.unusedVariables false

theorem u64_goOn (x : Nat) (h : x ≤ 18446744073709551615) : bits .or .u64 (bits .and .u64 (x : Int) 127) 128 = ((x % 128 + 128 : Nat) : Int) := by
  have e1 : bits .and .u64 (x : Int) 127 = ((x &&& 127 : Nat) : Int) := u64_and_nat x 127 (by omega) (by decide)
  have e2 : x &&& 127 = x % 128 := Nat.and_two_pow_sub_one_eq_mod x 7
  have e3 : bits .or .u64 ((x % 128 : Nat) : Int) 128 = ((x % 128 ||| 128 : Nat) : Int) := u64_or_nat (x % 128) 128 (by omega) (by decide)
  have e4 : x % 128 ||| 128 = 128 + x % 128 := by rw [Nat.or_comm]; exact nat_join 7 128 _ (by decide) (by omega)
  rw [e1, e2, e3, e4, Nat.add_comm]

theorem enc_byte (n : Nat) (h : n < 18446744073709551616) : Byte (enc n) := by
  intro c hc
  rw [enc_pre, List.mem_append] at hc
  rcases hc with h1 | h1
  · have := pre_byte _ _ _ h1; omega
  · have := last_lt n h
    obtain ⟨q, hq⟩ : ∃ q, q = n / 128 ^ grp n := ⟨_, rfl⟩
    rw [← hq] at this h1
    simp at h1
    omega

set_option maxHeartbeats 1000000 in
theorem appendUint_any (B g n0 cap N : Nat) (l : List Int) (w : World) (hown : w.ownsRow B 5 1 (.slice (some ⟨g, 0, none⟩) n0 cap) n0 (cells8 l)) (hB : B ≤ w.heap.size)
    (h1 : N ≤ 18446744073709551615) (hroom : n0 + grp N + 1 ≤ cap) :
    Calls Tryd.prog 56 #[.slice (some ⟨g, 0, none⟩) n0 cap, .int .u64 N] w fun e w' => e = .returned (.slice (some ⟨g, 0, none⟩) (n0 + grp N + 1) cap) ∧
      w'.ownsRow B 5 1 (.slice (some ⟨g, 0, none⟩) (n0 + grp N + 1) cap) (n0 + grp N + 1) (cells8 (l ++ enc N)) ∧ Below B w w' := by
  obtain ⟨i0, hi, hz0, hz1, hz2⟩ := info_parts info5
  have hg := grp_le N
  obtain ⟨G, hG⟩ : ∃ G, G = grp N := ⟨_, rfl⟩
  rw [← hG] at hg hroom ⊢
  have hgB : B ≤ g := (hown.lt g rfl).1
  go_enter Tryd.func56, Tryd.ntmps56
  go_wp2_with fail
  refine (uintSize_any _ _ (by omega) (by omega)).mono ?_
  rintro e w' ⟨rfl, rfl⟩
  rw [Int.toNat_natCast, ← hG]
  have HG : Hid (G = grp N) := hG
  clear hG
  go_wp2_with fail
  go_loopw [0, 1, 8] (fun v x i wr => ∃ k : Nat, k ≤ G ∧ i = .int .i64 k ∧ x = .int .u64 ((N / 128 ^ k : Nat) : Int) ∧ v = .slice (some ⟨g, 0, none⟩) (n0 + k) cap ∧
      wr.ownsRow B 5 1 (.slice (some ⟨g, 0, none⟩) (n0 + k) cap) (n0 + k) (cells8 (l ++ pre k N)) ∧ Below B w' wr) (fun _ _ i _ => G - (intOf i).toNat)
  case atStart => exact ⟨0, Nat.zero_le _, rfl, by simp, rfl, by simpa [pre] using hown, Below.refl _ _⟩
  case round =>
    obtain ⟨k, hk, rfl, rfl, rfl, hownr, hbr⟩ := hrel
    have hq : N / 128 ^ k ≤ 18446744073709551615 := Nat.le_trans (Nat.div_le_self _ _) h1
    have hbyte := u64_goOn (N / 128 ^ k) hq
    have hpre : pre (k + 1) N = pre k N ++ [((N / 128 ^ k % 128 + 128 : Nat) : Int)] := rfl
    have hnext : N / 128 ^ k / 128 = N / 128 ^ (k + 1) := by rw [Nat.div_div_eq_div_mul, Nat.pow_succ]
    have HP : Hid (pre (k + 1) N = pre k N ++ [((N / 128 ^ k % 128 + 128 : Nat) : Int)]) := hpre
    have HN : Hid (N / 128 ^ k / 128 = N / 128 ^ (k + 1)) := hnext
    clear hpre hnext
    generalize hx : N / 128 ^ k = x at *
    have HX : Hid (N / 128 ^ k = x) := hx
    clear hx
    by_cases hlt : k < G
    · go_wp2_with (first
        | (at_builtin; refine wpList_append_fits _ rfl _ _ 38 rfl B 5 i0 1 Tryd.underlying38 hi hz1 g (n0 + k) cap _ rfl (hownr.alloc _) ⟨wr.heap.size, 0, none⟩ 1 1 [.int .u8 ((x % 128 + 128 : Nat) : Int)] rfl rfl (cell_one_new _ _ _) (by simp [Value.oneCell']) (by omega) ?_; intro w2 hown2 hgrow2))
      go_roundw
      case rel =>
        refine ⟨k + 1, by omega, by go_num, ?_, rfl, ?_, ?_⟩
        · rw [← HN.out]; go_num
        · rw [HP.out, ← List.append_assoc, cells8_append]; exact hown2
        · exact (hbr.alloc (by have := hbr.size; omega) _).grown hgrow2 (by have := hbr.size; simp; omega) (by intro j hj; cases hj; exact hgB)
      case measure => simp [intOf]; omega
    · obtain rfl : k = G := by omega
      have hlast : x < 128 := by
        have := last_lt N (by omega)
        rw [← HG.out, HX.out] at this
        exact this
      have henc : enc N = pre k N ++ [(x : Int)] := by
        rw [enc_pre, ← HG.out, HX.out]
      have HE : Hid (enc N = pre k N ++ [(x : Int)]) := henc
      clear henc hbyte
      go_wp2_with (first
        | (at_builtin; refine wpList_append_fits _ rfl _ _ 38 rfl B 5 i0 1 Tryd.underlying38 hi hz1 g (n0 + k) cap _ rfl (hownr.alloc _) ⟨wr.heap.size, 0, none⟩ 1 1 [.int .u8 (x : Int)] rfl rfl (cell_one_new _ _ _) (by simp [Value.oneCell']) (by omega) ?_; intro w2 hown2 hgrow2))
      go_ret
      refine ⟨rfl, ?_, ?_⟩
      · rw [HE.out, ← List.append_assoc, cells8_append]; exact hown2
      · exact (hbr.alloc (by have := hbr.size; omega) _).grown hgrow2 (by have := hbr.size; simp; omega) (by intro j hj; cases hj; exact hgB)

end Go.Proofs.YtcgjmioncbihhaaDoor.Q
