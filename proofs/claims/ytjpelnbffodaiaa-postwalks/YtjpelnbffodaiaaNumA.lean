import Derived.Test.YtjpelnbffodaiaaMath
import Derived.Test.YtjpelnbffodaiaaLen
import Derived.Laws.BitsAllLaws
import Derived.Test.YtjpelnbffodaiaaRow
namespace Go.Proofs.Ytjpelnbffodaiaa
open Go.RowKit
set_option linter.unusedVariables false

theorem or_one (n : Nat) : n ||| 1 = n + (1 - n % 2) := by
  rcases (by omega : n % 2 = 0 ∨ n % 2 = 1) with h | h
  · rw [nat_join 1 n 1 (by simpa using h) (by decide)]; omega
  · have e := nat_join 1 (n - 1) 1 (by simp; omega) (by decide)
    have e1 : n = (n - 1) ||| 1 := by rw [e]; omega
    have : n ||| 1 = n := by
      rw [e1, Nat.or_assoc]; simp
    omega

theorem grp_of_len (n r : Nat) (h1 : n < 18446744073709551616) (h : IsLen (n ||| 1) r) : (r + 6) / 7 = grp n + 1 ∧ 1 ≤ r ∧ r ≤ 64 := by
  obtain ⟨a, b, c⟩ := h
  rw [or_one] at a b
  obtain ⟨b1, b2⟩ := b (by omega)
  obtain ⟨k, hk⟩ : ∃ k, k = (r - 1) / 7 := ⟨_, rfl⟩
  have hlo : 128 ^ k ≤ n + (1 - n % 2) := by
    rw [pow128]
    exact Nat.le_trans (Nat.pow_le_pow_right (by omega) (by omega)) b2
  have hhi : n + (1 - n % 2) < 128 ^ (k + 1) := by
    rw [pow128]
    exact Nat.lt_of_lt_of_le a (Nat.pow_le_pow_right (by omega) (by omega))
  have hg : grp n = k := by
    refine grpF_is 9 k n (by omega) ?_ (by omega)
    rcases Nat.eq_zero_or_pos k with h0 | h0
    · exact .inl h0
    · right
      obtain ⟨j, rfl⟩ : ∃ j, k = j + 1 := ⟨k - 1, by omega⟩
      rw [Nat.pow_succ] at hlo ⊢
      omega
  rw [hg]
  exact ⟨by omega, b1, c⟩

set_option maxHeartbeats 400000 in
theorem uintSize_any (n : Int) (w : World) (h0 : 0 ≤ n) (h1 : n ≤ 18446744073709551615) :
    Calls Try.prog 67 #[.int .u64 n] w fun e w' => e = .returned (.int .i64 ((grp n.toNat : Int) + 1)) ∧ w' = w := by
  have hor : bits .or .u64 n 1 = ((n.toNat ||| 1 : Nat) : Int) := u64_or n 1 h0 (by omega) (by decide) (by decide)
  have hb : n.toNat ||| 1 < 2 ^ 64 := Nat.or_lt_two_pow (by omega) (by decide)
  go_enter Try.func67, Try.ntmps67
  go_wp2_with fail
  refine (len64_any _ _ (by omega) (by omega)).mono ?_
  rintro e w' ⟨⟨r, rfl, hr⟩, rfl⟩
  rw [Int.toNat_natCast] at hr
  obtain ⟨q1, q2, q3⟩ := grp_of_len _ _ (by omega) hr
  clear hor hb hr
  go_wp2
  go_ret
  refine ⟨congrArg Ending.returned (congrArg (Value.int IntKind.i64) ?_), rfl⟩
  omega

theorem i64_not' (n : Int) (h0 : -9223372036854775808 ≤ n) (h1 : n ≤ 9223372036854775807) : bits .xor .i64 (-1) n = -1 - n := by
  show IntKind.i64.wrap ((BitVec.ofInt 64 (-1) ^^^ BitVec.ofInt 64 n).toNat : Int) = _
  have h1 : BitVec.ofInt 64 (-1) = BitVec.allOnes 64 := by decide
  rw [h1, BitVec.allOnes_xor, BitVec.toNat_not]
  simp [IntKind.wrap, IntKind.bits, IntKind.signed, BitVec.toNat_ofInt]
  omega

end Go.Proofs.Ytjpelnbffodaiaa

namespace Go.Proofs.Ytjpelnbffodaiaa
open Go.RowKit
set_option linter.unusedVariables false

theorem info5 : (Try.prog.info? 5).map (fun i => (i.zero, i.size, i.bytes)) = some (some (.int .u8 0), 1, 1) := by kernel_rfl
theorem size5 : (Try.prog.info? 5).map (·.size) = some 1 := by kernel_rfl

theorem owns_splice {w : World} {g n m : Nat} {l : List Int} (hl : l.length = n) (hm : m ≤ maxLen) (hnm : n ≤ m)
    (h : w.heap[g]? = some (.cells (splice (List.replicate m (Value.int .u8 0)) 0 (cells8 l)).toArray 5 (0, 0))) :
    w.ownsRow g 5 1 (.slice (some ⟨g, 0, none⟩) n m) n (cells8 l) := by
  refine ⟨by rw [cells8_length, hl]; omega, .inr ⟨g, m, _, rfl, Nat.le_refl _, h, hnm, hm, ?_, ?_⟩⟩
  · rw [List.size_toArray, length_splice _ _ _ (by rw [cells8_length, hl]; simp; omega)]
    simp
  · simp only [splice, List.take_zero, List.nil_append, Nat.mul_one]
    rw [List.take_append_of_le_length (by rw [cells8_length, hl]; omega), List.take_of_length_le (by rw [cells8_length, hl]; omega)]

/-- What a copy asks of its source, where a cell goes over at all. -/
theorem copy_src {w w1 : World} {ad : Option Addr} {len : Nat} {l : List Int} (hs : Sl w ad len l) (hb : Below w.heap.size w w1) {dp d : Option Addr} (hd : dp = d) :
    0 < (cells8 l).length → dp = d ∧ ∃ x, ad = some x ∧ ∀ j v, (cells8 l)[j]? = some v → w1.cell? (x.add j) = some v := by
  intro hp
  rw [cells8_length, hs.len] at hp
  have hs2 := hs.later hb
  obtain ⟨b, off, rfl, _⟩ := hs.at hp
  exact ⟨hd, _, rfl, hs2.cells⟩

set_option maxHeartbeats 400000 in
theorem copyWithRoom_any (ad : Option Addr) (len cap room : Nat) (l : List Int) (w : World) (hs : Sl w ad len l) (hb : len + room ≤ 281474976710656) :
    Calls Try.prog 66 #[.slice ad len cap, .int .i64 room] w fun e w' => e = .returned (.slice (some ⟨w.heap.size, 0, none⟩) len (len + room)) ∧
      w'.ownsRow w.heap.size 5 1 (.slice (some ⟨w.heap.size, 0, none⟩) len (len + room)) len (cells8 l) ∧ Below w.heap.size w w' := by
  obtain ⟨i0, hi, hz0, hz1, hz2⟩ := info_parts info5
  have hlen := hs.len
  go_enter Try.func66, Try.ntmps66
  go_wp2_with (first
    | (at_make; refine wpList_make_room _ rfl _ _ 41 rfl 5 i0 (.int .u8 0) Try.underlying41 hi hz0 hz1 hz2 rfl _ _ _ _ len (len + room) rfl rfl (by omega) (by omega) (by omega) (by omega) ?_; intro w1 hr1 hs1 hb1)
    | (refine wpList_copy_splice rfl (.tmp 13) (.tmp 14) 41 41 rfl 5 Try.underlying41 size5 _ _ len (len + room) len cap rfl rfl w.heap.size 0 (List.replicate (len + room) (.int .u8 0)) 5 hr1 (cells8 l) (by rw [cells8_length, hlen]; simp) (copy_src hs hb1 rfl) (by rw [cells8_length, hlen]; simp) (cells8_one l) w.heap.size w hb1 (Nat.le_refl _) ?_))
  intro w2 hr2 hb2
  go_wp2
  go_ret
  exact ⟨rfl, owns_splice hlen (by unfold maxLen; omega) (by omega) hr2.out, hb2⟩

end Go.Proofs.Ytjpelnbffodaiaa

namespace Go.Proofs.Ytjpelnbffodaiaa
open Go.RowKit
set_option linter.unusedVariables false

theorem u64_goOn (x : Nat) (h : x ≤ 18446744073709551615) : bits .or .u64 (bits .and .u64 (x : Int) 127) 128 = ((x % 128 + 128 : Nat) : Int) := by
  have e1 : bits .and .u64 (x : Int) 127 = ((x &&& 127 : Nat) : Int) := u64_and_nat x 127 (by omega) (by decide)
  have e2 : x &&& 127 = x % 128 := Nat.and_two_pow_sub_one_eq_mod x 7
  have e3 : bits .or .u64 ((x % 128 : Nat) : Int) 128 = ((x % 128 ||| 128 : Nat) : Int) := u64_or_nat (x % 128) 128 (by omega) (by decide)
  have e4 : x % 128 ||| 128 = 128 + x % 128 := by rw [Nat.or_comm]; exact nat_join 7 128 _ (by decide) (by omega)
  rw [e1, e2, e3, e4, Nat.add_comm]

theorem enc_byte (n : Nat) (h : n < 18446744073709551616) : Byte (enc n) := by
  intro c hc
  rw [enc_pre, List.mem_append] at hc
  rcases hc with h1 | h1
  · have := pre_byte _ _ _ h1; omega
  · have := last_lt n h
    obtain ⟨q, hq⟩ : ∃ q, q = n / 128 ^ grp n := ⟨_, rfl⟩
    rw [← hq] at this h1
    simp at h1
    omega

set_option maxHeartbeats 1000000 in
theorem appendUint_any (B g n0 cap N : Nat) (l : List Int) (w : World) (hown : w.ownsRow B 5 1 (.slice (some ⟨g, 0, none⟩) n0 cap) n0 (cells8 l)) (hB : B ≤ w.heap.size)
    (h1 : N ≤ 18446744073709551615) (hroom : n0 + grp N + 1 ≤ cap) :
    Calls Try.prog 65 #[.slice (some ⟨g, 0, none⟩) n0 cap, .int .u64 N] w fun e w' => e = .returned (.slice (some ⟨g, 0, none⟩) (n0 + grp N + 1) cap) ∧
      w'.ownsRow B 5 1 (.slice (some ⟨g, 0, none⟩) (n0 + grp N + 1) cap) (n0 + grp N + 1) (cells8 (l ++ enc N)) ∧ Below B w w' := by
  obtain ⟨i0, hi, hz0, hz1, hz2⟩ := info_parts info5
  have hg := grp_le N
  obtain ⟨G, hG⟩ : ∃ G, G = grp N := ⟨_, rfl⟩
  rw [← hG] at hg hroom ⊢
  have hgB : B ≤ g := (hown.lt g rfl).1
  go_enter Try.func65, Try.ntmps65
  go_wp2_with fail
  refine (uintSize_any _ _ (by omega) (by omega)).mono ?_
  rintro e w' ⟨rfl, rfl⟩
  rw [Int.toNat_natCast, ← hG]
  have HG : Hid (G = grp N) := hG
  clear hG
  go_wp2_with fail
  go_loopw [0, 1, 8] (fun v x i wr => ∃ k : Nat, k ≤ G ∧ i = .int .i64 k ∧ x = .int .u64 ((N / 128 ^ k : Nat) : Int) ∧ v = .slice (some ⟨g, 0, none⟩) (n0 + k) cap ∧
      wr.ownsRow B 5 1 (.slice (some ⟨g, 0, none⟩) (n0 + k) cap) (n0 + k) (cells8 (l ++ pre k N)) ∧ Below B w' wr) (fun _ _ i _ => G - (intOf i).toNat)
  case atStart => exact ⟨0, Nat.zero_le _, rfl, by simp, rfl, by simpa [pre] using hown, Below.refl _ _⟩
  case round =>
    obtain ⟨k, hk, rfl, rfl, rfl, hownr, hbr⟩ := hrel
    have hq : N / 128 ^ k ≤ 18446744073709551615 := Nat.le_trans (Nat.div_le_self _ _) h1
    have hbyte := u64_goOn (N / 128 ^ k) hq
    have hpre : pre (k + 1) N = pre k N ++ [((N / 128 ^ k % 128 + 128 : Nat) : Int)] := rfl
    have hnext : N / 128 ^ k / 128 = N / 128 ^ (k + 1) := by rw [Nat.div_div_eq_div_mul, Nat.pow_succ]
    have HP : Hid (pre (k + 1) N = pre k N ++ [((N / 128 ^ k % 128 + 128 : Nat) : Int)]) := hpre
    have HN : Hid (N / 128 ^ k / 128 = N / 128 ^ (k + 1)) := hnext
    clear hpre hnext
    generalize hx : N / 128 ^ k = x at *
    have HX : Hid (N / 128 ^ k = x) := hx
    clear hx
    by_cases hlt : k < G
    · go_wp2_with (first
        | (at_builtin; refine wpList_append_fits _ rfl _ _ 41 rfl B 5 i0 1 Try.underlying41 hi hz1 g (n0 + k) cap _ rfl (hownr.alloc _) ⟨wr.heap.size, 0, none⟩ 1 1 [.int .u8 ((x % 128 + 128 : Nat) : Int)] rfl rfl (cell_one_new _ _ _) (by simp [Value.oneCell']) (by omega) ?_; intro w2 hown2 hgrow2))
      go_roundw
      case rel =>
        refine ⟨k + 1, by omega, by go_num, ?_, rfl, ?_, ?_⟩
        · rw [← HN.out]; go_num
        · rw [HP.out, ← List.append_assoc, cells8_append]; exact hown2
        · exact (hbr.alloc (by have := hbr.size; omega) _).grown hgrow2 (by have := hbr.size; simp; omega) (by intro j hj; cases hj; exact hgB)
      case measure => simp [intOf]; omega
    · obtain rfl : k = G := by omega
      have hlast : x < 128 := by
        have := last_lt N (by omega)
        rw [← HG.out, HX.out] at this
        exact this
      have henc : enc N = pre k N ++ [(x : Int)] := by
        rw [enc_pre, ← HG.out, HX.out]
      have HE : Hid (enc N = pre k N ++ [(x : Int)]) := henc
      clear henc hbyte
      go_wp2_with (first
        | (at_builtin; refine wpList_append_fits _ rfl _ _ 41 rfl B 5 i0 1 Try.underlying41 hi hz1 g (n0 + k) cap _ rfl (hownr.alloc _) ⟨wr.heap.size, 0, none⟩ 1 1 [.int .u8 (x : Int)] rfl rfl (cell_one_new _ _ _) (by simp [Value.oneCell']) (by omega) ?_; intro w2 hown2 hgrow2))
      go_ret
      refine ⟨rfl, ?_, ?_⟩
      · rw [HE.out, ← List.append_assoc, cells8_append]; exact hown2
      · exact (hbr.alloc (by have := hbr.size; omega) _).grown hgrow2 (by have := hbr.size; simp; omega) (by intro j hj; cases hj; exact hgB)

end Go.Proofs.Ytjpelnbffodaiaa

namespace Go.Proofs.Ytjpelnbffodaiaa
open Go.RowKit
set_option linter.unusedVariables false

set_option maxHeartbeats 400000 in
theorem putUint_any (ad : Option Addr) (len cap N : Nat) (l : List Int) (w : World) (hs : Sl w ad len l) (hb : len ≤ 140737488355328) (h1 : N ≤ 18446744073709551615) :
    Calls Try.prog 53 #[.slice ad len cap, .int .u64 N] w fun e w' => e = .returned (.slice (some ⟨w.heap.size, 0, none⟩) (len + grp N + 1) (len + (grp N + 1))) ∧
      w'.ownsRow w.heap.size 5 1 (.slice (some ⟨w.heap.size, 0, none⟩) (len + grp N + 1) (len + (grp N + 1))) (len + grp N + 1) (cells8 (l ++ enc N)) ∧ Below w.heap.size w w' := by
  have hg := grp_le N
  go_enter Try.func53, Try.ntmps53
  go_wp2_with fail
  refine (uintSize_any _ _ (by omega) (by omega)).mono ?_
  rintro e w' ⟨rfl, rfl⟩
  rw [Int.toNat_natCast]
  go_wp2_with fail
  rw [show ((grp N : Int) + 1) = ((grp N + 1 : Nat) : Int) by omega]
  refine (copyWithRoom_any ad len cap (grp N + 1) l _ hs (by omega)).mono ?_
  rintro e w1 ⟨rfl, hown, hbel⟩
  go_wp2_with fail
  refine (appendUint_any w'.heap.size _ len _ N l _ hown hbel.size h1 (by omega)).mono ?_
  rintro e w2 ⟨rfl, hown2, hbel2⟩
  go_wp2
  go_ret
  exact ⟨rfl, hown2, hbel.trans hbel2⟩

theorem fold_le (m : Int) (h0 : -9223372036854775808 ≤ m) (h1 : m ≤ 9223372036854775807) : fold m ≤ 18446744073709551615 := by
  unfold fold
  split <;> omega

end Go.Proofs.Ytjpelnbffodaiaa
