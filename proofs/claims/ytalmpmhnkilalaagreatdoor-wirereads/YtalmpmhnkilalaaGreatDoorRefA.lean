import Derived.Test.YtalmpmhnkilalaaGreatDoorNumE
import Derived.Test.YtalmpmhnkilalaaGreatDoorRow
import Derived.Test.YtalmpmhnkilalaaGreatDoorBlk
namespace Go.Proofs.YtalmpmhnkilalaaGreatDoor.Q
open Go.RowKit
set_option linter.unusedVariables false

theorem sum_acc (acc k : Nat) (c : Int) (h0 : 0 ≤ c) (hacc : acc < 128 ^ k) (hk : k < 9 ∨ k = 9 ∧ c ≤ 1) :
    IntKind.u64.wrap ((acc : Int) + IntKind.u64.wrap (c % 128 * 2 ^ (7 * k))) = ((acc + c.toNat % 128 * 128 ^ k : Nat) : Int) := by
  have hb := acc_bound acc k (c.toNat % 128) hacc (by omega) (by omega)
  have e1 : c % 128 * 2 ^ (7 * k) = ((c.toNat % 128 * 128 ^ k : Nat) : Int) := by
    rw [Int.natCast_mul, pow128]
    have : ((c.toNat % 128 : Nat) : Int) = c % 128 := by omega
    rw [this]
    simp
  rw [e1, IntKind.wrap_u64, IntKind.wrap_u64, Int.emod_eq_of_lt (b := 18446744073709551616) (a := ((c.toNat % 128 * 128 ^ k : Nat) : Int)) (by omega) (by omega), Int.emod_eq_of_lt (by omega) (by omega)]
  omega

theorem sum_acc9 (acc : Nat) (c : Int) (h0 : 0 ≤ c) (h1 : c ≤ 1) (hacc : acc < 128 ^ 9) :
    IntKind.u64.wrap ((acc : Int) + c % 128 * 9223372036854775808) = ((acc + c.toNat % 128 * 128 ^ 9 : Nat) : Int) := by
  have e := sum_acc acc 9 c h0 hacc (.inr ⟨rfl, h1⟩)
  have e2 : IntKind.u64.wrap (c % 128 * 2 ^ (7 * 9)) = c % 128 * 9223372036854775808 := by
    rw [IntKind.wrap_u64]
    omega
  rw [e2] at e
  exact e

set_option maxHeartbeats 2000000 in
theorem refUint_pos (b off len cap : Nat) (l : List Int) (w : World) (hl : l.length = len) (hby : Byte l) (hc : ∀ j, j < len → w.cell? ⟨b, off + j, none⟩ = some (.int .u8 (l.getD j 0))) (hp : 0 < len) (hb : len ≤ 140737488355328) :
    Calls Tryz.prog 127 #[.slice (some ⟨b, off, none⟩) len cap] w fun e w' => e = .returned (.tuple #[.int .u64 (dec l).1, .int .i64 (dec l).2]) ∧ w' = w := by
  have HC := hidden hc
  clear hc
  go_enter Tryz.func127, Tryz.ntmps127
  go_wp2_with fail
  go_loop [4, 5] (fun n i => ∃ k acc : Nat, k ≤ len ∧ k ≤ 10 ∧ i = .int .i64 k ∧ n = .int .u64 acc ∧ acc < 128 ^ k ∧ acc ≤ 18446744073709551615 ∧ dec l = decAt (l.drop k) k acc) (fun _ i => 10 - (intOf i).toNat)
  case atStart => exact ⟨0, 0, Nat.zero_le _, Nat.zero_le _, rfl, rfl, by simp, by omega, rfl⟩
  case round =>
    obtain ⟨k, acc, hk, hk2, rfl, rfl, hacc, hacc2, hdec⟩ := hrel
    have HD := hidden hdec
    have HA := hidden hacc
    clear hdec hacc
    by_cases hlt : k < len
    · by_cases hlt2 : k < 10
      · have hck := HC.out k (by omega)
        have hcb := hby.at k
        obtain ⟨c, hcc⟩ : ∃ c, l.getD k 0 = c := ⟨_, rfl⟩
        rw [hcc] at hck hcb
        have HK := hidden hcc
        clear hcc
        by_cases h9 : k < 9
        · have hor := sum_acc acc k c hcb.1 HA.out (.inl h9)
          have hbd := acc_bound acc k (c.toNat % 128) HA.out (by omega) (.inl h9)
          have HB := hidden hbd
          clear hbd
          generalize hnew : acc + c.toNat % 128 * 128 ^ k = new at *
          have HW := hidden hnew
          clear hnew
          go_wp2
          · go_round
            case rel => exact ⟨k + 1, new, by omega, by omega, by go_num, rfl, HB.out.1, by have := HB.out.2; omega, by rw [HD.out, dec_more l k acc (by omega) c HK.out h9 (by assumption), HW.out]⟩
            case measure => simp [intOf]; omega
          · go_ret2
            exact ⟨ret_ui 0 0 (by rw [HD.out]; exact dec_zero l k acc (by omega) c HK.out (by omega) (by assumption) (by assumption)) rfl rfl, rfl⟩
          · go_ret2
            exact ⟨ret_ui new (k + 1) (by rw [HD.out, dec_last l k acc (by omega) c HK.out (.inl h9) (by omega) (by omega), HW.out]) rfl (by go_num), rfl⟩
          · go_ret2
            exact ⟨ret_ui new (k + 1) (by rw [HD.out, dec_last l k acc (by omega) c HK.out (.inl h9) (by omega) (by omega), HW.out]) rfl (by go_num), rfl⟩
        · obtain rfl : k = 9 := by omega
          go_wp2
          · go_ret2
            exact ⟨ret_ui 0 0 (by rw [HD.out]; exact dec_great l 9 acc (by omega) c HK.out rfl (by assumption)) rfl rfl, rfl⟩
          · go_ret2
            exact ⟨ret_ui 0 0 (by rw [HD.out]; exact dec_zero l 9 acc (by omega) c HK.out (by omega) (by assumption) (by omega)) rfl rfl, rfl⟩
          · go_ret2
            exact ⟨ret_ui _ 10 (by rw [HD.out, dec_last l 9 acc (by omega) c HK.out (.inr ⟨rfl, by omega⟩) (by omega) (by omega)]) (sum_acc9 acc c hcb.1 (by omega) HA.out) rfl, rfl⟩
      · go_wp2
        go_ret2
        exact ⟨ret_ui 0 0 (by rw [HD.out]; exact dec_out l k acc (by omega)) rfl rfl, rfl⟩
    · go_wp2
      all_goals go_ret2
      all_goals exact ⟨ret_ui 0 0 (by rw [HD.out]; exact dec_out l k acc (by omega)) rfl rfl, rfl⟩

set_option maxHeartbeats 400000 in
theorem refUint_any (ad : Option Addr) (len cap : Nat) (l : List Int) (w : World) (hs : Sl w ad len l) (hb : len ≤ 140737488355328) :
    Calls Tryz.prog 127 #[.slice ad len cap] w fun e w' => e = .returned (.tuple #[.int .u64 (dec l).1, .int .i64 (dec l).2]) ∧ w' = w := by
  by_cases hp : 0 < len
  · obtain ⟨b, off, rfl, _, hc⟩ := hs.at hp
    exact refUint_pos b off len cap l w hs.len hs.byte hc hp hb
  · obtain rfl : len = 0 := by omega
    have hl : l = [] := List.eq_nil_of_length_eq_zero hs.len
    subst hl
    clear hs
    go_enter Tryz.func127, Tryz.ntmps127
    go_wp2_with fail
    refine wp_loop_rounds 1 ?_
    rw [rounds_succ]
    go_wp2
    go_ret2
    exact ⟨ret_ui 0 0 rfl rfl rfl, rfl⟩

theorem ret_ii {a b c d : Int} (ha : a = c) (hb : b = d) : Ending.returned (.tuple #[.int .i64 a, .int .i64 b]) = .returned (.tuple #[.int .i64 c, .int .i64 d]) := by
  rw [ha, hb]

theorem dec_none (l : List Int) (hb : Byte l) (h : (dec l).2 = 0) : (dec l).1 = 0 := by
  have key : ∀ (l : List Int) (i n : Nat), (decAt l i n).2 = 0 → (decAt l i n).1 = 0 := by
    intro l
    induction l with
    | nil => intro i n _; rfl
    | cons c t ih =>
      intro i n h
      rw [decAt] at h ⊢
      split at h
      · rename_i h1; rw [if_pos h1]
      · rename_i h1; rw [if_neg h1]
        split at h
        · rename_i h2; rw [if_pos h2]
        · rename_i h2; rw [if_neg h2]
          split at h
          · rename_i h3; rw [if_pos h3]; exact ih _ _ h
          · rename_i h3; rw [if_neg h3]
            split at h
            · rename_i h4; rw [if_pos h4]
            · simp at h
  exact key l 0 0 h

set_option maxHeartbeats 400000 in
theorem refInt_any (ad : Option Addr) (len cap : Nat) (l : List Int) (w : World) (hs : Sl w ad len l) (hb : len ≤ 140737488355328) :
    Calls Tryz.prog 128 #[.slice ad len cap] w fun e w' => e = .returned (.tuple #[.int .i64 (unfold' (dec l).1), .int .i64 (dec l).2]) ∧ w' = w := by
  have hd := dec_bound l hs.byte
  have hn := dec_none l hs.byte
  have hu := hidden (refUint_any ad len cap l w hs hb)
  clear hs
  generalize (dec l).1 = N at *
  generalize (dec l).2 = K at *
  go_enter Tryz.func128, Tryz.ntmps128
  go_wp2_with fail
  refine hu.out.mono ?_
  rintro e w' ⟨rfl, rfl⟩
  clear hu
  by_cases hK : K = 0
  · have h1 : ((K : Int) == 0) = true := by simp [hK]
    have hN := hn hK
    subst hN
    clear hn
    go_wp2
    go_ret2
    exact ⟨ret_ii rfl (by omega), rfl⟩
  · have h1 : ((K : Int) == 0) = false := by simp [hK]
    clear hn hK
    by_cases hodd : N % 2 = 1
    · have h2 : ((N : Int) % 2 == 1) = true := by simp; omega
      go_wp2
      go_ret2
      exact ⟨ret_ii (by rw [unfold', if_pos hodd]; omega) rfl, rfl⟩
    · have h2 : ((N : Int) % 2 == 1) = false := by simp; omega
      go_wp2
      go_ret2
      exact ⟨ret_ii (by rw [unfold', if_neg hodd]; omega) rfl, rfl⟩

end Go.Proofs.YtalmpmhnkilalaaGreatDoor.Q

namespace Go.Proofs.YtalmpmhnkilalaaGreatDoor.Q
open Go.RowKit
set_option linter.unusedVariables false

set_option maxRecDepth 100000 in
theorem owns_later {w w' : World} {base : Nat} {e : TypeId} {v : Value} {n : Nat} {xs : List Value} (h : w.ownsRow base e 1 v n xs) (hb : Below w.heap.size w w') : w'.ownsRow base e 1 v n xs := by
  refine ⟨h.1, ?_⟩
  rcases h.2 with h1 | ⟨g, c, cur, h1, h2, h3, h4⟩
  · exact .inl h1
  · refine .inr ⟨g, c, cur, h1, h2, ?_, h4⟩
    rw [hb.block g (Array.getElem?_eq_some_iff.1 h3).1]
    exact h3

set_option maxRecDepth 100000 in
set_option maxHeartbeats 400000 in
theorem refBytes_bad (ad : Option Addr) (len cap : Nat) (most : Int) (l : List Int) (w : World) (hs : Sl w ad len l) (hb : len ≤ 140737488355328) (hm0 : -9223372036854775808 ≤ most) (hm : most ≤ 9223372036854775807) (hbad : badB l most = true) :
    Calls Tryz.prog 70 #[.slice ad len cap, .int .i64 most] w fun e w' => e = .returned (.tuple #[.slice none 0 0, .int .i64 0]) ∧ w' = w := by
  have hd := dec_bound l hs.byte
  have hle := hs.len
  simp only [badB, Bool.or_eq_true, decide_eq_true_eq] at hbad
  rw [hle] at hd hbad
  have HU := hidden (refUint_any ad len cap l w hs hb)
  clear hs hle
  generalize (dec l).1 = N at *
  generalize (dec l).2 = K at *
  go_enter Tryz.func70, Tryz.ntmps70
  go_wp2_with fail
  refine HU.out.mono ?_
  rintro e w' ⟨rfl, rfl⟩
  clear HU
  by_cases h1 : K = 0
  · have h1' : ((K : Int) == 0) = true := by simp [h1]
    clear h1
    go_wp2
    go_ret2
    exact ⟨rfl, rfl⟩
  · have h1' : ((K : Int) == 0) = false := by simp [h1]
    by_cases h2 : most < 0
    · clear hbad h1
      go_wp2
      go_ret2
      exact ⟨rfl, rfl⟩
    · by_cases h3 : most < (N : Int)
      · clear hbad h1
        go_wp2
        go_ret2
        exact ⟨rfl, rfl⟩
      · have h4 : ((len : Int) - (K : Int)) < (N : Int) := by omega
        clear hbad h1
        go_wp2
        go_ret2
        exact ⟨rfl, rfl⟩

set_option maxRecDepth 100000 in
set_option maxHeartbeats 400000 in
theorem refBytes_good (ad : Option Addr) (len cap : Nat) (most : Int) (l : List Int) (w : World) (hs : Sl w ad len l) (hlc : len ≤ cap) (hcm : cap ≤ 9223372036854775807) (hb : len ≤ 140737488355328) (hm0 : -9223372036854775808 ≤ most) (hm : most ≤ 9223372036854775807) (hbad : badB l most = false) :
    Calls Tryz.prog 70 #[.slice ad len cap, .int .i64 most] w fun e w' => ∃ ad' c', e = .returned (.tuple #[.slice ad' (dec l).1 c', .int .i64 ((dec l).2 + (dec l).1 : Nat)]) ∧
      w'.ownsRow w.heap.size 5 1 (.slice ad' (dec l).1 c') (dec l).1 (cells8 ((l.drop (dec l).2).take (dec l).1)) ∧ Below w.heap.size w w' := by
  obtain ⟨i0, hi, hz0, hz1, hz2⟩ := info_parts info5
  have hd := dec_bound l hs.byte
  have hle := hs.len
  simp only [badB, Bool.or_eq_false_iff, decide_eq_false_iff_not] at hbad
  rw [hle] at hd hbad
  have HU := hidden (refUint_any ad len cap l w hs hb)
  generalize (dec l).1 = N at *
  generalize (dec l).2 = K at *
  obtain ⟨b, off, rfl, hbl, hc⟩ := hs.at (by omega)
  clear hc
  have h1' : ((K : Int) == 0) = false := by simp; omega
  have h2 : 0 ≤ most := by omega
  have h3 : (N : Int) ≤ most := by omega
  have h4 : (N : Int) ≤ (len : Int) - (K : Int) := by omega
  have h5 : 1 ≤ K := by omega
  clear hbad
  go_enter Tryz.func70, Tryz.ntmps70
  go_wp2_with fail
  refine HU.out.mono ?_
  rintro e w' ⟨rfl, rfl⟩
  clear HU
  by_cases hcK : cap = K
  · subst hcK
    obtain rfl : N = 0 := by omega
    go_wp2_with (first
      | (at_builtin; refine wpList_append_sl _ rfl _ _ 22 rfl w'.heap.size 5 i0 (.int .u8 0) Tryz.underlying22 hi hz0 hz1 hz2 rfl _ 0 [] rfl (World.ownsRow_nil _ _ _ _) _ 0 _ [] rfl (Sl.nil _ _) (by intro h; cases h) (by omega) (Nat.le_refl _) ?_; intro ad7 c7 w7 hown7 hgrow7))
    go_ret2
    exact ⟨ad7, c7, by simp, by simpa using hown7, grown_below hgrow7 (World.ownsRow_nil _ _ 5 1) (Nat.le_refl _)⟩
  · go_wp2_with (first
      | (at_builtin; refine wpList_append_sl _ rfl _ _ 22 rfl w'.heap.size 5 i0 (.int .u8 0) Tryz.underlying22 hi hz0 hz1 hz2 rfl _ 0 [] rfl (World.ownsRow_nil _ _ _ _) (some ⟨b, off + K, none⟩) (K + N - K) (cap - K) ((l.drop K).take N) rfl (by rw [Nat.add_sub_cancel_left]; exact hs.cut (by omega) (fun _ => rfl)) (by intro h; cases h) (by omega) (Nat.le_refl _) ?_; intro ad7 c7 w7 hown7 hgrow7))
    go_ret2
    exact ⟨ad7, c7, by simp, by simpa using hown7, grown_below hgrow7 (World.ownsRow_nil _ _ 5 1) (Nat.le_refl _)⟩

end Go.Proofs.YtalmpmhnkilalaaGreatDoor.Q

namespace Go.Proofs.YtalmpmhnkilalaaGreatDoor.Q
open Go.RowKit
set_option linter.unusedVariables false

theorem enc_small (m : Nat) (h : m < 128) : enc m = [(m : Int)] := by
  unfold enc
  rw [grp_small m h]
  rfl
theorem enc_step (m : Nat) (h : 128 ≤ m) (h1 : m < 18446744073709551616) : enc m = ((m % 128 + 128 : Nat) : Int) :: enc (m / 128) := by
  unfold enc
  rw [grp_step m h h1]
  rfl

theorem pushed_below {B : Nat} {w w1 w' : World} {e : TypeId} {v : Value} {n : Nat} {xs : List Value} {g : Nat} (hb : Below B w w1) (hB : B ≤ w1.heap.size) (hown : w1.ownsRow B e 1 v n xs) (hp : Pushed w1 w' v g) : Below B w w' := by
  rcases hp with ⟨hv, hg⟩ | ⟨_, hg⟩
  · exact hb.grown hg hB (fun x hx => by obtain rfl := Option.some.inj hx; exact (hown.lt _ hv).1)
  · exact hb.grown hg hB (fun x hx => by cases hx)

/-- What the reference's puts leave. -/
def RefOut (w : World) (e : Ending) (w' : World) (n : Nat) (L : List Int) : Prop :=
  ∃ ad c, e = .returned (.slice ad n c) ∧ w'.ownsRow w.heap.size 5 1 (.slice ad n c) n (cells8 L) ∧ Below w.heap.size w w'

set_option maxRecDepth 100000 in
set_option maxHeartbeats 1000000 in
theorem refPutUint_any (ad : Option Addr) (len cap N : Nat) (l : List Int) (w : World) (hs : Sl w ad len l) (hnone : ad = none → len = 0 ∧ cap = 0) (hb : len ≤ 140737488351232) (h1 : N ≤ 18446744073709551615) :
    Calls Tryz.prog 42 #[.slice ad len cap, .int .u64 N] w fun e w' => RefOut w e w' (len + grp N + 1) (l ++ enc N) := by
  obtain ⟨i0, hi, hz0, hz1, hz2⟩ := info_parts info5
  have HS := hidden hs
  clear hs
  go_enter Tryz.func42, Tryz.ntmps42
  go_wp2_with (first
    | (at_builtin; refine wpList_append_sl _ rfl _ _ 22 rfl w.heap.size 5 i0 (.int .u8 0) Tryz.underlying22 hi hz0 hz1 hz2 rfl _ 0 [] rfl (World.ownsRow_nil _ _ _ _) ad len cap l rfl HS.out hnone (by omega) (Nat.le_refl _) ?_; intro ad7 c7 w7 hown7 hgrow7))
  have hb7 := grown_below hgrow7 (World.ownsRow_nil _ _ 5 1) (Nat.le_refl _)
  have HO := hidden hown7
  clear hgrow7 hown7
  go_wp2_with fail
  go_loopw [1, 5] (fun nv ov wr => ∃ (m j : Nat) (pr : List Int), nv = .int .u64 m ∧ m ≤ 18446744073709551615 ∧ j + grp m = grp N ∧ l ++ enc N = pr ++ enc m ∧ wr.ownsRow w.heap.size 5 1 ov (len + j) (cells8 pr) ∧ Below w.heap.size w wr) (fun nv _ _ => (intOf nv).toNat)
  case atStart => exact ⟨N, 0, l, rfl, h1, by omega, rfl, by simpa using HO.out, hb7⟩
  case round =>
    obtain ⟨m, j, pr, rfl, hm, hj, hpr, hown, hbel⟩ := hrel
    have hgl := grp_le N
    obtain ⟨av, cv, rfl⟩ := owns_form hown
    have hsz := hbel.size
    by_cases hlt : 128 ≤ m
    · have HG := hidden (grp_step m hlt (by omega))
      have HE := hidden (enc_step m hlt (by omega))
      have HP := hidden hpr
      have HW := hidden hown
      have hmi : (128 : Int) ≤ (m : Int) := by omega
      clear hpr hown
      go_wp2_with (first
        | (at_builtin; (refine wpList_push _ rfl _ _ 22 rfl 5 i0 (.int .u8 0) 1 Tryz.underlying22 hi hz0 hz1 hz2 rfl w.heap.size (.slice av (len + j) cv) (len + j) (cells8 pr) rfl (by exact HW.out.alloc _) ⟨wr.heap.size, 0, none⟩ (.int .u8 ((m % 128 + 128 : Nat) : Int)) rfl (by first | (simp; done) | (simp; omega)) rfl (by unfold maxLen; omega) (by omega) (by first | (simp; done) | (simp; omega)) ?_); intro g6 c6 w6 ho6 hp6))
      have hb6 := pushed_below (hbel.alloc hsz _) (by simp; omega) (HW.out.alloc _) hp6
      have HO6 := hidden ho6
      clear ho6 hp6
      go_wp2
      go_roundw
      case rel => exact ⟨m / 128, j + 1, pr ++ [((m % 128 + 128 : Nat) : Int)], by go_num, by omega, by have := HG.out; omega, by rw [HP.out, HE.out]; simp, by have := HO6.out; rw [cells8_append]; exact this, hb6⟩
      case measure => simp [intOf]; omega
    · have HG := hidden (grp_small m (by omega))
      have HE := hidden (enc_small m (by omega))
      have HP := hidden hpr
      have HW := hidden hown
      have hmi : (m : Int) < 128 := by omega
      clear hpr hown
      go_wp2_with (first
        | (at_builtin; refine wpList_push _ rfl _ _ 22 rfl 5 i0 (.int .u8 0) 1 Tryz.underlying22 hi hz0 hz1 hz2 rfl w.heap.size (.slice av (len + j) cv) (len + j) (cells8 pr) rfl (by exact HW.out.alloc _) ⟨wr.heap.size, 0, none⟩ (.int .u8 (m : Int)) rfl (by first | (simp; done) | (simp; omega)) rfl (by unfold maxLen; omega) (by omega) (by first | (simp; done) | (simp; omega)) ?_; intro g6 c6 w6 ho6 hp6))
      have hb6 := pushed_below (hbel.alloc hsz _) (by simp; omega) (HW.out.alloc _) hp6
      have hjj : j = grp N := by have := HG.out; omega
      subst hjj
      go_ret
      refine ⟨_, _, rfl, ?_, hb6⟩
      rw [HP.out, HE.out, cells8_append]
      exact ho6

set_option maxRecDepth 100000 in
set_option maxHeartbeats 400000 in
theorem refPutInt_any (ad : Option Addr) (len cap : Nat) (m : Int) (l : List Int) (w : World) (hs : Sl w ad len l) (hnone : ad = none → len = 0 ∧ cap = 0) (hb : len ≤ 140737488351232) (h0 : -9223372036854775808 ≤ m) (h1 : m ≤ 9223372036854775807) :
    Calls Tryz.prog 64 #[.slice ad len cap, .int .i64 m] w fun e w' => RefOut w e w' (len + grp (fold m) + 1) (l ++ enc (fold m)) := by
  have hf := fold_le m h0 h1
  have HU := hidden (refPutUint_any ad len cap (fold m) l w hs hnone hb hf)
  clear hs
  by_cases hneg : m < 0
  · have hfm : ((fold m : Nat) : Int) = -(m + 1) * 2 + 1 := by rw [fold, if_pos hneg]; omega
    generalize fold m = F at *
    go_enter Tryz.func64, Tryz.ntmps64
    go_wp2_with fail
    rw [← hfm]
    refine HU.out.mono ?_
    rintro e w' ⟨a1, c1, rfl, ho, hB⟩
    go_wp2
    go_ret
    exact ⟨_, _, rfl, ho, hB⟩
  · have hfm : ((fold m : Nat) : Int) = m * 2 := by rw [fold, if_neg hneg]; omega
    generalize fold m = F at *
    go_enter Tryz.func64, Tryz.ntmps64
    go_wp2_with fail
    rw [← hfm]
    refine HU.out.mono ?_
    rintro e w' ⟨a1, c1, rfl, ho, hB⟩
    go_wp2
    go_ret
    exact ⟨_, _, rfl, ho, hB⟩

set_option maxRecDepth 100000 in
set_option maxHeartbeats 400000 in
theorem refPutBytes_any (ad : Option Addr) (len cap : Nat) (l : List Int) (ae : Option Addr) (len2 cap2 : Nat) (s : List Int) (w : World) (hs : Sl w ad len l) (hs2 : Sl w ae len2 s) (hnone : ad = none → len = 0 ∧ cap = 0) (hn2 : ae = none → len2 = 0 ∧ cap2 = 0)
    (hb : len + len2 ≤ 140737488351232) :
    Calls Tryz.prog 61 #[.slice ad len cap, .slice ae len2 cap2] w fun e w' => RefOut w e w' (len + grp len2 + 1 + len2) (l ++ enc len2 ++ s) := by
  obtain ⟨i0, hi, hz0, hz1, hz2⟩ := info_parts info5
  have HU := hidden (refPutUint_any ad len cap len2 l w hs hnone (by omega) (by omega))
  have HS2 := hidden hs2
  have hg := grp_le len2
  clear hs hs2
  go_enter Tryz.func61, Tryz.ntmps61
  go_wp2_with fail
  refine HU.out.mono ?_
  rintro e w1 ⟨a1, c1, rfl, ho, hB⟩
  have hs1 := hidden (HS2.out.later hB)
  have HO := hidden ho
  have hsz := hB.size
  clear ho
  go_wp2_with (first
    | (at_builtin; refine wpList_append_sl _ rfl _ _ 22 rfl w.heap.size 5 i0 (.int .u8 0) Tryz.underlying22 hi hz0 hz1 hz2 rfl _ _ _ rfl HO.out ae len2 cap2 s rfl hs1.out hn2 (by omega) hsz ?_; intro ad7 c7 w7 hown7 hgrow7))
  have hb7 := grown_below hgrow7 HO.out hsz
  go_ret
  exact ⟨_, _, rfl, hown7, hB.trans hb7⟩

end Go.Proofs.YtalmpmhnkilalaaGreatDoor.Q
