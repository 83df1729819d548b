/-
  Put: the program's.
-/
import Derived.Test.YtiaopgphjailiaaFrB
namespace Go.Proofs.Ytiaopgphjailiaa
open Go.RowKit
set_option linter.unusedVariables false
set_option linter.unusedSimpArgs false

/-- A list that is being made since w. -/
structure Bld (w w' : World) (v : Value) (n : Nat) (xs : List Int) : Prop where
  row : w'.ownsRow 0 5 1 v n (cells8 xs)
  bel : Below w.heap.size w w'
  new : ∀ g, v.ownBlock = some g → w.heap.size ≤ g
theorem Bld.step {w w1 w2 : World} {v v' : Value} {n n' : Nat} {xs xs' : List Int} (h : Bld w w1 v n xs) (ho : w2.ownsRow 0 5 1 v' n' (cells8 xs')) (hc : Chg (fun i => v.ownBlock = some i) w1 w2) (hm : Moved w1 v.ownBlock v'.ownBlock) : Bld w w2 v' n' xs' := by
  refine ⟨ho, h.bel.trans (hc.below h.bel.size (fun i hi => h.new i hi)), fun g hg => ?_⟩
  rcases hm with e | ⟨g', e, hg'⟩
  · exact h.new g (by rw [← e]; exact hg)
  · rw [hg] at e
    obtain rfl := Option.some.inj e
    exact Nat.le_trans h.bel.size hg'
theorem Bld.alloc {w w1 : World} {v : Value} {n : Nat} {xs : List Int} (h : Bld w w1 v n xs) (o : Obj) : Bld w (w1.alloc o) v n xs := ⟨h.row.alloc o, h.bel.alloc h.bel.size o, h.new⟩
theorem Bld.stepA {w w1 w2 : World} {v v' : Value} {n n' : Nat} {xs xs' : List Int} {o : Obj} (h : Bld w w1 v n xs) (ho : w2.ownsRow 0 5 1 v' n' (cells8 xs')) (hc : Chg (fun i => v.ownBlock = some i) (w1.alloc o) w2) (hm : Moved (w1.alloc o) v.ownBlock v'.ownBlock) : Bld w w2 v' n' xs' := (h.alloc o).step ho hc hm
theorem Bld.later {w w1 w2 : World} {v : Value} {n : Nat} {xs : List Int} (h : Bld w w1 v n xs) (hb : Below w1.heap.size w1 w2) : Bld w w2 v n xs :=
  ⟨(Chg.of_below (F := fun _ => False) hb).owns h.row (fun _ _ h => h), h.bel.trans (hb.mono h.bel.size), h.new⟩
theorem Bld.base {w w1 : World} {v : Value} {n : Nat} {xs : List Int} (h : Bld w w1 v n xs) : w1.ownsRow w.heap.size 5 1 v n (cells8 xs) := owns_baseG h.row h.new
theorem Bld.sl {w w1 : World} {ad : Option Addr} {n c : Nat} {xs : List Int} (h : Bld w w1 (.slice ad n c) n xs) (hb : Byte xs) : Sl w1 ad n xs := sl_of_owns h.row hb

theorem owns_splice {w : World} {g n m : Nat} {l : List Int} (hl : l.length = n) (hm : m ≤ maxLen) (hnm : n ≤ m)
    (h : w.heap[g]? = some (.cells (splice (List.replicate m (Value.int .u8 0)) 0 (cells8 l)).toArray 5 (0, 0))) :
    w.ownsRow 0 5 1 (.slice (some ⟨g, 0, none⟩) n m) n (cells8 l) := by
  refine ⟨by rw [cells8_length, hl]; omega, .inr ⟨g, m, _, rfl, Nat.zero_le _, h, hnm, hm, ?_, ?_⟩⟩
  · rw [List.size_toArray, length_splice _ _ _ (by rw [cells8_length, hl]; simp; omega)]
    simp
  · simp only [splice, List.take_zero, List.nil_append, Nat.mul_one]
    rw [List.take_append_of_le_length (by rw [cells8_length, hl]; omega), List.take_of_length_le (by rw [cells8_length, hl]; omega)]
theorem copy_src {w w1 : World} {ad : Option Addr} {len : Nat} {l : List Int} (hs : Sl w ad len l) (hb : Below w.heap.size w w1) {dp d : Option Addr} (hd : dp = d) :
    0 < (cells8 l).length → dp = d ∧ ∃ x, ad = some x ∧ ∀ j v, (cells8 l)[j]? = some v → w1.cell? (x.add j) = some v := by
  intro hp
  rw [cells8_length, hs.len] at hp
  have hs2 := hs.later hb
  obtain ⟨b, off, rfl, _⟩ := hs.at hp
  exact ⟨hd, _, rfl, hs2.cells⟩
theorem sizeN_ok (n : Nat) (h : n ≤ 4194304) : sizeN (n : Int) = ((n + 9 : Nat) : Int) := by
  unfold sizeN
  rw [if_neg (by omega), if_neg (by omega)]
  omega
theorem sizeN_big (n : Nat) (h : 4194304 < n) : sizeN (n : Int) = 0 := by
  unfold sizeN
  rw [if_neg (by omega), if_pos (by omega)]

set_option maxHeartbeats 1000000 in
theorem put_any (ab : Option Addr) (lb cb : Nat) (B : List Int) (k : Int) (ad : Option Addr) (ld cd : Nat) (D : List Int) (w : World) (hsb : Sl w ab lb B) (hk : 0 ≤ k ∧ k ≤ 255) (hsd : Sl w ad ld D) (hnd : ad = none → ld = 0 ∧ cd = 0) (hb : lb ≤ 70368744177664) (hd : ld ≤ 4194304) :
    Calls Try.prog 10 #[.slice ab lb cb, .int .u8 k, .slice ad ld cd] w fun e w' => ∃ ag c, e = .returned (.tuple #[.slice ag (lb + (ld + 9)) c, .int .i64 0]) ∧ Bld w w' (.slice ag (lb + (ld + 9)) c) (lb + (ld + 9)) (B ++ made k D) := by
  obtain ⟨i0, hi, hz0, hz1, hz2⟩ := info_parts info5
  have hlb := hidden hsb.len
  have hld := hidden hsd.len
  have HSB := hidden hsb
  have HSD := hidden hsd
  have HND := hidden hnd
  have hsz := sizeN_ok ld hd
  have HK := hidden hk
  clear hsb hsd hnd
  obtain ⟨g, hg⟩ : ∃ g, g = w.heap.size := ⟨_, rfl⟩
  have HG := hidden hg
  go_enter Try.func10, Try.ntmps10
  go_wp2_with fail
  refine (size_any ld w (by omega)).mono ?_
  rintro e w0 ⟨rfl, rfl⟩
  rw [hsz]
  obtain ⟨s, hs⟩ : ∃ s, ld + 9 = s := ⟨_, rfl⟩
  rw [hs]
  have hs0 : ((s : Nat) : Int) ≠ 0 := by omega
  have hs1 : s ≤ 4194313 := by omega
  have HSS := hidden hs
  clear hsz hs
  go_wp2_with (first
    | (at_make; refine wpList_make_room _ rfl _ _ 22 rfl 5 i0 (.int .u8 0) Try.underlying22 hi hz0 hz1 hz2 rfl _ _ _ _ lb (lb + s) rfl rfl (by omega) (by omega) (by omega) (by omega) ?_; intro w1 hr1 hs1 hb1; have HR1 := hidden hr1; have HB1 := hidden hb1; clear hr1 hb1 hs1)
    | (refine wpList_copy_splice rfl (.tmp 22) (.tmp 23) 22 22 rfl 5 Try.underlying22 size5b _ _ lb (lb + s) lb cb rfl rfl w0.heap.size 0 (List.replicate (lb + s) (.int .u8 0)) 5 HR1.out (cells8 B) (by rw [cells8_length, hlb.out]; simp) (copy_src HSB.out HB1.out rfl) (by rw [cells8_length, hlb.out]; simp) (cells8_one B) w0.heap.size w0 HB1.out (Nat.le_refl _) ?_))
  intro w2 hr2 hb2
  have H2 : Hid (Bld w0 w2 (.slice (some ⟨w0.heap.size, 0, none⟩) lb (lb + s)) lb B) := ⟨owns_splice hlb.out (by unfold maxLen; omega) (by omega) hr2.out, hb2, fun g hg => by simp [Value.ownBlock] at hg; omega⟩
  clear hr2 hb2 HR1 HB1
  rw [← HG.out]
  rw [← HG.out] at H2
  go_wp2_with (first
    | (at_builtin; refine wpList_appends _ rfl (.tmp 25) (.tmp 27) 22 rfl 5 i0 (.int .u8 0) Try.underlying22 hi hz0 hz1 hz2 rfl (.slice (some ⟨g, 0, none⟩) lb (lb + s)) lb B rfl (H2.out.row.alloc _) (some ⟨w2.heap.size, 0, none⟩) 1 1 [k] rfl (sl_lit w2 [k] (fun z hz => by simp at hz; rw [hz]; exact HK.out) 5 (0, 0) 1 rfl _ rfl _ rfl) (fun h => by cases h) (by omega) ?_; intro v3 w3 ho3 hc3 hm3; have H3 := hidden (H2.out.stepA ho3 hc3 hm3); obtain ⟨a3, c3, rfl⟩ := owns_form ho3; clear ho3 hc3 hm3))
  refine (appendWord_any a3 (lb + 1) c3 (B ++ [k]) ld w3 H3.out.row (by omega) (by omega)).mono ?_
  rintro e w4' ⟨a4, c4, rfl, ho4, hc4, hm4⟩
  have H4 := hidden (H3.out.step ho4 hc4 hm4)
  clear ho4 hc4 hm4
  go_wp2_with (first
    | (at_builtin; refine wpList_appends _ rfl (.tmp 34) (.tmp 35) 22 rfl 5 i0 (.int .u8 0) Try.underlying22 hi hz0 hz1 hz2 rfl (.slice a4 (lb + 1 + 4) c4) (lb + 1 + 4) (B ++ [k] ++ w4 ld) rfl H4.out.row ad ld cd D rfl (HSD.out.later H4.out.bel) HND.out (by omega) ?_; intro v5 w5 ho5 hc5 hm5; have H5 := hidden (H4.out.step ho5 hc5 hm5); obtain ⟨g5, c5, rfl, hl5, _, _⟩ := owns_some ho5 (by omega); clear ho5 hc5 hm5))
  have hby : Byte (B ++ [k] ++ w4 ld ++ D) := ((HSB.out.byte.append (fun z hz => by simp at hz; rw [hz]; exact HK.out)).append (w4_byte ld)).append HSD.out.byte
  have hsl : Sl w5 (some ⟨g5, lb, none⟩) (lb + 1 + 4 + ld - lb) (head k D) := by
    have h := (H5.out.sl hby).cut (K := lb) (N := lb + 1 + 4 + ld - lb) (by omega) (ad := some ⟨g5, lb, none⟩) (fun _ => by simp)
    have e : ((B ++ [k] ++ w4 ld ++ D).drop lb).take (lb + 1 + 4 + ld - lb) = head k D := by
      rw [← hlb.out, ← hld.out]
      simp only [List.append_assoc, List.drop_left]
      exact List.take_of_length_le (by simp [w4_length]; omega)
    rw [e] at h
    exact h
  have HBY := hidden hby
  clear hby
  refine (crc_any _ _ _ _ w5 hsl (by omega)).mono ?_
  rintro e w6 ⟨rfl, hb6⟩
  have H6 := hidden (H5.out.later hb6)
  clear hb6 hsl
  have hcl := crc_lt (head k D)
  obtain ⟨x, hx⟩ : ∃ x, crc (head k D) = x := ⟨_, rfl⟩
  rw [hx] at hcl ⊢
  have HX := hidden hx
  clear hx
  go_wp2_with fail
  refine (appendWord_any (some ⟨g5, 0, none⟩) (lb + 1 + 4 + ld) c5 _ x w6 H6.out.row hcl (by omega)).mono ?_
  rintro e w7 ⟨a7, c7, rfl, ho7, hc7, hm7⟩
  have H7 := hidden (H6.out.step ho7 hc7 hm7)
  clear ho7 hc7 hm7
  go_wp2_with fail
  go_ret2
  have e : lb + 1 + 4 + ld + 4 = lb + (ld + 9) := by omega
  have e2 : B ++ [k] ++ w4 ld ++ D ++ w4 x = B ++ made k D := by
    rw [← HX.out, ← hld.out]
    simp [made, head]
  have h7 := H7.out
  rw [e, e2] at h7
  rw [e]
  exact ⟨_, _, rfl, h7⟩

theorem put_big (ab : Option Addr) (lb cb : Nat) (k : Int) (ad : Option Addr) (ld cd : Nat) (w : World) (hd : 4194304 < ld) (hb : ld ≤ 9223372036854775807) :
    Calls Try.prog 10 #[.slice ab lb cb, .int .u8 k, .slice ad ld cd] w fun e w' => e = .returned (.tuple #[.slice none 0 0, .int .i64 50]) ∧ w' = w := by
  have hsz := sizeN_big ld hd
  go_enter Try.func10, Try.ntmps10
  go_wp2_with fail
  refine (size_any ld w (by omega)).mono ?_
  rintro e w0 ⟨rfl, rfl⟩
  rw [hsz]
  go_wp2_with fail
  go_ret2
  exact ⟨rfl, rfl⟩

end Go.Proofs.Ytiaopgphjailiaa
