import Derived.Test.YtnfjhdedcnbdbaaGreatCrcM
import Derived.Test.YtnfjhdedcnbdbaaGreatLent
import Derived.Test.YtnfjhdedcnbdbaaGreatApp
/-
  Size, words, copies: the program's and the document's.
-/
namespace Go.Proofs.YtnfjhdedcnbdbaaGreat
open Go.RowKit
set_option linter.unusedVariables false
set_option linter.unusedSimpArgs false

set_option maxRecDepth 100000 in
theorem size_any (n : Int) (w : World) (hn : n ≤ 9223372036854775807) : Calls Tryz.prog 47 #[.int .i64 n] w fun e w' => e = .returned (.int .i64 (sizeN n)) ∧ w' = w := by
  have H : Hid (sizeN n = if n < 0 then 0 else if 4194304 < n then 0 else n + 9) := rfl
  go_enter Tryz.func47, Tryz.ntmps47
  by_cases h1 : n < 0
  · go_wp2
    go_ret
    rw [H.out, if_pos h1]
    exact ⟨rfl, rfl⟩
  · by_cases h2 : 4194304 < n
    · go_wp2
      go_ret
      rw [H.out, if_neg (by omega), if_pos h2]
      exact ⟨rfl, rfl⟩
    · go_wp2
      go_ret
      rw [H.out, if_neg (by omega), if_neg (by omega)]
      refine ⟨?_, rfl⟩
      show Ending.returned (.int .i64 _) = _
      congr 2
      omega
theorem or32 (a b k : Nat) (ha : a < 2 ^ k) (hb : b * 2 ^ k < 4294967296) (hk : k < 32) : bits .or .u32 (a : Int) ((b : Int) * ((2 ^ k : Nat) : Int)) = ((a + 2 ^ k * b : Nat) : Int) := by
  have h := u32_or_nat a (b * 2 ^ k) (Nat.lt_of_lt_of_le ha (by have := Nat.pow_le_pow_right (n := 2) (by decide) (Nat.le_of_lt hk); omega)) hb
  rw [Int.natCast_mul] at h
  refine h.trans ?_
  rw [Nat.or_comm, Nat.mul_comm, ← Nat.two_pow_add_eq_or_of_lt ha, Nat.add_comm]
theorem word_or (n0 n1 n2 n3 : Nat) (h0 : n0 ≤ 255) (h1 : n1 ≤ 255) (h2 : n2 ≤ 255) (h3 : n3 ≤ 255) : bits .or .u32 (bits .or .u32 (bits .or .u32 (n0 : Int) ((n1 : Int) * 256)) ((n2 : Int) * 65536)) ((n3 : Int) * 16777216) = ((n0 + 256 * n1 + 65536 * n2 + 16777216 * n3 : Nat) : Int) := by
  have e1 : bits .or .u32 (n0 : Int) ((n1 : Int) * 256) = ((n0 + 256 * n1 : Nat) : Int) := or32 n0 n1 8 (by omega) (by omega) (by decide)
  rw [e1]
  have e2 : bits .or .u32 ((n0 + 256 * n1 : Nat) : Int) ((n2 : Int) * 65536) = ((n0 + 256 * n1 + 65536 * n2 : Nat) : Int) := or32 _ n2 16 (by omega) (by omega) (by decide)
  rw [e2]
  exact or32 _ n3 24 (by omega) (by omega) (by decide)

set_option maxHeartbeats 1000000 in
set_option maxRecDepth 100000 in
theorem wordAt_any (ad : Option Addr) (len cap : Nat) (l : List Int) (w : World) (hs : Sl w ad len l) (h4 : 4 ≤ len) : Calls Tryz.prog 103 #[.slice ad len cap] w fun e w' => e = .returned (.int .u32 (num4 l : Nat)) ∧ ∃ n, w' = w.drewN n := by
  obtain ⟨b, off, rfl, _, hc⟩ := hs.at (by omega)
  have c0 : w.cell? ⟨b, off, none⟩ = some (.int .u8 (l.getD 0 0)) := hc 0 (by omega)
  have c1 := hc 1 (by omega)
  have c2 := hc 2 (by omega)
  have c3 := hc 3 (by omega)
  have b0 := hs.byte.at 0
  have b1 := hs.byte.at 1
  have b2 := hs.byte.at 2
  have b3 := hs.byte.at 3
  have H : Hid (num4 l = (l.getD 0 0).toNat + 256 * (l.getD 1 0).toNat + 65536 * (l.getD 2 0).toNat + 16777216 * (l.getD 3 0).toNat) := rfl
  clear hc hs
  generalize l.getD 0 0 = x0 at *
  generalize l.getD 1 0 = x1 at *
  generalize l.getD 2 0 = x2 at *
  generalize l.getD 3 0 = x3 at *
  obtain ⟨n0, rfl⟩ : ∃ n : Nat, x0 = n := ⟨x0.toNat, by omega⟩
  obtain ⟨n1, rfl⟩ : ∃ n : Nat, x1 = n := ⟨x1.toNat, by omega⟩
  obtain ⟨n2, rfl⟩ : ∃ n : Nat, x2 = n := ⟨x2.toNat, by omega⟩
  obtain ⟨n3, rfl⟩ : ∃ n : Nat, x3 = n := ⟨x3.toNat, by omega⟩
  go_enter Tryz.func103, Tryz.ntmps103
  go_wp2_with fail
  go_quiet (fail)
  go_wp2
  go_ret
  refine ⟨?_, _, rfl⟩
  show Ending.returned (.int .u32 (bits .or .u32 (bits .or .u32 (bits .or .u32 (n0 : Int) ((n1 : Int) * 256)) ((n2 : Int) * 65536)) ((n3 : Int) * 16777216))) = _
  rw [H.out, word_or n0 n1 n2 n3 (by omega) (by omega) (by omega) (by omega)]
  rfl

set_option maxHeartbeats 1000000 in
set_option maxRecDepth 100000 in
theorem word_any (ad : Option Addr) (len cap : Nat) (l : List Int) (w : World) (hs : Sl w ad len l) (h4 : 4 ≤ len) : Calls Tryz.prog 102 #[.slice ad len cap] w fun e w' => e = .returned (.int .u32 (num4 l : Nat)) ∧ ∃ n, w' = w.drewN n := by
  obtain ⟨b, off, rfl, _, hc⟩ := hs.at (by omega)
  have c0 : w.cell? ⟨b, off, none⟩ = some (.int .u8 (l.getD 0 0)) := hc 0 (by omega)
  have c1 := hc 1 (by omega)
  have c2 := hc 2 (by omega)
  have c3 := hc 3 (by omega)
  have b0 := hs.byte.at 0
  have b1 := hs.byte.at 1
  have b2 := hs.byte.at 2
  have b3 := hs.byte.at 3
  have H : Hid (num4 l = (l.getD 0 0).toNat + 256 * (l.getD 1 0).toNat + 65536 * (l.getD 2 0).toNat + 16777216 * (l.getD 3 0).toNat) := rfl
  clear hc hs
  generalize l.getD 0 0 = x0 at *
  generalize l.getD 1 0 = x1 at *
  generalize l.getD 2 0 = x2 at *
  generalize l.getD 3 0 = x3 at *
  obtain ⟨n0, rfl⟩ : ∃ n : Nat, x0 = n := ⟨x0.toNat, by omega⟩
  obtain ⟨n1, rfl⟩ : ∃ n : Nat, x1 = n := ⟨x1.toNat, by omega⟩
  obtain ⟨n2, rfl⟩ : ∃ n : Nat, x2 = n := ⟨x2.toNat, by omega⟩
  obtain ⟨n3, rfl⟩ : ∃ n : Nat, x3 = n := ⟨x3.toNat, by omega⟩
  go_enter Tryz.func102, Tryz.ntmps102
  go_wp2_with fail
  go_quiet (fail)
  go_wp2
  go_ret
  refine ⟨?_, _, rfl⟩
  show Ending.returned (.int .u32 (bits .or .u32 (bits .or .u32 (bits .or .u32 (n0 : Int) ((n1 : Int) * 256)) ((n2 : Int) * 65536)) ((n3 : Int) * 16777216))) = _
  rw [H.out, word_or n0 n1 n2 n3 (by omega) (by omega) (by omega) (by omega)]
  rfl

end Go.Proofs.YtnfjhdedcnbdbaaGreat

/-
  Words appended, lists copied.
-/
namespace Go.Proofs.YtnfjhdedcnbdbaaGreat
open Go.RowKit
set_option linter.unusedVariables false
set_option linter.unusedSimpArgs false

theorem Chg.bel_none {F : Nat → Prop} {a b : World} (h : Chg F a b) (hF : ∀ i, ¬ F i) : Below a.heap.size a b := h.below (Nat.le_refl _) (fun i hi => absurd hi (hF i))
theorem Moved.up {w w' : World} {r s : Option Nat} (h : Moved w' r s) (hs : w.heap.size ≤ w'.heap.size) : Moved w r s := by
  rcases h with e | ⟨g, e, hg⟩
  · exact .inl e
  · exact .inr ⟨g, e, by omega⟩
theorem moved_ge {w : World} {v : Value} {g : Nat} (h : Moved w (Value.slice none 0 0).ownBlock v.ownBlock) (hg : v.ownBlock = some g) : w.heap.size ≤ g := by
  rcases h with e | ⟨g', e, hg'⟩
  · rw [hg] at e
    cases e
  · rw [hg] at e
    obtain rfl := Option.some.inj e
    exact hg'
theorem owns_baseG {w : World} {base : Nat} {e : TypeId} {s : Nat} {v : Value} {n : Nat} {xs : List Value} (h : w.ownsRow 0 e s v n xs) (hb : ∀ g, v.ownBlock = some g → base ≤ g) : w.ownsRow base e s v n xs := by
  refine ⟨h.1, ?_⟩
  rcases h.2 with h0 | ⟨g, cap, cur, rfl, _, r⟩
  · exact .inl h0
  · exact .inr ⟨g, cap, cur, rfl, hb g rfl, r⟩
theorem owns_some {w : World} {base : Nat} {e : TypeId} {v : Value} {n : Nat} {xs : List Value} (h : w.ownsRow base e 1 v n xs) (hn : 0 < n) : ∃ g c, v = .slice (some ⟨g, 0, none⟩) n c ∧ n ≤ c ∧ base ≤ g ∧ g < w.heap.size := by
  rcases h.2 with ⟨_, h0⟩ | ⟨g, cap, cur, rfl, hb, hg, hc, _⟩
  · omega
  · exact ⟨g, cap, rfl, hc, hb, (Array.getElem?_eq_some_iff.1 hg).1⟩
theorem sl_noneQ {w : World} {ad : Option Addr} {n : Nat} {l : List Int} (h : Sl w ad n l) (h0 : ad = none) : n = 0 := by
  rcases Nat.eq_zero_or_pos n with e | e
  · exact e
  · obtain ⟨x, hx, _⟩ := h.cell 0 e
    rw [h0] at hx
    cases hx

set_option maxHeartbeats 1000000 in
set_option maxRecDepth 100000 in
theorem appendWord_any (ad : Option Addr) (n cap : Nat) (xs : List Int) (x : Nat) (w : World) (ho : w.ownsRow 0 5 1 (.slice ad n cap) n (cells8 xs)) (hx : x < 4294967296) (hb : n ≤ 140737488355320) :
    Calls Tryz.prog 93 #[.slice ad n cap, .int .u32 (x : Int)] w fun e w' => ∃ ad' c', e = .returned (.slice ad' (n + 4) c') ∧ w'.ownsRow 0 5 1 (.slice ad' (n + 4) c') (n + 4) (cells8 (xs ++ w4 x)) ∧
      Chg (fun i => (Value.slice ad n cap).ownBlock = some i) w w' ∧ Moved w (Value.slice ad n cap).ownBlock (Value.slice ad' (n + 4) c').ownBlock := by
  obtain ⟨i0, hi, hz0, hz1, hz2⟩ := info_parts info5
  have HO := hidden ho
  have HB := hidden (w4_byte x)
  have HX : Hid ((cells8 (w4 x)).toArray = #[Value.int .u8 ((x : Int) % 256), .int .u8 ((x : Int) / 256 % 256), .int .u8 ((x : Int) / 65536 % 256), .int .u8 ((x : Int) / 16777216)]) := by
    have e : (x : Int) / 16777216 = ((x / 16777216 % 256 : Nat) : Int) := by omega
    rw [e]
    simp [cells8, w4, Hid]
  clear ho
  go_enter Tryz.func93, Tryz.ntmps93
  go_wp2_with (at_builtin; refine wpList_appends _ rfl (.tmp 5) (.tmp 17) 28 rfl 5 i0 (.int .u8 0) Tryz.underlying28 hi hz0 hz1 hz2 rfl (.slice ad n cap) n xs rfl (HO.out.alloc _) (some ⟨w.heap.size, 0, none⟩) 4 4 (w4 x) rfl (sl_lit w (w4 x) HB.out 5 (0, 0) 4 rfl _ ?_ _ rfl) (fun h => by cases h) (by omega) ?_; (exact HX.out.symm); intro v1 w1 ho1 hc1 hm1; obtain ⟨a1, c1, rfl⟩ := owns_form ho1; have HO1 := hidden ho1; have HC1 := hidden hc1; have HM1 := hidden hm1; clear ho1 hc1 hm1)
  go_ret
  exact ⟨_, _, rfl, HO1.out, (Chg.alloc _ w _).trans HC1.out (fun i _ h => h), HM1.out.up (by simp)⟩

set_option maxRecDepth 100000 in
theorem nil_no (a : Addr) (len cap : Nat) (w : World) : (binOp .eql 28 (.slice (some a) len cap) (.slice none 0 0)).run Tryz.prog w = .ok (.bool false) w := rfl
set_option maxRecDepth 100000 in
theorem nil_yes (w : World) : (binOp .eql 28 (.slice none 0 0) (.slice none 0 0)).run Tryz.prog w = .ok (.bool true) w := rfl
theorem owns_empty (w : World) (b : Nat) (hb : b ≤ w.heap.size) (g : Nat) (hg : g = w.heap.size) : (w.alloc (.cells #[] 5)).ownsRow b 5 1 (.slice (some ⟨g, 0, none⟩) 0 0) 0 (cells8 []) := by
  subst hg
  exact ⟨rfl, .inr ⟨_, 0, #[], rfl, hb, (by rw [heap_alloc_new w]), Nat.le_refl _, Nat.zero_le _, rfl, rfl⟩⟩

set_option maxHeartbeats 1000000 in
set_option maxRecDepth 100000 in
theorem clone_any (ad : Option Addr) (len cap : Nat) (l : List Int) (w : World) (hs : Sl w ad len l) (hno : ad = none → len = 0 ∧ cap = 0) (hb : len ≤ 140737488355328) :
    Calls Tryz.prog 97 #[.slice ad len cap] w fun e w' => ∃ ad' c', e = .returned (.slice ad' len c') ∧ w'.ownsRow w.heap.size 5 1 (.slice ad' len c') len (cells8 l) ∧ Below w.heap.size w w' ∧ (ad' = none → ad = none) := by
  obtain ⟨i0, hi, hz0, hz1, hz2⟩ := info_parts info5
  have HS := hidden hs
  clear hs
  go_enter Tryz.func97, Tryz.ntmps97
  cases ad with
  | none =>
    obtain ⟨rfl, rfl⟩ := hno rfl
    have hl : Hid (l = []) := List.eq_nil_of_length_eq_zero HS.out.len
    have hnil := nil_yes
    go_wp2
    go_ret
    rw [hl.out]
    refine ⟨none, 0, rfl, World.ownsRow_nil _ _ _ _, ?_⟩
    first | exact Below.refl _ _ | exact ⟨Below.refl _ _, fun _ => rfl⟩
  | some a =>
    have hnil := nil_no a len cap
    have hbl : Below w.heap.size w (w.alloc (.cells #[] 5)) := (Below.refl _ _).alloc (Nat.le_refl _) _
    have HS1 := hidden (HS.out.later hbl)
    clear hbl
    go_wp2_with (at_builtin; refine wpList_appends _ rfl (.tmp 5) (.tmp 6) 28 rfl 5 i0 (.int .u8 0) Tryz.underlying28 hi hz0 hz1 hz2 rfl (.slice (some ⟨w.heap.size, 0, none⟩) 0 0) 0 [] rfl (owns_empty w 0 (Nat.zero_le _) _ rfl) (some a) len cap l rfl HS1.out (fun h => by cases h) (by omega) ?_; intro v1 w1 ho1 hc1 hm1; rw [Nat.zero_add, List.nil_append] at ho1; obtain ⟨a1, c1, rfl⟩ := owns_form ho1; have HO1 := hidden ho1; have HC1 := hidden hc1; have HM1 := hidden hm1; clear ho1 hc1 hm1)
    go_ret
    refine ⟨_, _, rfl, owns_baseG HO1.out (fun g hg => ?_), ((Below.refl _ w).alloc (Nat.le_refl _) _).trans (HC1.out.below (by simp) (fun i hi => by simp [Value.ownBlock] at hi; omega)), fun h => ?_⟩
    · rcases HM1.out with e | ⟨g', e, hg'⟩
      · rw [hg] at e
        simp [Value.ownBlock] at e
        omega
      · rw [hg] at e
        simp at e hg'
        omega
    · subst h
      rcases HM1.out with e | ⟨g', e, _⟩ <;> simp [Value.ownBlock] at e

end Go.Proofs.YtnfjhdedcnbdbaaGreat

/-
  Put: the program's.
-/
namespace Go.Proofs.YtnfjhdedcnbdbaaGreat
open Go.RowKit
set_option linter.unusedVariables false
set_option linter.unusedSimpArgs false

/-- A list that is being made since w. -/
structure Bld (w w' : World) (v : Value) (n : Nat) (xs : List Int) : Prop where
  row : w'.ownsRow 0 5 1 v n (cells8 xs)
  bel : Below w.heap.size w w'
  new : ∀ g, v.ownBlock = some g → w.heap.size ≤ g
theorem Bld.step {w w1 w2 : World} {v v' : Value} {n n' : Nat} {xs xs' : List Int} (h : Bld w w1 v n xs) (ho : w2.ownsRow 0 5 1 v' n' (cells8 xs')) (hc : Chg (fun i => v.ownBlock = some i) w1 w2) (hm : Moved w1 v.ownBlock v'.ownBlock) : Bld w w2 v' n' xs' := by
  refine ⟨ho, h.bel.trans (hc.below h.bel.size (fun i hi => h.new i hi)), fun g hg => ?_⟩
  rcases hm with e | ⟨g', e, hg'⟩
  · exact h.new g (by rw [← e]; exact hg)
  · rw [hg] at e
    obtain rfl := Option.some.inj e
    exact Nat.le_trans h.bel.size hg'
theorem Bld.alloc {w w1 : World} {v : Value} {n : Nat} {xs : List Int} (h : Bld w w1 v n xs) (o : Obj) : Bld w (w1.alloc o) v n xs := ⟨h.row.alloc o, h.bel.alloc h.bel.size o, h.new⟩
theorem Bld.stepA {w w1 w2 : World} {v v' : Value} {n n' : Nat} {xs xs' : List Int} {o : Obj} (h : Bld w w1 v n xs) (ho : w2.ownsRow 0 5 1 v' n' (cells8 xs')) (hc : Chg (fun i => v.ownBlock = some i) (w1.alloc o) w2) (hm : Moved (w1.alloc o) v.ownBlock v'.ownBlock) : Bld w w2 v' n' xs' := (h.alloc o).step ho hc hm
theorem Bld.later {w w1 w2 : World} {v : Value} {n : Nat} {xs : List Int} (h : Bld w w1 v n xs) (hb : Below w1.heap.size w1 w2) : Bld w w2 v n xs :=
  ⟨(Chg.of_below (F := fun _ => False) hb).owns h.row (fun _ _ h => h), h.bel.trans (hb.mono h.bel.size), h.new⟩
theorem Bld.base {w w1 : World} {v : Value} {n : Nat} {xs : List Int} (h : Bld w w1 v n xs) : w1.ownsRow w.heap.size 5 1 v n (cells8 xs) := owns_baseG h.row h.new
theorem Bld.sl {w w1 : World} {ad : Option Addr} {n c : Nat} {xs : List Int} (h : Bld w w1 (.slice ad n c) n xs) (hb : Byte xs) : Sl w1 ad n xs := sl_of_owns h.row hb

theorem owns_splice {w : World} {g n m : Nat} {l : List Int} (hl : l.length = n) (hm : m ≤ maxLen) (hnm : n ≤ m)
    (h : w.heap[g]? = some (.cells (splice (List.replicate m (Value.int .u8 0)) 0 (cells8 l)).toArray 5 (0, 0))) :
    w.ownsRow 0 5 1 (.slice (some ⟨g, 0, none⟩) n m) n (cells8 l) := by
  refine ⟨by rw [cells8_length, hl]; omega, .inr ⟨g, m, _, rfl, Nat.zero_le _, h, hnm, hm, ?_, ?_⟩⟩
  · rw [List.size_toArray, length_splice _ _ _ (by rw [cells8_length, hl]; simp; omega)]
    simp
  · simp only [splice, List.take_zero, List.nil_append, Nat.mul_one]
    rw [List.take_append_of_le_length (by rw [cells8_length, hl]; omega), List.take_of_length_le (by rw [cells8_length, hl]; omega)]
theorem copy_src {w w1 : World} {ad : Option Addr} {len : Nat} {l : List Int} (hs : Sl w ad len l) (hb : Below w.heap.size w w1) {dp d : Option Addr} (hd : dp = d) :
    0 < (cells8 l).length → dp = d ∧ ∃ x, ad = some x ∧ ∀ j v, (cells8 l)[j]? = some v → w1.cell? (x.add j) = some v := by
  intro hp
  rw [cells8_length, hs.len] at hp
  have hs2 := hs.later hb
  obtain ⟨b, off, rfl, _⟩ := hs.at hp
  exact ⟨hd, _, rfl, hs2.cells⟩
theorem sizeN_ok (n : Nat) (h : n ≤ 4194304) : sizeN (n : Int) = ((n + 9 : Nat) : Int) := by
  unfold sizeN
  rw [if_neg (by omega), if_neg (by omega)]
  omega
theorem sizeN_big (n : Nat) (h : 4194304 < n) : sizeN (n : Int) = 0 := by
  unfold sizeN
  rw [if_neg (by omega), if_pos (by omega)]

set_option maxHeartbeats 1000000 in
set_option maxRecDepth 100000 in
theorem put_any (ab : Option Addr) (lb cb : Nat) (B : List Int) (k : Int) (ad : Option Addr) (ld cd : Nat) (D : List Int) (w : World) (hsb : Sl w ab lb B) (hk : 0 ≤ k ∧ k ≤ 255) (hsd : Sl w ad ld D) (hnd : ad = none → ld = 0 ∧ cd = 0) (hb : lb ≤ 70368744177664) (hd : ld ≤ 4194304) :
    Calls Tryz.prog 79 #[.slice ab lb cb, .int .u8 k, .slice ad ld cd] w fun e w' => ∃ ag c, e = .returned (.tuple #[.slice ag (lb + (ld + 9)) c, .int .i64 0]) ∧ Bld w w' (.slice ag (lb + (ld + 9)) c) (lb + (ld + 9)) (B ++ made k D) := by
  obtain ⟨i0, hi, hz0, hz1, hz2⟩ := info_parts info5
  have hlb := hidden hsb.len
  have hld := hidden hsd.len
  have HSB := hidden hsb
  have HSD := hidden hsd
  have HND := hidden hnd
  have hsz := sizeN_ok ld hd
  have HK := hidden hk
  clear hsb hsd hnd
  obtain ⟨g, hg⟩ : ∃ g, g = w.heap.size := ⟨_, rfl⟩
  have HG := hidden hg
  go_enter Tryz.func79, Tryz.ntmps79
  go_wp2_with fail
  refine (size_any ld w (by omega)).mono ?_
  rintro e w0 ⟨rfl, rfl⟩
  rw [hsz]
  obtain ⟨s, hs⟩ : ∃ s, ld + 9 = s := ⟨_, rfl⟩
  rw [hs]
  have hs0 : ((s : Nat) : Int) ≠ 0 := by omega
  have hs1 : s ≤ 4194313 := by omega
  have HSS := hidden hs
  clear hsz hs
  go_wp2_with (first
    | (at_make; refine wpList_make_room _ rfl _ _ 28 rfl 5 i0 (.int .u8 0) Tryz.underlying28 hi hz0 hz1 hz2 rfl _ _ _ _ lb (lb + s) rfl rfl (by omega) (by omega) (by omega) (by omega) ?_; intro w1 hr1 hs1 hb1; have HR1 := hidden hr1; have HB1 := hidden hb1; clear hr1 hb1 hs1)
    | (refine wpList_copy_splice rfl (.tmp 22) (.tmp 23) 28 28 rfl 5 Tryz.underlying28 size5b _ _ lb (lb + s) lb cb rfl rfl w0.heap.size 0 (List.replicate (lb + s) (.int .u8 0)) 5 HR1.out (cells8 B) (by rw [cells8_length, hlb.out]; simp) (copy_src HSB.out HB1.out rfl) (by rw [cells8_length, hlb.out]; simp) (cells8_one B) w0.heap.size w0 HB1.out (Nat.le_refl _) ?_))
  intro w2 hr2 hb2
  have H2 : Hid (Bld w0 w2 (.slice (some ⟨w0.heap.size, 0, none⟩) lb (lb + s)) lb B) := ⟨owns_splice hlb.out (by unfold maxLen; omega) (by omega) hr2.out, hb2, fun g hg => by simp [Value.ownBlock] at hg; omega⟩
  clear hr2 hb2 HR1 HB1
  rw [← HG.out]
  rw [← HG.out] at H2
  go_wp2_with (first
    | (at_builtin; refine wpList_appends _ rfl (.tmp 25) (.tmp 27) 28 rfl 5 i0 (.int .u8 0) Tryz.underlying28 hi hz0 hz1 hz2 rfl (.slice (some ⟨g, 0, none⟩) lb (lb + s)) lb B rfl (H2.out.row.alloc _) (some ⟨w2.heap.size, 0, none⟩) 1 1 [k] rfl (sl_lit w2 [k] (fun z hz => by simp at hz; rw [hz]; exact HK.out) 5 (0, 0) 1 rfl _ rfl _ rfl) (fun h => by cases h) (by omega) ?_; intro v3 w3 ho3 hc3 hm3; have H3 := hidden (H2.out.stepA ho3 hc3 hm3); obtain ⟨a3, c3, rfl⟩ := owns_form ho3; clear ho3 hc3 hm3))
  refine (appendWord_any a3 (lb + 1) c3 (B ++ [k]) ld w3 H3.out.row (by omega) (by omega)).mono ?_
  rintro e w4' ⟨a4, c4, rfl, ho4, hc4, hm4⟩
  have H4 := hidden (H3.out.step ho4 hc4 hm4)
  clear ho4 hc4 hm4
  go_wp2_with (first
    | (at_builtin; refine wpList_appends _ rfl (.tmp 34) (.tmp 35) 28 rfl 5 i0 (.int .u8 0) Tryz.underlying28 hi hz0 hz1 hz2 rfl (.slice a4 (lb + 1 + 4) c4) (lb + 1 + 4) (B ++ [k] ++ w4 ld) rfl H4.out.row ad ld cd D rfl (HSD.out.later H4.out.bel) HND.out (by omega) ?_; intro v5 w5 ho5 hc5 hm5; have H5 := hidden (H4.out.step ho5 hc5 hm5); obtain ⟨g5, c5, rfl, hl5, _, _⟩ := owns_some ho5 (by omega); clear ho5 hc5 hm5))
  have hby : Byte (B ++ [k] ++ w4 ld ++ D) := ((HSB.out.byte.append (fun z hz => by simp at hz; rw [hz]; exact HK.out)).append (w4_byte ld)).append HSD.out.byte
  have hsl : Sl w5 (some ⟨g5, lb, none⟩) (lb + 1 + 4 + ld - lb) (head k D) := by
    have h := (H5.out.sl hby).cut (K := lb) (N := lb + 1 + 4 + ld - lb) (by omega) (ad := some ⟨g5, lb, none⟩) (fun _ => by simp)
    have e : ((B ++ [k] ++ w4 ld ++ D).drop lb).take (lb + 1 + 4 + ld - lb) = head k D := by
      rw [← hlb.out, ← hld.out]
      simp only [List.append_assoc, List.drop_left]
      exact List.take_of_length_le (by simp [w4_length]; omega)
    rw [e] at h
    exact h
  have HBY := hidden hby
  clear hby
  refine (crc_any _ _ _ _ w5 hsl (by omega)).mono ?_
  rintro e w6 ⟨rfl, hb6⟩
  have H6 := hidden (H5.out.later hb6)
  clear hb6 hsl
  have hcl := crc_lt (head k D)
  obtain ⟨x, hx⟩ : ∃ x, crc (head k D) = x := ⟨_, rfl⟩
  rw [hx] at hcl ⊢
  have HX := hidden hx
  clear hx
  go_wp2_with fail
  refine (appendWord_any (some ⟨g5, 0, none⟩) (lb + 1 + 4 + ld) c5 _ x w6 H6.out.row hcl (by omega)).mono ?_
  rintro e w7 ⟨a7, c7, rfl, ho7, hc7, hm7⟩
  have H7 := hidden (H6.out.step ho7 hc7 hm7)
  clear ho7 hc7 hm7
  go_wp2_with fail
  go_ret2
  have e : lb + 1 + 4 + ld + 4 = lb + (ld + 9) := by omega
  have e2 : B ++ [k] ++ w4 ld ++ D ++ w4 x = B ++ made k D := by
    rw [← HX.out, ← hld.out]
    simp [made, head]
  have h7 := H7.out
  rw [e, e2] at h7
  rw [e]
  exact ⟨_, _, rfl, h7⟩

set_option maxRecDepth 100000 in
theorem put_big (ab : Option Addr) (lb cb : Nat) (k : Int) (ad : Option Addr) (ld cd : Nat) (w : World) (hd : 4194304 < ld) (hb : ld ≤ 9223372036854775807) :
    Calls Tryz.prog 79 #[.slice ab lb cb, .int .u8 k, .slice ad ld cd] w fun e w' => e = .returned (.tuple #[.slice none 0 0, .int .i64 50]) ∧ w' = w := by
  have hsz := sizeN_big ld hd
  go_enter Tryz.func79, Tryz.ntmps79
  go_wp2_with fail
  refine (size_any ld w (by omega)).mono ?_
  rintro e w0 ⟨rfl, rfl⟩
  rw [hsz]
  go_wp2_with fail
  go_ret2
  exact ⟨rfl, rfl⟩

end Go.Proofs.YtnfjhdedcnbdbaaGreat

/-
  The frames with which bytes begin. Nothing of the program.
-/
namespace Go.Proofs.YtnfjhdedcnbdbaaGreat
open Go.RowKit
set_option linter.unusedVariables false

def scanL : Nat → List Int → List (Int × List Int)
  | 0, _ => []
  | f + 1, l => if (gett l).2.2 = 0 then [] else ((gett l).1, (gett l).2.1) :: scanL f (l.drop (gett l).2.2)
def frames (l : List Int) : List (Int × List Int) := scanL l.length l
theorem gett_nil (l : List Int) (h : l.length = 0) : (gett l).2.2 = 0 := by rw [gett_short (by omega)]
theorem gett_pos {l : List Int} (h : (gett l).2.2 ≠ 0) : 9 ≤ (gett l).2.2 ∧ (gett l).2.2 ≤ l.length ∧ (gett l).2.2 = (gett l).2.1.length + 9 ∧ (gett l).2.1.length ≤ 4194304 := by
  rcases gett_n l with e | ⟨e, e2, e3⟩
  · exact absurd e h
  · omega
theorem scanL_fuel : ∀ (f g : Nat) (l : List Int), l.length ≤ f → l.length ≤ g → scanL f l = scanL g l
  | 0, 0, _, _, _ => rfl
  | 0, g + 1, l, hf, _ => by simp [scanL, gett_nil l (by omega)]
  | f + 1, 0, l, _, hg => by simp [scanL, gett_nil l (by omega)]
  | f + 1, g + 1, l, hf, hg => by
    unfold scanL
    by_cases h : (gett l).2.2 = 0
    · rw [if_pos h, if_pos h]
    · have := gett_pos h
      rw [if_neg h, if_neg h, scanL_fuel f g _ (by rw [List.length_drop]; omega) (by rw [List.length_drop]; omega)]
theorem frames_none {l : List Int} (h : (gett l).2.2 = 0) : frames l = [] := by
  unfold frames
  cases l.length with
  | zero => rfl
  | succ n => unfold scanL; rw [if_pos h]
theorem frames_some {l : List Int} (h : (gett l).2.2 ≠ 0) : frames l = ((gett l).1, (gett l).2.1) :: frames (l.drop (gett l).2.2) := by
  have hp := gett_pos h
  unfold frames
  obtain ⟨n, hn⟩ : ∃ n, l.length = n + 1 := ⟨l.length - 1, by omega⟩
  rw [hn]
  conv => lhs; unfold scanL
  rw [if_neg h, scanL_fuel n _ _ (by rw [List.length_drop]; omega) (Nat.le_refl _)]
/-- How many bytes frames have together. -/
def fsz : List (Int × List Int) → Nat
  | [] => 0
  | x :: r => x.2.length + 9 + fsz r
theorem fsz_append (a b : List (Int × List Int)) : fsz (a ++ b) = fsz a + fsz b := by
  induction a with
  | nil => simp [fsz]
  | cons x r ih => simp only [List.cons_append, fsz, ih]; omega
theorem frames_ind {p : List Int → Prop} (h : ∀ l, ((gett l).2.2 ≠ 0 → p (l.drop (gett l).2.2)) → p l) (l : List Int) : p l := by
  suffices ∀ n (l : List Int), l.length ≤ n → p l from this _ l (Nat.le_refl _)
  intro n
  induction n with
  | zero => exact fun l hl => h l (fun hh => absurd (gett_nil l (by omega)) hh)
  | succ n ih => exact fun l hl => h l (fun hh => ih _ (by have := gett_pos hh; rw [List.length_drop]; omega))
theorem fsz_le (l : List Int) : fsz (frames l) ≤ l.length := by
  induction l using frames_ind with
  | _ l ih =>
    by_cases h : (gett l).2.2 = 0
    · rw [frames_none h]; exact Nat.zero_le _
    · have hp := gett_pos h
      have := ih h
      rw [frames_some h]
      simp only [fsz]
      rw [List.length_drop] at this
      omega
/-- Behind some frames stand the others. -/
theorem frames_drop (l : List Int) : ∀ (pre rest : List (Int × List Int)), frames l = pre ++ rest → frames (l.drop (fsz pre)) = rest := by
  induction l using frames_ind with
  | _ l ih =>
    intro pre rest he
    cases pre with
    | nil => simpa [fsz] using he
    | cons x r =>
      by_cases h : (gett l).2.2 = 0
      · rw [frames_none h] at he; cases he
      · have hp := gett_pos h
        rw [frames_some h] at he
        injection he with h1 h2
        have := ih h r rest h2
        rw [List.drop_drop] at this
        rw [← this, ← h1]
        simp only [fsz]
        rw [hp.2.2.1]
theorem fsz_pre {l : List Int} {pre rest : List (Int × List Int)} (h : frames l = pre ++ rest) : fsz pre + fsz rest ≤ l.length := by
  have := fsz_le l
  rw [h, fsz_append] at this
  exact this
theorem fsz_len (fs : List (Int × List Int)) : 9 * fs.length ≤ fsz fs := by
  induction fs with
  | nil => exact Nat.le_refl _
  | cons x r ih => simp only [fsz, List.length_cons]; omega
theorem frames_byte {l : List Int} (hb : Byte l) : ∀ x ∈ frames l, Byte x.2 ∧ 0 ≤ x.1 ∧ x.1 ≤ 255 ∧ x.2.length ≤ 4194304 := by
  induction l using frames_ind with
  | _ l ih =>
    intro x hx
    by_cases h : (gett l).2.2 = 0
    · rw [frames_none h] at hx; cases hx
    · have hp := gett_pos h
      rw [frames_some h] at hx
      rcases List.mem_cons.1 hx with rfl | hx
      · exact ⟨gett_byte hb, (gett_k hb).1, (gett_k hb).2, hp.2.2.2⟩
      · exact ih h (hb.drop _) x hx

end Go.Proofs.YtnfjhdedcnbdbaaGreat

/-
  Frames put, cut off, turned. Nothing of the program.
-/
namespace Go.Proofs.YtnfjhdedcnbdbaaGreat
open Go.RowKit
set_option linter.unusedVariables false

theorem num4_take (l : List Int) (m : Nat) (h : 4 ≤ m) : num4 (l.take m) = num4 l := by
  unfold num4
  simp only [List.getD, List.getElem?_take]
  rw [if_pos (by omega), if_pos (by omega), if_pos (by omega), if_pos (by omega)]
theorem made_n (k : Int) (d x : List Int) (h : d.length ≤ 4194304) : num4 ((made k d ++ x).drop 1) = d.length := by
  have e : (made k d ++ x).drop 1 = w4 d.length ++ (d ++ w4 (crc (head k d)) ++ x) := by simp [made, head]
  rw [e, num4_w4 _ (by omega)]
theorem made_head (k : Int) (d x : List Int) : (made k d ++ x).take (5 + d.length) = head k d := by
  have e : made k d ++ x = head k d ++ (w4 (crc (head k d)) ++ x) := by simp [made]
  rw [e, List.take_append_of_le_length (by rw [head_length]; omega), List.take_of_length_le (by rw [head_length]; omega)]
theorem made_tail (k : Int) (d x : List Int) : (made k d ++ x).drop (5 + d.length) = w4 (crc (head k d)) ++ x := by
  have e : made k d ++ x = head k d ++ (w4 (crc (head k d)) ++ x) := by simp [made]
  rw [e, show 5 + d.length = (head k d).length by rw [head_length]; omega, List.drop_left]
theorem made_data (k : Int) (d x : List Int) : ((made k d ++ x).drop 5).take d.length = d := by
  have e : (made k d ++ x).drop 5 = d ++ (w4 (crc (head k d)) ++ x) := by simp [made, head, w4]
  rw [e, List.take_left]
theorem made_kind (k : Int) (d x : List Int) : (made k d ++ x).getD 0 0 = k := by simp [made, head]
theorem gett_made (k : Int) (d x : List Int) (h : d.length ≤ 4194304) : gett (made k d ++ x) = (k, d, d.length + 9) := by
  rw [gett_some (made_n k d x h) h (by rw [List.length_append, made_length]; omega) (by rw [made_tail, made_head, num4_w4 _ (crc_lt _)]), made_kind, made_data]
theorem gett_cut (k : Int) (d : List Int) (h : d.length ≤ 4194304) (m : Nat) (hm : m < d.length + 9) : gett ((made k d).take m) = (0, [], 0) := by
  by_cases h9 : m < 9
  · exact gett_short (by rw [List.length_take]; omega)
  · refine gett_none (n := d.length) ?_ (.inr ?_)
    · have := made_n k d [] h
      rw [List.append_nil] at this
      rw [List.drop_take, num4_take _ _ (by omega), this]
    · rw [List.length_take]
      omega
theorem gett_inv {l : List Int} {n : Nat} (h : (gett l).2.2 = n + 9) : num4 (l.drop 1) = n ∧ num4 (l.drop (5 + n)) = crc (l.take (5 + n)) := by
  unfold gett at h
  split at h
  · cases h
  · split at h
    · cases h
    · split at h
      · rename_i e
        have e2 : num4 (l.drop 1) = n := by simpa using h
        rw [e2] at e
        exact ⟨e2, e⟩
      · cases h
theorem xor_ne (x B : Nat) (h : B ≠ 0) : x ^^^ B ≠ x := by
  intro e
  apply h
  have h1 : (x ^^^ B) ^^^ x = x ^^^ x := by rw [e]
  rw [Nat.xor_self, Nat.xor_comm x B, Nat.xor_assoc, Nat.xor_self, Nat.xor_zero] at h1
  exact h1
theorem xor_lt256 (x B : Nat) (hx : x < 256) (hB : B < 256) : x ^^^ B < 256 := Nat.xor_lt_two_pow (n := 8) hx hB
theorem num_set : ∀ (l : List Int) (k B : Nat), k < l.length → B < 256 → Byte l → num (l.set k (((l.getD k 0).toNat ^^^ B : Nat) : Int)) = num l ^^^ (2 ^ (8 * k) * B)
  | [], k, B, hk, _, _ => absurd hk (by simp)
  | c :: l, 0, B, hk, hB, hb => by
    have hc := hb c (by simp)
    have h1 : (c.toNat ^^^ B) < 256 := xor_lt256 _ _ (by omega) hB
    simp only [List.set_cons_zero, num, List.getD_cons_zero, Int.toNat_natCast, Nat.mul_zero, Nat.pow_zero, Nat.one_mul]
    rw [join256 _ _ h1, join256 _ _ (by omega), Nat.xor_assoc, Nat.xor_comm B, ← Nat.xor_assoc]
  | c :: l, k + 1, B, hk, hB, hb => by
    have hc := hb c (by simp)
    have ih := num_set l k B (by simpa using hk) hB (fun z hz => hb z (by simp [hz]))
    simp only [List.set_cons_succ, num, List.getD_cons_succ]
    rw [ih, join256 _ _ (by omega), join256 _ _ (by omega), mul256, ← Nat.xor_assoc]
    congr 1
    rw [← Nat.mul_assoc, show 8 * (k + 1) = 8 + 8 * k by omega, Nat.pow_add]
theorem set_byte (l : List Int) (k B : Nat) (hB : B < 256) (hb : Byte l) : Byte (l.set k (((l.getD k 0).toNat ^^^ B : Nat) : Int)) := by
  intro z hz
  rcases List.mem_or_eq_of_mem_set hz with h | h
  · exact hb z h
  · have := hb.at k
    have := xor_lt256 (l.getD k 0).toNat B (by omega) hB
    omega
theorem crc_set (l : List Int) (k B : Nat) (hk : k < l.length) (hB : B < 256) (h0 : B ≠ 0) (hb : Byte l) : crc (l.set k (((l.getD k 0).toNat ^^^ B : Nat) : Int)) ≠ crc l :=
  crc_turned l _ (8 * k) B hb (set_byte l k B hB hb) (by simp) (by omega) (by omega) h0 (num_set l k B hk hB hb)
theorem w4_turned (n j B : Nat) (hn : n < 4294967296) (hj : j < 4) (h0 : B ≠ 0) : num4 ((w4 n).set j ((((w4 n).getD j 0).toNat ^^^ B : Nat) : Int)) ≠ n := by
  have hx := fun x => xor_ne x B h0
  rcases (show j = 0 ∨ j = 1 ∨ j = 2 ∨ j = 3 by omega) with rfl | rfl | rfl | rfl <;> simp only [w4, List.set_cons_zero, List.set_cons_succ, num4, List.getD_cons_zero, List.getD_cons_succ, Int.toNat_natCast]
  · have := hx (n % 256); omega
  · have := hx (n / 256 % 256); omega
  · have := hx (n / 65536 % 256); omega
  · have := hx (n / 16777216 % 256); omega
/-- A frame of which a byte is turned is none of that length. -/
theorem gett_turned (k : Int) (d : List Int) (hk : 0 ≤ k ∧ k ≤ 255) (hd : Byte d) (h : d.length ≤ 4194304) (j B : Nat) (hj : j < d.length + 9) (hB : B < 256) (h0 : B ≠ 0) :
    (gett ((made k d).set j ((((made k d).getD j 0).toNat ^^^ B : Nat) : Int))).2.2 ≠ d.length + 9 := by
  intro e
  obtain ⟨_, e2⟩ := gett_inv e
  have ht := made_tail k d []
  have hh := made_head k d []
  rw [List.append_nil] at ht hh
  by_cases hc : j < 5 + d.length
  · rw [List.drop_set_of_lt hc, ht, List.append_nil, ← List.append_nil (w4 _), num4_w4 _ (crc_lt _), List.take_set] at e2
    have hg : (made k d).getD j 0 = (head k d).getD j 0 := by
      rw [← hh]
      simp only [List.getD, List.getElem?_take]
      rw [if_pos hc]
    rw [hh, hg] at e2
    exact crc_set (head k d) j B (by rw [head_length]; omega) hB h0 (head_byte hk hd) e2.symm
  · rw [List.take_set_of_le (by omega), hh, List.drop_set, if_neg (by omega), ht] at e2
    have hg : (made k d).getD j 0 = (w4 (crc (head k d))).getD (j - (5 + d.length)) 0 := by
      rw [List.append_nil] at ht
      rw [← ht]
      simp only [List.getD, List.getElem?_drop]
      rw [show 5 + d.length + (j - (5 + d.length)) = j by omega]
    rw [hg, List.append_nil] at e2
    exact w4_turned _ _ B (crc_lt _) (by omega) h0 e2

end Go.Proofs.YtnfjhdedcnbdbaaGreat
