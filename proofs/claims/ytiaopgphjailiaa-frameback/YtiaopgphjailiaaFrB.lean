/-
  Words appended, lists copied.
-/
import Derived.Test.YtiaopgphjailiaaFrA
namespace Go.Proofs.Ytiaopgphjailiaa
open Go.RowKit
set_option linter.unusedVariables false
set_option linter.unusedSimpArgs false

theorem Chg.bel_none {F : Nat → Prop} {a b : World} (h : Chg F a b) (hF : ∀ i, ¬ F i) : Below a.heap.size a b := h.below (Nat.le_refl _) (fun i hi => absurd hi (hF i))
theorem Moved.up {w w' : World} {r s : Option Nat} (h : Moved w' r s) (hs : w.heap.size ≤ w'.heap.size) : Moved w r s := by
  rcases h with e | ⟨g, e, hg⟩
  · exact .inl e
  · exact .inr ⟨g, e, by omega⟩
theorem moved_ge {w : World} {v : Value} {g : Nat} (h : Moved w (Value.slice none 0 0).ownBlock v.ownBlock) (hg : v.ownBlock = some g) : w.heap.size ≤ g := by
  rcases h with e | ⟨g', e, hg'⟩
  · rw [hg] at e
    cases e
  · rw [hg] at e
    obtain rfl := Option.some.inj e
    exact hg'
theorem owns_baseG {w : World} {base : Nat} {e : TypeId} {s : Nat} {v : Value} {n : Nat} {xs : List Value} (h : w.ownsRow 0 e s v n xs) (hb : ∀ g, v.ownBlock = some g → base ≤ g) : w.ownsRow base e s v n xs := by
  refine ⟨h.1, ?_⟩
  rcases h.2 with h0 | ⟨g, cap, cur, rfl, _, r⟩
  · exact .inl h0
  · exact .inr ⟨g, cap, cur, rfl, hb g rfl, r⟩
theorem owns_some {w : World} {base : Nat} {e : TypeId} {v : Value} {n : Nat} {xs : List Value} (h : w.ownsRow base e 1 v n xs) (hn : 0 < n) : ∃ g c, v = .slice (some ⟨g, 0, none⟩) n c ∧ n ≤ c ∧ base ≤ g ∧ g < w.heap.size := by
  rcases h.2 with ⟨_, h0⟩ | ⟨g, cap, cur, rfl, hb, hg, hc, _⟩
  · omega
  · exact ⟨g, cap, rfl, hc, hb, (Array.getElem?_eq_some_iff.1 hg).1⟩
theorem sl_noneQ {w : World} {ad : Option Addr} {n : Nat} {l : List Int} (h : Sl w ad n l) (h0 : ad = none) : n = 0 := by
  rcases Nat.eq_zero_or_pos n with e | e
  · exact e
  · obtain ⟨x, hx, _⟩ := h.cell 0 e
    rw [h0] at hx
    cases hx

set_option maxHeartbeats 1000000 in
theorem appendWord_any (ad : Option Addr) (n cap : Nat) (xs : List Int) (x : Nat) (w : World) (ho : w.ownsRow 0 5 1 (.slice ad n cap) n (cells8 xs)) (hx : x < 4294967296) (hb : n ≤ 140737488355320) :
    Calls Try.prog 22 #[.slice ad n cap, .int .u32 (x : Int)] w fun e w' => ∃ ad' c', e = .returned (.slice ad' (n + 4) c') ∧ w'.ownsRow 0 5 1 (.slice ad' (n + 4) c') (n + 4) (cells8 (xs ++ w4 x)) ∧
      Chg (fun i => (Value.slice ad n cap).ownBlock = some i) w w' ∧ Moved w (Value.slice ad n cap).ownBlock (Value.slice ad' (n + 4) c').ownBlock := by
  obtain ⟨i0, hi, hz0, hz1, hz2⟩ := info_parts info5
  have HO := hidden ho
  have HB := hidden (w4_byte x)
  have HX : Hid ((cells8 (w4 x)).toArray = #[Value.int .u8 ((x : Int) % 256), .int .u8 ((x : Int) / 256 % 256), .int .u8 ((x : Int) / 65536 % 256), .int .u8 ((x : Int) / 16777216)]) := by
    have e : (x : Int) / 16777216 = ((x / 16777216 % 256 : Nat) : Int) := by omega
    rw [e]
    simp [cells8, w4, Hid]
  clear ho
  go_enter Try.func22, Try.ntmps22
  go_wp2_with (at_builtin; refine wpList_appends _ rfl (.tmp 5) (.tmp 17) 22 rfl 5 i0 (.int .u8 0) Try.underlying22 hi hz0 hz1 hz2 rfl (.slice ad n cap) n xs rfl (HO.out.alloc _) (some ⟨w.heap.size, 0, none⟩) 4 4 (w4 x) rfl (sl_lit w (w4 x) HB.out 5 (0, 0) 4 rfl _ ?_ _ rfl) (fun h => by cases h) (by omega) ?_; (exact HX.out.symm); intro v1 w1 ho1 hc1 hm1; obtain ⟨a1, c1, rfl⟩ := owns_form ho1; have HO1 := hidden ho1; have HC1 := hidden hc1; have HM1 := hidden hm1; clear ho1 hc1 hm1)
  go_ret
  exact ⟨_, _, rfl, HO1.out, (Chg.alloc _ w _).trans HC1.out (fun i _ h => h), HM1.out.up (by simp)⟩

set_option maxHeartbeats 1000000 in
theorem four_any (ad : Option Addr) (n cap : Nat) (xs : List Int) (x : Nat) (w : World) (ho : w.ownsRow 0 5 1 (.slice ad n cap) n (cells8 xs)) (hx : x < 4294967296) (hb : n ≤ 140737488355320) :
    Calls Try.prog 31 #[.slice ad n cap, .int .u32 (x : Int)] w fun e w' => ∃ ad' c', e = .returned (.slice ad' (n + 4) c') ∧ w'.ownsRow 0 5 1 (.slice ad' (n + 4) c') (n + 4) (cells8 (xs ++ w4 x)) ∧
      Chg (fun i => (Value.slice ad n cap).ownBlock = some i) w w' ∧ Moved w (Value.slice ad n cap).ownBlock (Value.slice ad' (n + 4) c').ownBlock := by
  obtain ⟨i0, hi, hz0, hz1, hz2⟩ := info_parts info5
  have HO := hidden ho
  have HB := hidden (w4_byte x)
  have HX : Hid ((cells8 (w4 x)).toArray = #[Value.int .u8 ((x : Int) % 256), .int .u8 ((x : Int) / 256 % 256), .int .u8 ((x : Int) / 65536 % 256), .int .u8 ((x : Int) / 16777216)]) := by
    have e : (x : Int) / 16777216 = ((x / 16777216 % 256 : Nat) : Int) := by omega
    rw [e]
    simp [cells8, w4, Hid]
  clear ho
  go_enter Try.func31, Try.ntmps31
  go_wp2_with (at_builtin; refine wpList_appends _ rfl (.tmp 5) (.tmp 17) 22 rfl 5 i0 (.int .u8 0) Try.underlying22 hi hz0 hz1 hz2 rfl (.slice ad n cap) n xs rfl (HO.out.alloc _) (some ⟨w.heap.size, 0, none⟩) 4 4 (w4 x) rfl (sl_lit w (w4 x) HB.out 5 (0, 0) 4 rfl _ ?_ _ rfl) (fun h => by cases h) (by omega) ?_; (exact HX.out.symm); intro v1 w1 ho1 hc1 hm1; obtain ⟨a1, c1, rfl⟩ := owns_form ho1; have HO1 := hidden ho1; have HC1 := hidden hc1; have HM1 := hidden hm1; clear ho1 hc1 hm1)
  go_ret
  exact ⟨_, _, rfl, HO1.out, (Chg.alloc _ w _).trans HC1.out (fun i _ h => h), HM1.out.up (by simp)⟩

theorem nil_no (a : Addr) (len cap : Nat) (w : World) : (binOp .eql 22 (.slice (some a) len cap) (.slice none 0 0)).run Try.prog w = .ok (.bool false) w := rfl
theorem nil_yes (w : World) : (binOp .eql 22 (.slice none 0 0) (.slice none 0 0)).run Try.prog w = .ok (.bool true) w := rfl
theorem owns_empty (w : World) (b : Nat) (hb : b ≤ w.heap.size) (g : Nat) (hg : g = w.heap.size) : (w.alloc (.cells #[] 5)).ownsRow b 5 1 (.slice (some ⟨g, 0, none⟩) 0 0) 0 (cells8 []) := by
  subst hg
  exact ⟨rfl, .inr ⟨_, 0, #[], rfl, hb, (by rw [heap_alloc_new w]), Nat.le_refl _, Nat.zero_le _, rfl, rfl⟩⟩

set_option maxHeartbeats 1000000 in
theorem clone_any (ad : Option Addr) (len cap : Nat) (l : List Int) (w : World) (hs : Sl w ad len l) (hno : ad = none → len = 0 ∧ cap = 0) (hb : len ≤ 140737488355328) :
    Calls Try.prog 26 #[.slice ad len cap] w fun e w' => ∃ ad' c', e = .returned (.slice ad' len c') ∧ w'.ownsRow w.heap.size 5 1 (.slice ad' len c') len (cells8 l) ∧ Below w.heap.size w w' ∧ (ad' = none → ad = none) := by
  obtain ⟨i0, hi, hz0, hz1, hz2⟩ := info_parts info5
  have HS := hidden hs
  clear hs
  go_enter Try.func26, Try.ntmps26
  cases ad with
  | none =>
    obtain ⟨rfl, rfl⟩ := hno rfl
    have hl : Hid (l = []) := List.eq_nil_of_length_eq_zero HS.out.len
    have hnil := nil_yes
    go_wp2
    go_ret
    rw [hl.out]
    refine ⟨none, 0, rfl, World.ownsRow_nil _ _ _ _, ?_⟩
    first | exact Below.refl _ _ | exact ⟨Below.refl _ _, fun _ => rfl⟩
  | some a =>
    have hnil := nil_no a len cap
    have hbl : Below w.heap.size w (w.alloc (.cells #[] 5)) := (Below.refl _ _).alloc (Nat.le_refl _) _
    have HS1 := hidden (HS.out.later hbl)
    clear hbl
    go_wp2_with (at_builtin; refine wpList_appends _ rfl (.tmp 5) (.tmp 6) 22 rfl 5 i0 (.int .u8 0) Try.underlying22 hi hz0 hz1 hz2 rfl (.slice (some ⟨w.heap.size, 0, none⟩) 0 0) 0 [] rfl (owns_empty w 0 (Nat.zero_le _) _ rfl) (some a) len cap l rfl HS1.out (fun h => by cases h) (by omega) ?_; intro v1 w1 ho1 hc1 hm1; rw [Nat.zero_add, List.nil_append] at ho1; obtain ⟨a1, c1, rfl⟩ := owns_form ho1; have HO1 := hidden ho1; have HC1 := hidden hc1; have HM1 := hidden hm1; clear ho1 hc1 hm1)
    go_ret
    refine ⟨_, _, rfl, owns_baseG HO1.out (fun g hg => ?_), ((Below.refl _ w).alloc (Nat.le_refl _) _).trans (HC1.out.below (by simp) (fun i hi => by simp [Value.ownBlock] at hi; omega)), fun h => ?_⟩
    · rcases HM1.out with e | ⟨g', e, hg'⟩
      · rw [hg] at e
        simp [Value.ownBlock] at e
        omega
      · rw [hg] at e
        simp at e hg'
        omega
    · subst h
      rcases HM1.out with e | ⟨g', e, _⟩ <;> simp [Value.ownBlock] at e

end Go.Proofs.Ytiaopgphjailiaa
