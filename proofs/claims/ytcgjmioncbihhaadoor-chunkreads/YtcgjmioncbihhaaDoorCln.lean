import Derived.Test.YtcgjmioncbihhaaDoorWld
namespace Go.Proofs.YtcgjmioncbihhaaDoor
open Go.RowKit
set_option linter.unusedVariables false

/-- bytes.Clone. -/
theorem clone_any (ad : Option Addr) (n c : Nat) (l : List Int) (w : World) (h : Sl w ad n l) (hn : n ≤ 70368744177664) (hnone : ad = none → n = 0 ∧ c = 0) :
    Calls Tryd.prog 47 #[.slice ad n c] w fun e w' => ∃ ad' c', e = .returned (.slice ad' n c') ∧ w'.ownsRow w.heap.size 5 1 (.slice ad' n c') n (cells8 l) ∧ Below w.heap.size w w' := by
  obtain ⟨i0, hi, hz0, hz1, hz2⟩ := info_parts info5
  have HS := hidden h
  clear h
  go_enter Tryd.func47, Tryd.ntmps47
  cases ad with
  | none =>
    obtain ⟨rfl, rfl⟩ := hnone rfl
    have heq := fun (w : World) => Go.Lib.run_eql_slice_nil (P := Tryd.prog) w 38 5 none 0 0 0 0 Tryd.underlying38
    go_wp2_with fail
    go_ret
    have hl : l = [] := List.eq_nil_of_length_eq_zero HS.out.len
    subst hl
    exact ⟨none, 0, rfl, World.ownsRow_nil _ _ _ _, Below.refl _ _⟩
  | some x =>
    clear hnone
    have heq := fun (w : World) => Go.Lib.run_eql_slice_nil (P := Tryd.prog) w 38 5 (some x) n c 0 0 Tryd.underlying38
    go_wp2_with (first
      | (at_builtin; refine wpList_append_sl _ rfl _ _ 38 rfl w.heap.size 5 i0 (.int .u8 0) Tryd.underlying38 hi hz0 hz1 hz2 rfl (.slice (some ⟨w.heap.size, 0, none⟩) 0 0) 0 [] rfl ?_ (some x) n c l rfl ?_ (fun h => by cases h) (by omega) (by simp) ?_))
    · refine ⟨rfl, .inr ⟨w.heap.size, 0, #[], rfl, Nat.le_refl _, ?_, Nat.le_refl _, by unfold maxLen; omega, rfl, rfl⟩⟩
      exact heap_alloc_new w _
    · exact (Chg.alloc (fun _ => False) w _).sl HS.out (fun _ _ _ h => h)
    · intro ad' c' w' h1 h2
      have h3 : Below w.heap.size w w' := ((Below.refl _ _).alloc (Nat.le_refl _) (Obj.cells #[] 5)).grown h2 (by simp) (fun k hk => by simp [Value.ownBlock] at hk; omega)
      have H1 := hidden h1
      have H3 := hidden h3
      clear h1 h2 h3
      go_wp2_with fail
      go_ret
      exact ⟨ad', c', rfl, H1.out, H3.out⟩

set_option maxHeartbeats 1000000 in
theorem bytes_any (p : Nat) (rb : Option Nat) (L : List Bool) (w : World) (h : WS w p rb L) (hL : L.length ≤ 1099511627840) :
    Calls Tryd.prog 36 #[.pointer (some ⟨p, 0, none⟩)] w fun e w' => ∃ ad' c' R, e = .returned (.slice ad' ((L.length + 7) / 8) c') ∧ R.length = (L.length + 7) / 8 ∧ w'.ownsRow w.heap.size 5 1 (.slice ad' ((L.length + 7) / 8) c') ((L.length + 7) / 8) (cells8 R) ∧ Byte R ∧ Rep R L ∧ Below w.heap.size w w' := by
  obtain ⟨v, R, hW⟩ := h
  obtain ⟨ad, c, rfl⟩ := owns_form hW.row
  obtain ⟨m, hm⟩ : ∃ m, L.length = m := ⟨_, rfl⟩
  obtain ⟨k, hk⟩ : ∃ k, (m + 7) / 8 = k := ⟨_, rfl⟩
  obtain ⟨n, hn⟩ : ∃ n, R.length = n := ⟨_, rfl⟩
  have c0 : w.cell? ⟨p, 0, none⟩ = some (.slice ad n c) := by rw [← hn]; exact hW.blk.cell 0
  have c1 : w.cell? ⟨p, 1, none⟩ = some (.int .i64 (m : Int)) := by rw [← hm]; exact hW.blk.cell 1
  have hlen := hW.len
  rw [hm, hn] at hlen
  rw [hm] at hL ⊢
  rw [hk]
  obtain ⟨_, hnc, hcm, hnone⟩ := owns_cap hW.row
  rw [hn] at hnc hnone
  have HNONE : Hid (ad = none → k = 0 ∧ c = 0) := fun e => by have := hnone e; omega
  clear hnone
  have hkn : k ≤ n := by omega
  have hcm2 : c ≤ 9223372036854775807 := by unfold maxLen at hcm; omega
  have hS := sl_of_owns hW.row hW.byte
  rw [hn] at hS
  have HB := hidden (fun w => hk ▸ bytesOf_any m w (by omega))
  have HC := hidden (fun w (h : Sl w ad k (R.take k)) => clone_any ad k c (R.take k) w h (by omega))
  have HSK : Hid (Sl w ad k (R.take k)) := hS.take hkn
  have HW := hidden hW
  have HK := hidden hk
  have HM := hidden hm
  have HN := hidden hn
  clear hS hW hk hm hn
  go_enter Tryd.func36, Tryd.ntmps36
  go_wp2_with fail
  go_region_with (first
    | (refine (HB.out _).mono ?_; rintro e w' ⟨rfl, rfl⟩)
    | (refine (HC.out _ ((Chg.drew (fun _ => False) w).sl HSK.out (fun _ _ _ h => h)) HNONE.out).mono ?_; rintro e w' ⟨ad', c', rfl, ho, hb⟩))
  all_goals
    have HO : Hid (w'.ownsRow w.heap.size 5 1 (Value.slice ad' k c') k (cells8 (List.take k R))) := ho
    have HBB : Hid (Below w.heap.size w w') := ((Below.refl _ w).drew).trans hb
    clear ho hb
    go_wp2_with fail
    go_ret
    have hk := HK.out
    have hm := HM.out
    refine ⟨ad', c', R.take k, rfl, by rw [List.length_take, HN.out]; omega, HO.out, HW.out.byte.take k, HW.out.rep.take k (by omega), HBB.out⟩

end Go.Proofs.YtcgjmioncbihhaaDoor

namespace Go.Proofs.YtcgjmioncbihhaaDoor
open Go.RowKit
set_option linter.unusedVariables false

theorem RS.same {a b : World} {p t : Nat} {l : List Int} (h : RS a p l t) (hc : Chg (fun _ => False) a b) : RS b p l t := by
  obtain ⟨h1, ad, c, h2, h3, h4⟩ := h
  exact ⟨h1, ad, c, hc.blk h2 (fun e => e), hc.sl h3 (fun _ _ _ e => e), h4⟩
theorem RS.chg {F : Nat → Prop} {a b : World} {p t : Nat} {l : List Int} (h : RS a p l t) (hc : Chg F a b) (hF : ∀ i, F i → a.heap.size ≤ i) : RS b p l t :=
  h.same (hc.mono (fun i hi hf => by have := hF i hf; omega))
theorem RS.step {a : World} {p t t2 : Nat} {l : List Int} (h : RS a p l t) (h2 : t2 ≤ 8 * l.length) : RS (a.setCell ⟨p, 1, none⟩ (.int .i64 (t2 : Int))) p l t2 := by
  obtain ⟨h1, ad, c, hB, hS, hne⟩ := h
  exact ⟨h2, ad, c, hB.set 1 _, (Chg.set ⟨p, 1, none⟩ _ a).sl hS (fun x hx hp e => Nat.ne_of_lt (hne x hx hp) e), hne⟩

theorem piece_nm {l : List Int} (hb : Byte l) (s ah t y : Nat) (hah : s % 8 = ah) (ht : t + ah ≤ 8) (hy : (l.getD (s / 8) 0).toNat = y) : Nm (y * 2 ^ ah % 256 / 2 ^ (8 - t)) t (fun i => bt l (s + i)) := by
  intro j
  have hyb : y < 256 := by
    have := hb.at (s / 8)
    omega
  rw [Nat.testBit_div_two_pow, show (256 : Nat) = 2 ^ 8 from rfl, Nat.testBit_mod_two_pow, Nat.testBit_mul_two_pow]
  by_cases hj : j < t
  · have a1 : decide (j + (8 - t) < 8) = true := by simp; omega
    have a2 : decide (ah ≤ j + (8 - t)) = true := by simp; omega
    have a3 : decide (j < t) = true := by simpa using hj
    rw [a1, a2, a3, Bool.true_and, Bool.true_and, Bool.true_and]
    show _ = bt l (s + (t - 1 - j))
    unfold bt
    rw [show (s + (t - 1 - j)) / 8 = s / 8 by omega, show 7 - (s + (t - 1 - j)) % 8 = j + (8 - t) - ah by omega, hy]
  · have a1 : decide (j + (8 - t) < 8) = false := decide_eq_false (by omega)
    have a3 : decide (j < t) = false := decide_eq_false (by omega)
    rw [a1, a3, Bool.false_and, Bool.false_and]
theorem nm_join {V X m t : Nat} {f : Nat → Bool} (h : Nm V m f) (k : Nm X t (fun i => f (m + i))) : Nm (V * 2 ^ t ||| X) (m + t) f := by
  intro j
  rw [Nat.testBit_or, Nat.testBit_mul_two_pow, h (j - t), k j]
  by_cases hj : j < t
  · have a1 : decide (t ≤ j) = false := by simp; omega
    have a2 : decide (j < t) = true := by simpa using hj
    have a3 : decide (j < m + t) = true := by simp; omega
    rw [a1, a2, a3, Bool.false_and, Bool.false_or, Bool.true_and, Bool.true_and]
    show f (m + (t - 1 - j)) = f (m + t - 1 - j)
    congr 1
    omega
  · have a1 : decide (t ≤ j) = true := by simp; omega
    have a2 : decide (j < t) = false := by simp; omega
    rw [a1, a2, Bool.true_and, Bool.false_and, Bool.or_false]
    by_cases hm : j - t < m
    · have a3 : decide (j - t < m) = true := by simpa using hm
      have a4 : decide (j < m + t) = true := by simp; omega
      rw [a3, a4, Bool.true_and, Bool.true_and]
      congr 1
      omega
    · have a3 : decide (j - t < m) = false := by simp; omega
      have a4 : decide (j < m + t) = false := by simp; omega
      rw [a3, a4, Bool.false_and, Bool.false_and]
theorem join_eq (V X m t : Nat) (hV : V < 2 ^ m) (hX : X < 256) (hm : m + t ≤ 64) : bits .or .u64 ((V : Int) * 2 ^ t % 18446744073709551616) (X : Int) = ((V * 2 ^ t ||| X : Nat) : Int) := by
  have h1 : V * 2 ^ t < 2 ^ 64 := by
    have b : V * 2 ^ t < 2 ^ m * 2 ^ t := Nat.mul_lt_mul_of_pos_right hV (Nat.two_pow_pos _)
    rw [← Nat.pow_add] at b
    exact Nat.lt_of_lt_of_le b (Nat.pow_le_pow_right (by omega) (by omega))
  have e : (V : Int) * 2 ^ t % 18446744073709551616 = ((V * 2 ^ t : Nat) : Int) := by
    have : (V : Int) * 2 ^ t = ((V * 2 ^ t : Nat) : Int) := by simp
    rw [this]
    omega
  rw [e, u64_or_nat _ _ (by omega) (by omega)]
theorem shl_eq (y : Int) (ah d : Nat) (hy : 0 ≤ y ∧ y ≤ 255) : y * 2 ^ ah % 256 / 2 ^ d = ((y.toNat * 2 ^ ah % 256 / 2 ^ d : Nat) : Int) := by
  have e : y = ((y.toNat : Nat) : Int) := by omega
  generalize y.toNat = z at *
  subst e
  simp

end Go.Proofs.YtcgjmioncbihhaaDoor
