/-
  The document's own: letter, IsName, Get, texts.
-/
import Derived.Test.YtpdffdoogobhfaaDoorLbA
import Derived.Test.YtpdffdoogobhfaaDoorLbX
namespace Go.Proofs.YtpdffdoogobhfaaDoor
open Go.RowKit
set_option linter.unusedVariables false
set_option linter.unusedSimpArgs false

set_option maxRecDepth 100000 in
set_option maxHeartbeats 4000000 in
theorem rletterP (x : UInt8) (f : Bool) (w : World) : Calls Tryd.prog 54 #[.int .u8 (x.toNat : Int), .bool f] w fun e w' => e = .returned (.bool (lead f x)) ∧ w' = w := by
  unfold lead lett digi
  generalize x.toNat = k
  cases f
  all_goals
    by_cases h1 : 97 ≤ k <;> by_cases h2 : k ≤ 122 <;> by_cases h3 : 65 ≤ k <;> by_cases h4 : k ≤ 90 <;> by_cases h5 : k = 95 <;> by_cases h6 : 48 ≤ k <;> by_cases h7 : k ≤ 57 <;> first
    | (exfalso; omega)
    | (have z1 : (97 : Int) ≤ (k : Int) ↔ 97 ≤ k := by omega
       have z2 : (k : Int) ≤ 122 ↔ k ≤ 122 := by omega
       have z3 : (65 : Int) ≤ (k : Int) ↔ 65 ≤ k := by omega
       have z4 : (k : Int) ≤ 90 ↔ k ≤ 90 := by omega
       have z6 : ((k : Int) == 95) = decide (k = 95) := by rw [Bool.eq_iff_iff]; simp; omega
       have z7 : (48 : Int) ≤ (k : Int) ↔ 48 ≤ k := by omega
       have z8 : (k : Int) ≤ 57 ↔ k ≤ 57 := by omega
       go_enter Tryd.func54, Tryd.ntmps54
       go_wp2
       go_ret
       simp [h1, h2, h3, h4, h5, h6, h7, z6])

set_option maxRecDepth 100000 in
set_option maxHeartbeats 4000000 in
theorem risNameP (s : ByteArray) (w : World) (hs : s.size ≤ 9223372036854775807) : Calls Tryd.prog 30 #[.string s] w fun e w' => e = .returned (.bool (isName (bts s))) ∧ w' = w := by
  obtain ⟨R, hR⟩ : ∃ R, isName (bts s) = R := ⟨_, rfl⟩
  have HR := hidden hR
  rw [hR]
  clear hR
  go_enter Tryd.func30, Tryd.ntmps30
  go_wp2
  go_loopw [3] (fun s0 wx => ∃ i : Nat, s0 = .int .i64 (i : Int) ∧ i ≤ s.size ∧ Hid (i + wsz (i == 0) ((bts s).drop i) = wsz true (bts s)) ∧ wx = w) (fun s0 _ => s.size - (intOf s0).toNat)
  case atStart => exact ⟨0, rfl, by omega, hidden (by simp), rfl⟩
  case round =>
    obtain ⟨i, rfl, hi, hrel, rfl⟩ := hrel
    by_cases hlt : i < s.size
    · have hltz : (i : Int) < (s.size : Int) := by omega
      obtain ⟨x, hx, hx2, hdr⟩ := byte_at s hlt
      have z0 : ((i : Int) == 0) = (i == 0) := by rw [Bool.eq_iff_iff]; simp
      have k := fun w => rletterP x (i == 0) w
      have hA : Hid (i + (if lead (i == 0) x then wsz false ((bts s).drop (i + 1)) + 1 else 0) = wsz true (bts s)) := hidden (by have := hrel.out; rw [hdr, wsz] at this; exact this)
      clear hx2 hdr hrel
      cases hl : lead (i == 0) x with
      | true =>
        rw [hl] at hA k
        have hA2 : Hid (i + 1 + wsz (i + 1 == 0) ((bts s).drop (i + 1)) = wsz true (bts s)) := hidden (by have := hA.out; simp at this; simp; omega)
        clear hA hl
        go_wp2_with (go_at_call 54; refine (k _).mono ?_; rintro e w' ⟨rfl, hw'⟩; obtain rfl := hw'.symm)
        refine ⟨⟨i + 1, by first | rfl | simp, by omega, hA2, by first | rfl | trivial⟩, ?_⟩
        simp [intOf]
        omega
      | false =>
        rw [hl] at hA k
        have hA2 : Hid (R = false) := hidden (by
          have := hA.out
          simp at this
          rw [← HR.out, isName, decide_eq_false (p := wsz true (bts s) = (bts s).length) (by rw [← this, ← size_bts]; omega)]
          simp)
        clear hA hl
        go_wp2_with (go_at_call 54; refine (k _).mono ?_; rintro e w' ⟨rfl, hw'⟩; obtain rfl := hw'.symm)
        go_ret
        exact ⟨by rw [hA2.out]; rfl, rfl⟩
    · have hltz : ¬ (i : Int) < (s.size : Int) := by omega
      have hA2 : Hid (R = (decide (bts s ≠ []) && decide (s.size ≤ 32))) := hidden (by
        have := hrel.out
        rw [List.drop_of_length_le (by rw [← size_bts]; omega), wsz] at this
        have hi' : i = s.size := by omega
        rw [← HR.out, isName, decide_eq_true (p := wsz true (bts s) = (bts s).length) (by rw [← this, ← size_bts]; omega), ← size_bts]
        cases decide (s.size ≤ 32) <;> simp)
      have e0 := empty_bts s
      cases h3 : decide (bts s = []) with
      | true =>
        rw [h3] at e0
        have h3' := of_decide_eq_true h3
        clear hrel h3
        go_wp2
        go_ret
        exact ⟨by rw [hA2.out]; simp [h3', e0], rfl⟩
      | false =>
        rw [h3] at e0
        have h3' := of_decide_eq_false h3
        by_cases h4 : s.size ≤ 32
        · have z4 : (s.size : Int) ≤ 32 := by omega
          clear hrel h3
          go_wp2
          go_ret
          exact ⟨by rw [hA2.out]; simp [h3', e0, h4], rfl⟩
        · have z4 : ¬ (s.size : Int) ≤ 32 := by omega
          clear hrel h3
          go_wp2
          go_ret
          exact ⟨by rw [hA2.out]; simp [h3', e0, h4], rfl⟩

set_option maxHeartbeats 2000000 in
theorem rgetP (ad : Option Addr) (c : Nat) (l : List Lb) (nm : ByteArray) (w : World) (hL : Ls w ad l) (hlen : l.length ≤ 9223372036854775807) :
    Calls Tryd.prog 17 #[.slice ad l.length c, .string nm] w fun e w' => ∃ r, e = .returned (.string r) ∧ bts r = getL l (bts nm) ∧ Below w.heap.size w w' := by
  obtain ⟨n, hn⟩ : ∃ n, l.length = n := ⟨_, rfl⟩
  rw [hn] at hlen ⊢
  obtain ⟨R, hR⟩ : ∃ R, getL l (bts nm) = R := ⟨_, rfl⟩
  have HR := hidden hR
  have HL := hidden hL
  have HN := hidden hn
  rw [hR]
  clear hR hL hn
  go_enter Tryd.func17, Tryd.ntmps17
  go_wp2
  go_loopw [5] (fun s0 wx => ∃ i : Nat, s0 = .int .i64 (i : Int) ∧ i ≤ n ∧ Hid (getL (l.drop i) (bts nm) = R) ∧ Hid (Below w.heap.size w wx)) (fun s0 _ => n - (intOf s0).toNat)
  case atStart => exact ⟨0, rfl, by omega, hidden (by simpa using HR.out), hidden (Below.refl _ _)⟩
  case round =>
    rename World => wr
    obtain ⟨i, rfl, hi, hrel, hbel⟩ := hrel
    by_cases hlt : i < n
    · have hltz : (i : Int) < (n : Int) := by omega
      obtain ⟨b, off, x, rfl, hb, hx, hx', c0, c1, z0, z1⟩ := (HL.out.later hbel.out).get (i := i) (by rw [HN.out]; exact hlt)
      have hdrop : Hid (l.drop i = x :: l.drop (i + 1)) := by rw [← hx']; exact List.drop_eq_getElem_cons _
      clear hx hx'
      by_cases he : bts x.n = bts nm
      · have hq : (x.n.toList == nm.toList) = true := by rw [toList_bts, toList_bts, he]; simp
        have hR2 : Hid (bts x.v = R) := by have := hrel.out; rw [hdrop.out, getL, if_pos he] at this; exact this
        clear he hrel hdrop
        go_wp2
        go_ret
        exact ⟨_, rfl, hR2.out, hbel.out⟩
      · have hq : (x.n.toList == nm.toList) = false := by rw [toList_bts, toList_bts]; simpa using he
        have hR2 : Hid (getL (l.drop (i + 1)) (bts nm) = R) := by have := hrel.out; rw [hdrop.out, getL, if_neg he] at this; exact this
        clear he hrel hdrop
        go_wp2
        refine ⟨⟨i + 1, by first | rfl | simp, by omega, hR2, hbel⟩, ?_⟩
        simp [intOf]
        omega
    · have hltz : ¬ (i : Int) < (n : Int) := by omega
      go_wp2
      go_ret
      refine ⟨_, rfl, ?_, hbel.out⟩
      have := hrel.out
      rw [List.drop_of_length_le (by rw [HN.out]; omega)] at this
      rw [← this]; rfl

set_option maxHeartbeats 2000000 in
theorem textsP (x y : ByteArray) (w : World) : Calls Tryd.prog 35 #[.string x, .string y] w fun e w' => e = .returned (.int .i64 (cmpS (bts x) (bts y))) ∧ w' = w := by
  unfold cmpS
  have e1 : Op.bytesLess x.toList y.toList = lss (bts x) (bts y) := by rw [bytesLess_lss, toList_bts, toList_bts]
  have e2 : (x.toList == y.toList) = decide (bts x = bts y) := by rw [toList_bts, toList_bts]; rw [Bool.eq_iff_iff]; simp
  cases h1 : lss (bts x) (bts y) with
  | true =>
    rw [h1] at e1
    go_enter Tryd.func35, Tryd.ntmps35
    go_wp2
    go_ret
    simp
  | false =>
    rw [h1] at e1
    cases h2 : lss (bts y) (bts x) with
    | true =>
      have h3 : decide (bts x = bts y) = false := by
        rw [decide_eq_false_iff_not]; intro e; rw [e, lss_irr] at h2; cases h2
      rw [h3] at e2
      go_enter Tryd.func35, Tryd.ntmps35
      go_wp2
      go_ret
      simp
    | false =>
      have h3 : decide (bts x = bts y) = true := decide_eq_true (lss_tri h1 h2)
      rw [h3] at e2
      go_enter Tryd.func35, Tryd.ntmps35
      go_wp2
      go_ret
      simp

end Go.Proofs.YtpdffdoogobhfaaDoor
