/-
  The document's Quote and Print.
-/
import Derived.Test.YtpdffdoogobhfaaDoorReD
import Derived.Test.YtpdffdoogobhfaaDoorLbX
import Derived.Test.YtpdffdoogobhfaaDoorPaC
namespace Go.Proofs.YtpdffdoogobhfaaDoor
open Go.RowKit
set_option linter.unusedVariables false
set_option linter.unusedSimpArgs false

theorem bts_app (a b : ByteArray) : bts (a ++ b) = bts a ++ bts b := by simp [bts]
theorem size_app (a b : ByteArray) : (a ++ b).size = a.size + b.size := by rw [size_bts, bts_app, List.length_append, ← size_bts, ← size_bts]
theorem qtL_snoc (l : List UInt8) (x : UInt8) : qtL (l ++ [x]) = qtL l ++ qt1 x := by simp [qtL]
theorem takeB {l : List UInt8} {i : Nat} {x : UInt8} (h : l[i]? = some x) : l.take (i + 1) = l.take i ++ [x] := by
  rw [List.take_add_one, h]; rfl

set_option maxRecDepth 100000 in
set_option maxHeartbeats 4000000 in
theorem rquoteP (s : ByteArray) (w : World) (hs : s.size ≤ 1000) : Calls Tryd.prog 39 #[.string s] w fun e w' => e = .returned (.string (oft (34 :: (qtL (bts s) ++ [34])))) ∧ w' = w := by
  obtain ⟨R, hR⟩ : ∃ R, oft (34 :: (qtL (bts s) ++ [34])) = R := ⟨_, rfl⟩
  have HR := hidden hR
  rw [hR]
  clear hR
  go_enter Tryd.func39, Tryd.ntmps39
  go_wp2
  go_loopw [3, 4] (fun s0 s1 wx => ∃ (i : Nat) (acc : ByteArray), s0 = .string acc ∧ s1 = .int .i64 (i : Int) ∧ i ≤ s.size ∧ acc.size ≤ 1 + 2 * i ∧ Hid (bts acc = 34 :: qtL ((bts s).take i)) ∧ wx = w) (fun _ s1 _ => s.size - (intOf s1).toNat)
  case atStart => exact ⟨0, ⟨#[34]⟩, rfl, rfl, by omega, by decide, hidden (by simp [qtL, bts]), rfl⟩
  case round =>
    obtain ⟨i, acc, rfl, rfl, hi, hsz, hrel, rfl⟩ := hrel
    by_cases hlt : i < s.size
    · have hltz : (i : Int) < (s.size : Int) := by omega
      obtain ⟨x, hx, hx2, hdr⟩ := byte_at s hlt
      have e92 := beq92 x
      have e34 := beq34 x
      have e10 := beq10 x
      have hq : Hid (∀ p, qt1 x = bts p → bts (acc ++ p) = 34 :: qtL ((bts s).take (i + 1))) := hidden (fun p hp => by rw [takeB hx2, qtL_snoc, bts_app, hrel.out, hp, List.cons_append])
      have HDR := hidden hdr
      clear hdr hrel hx2
      by_cases h92 : x = 92
      · subst h92
        have hsz2 : acc.size + 2 ≤ 9223372036854775807 := by omega
        have HN := hidden (hq.out ⟨#[92, 92]⟩ (by decide))
        have HZ : Hid ((acc ++ ⟨#[92, 92]⟩ : ByteArray).size ≤ 1 + 2 * (i + 1)) := hidden (by rw [size_app, show (⟨#[92, 92]⟩ : ByteArray).size = 2 from rfl]; omega)
        have f1 : ((92 : UInt8).toNat : Int) = 92 := rfl
        clear hq e92 e34 e10
        go_wp2
        refine ⟨⟨i + 1, _, rfl, by first | rfl | simp, by omega, HZ.out, HN, by first | rfl | trivial⟩, ?_⟩
        simp [intOf]
        omega
      · rw [decide_eq_false h92] at e92
        by_cases h34 : x = 34
        · subst h34
          have hsz2 : acc.size + 2 ≤ 9223372036854775807 := by omega
          have HN := hidden (hq.out ⟨#[92, 34]⟩ (by decide))
          have HZ : Hid ((acc ++ ⟨#[92, 34]⟩ : ByteArray).size ≤ 1 + 2 * (i + 1)) := hidden (by rw [size_app, show (⟨#[92, 34]⟩ : ByteArray).size = 2 from rfl]; omega)
          have f1 : ((34 : UInt8).toNat : Int) = 34 := rfl
          clear hq e92 e34 e10
          go_wp2
          refine ⟨⟨i + 1, _, rfl, by first | rfl | simp, by omega, HZ.out, HN, by first | rfl | trivial⟩, ?_⟩
          simp [intOf]
          omega
        · rw [decide_eq_false h34] at e34
          by_cases h10 : x = 10
          · subst h10
            have hsz2 : acc.size + 2 ≤ 9223372036854775807 := by omega
            have HN := hidden (hq.out ⟨#[92, 110]⟩ (by decide))
            have HZ : Hid ((acc ++ ⟨#[92, 110]⟩ : ByteArray).size ≤ 1 + 2 * (i + 1)) := hidden (by rw [size_app, show (⟨#[92, 110]⟩ : ByteArray).size = 2 from rfl]; omega)
            have f1 : ((10 : UInt8).toNat : Int) = 10 := rfl
            clear hq e92 e34 e10
            go_wp2
            refine ⟨⟨i + 1, _, rfl, by first | rfl | simp, by omega, HZ.out, HN, by first | rfl | trivial⟩, ?_⟩
            simp [intOf]
            omega
          · rw [decide_eq_false h10] at e10
            have hex : bts (s.extract i (i + 1)) = [x] := by
              rw [bts_extract, HDR.out, show i + 1 - i = 1 by omega]
              rfl
            have hes : (s.extract i (i + 1)).size = 1 := by rw [size_bts, hex]; rfl
            have hsz2 : acc.size + (s.extract i (i + 1)).size ≤ 9223372036854775807 := by omega
            have hz3 : (i : Int) + 1 ≤ (s.size : Int) := by omega
            have HN := hidden (hq.out (s.extract i (i + 1)) (by rw [hex, qt1, if_neg h92, if_neg h34, if_neg h10]))
            have HZ : Hid ((acc ++ s.extract i (i + 1) : ByteArray).size ≤ 1 + 2 * (i + 1)) := hidden (by rw [size_app, hes]; omega)
            clear hq hex hes h92 h34 h10
            go_wp2
            refine ⟨⟨i + 1, _, rfl, by first | rfl | simp, by omega, HZ.out, HN, by first | rfl | trivial⟩, ?_⟩
            simp [intOf]
            omega
    · have hltz : ¬ (i : Int) < (s.size : Int) := by omega
      have hsz2 : acc.size + 1 ≤ 9223372036854775807 := by omega
      have HE : Hid (acc ++ ⟨#[34]⟩ = R) := hidden (bts_inj (by rw [← HR.out, bts_oft, bts_app, hrel.out, List.take_of_length_le (by rw [← size_bts]; omega)]; rfl))
      clear hrel
      go_wp2
      go_ret
      exact ⟨by rw [← HE.out]; rfl, rfl⟩

set_option maxRecDepth 100000 in
set_option maxHeartbeats 8000000 in
theorem rprintP (ad : Option Addr) (c : Nat) (l : List Lb) (w : World) (hL : Ls w ad l) (hlen : l.length ≤ 4611686018427387904) (hsm : Sm l) :
    Calls Tryd.prog 21 #[.slice ad l.length c] w fun e w' => e = .returned (.string (oft (printL l))) ∧ Below w.heap.size w w' := by
  have hR := rrightP ad c l w hL hlen hsm
  obtain ⟨n, hn⟩ : ∃ n, l.length = n := ⟨_, rfl⟩
  have HN := hidden hn
  have HL := hidden hL
  rw [hn] at hlen hR ⊢
  clear hn hL
  unfold printL
  cases hr : right l with
  | false =>
    rw [hr] at hR
    clear hr
    go_enter Tryd.func21, Tryd.ntmps21
    go_wp2_with (go_at_call 15; refine hR.mono ?_; rintro e w2 ⟨rfl, hb2⟩)
    go_ret
    exact ⟨rfl, hb2⟩
  | true =>
    rw [hr, show errL true = 0 from rfl] at hR
    obtain ⟨R, hRR⟩ : ∃ R, prF true l = R := ⟨_, rfl⟩
    have HR := hidden hRR
    have HS := hidden (prF_short hr)
    have hn1 : 1 ≤ n := by have := ((right_iff l).1 hr).1; rw [HN.out] at this; exact this
    have HV : Hid (∀ x ∈ l, x.v.size ≤ 64) := hidden (fun x hx => by
      have := ((right_iff l).1 hr).2.2.1 x hx
      simp only [Lb.fits, isVal, Bool.and_eq_true, decide_eq_true_eq] at this
      rw [size_bts]; exact this.2.1.2)
    rw [if_pos rfl, hRR]
    rw [hRR] at HS
    clear hRR hr
    go_enter Tryd.func21, Tryd.ntmps21
    go_wp2_with (go_at_call 15; refine hR.mono ?_; rintro e w2 ⟨rfl, hb2⟩)
    have HB2 := hidden hb2
    clear hR hb2
    go_wp2
    go_loopw [3, 4] (fun s0 s1 wx => ∃ (i : Nat) (acc : ByteArray), s0 = .string acc ∧ s1 = .int .i64 (i : Int) ∧ i ≤ n ∧ Hid (if i = 0 then acc = ⟨#[123]⟩ else bts acc ++ prF false (l.drop i) = R) ∧ Hid (Below w2.heap.size w2 wx)) (fun _ s1 _ => n - (intOf s1).toNat)
    case atStart => exact ⟨0, ⟨#[123]⟩, rfl, rfl, by omega, hidden (by rw [if_pos rfl]), hidden (Below.refl _ _)⟩
    case round =>
      rename World => wr
      obtain ⟨i, acc, rfl, rfl, hi, hrel, hbel⟩ := hrel
      by_cases hlt : i < n
      · have hltz : (i : Int) < (n : Int) := by omega
        obtain ⟨b, off, x, rfl, hb, hx, hx', c0, c1, y0, y1⟩ := ((HL.out.later HB2.out).later hbel.out).get (i := i) (by rw [HN.out]; exact hlt)
        have hdrop : Hid (l.drop i = x :: l.drop (i + 1)) := by rw [← hx']; exact List.drop_eq_getElem_cons _
        have kQ := fun w => rquoteP x.v w (by have := HV.out x (List.mem_of_getElem? hx); omega)
        obtain ⟨q, hq⟩ : ∃ q, oft (34 :: (qtL (bts x.v) ++ [34])) = q := ⟨_, rfl⟩
        rw [hq] at kQ
        have HQ : Hid (bts q = 34 :: (qtL (bts x.v) ++ [34])) := hidden (by rw [← hq, bts_oft])
        clear hx hx' hq y0 y1
        by_cases h0 : i = 0
        · have z0 : ¬ (0 : Int) < (i : Int) := by omega
          have HRR : Hid (bts (acc ++ x.n ++ ⟨#[61]⟩ ++ q) ++ prF false (l.drop (i + 1)) = R) := hidden (by
            have h1 := hrel.out
            rw [if_pos h0] at h1
            have h2 := hdrop.out
            rw [h0] at h2
            rw [List.drop_zero] at h2
            rw [h1, ← HR.out, h2, bts_app, bts_app, bts_app, HQ.out, h0]
            simp [prF, Lb.text, bts])
          have HLN : Hid (acc.size + x.n.size + 1 + q.size ≤ 2000) := hidden (by
            have h1 := HS.out
            rw [← HRR.out] at h1
            simp only [List.length_append, ← size_bts, size_app] at h1
            have : (⟨#[61]⟩ : ByteArray).size = 1 := rfl
            omega)
          have s1 : acc.size + x.n.size ≤ 9223372036854775807 := by have := HLN.out; omega
          have s2 : (acc ++ x.n).size + 1 ≤ 9223372036854775807 := by rw [size_app]; have := HLN.out; omega
          have s3 : (acc ++ x.n ++ ⟨#[61]⟩ : ByteArray).size + q.size ≤ 9223372036854775807 := by rw [size_app, size_app, show (⟨#[61]⟩ : ByteArray).size = 1 from rfl]; have := HLN.out; omega
          have n1 : ¬ 9223372036854775807 < acc.size + x.n.size := by have := HLN.out; omega
          have n2 : ¬ 9223372036854775807 < acc.size + x.n.size + 1 := by have := HLN.out; omega
          have n3 : ¬ 9223372036854775807 < acc.size + x.n.size + 1 + q.size := by have := HLN.out; omega
          have t1 := fun w => run_string_add_sum (P := Tryd.prog) w acc x.n s1
          have t2 := fun w => run_string_add_sum (P := Tryd.prog) w (acc ++ x.n) ⟨#[61]⟩ s2
          have t3 := fun w => run_string_add_sum (P := Tryd.prog) w (acc ++ x.n ++ ⟨#[61]⟩) q s3
          clear hrel hdrop HLN h0
          go_wp2
          go_quiet ((go_at_call 39; exact Calls.quiet_of_same (kQ _)))
          go_wp2
          refine ⟨⟨i + 1, _, rfl, by first | rfl | simp, by omega, hidden (by rw [if_neg (by omega)]; exact HRR.out), hidden (below_drewN hbel.out _)⟩, ?_⟩
          simp [intOf]
          omega
        · have z0 : (0 : Int) < (i : Int) := by omega
          have HRR : Hid (bts (acc ++ ⟨#[44, 32]⟩ ++ x.n ++ ⟨#[61]⟩ ++ q) ++ prF false (l.drop (i + 1)) = R) := hidden (by
            have h1 := hrel.out
            rw [if_neg h0] at h1
            rw [← h1, hdrop.out, bts_app, bts_app, bts_app, bts_app, HQ.out]
            simp [prF, Lb.text, bts])
          have HLN : Hid (acc.size + 2 + x.n.size + 1 + q.size ≤ 2000) := hidden (by
            have h1 := HS.out
            rw [← HRR.out] at h1
            simp only [List.length_append, ← size_bts, size_app] at h1
            have : (⟨#[61]⟩ : ByteArray).size = 1 := rfl
            have : (⟨#[44, 32]⟩ : ByteArray).size = 2 := rfl
            omega)
          have s0 : acc.size + 2 ≤ 9223372036854775807 := by have := HLN.out; omega
          have s1 : (acc ++ ⟨#[44, 32]⟩ : ByteArray).size + x.n.size ≤ 9223372036854775807 := by rw [size_app, show (⟨#[44, 32]⟩ : ByteArray).size = 2 from rfl]; have := HLN.out; omega
          have s2 : (acc ++ ⟨#[44, 32]⟩ ++ x.n : ByteArray).size + 1 ≤ 9223372036854775807 := by rw [size_app, size_app, show (⟨#[44, 32]⟩ : ByteArray).size = 2 from rfl]; have := HLN.out; omega
          have s3 : (acc ++ ⟨#[44, 32]⟩ ++ x.n ++ ⟨#[61]⟩ : ByteArray).size + q.size ≤ 9223372036854775807 := by rw [size_app, size_app, size_app, show (⟨#[44, 32]⟩ : ByteArray).size = 2 from rfl, show (⟨#[61]⟩ : ByteArray).size = 1 from rfl]; have := HLN.out; omega
          have n1 : ¬ 9223372036854775807 < acc.size + 2 + x.n.size := by have := HLN.out; omega
          have n2 : ¬ 9223372036854775807 < acc.size + 2 + x.n.size + 1 := by have := HLN.out; omega
          have n3 : ¬ 9223372036854775807 < acc.size + 2 + x.n.size + 1 + q.size := by have := HLN.out; omega
          have t1 := fun w => run_string_add_sum (P := Tryd.prog) w (acc ++ ⟨#[44, 32]⟩) x.n s1
          have t2 := fun w => run_string_add_sum (P := Tryd.prog) w (acc ++ ⟨#[44, 32]⟩ ++ x.n) ⟨#[61]⟩ s2
          have t3 := fun w => run_string_add_sum (P := Tryd.prog) w (acc ++ ⟨#[44, 32]⟩ ++ x.n ++ ⟨#[61]⟩) q s3
          clear hrel hdrop HLN h0
          go_wp2
          go_quiet ((go_at_call 39; exact Calls.quiet_of_same (kQ _)))
          go_wp2
          refine ⟨⟨i + 1, _, rfl, by first | rfl | simp, by omega, hidden (by rw [if_neg (by omega)]; exact HRR.out), hidden (below_drewN hbel.out _)⟩, ?_⟩
          simp [intOf]
          omega
      · have hltz : ¬ (i : Int) < (n : Int) := by omega
        have h0 : ¬ i = 0 := by omega
        have HE : Hid (acc ++ ⟨#[125]⟩ = oft R) := hidden (bts_inj (by
          have h1 := hrel.out
          rw [if_neg h0, List.drop_of_length_le (by rw [HN.out]; omega)] at h1
          rw [bts_oft, ← h1, bts_app]; rfl))
        have hsz : acc.size + 1 ≤ 9223372036854775807 := by
          have h1 := HS.out
          have h2 := congrArg (fun z => (bts z).length) HE.out
          simp only [bts_oft] at h2
          rw [← h2, bts_app, List.length_append, ← size_bts] at h1
          omega
        clear hrel
        go_wp2
        go_ret
        exact ⟨by rw [← HE.out]; rfl, HB2.out.trans (hbel.out.mono HB2.out.size)⟩

end Go.Proofs.YtpdffdoogobhfaaDoor
