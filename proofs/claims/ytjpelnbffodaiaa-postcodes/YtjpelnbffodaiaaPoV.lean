/-
  The document's Put.
-/
import Derived.Test.YtjpelnbffodaiaaPoN
import Derived.Test.YtjpelnbffodaiaaRefC
namespace Go.Proofs.Ytjpelnbffodaiaa
open Go.RowKit
set_option linter.unusedVariables false
set_option linter.unusedSimpArgs false

theorem own8_no {w : World} {base : Nat} {e : TypeId} {ad : Option Addr} {n cap : Nat} {xs : List Value} (h : w.ownsRow base e 1 (.slice ad n cap) n xs) : ad = none → n = 0 ∧ cap = 0 := (owns_cap h).2.2.2

set_option maxRecDepth 100000 in
set_option maxHeartbeats 4000000 in
theorem putR (w : World) (ad a2 : Option Addr) (n c m c2 : Nat) (b : List Int) (l : List Nat) (hs : Sl w ad n b) (hno : ad = none → n = 0 ∧ c = 0) (hn : n ≤ 1000000) (ha : Sw w a2 m l) (hm : m ≤ 1000000) :
    Calls Try.prog 28 #[.slice ad n c, .slice a2 m c2] w fun e w' => OutYB w e w' (if Ris l then b ++ putF l else []) (decide (Ris l)) := by
  have HS := hidden hs
  have HA := hidden ha
  have hl := ha.len
  have hbl := hs.len
  have HBY := hidden hs.byte
  clear hs ha
  subst hbl hl
  go_enter Try.func28, Try.ntmps28
  go_wp2_with fail
  refine (risesR w a2 _ c2 l HA.out (by omega)).mono ?_
  rintro e w1 ⟨rfl, hb1⟩
  by_cases hr : Ris l
  case neg =>
    simp only [hr, decide_false, if_false]
    go_wp2
    go_ret2
    exact ⟨none, 0, rfl, World.ownsRow_nil _ _ _ _, hb1⟩
  simp only [hr, decide_true, if_true]
  have HR := hidden hr
  have HB1 := hidden hb1
  clear hb1 hr
  go_wp2_with fail
  refine (refPutUint_any ad b.length c l.length b w1 (HS.out.later HB1.out) hno (by omega) (by omega)).mono ?_
  rintro e w3 ⟨a4, c4, rfl, ho3, hb3⟩
  have hlen := enc_length l.length
  have hgl := grp_le l.length
  have HB3 := hidden (bt HB1.out (Nat.le_refl _) hb3)
  have HO3 := hidden (owns_base ho3 HB1.out.size)
  have HSL := hidden (fun (wx : World) (h : Below w.heap.size w wx) => HA.out.later h)
  have HEB := hidden (HBY.out.append (enc_byte l.length (by omega)))
  clear ho3 hb3
  go_wp2_with fail
  go_loopw [7, 8] (fun s7 s8 wr => ∃ (i c' : Nat) (a' : Option Addr) (out : List Int), s7 = .slice a' out.length c' ∧ s8 = .int .i64 (i : Int) ∧ i ≤ l.length ∧ Hid (wr.ownsRow w.heap.size 5 1 (.slice a' out.length c') out.length (cells8 out)) ∧ Hid (Byte out) ∧ Hid (out ++ encL (lv l i) (l.drop i) = b ++ putF l) ∧ Hid (out.length ≤ b.length + 10 + 10 * i) ∧ Hid (Below w.heap.size w wr)) (fun _ s8 _ => l.length - (intOf s8).toNat)
  case atStart => exact ⟨0, c4, a4, b ++ enc l.length, by simp [hlen, Nat.add_assoc], rfl, by omega, hidden (by have := HO3.out; rw [show b.length + grp l.length + 1 = (b ++ enc l.length).length by rw [List.length_append, hlen]; omega] at this; exact this), HEB, hidden (by simp [putF, lv_zero]), hidden (by simp; omega), HB3⟩
  case round =>
    rename World => wr
    obtain ⟨i, c', a', out, rfl, rfl, hi, hown, hby, hsum, hlo, hbel⟩ := hrel
    have hol := hlo.out
    clear HO3 HB3
    by_cases hlt : i < l.length
    · have hltz : (i : Int) < (l.length : Int) := by omega
      obtain ⟨b2, o2, rfl, _, hc⟩ := (HSL.out wr hbel.out).at (by omega)
      have k1 := hc i hlt
      have hle := lv_le HR.out hlt
      have hx32 := HA.out.bd.at i
      have hst := hidden (encL_step hlt)
      obtain ⟨x, hx⟩ : ∃ x, l.getD i 0 = x := ⟨_, rfl⟩
      rw [hx] at k1 hle hx32 hst
      obtain ⟨d, hd⟩ : ∃ d, x - lv l i = d := ⟨_, rfl⟩
      rw [hd] at hst
      have HST : Hid ((out ++ enc d) ++ encL (lv l (i + 1)) (l.drop (i + 1)) = b ++ putF l) := hidden (by rw [← hsum.out, hst.out, List.append_assoc])
      have hd32 : d ≤ 4294967295 := by omega
      have hgd := grp_le d
      have hld := enc_length d
      have HSO := hidden (sl_of_owns hown.out hby.out)
      have HNO := hidden (own8_no hown.out)
      have CP := hidden (refPutUint_any a' out.length c' d out wr HSO.out HNO.out (by omega) (by omega))
      have HBO := hidden (hby.out.append (enc_byte d (by omega)))
      clear hst hsum hx
      have fin : ∀ e w5, RefOut wr e w5 (out.length + grp d + 1) (out ++ enc d) → ∃ a5 c5, e = .returned (.slice a5 (out ++ enc d).length c5) ∧ Hid (w5.ownsRow w.heap.size 5 1 (.slice a5 (out ++ enc d).length c5) (out ++ enc d).length (cells8 (out ++ enc d))) ∧ Hid (Below w.heap.size w w5) := by
        rintro e w5 ⟨a5, c5, rfl, ho5, hb5⟩
        have hL : (out ++ enc d).length = out.length + grp d + 1 := by rw [List.length_append, hld]; omega
        rw [hL]
        exact ⟨a5, c5, rfl, hidden (owns_base ho5 hbel.out.size), hidden (bt hbel.out (Nat.le_refl _) hb5)⟩
      have hL5 : (out ++ enc d).length ≤ b.length + 10 + 10 * (i + 1) := by rw [List.length_append, hld]; omega
      have FIN := hidden fin
      have HL5 := hidden hL5
      clear fin hL5 hld
      cases i with
      | zero =>
        obtain rfl : x = d := by rw [lv_zero] at hd; omega
        rw [Nat.add_zero] at k1
        clear hc hd hle
        go_wp2_with fail
        refine CP.out.mono ?_
        intro e w5 h5
        obtain ⟨a5, c5, rfl, O5, B5⟩ := FIN.out e w5 h5
        clear h5
        generalize out ++ enc x = out5 at *
        go_wp2
        refine ⟨⟨0 + 1, c5, a5, out5, rfl, by first | rfl | simp, by omega, O5, HBO, HST, HL5, B5⟩, ?_⟩
        simp [intOf]
        omega
      | succ j =>
        have k2 := hc j (by omega)
        rw [lv_succ] at hd hle
        obtain ⟨p, hp⟩ : ∃ p, l.getD j 0 = p := ⟨_, rfl⟩
        rw [hp] at k2 hd hle
        have hz0 : ((j + 1 : Nat) : Int) > 0 := by omega
        have hz1 : ((j + 1 : Nat) : Int) - 1 = (j : Int) := by omega
        obtain ⟨q, hq⟩ : ∃ q, x - p = q := ⟨_, rfl⟩
        have hz2 : (x : Int) - (p : Int) = (q : Int) := by omega
        have hz3 : (q : Int) - 1 = (d : Int) := by omega
        have hq1 : 1 ≤ q := by omega
        clear hc hd hp hq
        go_wp2_with fail
        refine CP.out.mono ?_
        intro e w5 h5
        obtain ⟨a5, c5, rfl, O5, B5⟩ := FIN.out e w5 h5
        clear h5
        generalize out ++ enc d = out5 at *
        go_wp2
        refine ⟨⟨j + 1 + 1, c5, a5, out5, rfl, by first | rfl | simp, by omega, O5, HBO, HST, HL5, B5⟩, ?_⟩
        simp [intOf]
        omega
    · have hltz : ¬ (i : Int) < (l.length : Int) := by omega
      have hE := hsum.out
      rw [List.drop_eq_nil_of_le (by omega), encL, List.append_nil] at hE
      have HE := hidden hE
      clear hE
      go_wp2
      go_ret2
      exact ⟨a', c', by rw [← HE.out]; rfl, by rw [← HE.out]; exact hown.out, hbel.out⟩

end Go.Proofs.Ytjpelnbffodaiaa
