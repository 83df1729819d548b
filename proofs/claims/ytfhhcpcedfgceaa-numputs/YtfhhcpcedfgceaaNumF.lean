import Derived.Test.YtfhhcpcedfgceaaNumE
namespace Go.Proofs.Ytfhhcpcedfgceaa
open Go.RowKit
set_option linter.unusedVariables false

theorem hidden {p : Prop} (h : p) : Hid p := h

theorem decAt_bound : ∀ (l : List Int) (i n : Nat), i ≤ 10 → n < 128 ^ i → Byte l → (decAt l i n).1 < 18446744073709551616 ∧ (decAt l i n).2 ≤ 10 ∧ (decAt l i n).2 ≤ i + l.length
  | [], i, n, _, _, _ => by simp [decAt]
  | c :: t, i, n, hi, hn, hb => by
    have hc := hb c (by simp)
    have ht : Byte t := fun x hx => hb x (by simp [hx])
    rw [decAt]
    split
    · simp
    · split
      · simp
      · rename_i h1 h2
        by_cases hge : 128 ≤ c
        · rw [if_pos hge]
          have hbd := acc_bound n i (c.toNat % 128) hn (by omega) (by omega)
          have := decAt_bound t (i + 1) _ (by omega) hbd.1 ht
          simp only [List.length_cons]
          omega
        · have hbd := acc_bound n i (c.toNat % 128) hn (by omega) (by omega)
          rw [if_neg hge]
          split
          · simp
          · simp only [List.length_cons]
            omega
theorem dec_bound (l : List Int) (hb : Byte l) : (dec l).1 ≤ 18446744073709551615 ∧ (dec l).2 ≤ 10 ∧ (dec l).2 ≤ l.length := by
  have := decAt_bound l 0 0 (by omega) (by simp) hb
  unfold dec
  omega

set_option maxHeartbeats 400000 in
theorem int_any (ad : Option Addr) (len cap : Nat) (l : List Int) (w : World) (hs : Sl w ad len l) (hb : len ≤ 140737488355328) :
    Calls Try.prog 19 #[.slice ad len cap] w fun e w' => e = .returned (.tuple #[.int .i64 (unfold' (dec l).1), .int .i64 (dec l).2]) ∧ w' = w := by
  have hd := dec_bound l hs.byte
  go_enter Try.func19, Try.ntmps19
  go_wp2_with fail
  refine (uint_any ad len cap l _ hs hb).mono ?_
  rintro e w' ⟨rfl, rfl⟩
  go_wp2_with fail
  refine (unfoldSign_any _ _ (by omega) (by omega)).mono ?_
  rintro e w1 ⟨rfl, rfl⟩
  rw [Int.toNat_natCast]
  go_wp2
  go_ret2
  exact ⟨rfl, rfl⟩

/-- What Bytes refuses. -/
def badB (l : List Int) (most : Int) : Bool := decide ((dec l).2 = 0) || decide (most < 0) || decide (most < ((dec l).1 : Int)) || decide (l.length - (dec l).2 < (dec l).1)

set_option maxHeartbeats 400000 in
theorem bytes_bad (ad : Option Addr) (len cap : Nat) (most : Int) (l : List Int) (w : World) (hs : Sl w ad len l) (hb : len ≤ 140737488355328) (hm0 : -9223372036854775808 ≤ most) (hm : most ≤ 9223372036854775807) (hbad : badB l most = true) :
    Calls Try.prog 20 #[.slice ad len cap, .int .i64 most] w fun e w' => e = .returned (.tuple #[.slice none 0 0, .int .i64 0]) ∧ w' = w := by
  have hd := dec_bound l hs.byte
  have hle := hs.len
  simp only [badB, Bool.or_eq_true, decide_eq_true_eq] at hbad
  rw [hle] at hd hbad
  have hu := uint_any ad len cap l w hs hb
  have HU := hidden hu
  clear hu hs hle
  generalize (dec l).1 = N at *
  generalize (dec l).2 = K at *
  go_enter Try.func20, Try.ntmps20
  go_wp2_with fail
  refine HU.out.mono ?_
  rintro e w' ⟨rfl, rfl⟩
  clear HU
  by_cases h1 : K = 0
  · have h1' : ((K : Int) == 0) = true := by simp [h1]
    clear h1
    go_wp2
    go_ret2
    exact ⟨rfl, rfl⟩
  · have h1' : ((K : Int) == 0) = false := by simp [h1]
    by_cases h2 : most < 0
    · clear hbad h1
      go_wp2
      go_ret2
      exact ⟨rfl, rfl⟩
    · by_cases h3 : most < (N : Int)
      · clear hbad h1
        go_wp2
        go_ret2
        exact ⟨rfl, rfl⟩
      · have h4 : ((len : Int) - (K : Int)) < (N : Int) := by omega
        clear hbad h1
        go_wp2
        go_ret2
        exact ⟨rfl, rfl⟩

set_option maxHeartbeats 400000 in
theorem bytes_good (ad : Option Addr) (len cap : Nat) (most : Int) (l : List Int) (w : World) (hs : Sl w ad len l) (hlc : len ≤ cap) (hcm : cap ≤ 9223372036854775807) (hb : len ≤ 140737488355328) (hm0 : -9223372036854775808 ≤ most) (hm : most ≤ 9223372036854775807) (hbad : badB l most = false) :
    Calls Try.prog 20 #[.slice ad len cap, .int .i64 most] w fun e w' => e = .returned (.tuple #[.slice (some ⟨w.heap.size, 0, none⟩) (dec l).1 (dec l).1, .int .i64 ((dec l).2 + (dec l).1 : Nat)]) ∧
      w'.ownsRow w.heap.size 5 1 (.slice (some ⟨w.heap.size, 0, none⟩) (dec l).1 (dec l).1) (dec l).1 (cells8 ((l.drop (dec l).2).take (dec l).1)) ∧ Below w.heap.size w w' := by
  have hd := dec_bound l hs.byte
  have hle := hs.len
  simp only [badB, Bool.or_eq_false_iff, decide_eq_false_iff_not] at hbad
  rw [hle] at hd hbad
  have hu := uint_any ad len cap l w hs hb
  have HU := hidden hu
  clear hu
  generalize (dec l).1 = N at *
  generalize (dec l).2 = K at *
  obtain ⟨b, off, rfl, hbl, hc⟩ := hs.at (by omega)
  have HC := hidden hc
  clear hc
  have h1' : ((K : Int) == 0) = false := by simp; omega
  have h2 : 0 ≤ most := by omega
  have h3 : (N : Int) ≤ most := by omega
  have h4 : (N : Int) ≤ (len : Int) - (K : Int) := by omega
  have h5 : 1 ≤ K := by omega
  clear hbad
  go_enter Try.func20, Try.ntmps20
  go_wp2_with fail
  refine HU.out.mono ?_
  rintro e w' ⟨rfl, rfl⟩
  clear HU
  go_wp2_with fail
  · have h6 : cap = K := by assumption
    refine (copyWithRoom_any (some ⟨b, off, none⟩) N 0 0 ((l.drop K).take N) _ (hs.cut (by omega) (by omega)) (by omega)).mono ?_
    rintro e w2 ⟨rfl, hown, hbel⟩
    go_wp2
    go_ret2
    exact ⟨by simp, hown, hbel⟩
  · refine (copyWithRoom_any (some ⟨b, off + K, none⟩) N (cap - K) 0 ((l.drop K).take N) _ (hs.cut (by omega) (fun _ => rfl)) (by omega)).mono ?_
    rintro e w2 ⟨rfl, hown, hbel⟩
    go_wp2
    go_ret2
    exact ⟨by simp, hown, hbel⟩

end Go.Proofs.Ytfhhcpcedfgceaa
