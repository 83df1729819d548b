import Derived.Test.YtfhhcpcedfgceaaRefB
import Derived.Deep.QuietTactic
import Derived.BigQuiet
namespace Go.Proofs.Ytfhhcpcedfgceaa
open Go.RowKit
set_option linter.unusedVariables false

/-- What 'gets' leaves: a row of its own, and yes. -/
def Got (w : World) (len : Nat) (e : Ending) (w' : World) : Prop :=
  ∃ ad n c L, e = .returned (.tuple #[.slice ad n c, .bool true]) ∧ w'.ownsRow w.heap.size 5 1 (.slice ad n c) n (cells8 L) ∧ Byte L ∧ n ≤ len ∧ Below w.heap.size w w'

set_option maxHeartbeats 2000000 in
theorem gets_any (ad : Option Addr) (len cap : Nat) (most : Int) (l : List Int) (w : World) (hs : Sl w ad len l) (hlc : len ≤ cap) (hcm : cap ≤ 9223372036854775807) (hb : len ≤ 140737488355328) (hm0 : -9223372036854775808 ≤ most) (hm : most ≤ 9223372036854775807) :
    Calls Try.prog 17 #[.slice ad len cap, .int .i64 most] w fun e w' => Got w len e w' := by
  have hd := dec_bound l hs.byte
  have hle := hs.len
  rw [hle] at hd
  go_enter Try.func17, Try.ntmps17
  go_wp2_with fail
  refine (uint_any ad len cap l _ hs hb).mono ?_
  rintro e w1 ⟨rfl, rfl⟩
  go_wp2_with fail
  refine (refUint_any ad len cap l _ hs hb).mono ?_
  rintro e w2 ⟨rfl, rfl⟩
  go_wp2_with fail
  refine (int_any ad len cap l _ hs hb).mono ?_
  rintro e w3 ⟨rfl, rfl⟩
  go_wp2_with fail
  refine (refInt_any ad len cap l _ hs hb).mono ?_
  rintro e w4 ⟨rfl, rfl⟩
  go_wp2_with fail
  by_cases hbad : badB l most = true
  · refine (bytes_bad ad len cap most l _ hs hb hm0 hm hbad).mono ?_
    rintro e w5 ⟨rfl, rfl⟩
    go_wp2_with fail
    refine (refBytes_bad ad len cap most l _ hs hb hm0 hm hbad).mono ?_
    rintro e w6 ⟨rfl, rfl⟩
    have k1 := conv (w := w6) (cap := 0) (Sl.nil w6 none)
    clear hbad hle hd
    generalize (dec l).1 = N at *
    generalize (dec l).2 = K at *
    generalize unfold' N = U at *
    go_wp2
    go_ret2
    exact ⟨none, 0, 0, [], rfl, World.ownsRow_nil _ _ _ _, byte_of rfl, Nat.zero_le _, Below.refl _ _⟩
  · have hgood : badB l most = false := by simpa using hbad
    have hN : (dec l).1 ≤ len := by
      have := hgood
      simp only [badB, Bool.or_eq_false_iff, decide_eq_false_iff_not] at this
      rw [hle] at this
      omega
    clear hbad
    refine (bytes_good ad len cap most l _ hs hlc hcm hb hm0 hm hgood).mono ?_
    rintro e w5 ⟨rfl, hown5, hb5⟩
    have hs5 := hs.later hb5
    go_wp2_with fail
    refine (refBytes_good ad len cap most l _ hs5 hlc hcm hb hm0 hm hgood).mono ?_
    rintro e w6 ⟨ad6, c6, rfl, hown6, hb6⟩
    have hbl : Byte ((l.drop (dec l).2).take (dec l).1) := (hs.byte.drop _).take _
    have k1 := conv (cap := (dec l).1) (sl_of_owns (owns_later hown5 hb6) hbl)
    have k2 := conv (cap := c6) (sl_of_owns hown6 hbl)
    have ho := owns_later hown5 hb6
    have hb7 := hb5.trans (hb6.mono hb5.size)
    clear hgood hle hd hown5 hown6 hb5 hb6 hs5 hs
    generalize (l.drop (dec l).2).take (dec l).1 = L at *
    generalize (dec l).1 = N at *
    generalize (dec l).2 = K at *
    generalize unfold' N = U at *
    go_wp2
    go_ret2
    exact ⟨_, _, _, L, rfl, ho, hbl, hN, hb7⟩

end Go.Proofs.Ytfhhcpcedfgceaa
