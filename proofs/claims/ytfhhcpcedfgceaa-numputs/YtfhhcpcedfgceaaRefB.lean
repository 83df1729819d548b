import Derived.Test.YtfhhcpcedfgceaaRefA
namespace Go.Proofs.Ytfhhcpcedfgceaa
open Go.RowKit
set_option linter.unusedVariables false

theorem owns_later {w w' : World} {base : Nat} {e : TypeId} {v : Value} {n : Nat} {xs : List Value} (h : w.ownsRow base e 1 v n xs) (hb : Below w.heap.size w w') : w'.ownsRow base e 1 v n xs := by
  refine ⟨h.1, ?_⟩
  rcases h.2 with h1 | ⟨g, c, cur, h1, h2, h3, h4⟩
  · exact .inl h1
  · refine .inr ⟨g, c, cur, h1, h2, ?_, h4⟩
    rw [hb.block g (Array.getElem?_eq_some_iff.1 h3).1]
    exact h3

set_option maxHeartbeats 400000 in
theorem refBytes_bad (ad : Option Addr) (len cap : Nat) (most : Int) (l : List Int) (w : World) (hs : Sl w ad len l) (hb : len ≤ 140737488355328) (hm0 : -9223372036854775808 ≤ most) (hm : most ≤ 9223372036854775807) (hbad : badB l most = true) :
    Calls Try.prog 27 #[.slice ad len cap, .int .i64 most] w fun e w' => e = .returned (.tuple #[.slice none 0 0, .int .i64 0]) ∧ w' = w := by
  have hd := dec_bound l hs.byte
  have hle := hs.len
  simp only [badB, Bool.or_eq_true, decide_eq_true_eq] at hbad
  rw [hle] at hd hbad
  have HU := hidden (refUint_any ad len cap l w hs hb)
  clear hs hle
  generalize (dec l).1 = N at *
  generalize (dec l).2 = K at *
  go_enter Try.func27, Try.ntmps27
  go_wp2_with fail
  refine HU.out.mono ?_
  rintro e w' ⟨rfl, rfl⟩
  clear HU
  by_cases h1 : K = 0
  · have h1' : ((K : Int) == 0) = true := by simp [h1]
    clear h1
    go_wp2
    go_ret2
    exact ⟨rfl, rfl⟩
  · have h1' : ((K : Int) == 0) = false := by simp [h1]
    by_cases h2 : most < 0
    · clear hbad h1
      go_wp2
      go_ret2
      exact ⟨rfl, rfl⟩
    · by_cases h3 : most < (N : Int)
      · clear hbad h1
        go_wp2
        go_ret2
        exact ⟨rfl, rfl⟩
      · have h4 : ((len : Int) - (K : Int)) < (N : Int) := by omega
        clear hbad h1
        go_wp2
        go_ret2
        exact ⟨rfl, rfl⟩

set_option maxHeartbeats 400000 in
theorem refBytes_good (ad : Option Addr) (len cap : Nat) (most : Int) (l : List Int) (w : World) (hs : Sl w ad len l) (hlc : len ≤ cap) (hcm : cap ≤ 9223372036854775807) (hb : len ≤ 140737488355328) (hm0 : -9223372036854775808 ≤ most) (hm : most ≤ 9223372036854775807) (hbad : badB l most = false) :
    Calls Try.prog 27 #[.slice ad len cap, .int .i64 most] w fun e w' => ∃ ad' c', e = .returned (.tuple #[.slice ad' (dec l).1 c', .int .i64 ((dec l).2 + (dec l).1 : Nat)]) ∧
      w'.ownsRow w.heap.size 5 1 (.slice ad' (dec l).1 c') (dec l).1 (cells8 ((l.drop (dec l).2).take (dec l).1)) ∧ Below w.heap.size w w' := by
  obtain ⟨i0, hi, hz0, hz1, hz2⟩ := info_parts info5
  have hd := dec_bound l hs.byte
  have hle := hs.len
  simp only [badB, Bool.or_eq_false_iff, decide_eq_false_iff_not] at hbad
  rw [hle] at hd hbad
  have HU := hidden (refUint_any ad len cap l w hs hb)
  generalize (dec l).1 = N at *
  generalize (dec l).2 = K at *
  obtain ⟨b, off, rfl, hbl, hc⟩ := hs.at (by omega)
  clear hc
  have h1' : ((K : Int) == 0) = false := by simp; omega
  have h2 : 0 ≤ most := by omega
  have h3 : (N : Int) ≤ most := by omega
  have h4 : (N : Int) ≤ (len : Int) - (K : Int) := by omega
  have h5 : 1 ≤ K := by omega
  clear hbad
  go_enter Try.func27, Try.ntmps27
  go_wp2_with fail
  refine HU.out.mono ?_
  rintro e w' ⟨rfl, rfl⟩
  clear HU
  by_cases hcK : cap = K
  · subst hcK
    obtain rfl : N = 0 := by omega
    go_wp2_with (first
      | (at_builtin; refine wpList_append_sl _ rfl _ _ 22 rfl w'.heap.size 5 i0 (.int .u8 0) Try.underlying22 hi hz0 hz1 hz2 rfl _ 0 [] rfl (World.ownsRow_nil _ _ _ _) _ 0 _ [] rfl (Sl.nil _ _) (by intro h; cases h) (by omega) (Nat.le_refl _) ?_; intro ad7 c7 w7 hown7 hgrow7))
    go_ret2
    exact ⟨ad7, c7, by simp, by simpa using hown7, grown_below hgrow7 (World.ownsRow_nil _ _ 5 1) (Nat.le_refl _)⟩
  · go_wp2_with (first
      | (at_builtin; refine wpList_append_sl _ rfl _ _ 22 rfl w'.heap.size 5 i0 (.int .u8 0) Try.underlying22 hi hz0 hz1 hz2 rfl _ 0 [] rfl (World.ownsRow_nil _ _ _ _) (some ⟨b, off + K, none⟩) (K + N - K) (cap - K) ((l.drop K).take N) rfl (by rw [Nat.add_sub_cancel_left]; exact hs.cut (by omega) (fun _ => rfl)) (by intro h; cases h) (by omega) (Nat.le_refl _) ?_; intro ad7 c7 w7 hown7 hgrow7))
    go_ret2
    exact ⟨ad7, c7, by simp, by simpa using hown7, grown_below hgrow7 (World.ownsRow_nil _ _ 5 1) (Nat.le_refl _)⟩

end Go.Proofs.Ytfhhcpcedfgceaa
