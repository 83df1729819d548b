/-
  The document's Add, Or.
-/
import Derived.Test.YtjpelnbffodaiaaPoQ
namespace Go.Proofs.Ytjpelnbffodaiaa
open Go.RowKit
set_option linter.unusedVariables false
set_option linter.unusedSimpArgs false

theorem outB_of {w w2 w' : World} {ad : Option Addr} {n c : Nat} {L L' : List Nat} {ok ok' : Bool} (hown : w'.ownsRow w2.heap.size 23 1 (.slice ad n c) n (cells32 L)) (hb : Below w2.heap.size w2 w') (hb2 : Below w.heap.size w w2) (e : L' = L) (e2 : ok' = ok) : OutB w (.returned (.tuple #[.slice ad n c, .bool ok])) w' L' ok' := by
  subst e e2
  obtain rfl := own_len hown
  exact ⟨ad, c, rfl, owns_base hown hb2.size, hb2.trans (hb.mono hb2.size)⟩

set_option maxRecDepth 100000 in
set_option maxHeartbeats 8000000 in
theorem addR (w : World) (a1 : Option Addr) (n1 c1 x : Nat) (A : List Nat) (h1 : Ar w a1 n1 c1 A) (hn1 : n1 ≤ 1000000) (hx : x ≤ 4294967295) :
    Calls Try.prog 15 #[.slice a1 n1 c1, .int .u32 (x : Int)] w fun e w' => OutB w e w' (addF A x) (decide (Ris A) && !hasF A x) := by
  have H1 := hidden h1
  have hl := h1.sw.len
  have hle := h1.le
  have hcm := h1.cm
  unfold maxLen at hcm
  have HNO := hidden h1.no
  clear h1
  go_enter Try.func15, Try.ntmps15
  go_wp2_with fail
  refine (risesR w a1 n1 c1 A H1.out.sw (by omega)).mono ?_
  rintro e w1 ⟨rfl, b1⟩
  have BB := hidden b1
  clear b1
  by_cases hr : Ris A
  case neg =>
    simp only [hr, decide_false]
    go_wp2
    go_ret2
    have e1 : addF A x = [] := joF_not (fun h => hr h.1)
    rw [e1, show (decide (Ris A) && !hasF A x) = false by simp [hr]]
    exact ⟨none, 0, rfl, World.ownsRow_nil _ _ _ _, BB.out⟩
  simp only [hr, decide_true]
  have HR := hidden hr
  clear hr
  go_wp2_with fail
  go_loopw [7] (fun s7 wr => ∃ K : Nat, s7 = .int .i64 (K : Int) ∧ K ≤ n1 ∧ Hid (∀ j, j < K → A.getD j 0 < x) ∧ wr = w1) (fun s7 _ => n1 - (intOf s7).toNat)
  case atStart => exact ⟨0, rfl, by omega, hidden (fun j hj => by omega), rfl⟩
  case round =>
    rename World => wr
    obtain ⟨K, rfl, hK, hlo, rfl⟩ := hrel
    have HT0 := hidden (((H1.out.later BB.out).sw.take (N := K) hK))
    have HNO0 := HNO
    by_cases hlt : K < n1
    · have hltz : (K : Int) < (n1 : Int) := by omega
      have hcK : ¬ c1 = K := by omega
      obtain ⟨b, o, rfl, _, hc⟩ := (H1.out.sw.later BB.out).at (by omega)
      have k1 := hc K hlt
      obtain ⟨y, hy⟩ : ∃ y, A.getD K 0 = y := ⟨_, rfl⟩
      rw [hy] at k1
      have HY := hidden hy
      have HD := hidden ((H1.out.sw.later BB.out).drop (K := K) hK)
      have HT := HT0
      have HNO : Hid (some (⟨b, o, none⟩ : Addr) = none → K = 0 ∧ c1 = 0) := hidden (fun e => absurd e (by simp))
      clear hc hy
      by_cases hyx : y < x
      · have hz : (y : Int) < (x : Int) := by omega
        go_wp2
        refine ⟨⟨K + 1, by first | rfl | simp, by omega, hidden (fun j hj => ?_), by first | trivial | rfl⟩, ?_⟩
        · by_cases e : j = K
          · subst e; rw [HY.out]; exact hyx
          · exact hlo.out j (by omega)
        · simp [intOf]
          omega
      · have hz : ¬ (y : Int) < (x : Int) := by omega
        by_cases hex : y = x
        · subst hex
          obtain ⟨e1, e2⟩ := add_has HR.out (n := y) (by omega) HY.out
          have E1 := hidden e1
          have E2 := hidden e2
          clear e1 e2
          go_wp2_with (first
            | (refine wpList_appW _ rfl (.tmp 27) (.tmp 30) rfl wr.heap.size (.slice none 0 0) 0 [] rfl (World.ownsRow_nil _ _ _ _) _ K c1 (A.take K) rfl HT.out HNO.out (by omega) (Nat.le_refl _) ?_; intro a5 c5 w5 o5 b5; rw [Nat.zero_add, List.nil_append] at o5; have O5 := hidden o5; have B5 := hidden b5; clear o5 b5; have k5 := (((H1.out.sw.later BB.out).later B5.out).at (by omega)); obtain ⟨b', o', e5, _, f5⟩ := k5; obtain ⟨rfl, rfl⟩   : _ ∧ _ := (by simpa using e5); have l5 := f5 K hlt; rw [HY.out] at l5; clear f5 e5)
            | (refine wpList_appW _ rfl (.tmp 44) (.tmp 47) rfl wr.heap.size (.slice a5 K c5) K (A.take K) rfl O5.out _ (n1 - K) (c1 - K) (A.drop K) rfl (HD.out.later B5.out) (fun e => absurd e (by simp)) (by omega) B5.out.size ?_; intro a6 c6 w6 o6 b6; have O6 := hidden o6; have B6 := hidden (B5.out.trans b6); clear o6 b6))
          go_ret2
          exact outB_of (L := A.take K ++ A.drop K) (by have := O6.out; rwa [show K + (n1 - K) = n1 by omega] at this) B6.out BB.out (by rw [E1.out, List.take_append_drop]) (by simp [HR.out, E2.out])
        · have hexz : ¬ (y : Int) = (x : Int) := by omega
          obtain ⟨e1, e2⟩ := add_new HR.out (n := x) (K := K) (by omega) hlo.out (fun _ => by rw [HY.out]; omega)
          have E1 := hidden e1
          have E2 := hidden e2
          clear e1 e2
          go_wp2_with (first
            | (refine wpList_appW _ rfl (.tmp 27) (.tmp 30) rfl wr.heap.size (.slice none 0 0) 0 [] rfl (World.ownsRow_nil _ _ _ _) _ K c1 (A.take K) rfl HT.out HNO.out (by omega) (Nat.le_refl _) ?_; intro a5 c5 w5 o5 b5; rw [Nat.zero_add, List.nil_append] at o5; have O5 := hidden o5; have B5 := hidden b5; clear o5 b5; have k5 := (((H1.out.sw.later BB.out).later B5.out).at (by omega)); obtain ⟨b', o', e5, _, f5⟩ := k5; obtain ⟨rfl, rfl⟩   : _ ∧ _ := (by simpa using e5); have l5 := f5 K hlt; rw [HY.out] at l5; clear f5 e5)
            | (refine wpList_pushW _ rfl (.tmp 49) (.tmp 51) rfl wr.heap.size (.slice a5 K c5) K (A.take K) rfl w5 O5.out x _ rfl rfl rfl (by omega) B5.out.size ?_; intro g7 c7 w7 o7 b7; have O7 := hidden o7; have B7 := hidden (B5.out.trans b7); clear o7 b7)
            | (refine wpList_appW _ rfl (.tmp 53) (.tmp 56) rfl wr.heap.size (.slice (some ⟨g7, 0, none⟩) (K + 1) c7) (K + 1) (A.take K ++ [x]) rfl O7.out _ (n1 - K) (c1 - K) (A.drop K) rfl (HD.out.later B7.out) (fun e => absurd e (by simp)) (by omega) B7.out.size ?_; intro a6 c6 w6 o6 b6; have O6 := hidden o6; have B6 := hidden (B7.out.trans b6); clear o6 b6))
          go_ret2
          exact outB_of O6.out B6.out BB.out E1.out (by simp [HR.out, E2.out])
    · have hltz : ¬ (K : Int) < (n1 : Int) := by omega
      obtain rfl : K = n1 := by omega
      obtain ⟨e1, e2⟩ := add_new HR.out (n := x) (K := K) (by omega) hlo.out (fun h => by omega)
      rw [List.drop_eq_nil_of_le (by omega)] at e1
      have E1 := hidden e1
      have E2 := hidden e2
      have HT := HT0
      clear e1 e2
      have HNO := HNO0
      rcases a1 with _ | ad1
      · obtain ⟨rfl, rfl⟩ := HNO.out rfl
        go_wp2_with (first
            | (refine wpList_appW _ rfl (.tmp 27) (.tmp 30) rfl wr.heap.size (.slice none 0 0) 0 [] rfl (World.ownsRow_nil _ _ _ _) _ 0 0 (A.take 0) rfl HT.out HNO.out (by omega) (Nat.le_refl _) ?_; intro a5 c5 w5 o5 b5; rw [Nat.zero_add, List.nil_append] at o5; have O5 := hidden o5; have B5 := hidden b5; clear o5 b5; skip)
            | (refine wpList_pushW _ rfl (.tmp 49) (.tmp 51) rfl wr.heap.size (.slice a5 0 c5) 0 (A.take 0) rfl w5 O5.out x _ rfl rfl rfl (by omega) B5.out.size ?_; intro g7 c7 w7 o7 b7; have O7 := hidden o7; have B7 := hidden (B5.out.trans b7); clear o7 b7)
            | (refine wpList_appW _ rfl (.tmp 53) (.tmp 56) rfl wr.heap.size (.slice (some ⟨g7, 0, none⟩) (0 + 1) c7) (0 + 1) (A.take 0 ++ [x]) rfl O7.out _ 0 _ [] rfl (Sw.nil _ _) (fun _ => ⟨rfl, rfl⟩) (by omega) B7.out.size ?_; intro a6 c6 w6 o6 b6; have O6 := hidden o6; have B6 := hidden (B7.out.trans b6); clear o6 b6))
        go_ret2
        exact outB_of O6.out B6.out BB.out E1.out (by simp [HR.out, E2.out])
      · by_cases hK0 : K = 0
        · subst hK0
          by_cases hcK : c1 = 0
          all_goals
            try subst hcK
            go_wp2_with (first
              | (refine wpList_appW _ rfl (.tmp 27) (.tmp 30) rfl wr.heap.size (.slice none 0 0) 0 [] rfl (World.ownsRow_nil _ _ _ _) _ 0 _ (A.take 0) rfl HT.out HNO.out (by omega) (Nat.le_refl _) ?_; intro a5 c5 w5 o5 b5; rw [Nat.zero_add, List.nil_append] at o5; have O5 := hidden o5; have B5 := hidden b5; clear o5 b5; skip)
              | (refine wpList_pushW _ rfl (.tmp 49) (.tmp 51) rfl wr.heap.size (.slice a5 0 c5) 0 (A.take 0) rfl w5 O5.out x _ rfl rfl rfl (by omega) B5.out.size ?_; intro g7 c7 w7 o7 b7; have O7 := hidden o7; have B7 := hidden (B5.out.trans b7); clear o7 b7)
              | (refine wpList_appW _ rfl (.tmp 53) (.tmp 56) rfl wr.heap.size (.slice (some ⟨g7, 0, none⟩) (0 + 1) c7) (0 + 1) (A.take 0 ++ [x]) rfl O7.out _ 0 _ [] rfl (Sw.nil _ _) (fun e => absurd e (by simp)) (by omega) B7.out.size ?_; intro a6 c6 w6 o6 b6; have O6 := hidden o6; have B6 := hidden (B7.out.trans b6); clear o6 b6))
            go_ret2
            exact outB_of O6.out B6.out BB.out E1.out (by simp [HR.out, E2.out])
        · obtain ⟨b, o, eb, _, _⟩ := (H1.out.sw.later BB.out).at (by omega)
          obtain rfl := Option.some.inj eb
          by_cases hcK : K = c1
          all_goals
            try subst hcK
            try (have hcK' : ¬ c1 = K := fun e => hcK e.symm)
            go_wp2_with (first
              | (refine wpList_appW _ rfl (.tmp 27) (.tmp 30) rfl wr.heap.size (.slice none 0 0) 0 [] rfl (World.ownsRow_nil _ _ _ _) _ K _ (A.take K) rfl HT.out HNO.out (by omega) (Nat.le_refl _) ?_; intro a5 c5 w5 o5 b5; rw [Nat.zero_add, List.nil_append] at o5; have O5 := hidden o5; have B5 := hidden b5; clear o5 b5; skip)
              | (refine wpList_pushW _ rfl (.tmp 49) (.tmp 51) rfl wr.heap.size (.slice a5 K c5) K (A.take K) rfl w5 O5.out x _ rfl rfl rfl (by omega) B5.out.size ?_; intro g7 c7 w7 o7 b7; have O7 := hidden o7; have B7 := hidden (B5.out.trans b7); clear o7 b7)
              | (refine wpList_appW _ rfl (.tmp 53) (.tmp 56) rfl wr.heap.size (.slice (some ⟨g7, 0, none⟩) (K + 1) c7) (K + 1) (A.take K ++ [x]) rfl O7.out _ 0 _ [] rfl (Sw.nil _ _) (fun e => absurd e (by simp)) (by omega) B7.out.size ?_; intro a6 c6 w6 o6 b6; have O6 := hidden o6; have B6 := hidden (B7.out.trans b6); clear o6 b6))
            go_ret2
            exact outB_of O6.out B6.out BB.out E1.out (by simp [HR.out, E2.out])

end Go.Proofs.Ytjpelnbffodaiaa
