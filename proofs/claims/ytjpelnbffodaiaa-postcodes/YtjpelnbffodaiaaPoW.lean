/-
  The document's Get.
-/
import Derived.Test.YtjpelnbffodaiaaPoV
namespace Go.Proofs.Ytjpelnbffodaiaa
open Go.RowKit
set_option linter.unusedVariables false
set_option linter.unusedSimpArgs false

set_option maxRecDepth 100000 in
set_option maxHeartbeats 4000000 in
theorem getR (w : World) (ad : Option Addr) (n c : Nat) (b : List Int) (hs : Sl w ad n b) (hc : n ≤ c) (hcm : c ≤ maxLen) (hn : n ≤ 1000000) :
    Calls Try.prog 30 #[.slice ad n c] w fun e w' => OutG w e w' (getF b) := by
  unfold maxLen at hcm
  have HS := hidden hs
  have HL := hidden hs.len
  have hbd := dec_bound b hs.byte
  have hlen := hs.len
  clear hs
  obtain ⟨⟨m, s⟩, hd⟩ : ∃ p, dec b = p := ⟨_, rfl⟩
  rw [hd, hlen] at hbd
  simp only at hbd
  obtain ⟨hb1, hb2, hb3⟩ := hbd
  clear hlen
  go_enter Try.func30, Try.ntmps30
  go_wp2_with fail
  refine (refUint_any ad n c b w HS.out (by omega)).mono ?_
  rintro e w' ⟨rfl, rfl⟩
  rw [hd]
  by_cases h0 : s = 0
  · have hg : getF b = none := by unfold getF; rw [hd, if_pos (.inl h0)]
    have HG := hidden hg
    subst h0
    clear hd hg
    go_wp2
    go_ret2
    exact OutG.none' HG.out (Below.refl _ _)
  · have h0z : ¬ (s : Int) = 0 := by omega
    obtain ⟨r, hr⟩ : ∃ r, n - s = r := ⟨_, rfl⟩
    have hrz : (n : Int) - (s : Int) = (r : Int) := by omega
    by_cases h1 : r < m
    · have hg : getF b = none := by unfold getF; rw [hd, if_pos (.inr (by rw [HL.out]; simp only; omega))]
      have HG := hidden hg
      have h1z : (m : Int) > (r : Int) := by omega
      clear hd hg
      go_wp2
      go_ret2
      exact OutG.none' HG.out (Below.refl _ _)
    · have h1z : ¬ (m : Int) > (r : Int) := by omega
      have hg : getF b = cont b m 0 s [] := by
        unfold getF cont
        rw [hd, if_neg (by rw [HL.out]; simp only; omega)]
        simp only [List.nil_append]
        rcases getL m 0 (List.drop s b) with _ | ⟨l, t⟩ <;> rfl
      have HG := hidden hg
      have HD := hidden hd
      clear hd hg
      obtain ⟨b1, o1, rfl, _, _⟩ := HS.out.at (by omega)
      go_wp2_with fail
      have hs0 : ((s : Int) == 0) = false := by simpa using h0
      simp only [hs0]
      go_loopw [5, 6, 7] (fun s5 s6 s7 wr => ∃ (i at' c' : Nat) (a' : Option Addr) (out : List Nat), s5 = .int .i64 (at' : Int) ∧ s6 = .slice a' i c' ∧ s7 = .int .u64 (i : Int) ∧ i ≤ m ∧ at' ≤ n ∧ Hid (wr.ownsRow w'.heap.size 23 1 (.slice a' i c') i (cells32 out)) ∧ Hid (Wrd out) ∧ Hid (getF b = cont b (m - i) (lv out i) at' out) ∧ Hid (Below w'.heap.size w' wr)) (fun _ _ s7 _ => m - (intOf s7).toNat)
      case atStart => exact ⟨0, s, 0, none, [], rfl, rfl, rfl, by omega, by omega, hidden (World.ownsRow_nil _ _ _ _), hidden Wrd.nil, HG, hidden (Below.refl _ _)⟩
      case round =>
        rename World => wr
        obtain ⟨i, at', c', a', out, rfl, rfl, rfl, hi, hat, hown, hwd, hG, hbel⟩ := hrel
        clear HG
        have hol0 := own_len hown.out
        by_cases hlt : i < m
        · have hltz : (i : Int) < (m : Int) := by omega
          have HSR := hidden (sl_rest (HS.out.later hbel.out) hc hat)
          have hbd := dec_bound _ HSR.out.byte
          rw [HSR.out.len] at hbd
          obtain ⟨⟨d, z⟩, hd⟩ : ∃ p, dec (b.drop at') = p := ⟨_, rfl⟩
          rw [hd] at hbd
          simp only at hbd
          obtain ⟨hd1, hd2, hd3⟩ := hbd
          have HD2 := hidden hd
          clear hd
          obtain ⟨q, hq⟩ : ∃ q, m - i = q + 1 := ⟨m - i - 1, by omega⟩
          have HQ := hidden hq
          clear hq
          have HR1 : Hid (c = at' → Sl wr (some ⟨b1, o1, none⟩) (n - at') (b.drop at')) := hidden (fun e => by have := HSR.out; rw [if_pos e] at this; exact this)
          have HR2 : Hid (¬ c = at' → Sl wr (some ⟨b1, o1 + at', none⟩) (n - at') (b.drop at')) := hidden (fun e => by have := HSR.out; rw [if_neg e] at this; exact this)
          clear HSR
          go_wp2_with fail
          all_goals
            refine (refUint_any _ (n - at') _ (b.drop at') wr (by first | exact HR2.out (by omega) | exact HR1.out (by omega)) (by omega)).mono ?_
            rintro e w5 ⟨rfl, rfl⟩
            rw [HD2.out]
            by_cases hz0 : z = 0
            · subst hz0
              have HN : Hid (getF b = none) := hidden (hG.out.trans (by rw [HQ.out]; exact cont_none HD2.out (.inl rfl)))
              clear hG HD2
              go_wp2
              go_ret2
              exact OutG.none' HN.out hbel.out
            · have hz0z : ¬ (z : Int) = 0 := by omega
              first | (exfalso; omega) | skip
              all_goals
                by_cases hd32 : 4294967295 < d
                · have hd32z : (d : Int) > 4294967295 := by omega
                  have HN : Hid (getF b = none) := hidden (hG.out.trans (by rw [HQ.out]; exact cont_none HD2.out (.inr (.inl hd32))))
                  clear hG HD2
                  go_wp2
                  go_ret2
                  exact OutG.none' HN.out hbel.out
                · have hd32z : ¬ (d : Int) > 4294967295 := by omega
                  cases i with
                  | zero =>
                    have HN : Hid (getF b = cont b q (0 + d + 1) (at' + z) (out ++ [0 + d])) := hidden (hG.out.trans (by rw [HQ.out]; exact cont_step HD2.out (by rw [lv_zero]; omega)))
                    rw [Nat.zero_add] at HN
                    have HLV : Hid (lv (out ++ [d]) (0 + 1) = d + 1) := hidden (by rw [lv_succ]; simp [List.getD, List.eq_nil_of_length_eq_zero hol0])
                    have HNQ : Hid (m - (0 + 1) = q) := hidden (by have := HQ.out; omega)
                    clear hG HD2 hol0
                    go_wp2_with (refine wpList_pushW _ rfl (.tmp 57) (.tmp 60) rfl w'.heap.size (.slice a' 0 c') 0 out rfl w5 hown.out d _ rfl rfl rfl (by omega) hbel.out.size ?_; intro g8 c8 w8 o8 b8; have O8 := hidden o8; have B8 := hidden (hbel.out.trans b8); clear o8 b8)
                    all_goals first
                      | (exfalso; rename_i hbad; simp at hbad; omega)
                      | (refine ⟨⟨0 + 1, at' + z, c8, some ⟨g8, 0, none⟩, out ++ [d], by first | rfl | simp, by first | rfl | simp, by first | rfl | simp, by omega, by omega, O8, hidden (hwd.out.append (Wrd.one (by omega))), by rw [HNQ.out, HLV.out]; exact HN, B8⟩, ?_⟩; simp [intOf]; omega)
                  | succ j =>
                    have hs8 := sw_of_owns hown.out hwd.out
                    obtain ⟨gb, ob, e8, _, hc8⟩ := hs8.at (by omega)
                    subst e8
                    have k8 := hc8 j (by omega)
                    have hp32 := hwd.out.at j
                    obtain ⟨p, hp⟩ : ∃ p, out.getD j 0 = p := ⟨_, rfl⟩
                    have HLV0 : Hid (lv out (j + 1) = p + 1) := hidden (by rw [lv_succ, hp])
                    rw [hp] at k8 hp32
                    clear hc8 hp hs8
                    have hz0 : ((j + 1 : Nat) : Int) > 0 := by omega
                    have hz1 : ((j + 1 : Nat) : Int) - 1 = (j : Int) := by omega
                    obtain ⟨t, ht⟩ : ∃ t, d + p = t := ⟨_, rfl⟩
                    have hz2 : (d : Int) + (p : Int) = (t : Int) := by omega
                    obtain ⟨y, hy⟩ : ∃ y, t + 1 = y := ⟨_, rfl⟩
                    have hz3 : (t : Int) + 1 = (y : Int) := by omega
                    have hyk : lv out (j + 1) + d = y := by rw [HLV0.out]; omega
                    have HYK := hidden hyk
                    clear hyk
                    by_cases hk32 : 4294967295 < y
                    · have hk32z : (y : Int) > 4294967295 := by omega
                      have HN : Hid (getF b = none) := hidden (hG.out.trans (by rw [HQ.out]; exact cont_none HD2.out (.inr (.inr (by rw [HYK.out]; exact hk32)))))
                      clear hG HD2
                      go_wp2
                      all_goals first
                        | (exfalso; rename_i hbad; simp at hbad; omega)
                        | (go_ret2; exact OutG.none' HN.out hbel.out)
                    · have hk32z : ¬ (y : Int) > 4294967295 := by omega
                      have HN : Hid (getF b = cont b q (lv out (j + 1) + d + 1) (at' + z) (out ++ [lv out (j + 1) + d])) := hidden (hG.out.trans (by rw [HQ.out]; exact cont_step HD2.out (by rw [HYK.out]; omega)))
                      rw [HYK.out] at HN
                      have HLV : Hid (lv (out ++ [y]) (j + 1 + 1) = y + 1) := hidden (by rw [lv_succ]; simp [List.getD, ← hol0])
                      have HNQ : Hid (m - (j + 1 + 1) = q) := hidden (by have := HQ.out; omega)
                      clear hG HD2
                      go_wp2_with (refine wpList_pushW _ rfl (.tmp 57) (.tmp 60) rfl w'.heap.size (.slice (some ⟨gb, ob, none⟩) (j + 1) c') (j + 1) out rfl w5 hown.out y _ rfl rfl rfl (by omega) hbel.out.size ?_; intro g8 c8 w8 o8 b8; have O8 := hidden o8; have B8 := hidden (hbel.out.trans b8); clear o8 b8)
                      all_goals first
                        | (exfalso; rename_i hbad; simp at hbad; omega)
                        | (refine ⟨⟨j + 1 + 1, at' + z, c8, some ⟨g8, 0, none⟩, out ++ [y], by first | rfl | simp, by first | rfl | simp, by first | rfl | simp, by omega, by omega, O8, hidden (hwd.out.append (Wrd.one (by omega))), by rw [HNQ.out, HLV.out]; exact HN, B8⟩, ?_⟩; simp [intOf]; omega)
        · have hltz : ¬ (i : Int) < (m : Int) := by omega
          have hE := hG.out
          rw [show m - i = 0 by omega, cont, getL] at hE
          simp only [List.append_nil, Nat.add_zero] at hE
          have HE := hidden hE
          clear hE
          have hol := hidden (own_len hown.out)
          go_wp2
          go_ret2
          rw [OutG, HE.out]
          simp only [Option.getD_some]
          rw [hol.out]
          exact ⟨a', c', rfl, hown.out, hbel.out⟩

end Go.Proofs.Ytjpelnbffodaiaa
