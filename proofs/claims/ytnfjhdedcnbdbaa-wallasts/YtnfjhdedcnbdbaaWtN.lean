/-
  A checkpoint whose power falls; what is done in one deed.
-/
import Derived.Test.YtnfjhdedcnbdbaaWtM
namespace Go.Proofs.Ytnfjhdedcnbdbaa
open Go.RowKit
set_option linter.unusedVariables false
set_option linter.unusedSimpArgs false

theorem Lgok.next {h : Hd} {st : List Int} {recs : List (List Int)} (k : Lgok h st recs) {s : List Int} (hg : h.g + 1 < 9223372036854775808) (hs : s.length + 33 ≤ h.cap) : Lgok h.next s [] ∧ h.next.g = h.g + 1 := by
  have e : h.next.g = h.g + 1 := Nat.mod_eq_of_lt (by omega)
  have h2 := h.ok_iff.1 k.ok
  refine ⟨⟨h.next.ok_iff.2 ⟨by rw [e]; omega, h2.2⟩, by rw [e]; exact hg, by rw [laid_nil_len]; exact hs, fun r hr => (by cases hr)⟩, e⟩
/-- A checkpoint's first op is done. -/
theorem check1_s {falls live : Nat} {h : Hd} {st : List Int} {recs : List (List Int)} {o : Nat} {K : List Int} (hl : live ≤ 1) : (LF falls live h st recs (some (o + 1, K))).check1 ⟨falls, live, h⟩ = (0, LF falls live h st recs (some (o, K))) := by
  have hy : (LF falls live h st recs (some (o + 1, K))).L[1 - live]? = some (wh []) := two_other hl _ _
  have ht := trunc_f (n := 0) rfl hy (Nat.zero_le _)
  unfold St.check1
  rw [one_sub hl]
  refine Eq.trans ht ?_
  have e : (LF falls live h st recs (some (o + 1, K))).op = _ := op_succ rfl
  rw [e, if_neg (by simp)]
  simp only [LF, Prod.mk.injEq, true_and]
  rw [two_seto hl]
  rfl
theorem check1_z {falls live : Nat} {h : Hd} {st : List Int} {recs : List (List Int)} {K : List Int} (hl : live ≤ 1) : (LF falls live h st recs (some (0, K))).check1 ⟨falls, live, h⟩ = (40, (LF falls live h st recs (some (0, K))).fail K) := by
  have hy : (LF falls live h st recs (some (0, K))).L[1 - live]? = some (wh []) := two_other hl _ _
  have ht := trunc_f (n := 0) rfl hy (Nat.zero_le _)
  unfold St.check1
  rw [one_sub hl]
  refine Eq.trans ht ?_
  have e : (LF falls live h st recs (some (0, K))).op = _ := op_zero rfl
  rw [e, if_pos (by simp)]
theorem check_oc {falls live : Nat} {h : Hd} {st : List Int} {recs : List (List Int)} (fu : Option (Nat × Int)) (hl : live ≤ 1) (k : Lgok h st recs) (hfn : (⟨falls, live, h⟩ : Lw).fine) (hg : h.g + 1 < 9223372036854775808) (s : List Int) :
    Oc falls live h st recs s [] (fz fu) (stay fu 2 (s.length + 33)) ((LF falls live h st recs (fz fu)).wcheck ⟨falls, live, h⟩ s).1 ((LF falls live h st recs (fz fu)).wcheck ⟨falls, live, h⟩ s).2.1 ((LF falls live h st recs (fz fu)).wcheck ⟨falls, live, h⟩ s).2.2 ∧
    (((LF falls live h st recs (fz fu)).wcheck ⟨falls, live, h⟩ s).1 = 60 ↔ h.cap < s.length + 33) := by
  have hc := (h.ok_iff.1 k.ok).2.2.1
  by_cases hfit : s.length + 33 ≤ h.cap
  · obtain ⟨kn, hng⟩ := k.next hg hfit
    have hw : weight s.length = (s.length : Int) + 33 := by unfold weight; rw [if_neg (by omega)]
    have hfu : fitsU h.cap s.length ≠ false := by unfold fitsU; rw [hw]; simp; omega
    cases fu with
    | none =>
      have e := wcheck_q (falls := falls) (recs := recs) (st := st) (st' := s) hl hc hfit
      show Oc falls live h st recs s [] none (stay none 2 (s.length + 33)) ((LS falls live h st recs).wcheck ⟨falls, live, h⟩ s).1 ((LS falls live h st recs).wcheck ⟨falls, live, h⟩ s).2.1 ((LS falls live h st recs).wcheck ⟨falls, live, h⟩ s).2.2 ∧ (((LS falls live h st recs).wcheck ⟨falls, live, h⟩ s).1 = 60 ↔ _)
      rw [e]
      exact ⟨.good (1 - live) h.next none rfl rfl rfl (by omega) kn rfl rfl (by omega), by simp; omega⟩
    | some q =>
      obtain ⟨o, kk⟩ := q
      show Oc falls live h st recs s [] (some (o, [kk, kk])) (stay (some (o, kk)) 2 (s.length + 33)) ((LF falls live h st recs (some (o, [kk, kk]))).wcheck ⟨falls, live, h⟩ s).1 ((LF falls live h st recs (some (o, [kk, kk]))).wcheck ⟨falls, live, h⟩ s).2.1 ((LF falls live h st recs (some (o, [kk, kk]))).wcheck ⟨falls, live, h⟩ s).2.2 ∧ (((LF falls live h st recs (some (o, [kk, kk]))).wcheck ⟨falls, live, h⟩ s).1 = 60 ↔ _)
      have hlh : headAt (laid h st recs) = some (h, st) := by have := k.hd []; rw [List.append_nil] at this; exact this
      match o with
      | 0 =>
        have e : (LF falls live h st recs (some (0, [kk, kk]))).wcheck ⟨falls, live, h⟩ s = (40, (LF falls live h st recs (some (0, [kk, kk]))).fail [kk, kk], ⟨falls, live, h⟩) := by
          unfold St.wcheck
          rw [if_neg (by simp [LF]), if_neg hfu, check1_z hl, if_pos (by simp)]
        rw [e]
        have hs : stay (some (0, kk)) 2 (s.length + 33) = false := by unfold stay; simp
        rw [hs]
        exact ⟨.dead live h [] [] rfl rfl ((LF.cr _ _ _ _ _ _).fail _) rfl hfn hl k rfl rfl (by omega), by simp; omega⟩
      | o + 1 =>
        have e1 : (LF falls live h st recs (some (o + 1, [kk, kk]))).check1 ⟨falls, live, h⟩ = (0, LF falls live h st recs (some (o, [kk, kk]))) := check1_s hl
        have hy : (LF falls live h st recs (some (o, [kk, kk]))).L[1 - live]? = some (wh []) := two_other hl _ _
        have hp := put_f (k := 1) (l := hdata h.next s) (S := LF falls live h st recs (some (o, [kk, kk]))) (K := [kk, kk]) rfl rfl hy (by rw [hdata_length]; simp [wh]; omega)
        have e2 : (LF falls live h st recs (some (o + 1, [kk, kk]))).check2 ⟨falls, live, h⟩ s = (LF falls live h st recs (some (o, [kk, kk]))).put ((1 - live : Nat) : Int) 1 (hdata h.next s) := by
          unfold St.check2
          rw [e1, one_sub hl]
        have hml : (made 1 (hdata h.next s)).length = s.length + 33 := by rw [made_length, hdata_length]; omega
        by_cases ho : o ≤ 1
        · rw [if_pos ho] at hp
          rw [hp] at e2
          have hL : loseAll ((LF falls live h st recs (some (o, [kk, kk]))).L.set (1 - live) ⟨(wh []).b ++ made 1 (hdata h.next s), (wh []).n⟩) [kk, kk] = two live (wh (laid h st recs)) (wh ((made 1 (hdata h.next s)).take kk.toNat)) := by
            show loseAll ((two live _ _).set (1 - live) _) _ = _
            rw [two_seto hl, loseAll_two, lose_wh]
            congr 1
            have := lose_tail [] (made 1 (hdata h.next s)) kk
            rw [List.nil_append] at this
            exact this
          have e : (LF falls live h st recs (some (o + 1, [kk, kk]))).wcheck ⟨falls, live, h⟩ s = (40, ⟨two live (wh (laid h st recs)) (wh ((made 1 (hdata h.next s)).take kk.toNat)), false, falls + 1, none⟩, ⟨falls, live, h⟩) := by
            unfold St.wcheck
            rw [if_neg (by simp [LF]), if_neg hfu, e1, if_neg (by simp), e2, if_pos (by simp), hL]
            rfl
          rw [e]
          refine ⟨?_, by simp; omega⟩
          by_cases hk : ((s.length + 33 : Nat) : Int) ≤ kk
          · have hs : stay (some (o + 1, kk)) 2 (s.length + 33) = true := by
              unfold stay
              simp
              omega
            rw [hs]
            refine .dead (1 - live) h.next [] (laid h st recs) rfl rfl ⟨rfl, ?_, frames_nil, .inr ⟨_, hlh, by show h.g < _; omega⟩⟩ rfl hfn (by omega) kn rfl rfl (by omega)
            show two live _ _ = _
            rw [List.take_of_length_le (by rw [hml]; omega), two_turn hl, List.append_nil]
            simp only [if_true]
            rw [laid_nil]
          · have hs : stay (some (o + 1, kk)) 2 (s.length + 33) = false := by
              unfold stay
              simp
              omega
            rw [hs]
            refine .dead live h [] ((made 1 (hdata h.next s)).take kk.toNat) rfl rfl ⟨rfl, by rw [List.append_nil]; rfl, frames_nil, .inl ?_⟩ rfl hfn hl k rfl rfl (by omega)
            unfold headAt
            rw [frames_cut 1 _ (by rw [hdata_length]; omega) _ (by rw [hdata_length]; omega)]
        · rw [if_neg ho] at hp
          rw [hp] at e2
          have hP : ((LF falls live h st recs (some (o, [kk, kk]))).L.set (1 - live) ⟨(wh []).b ++ made 1 (hdata h.next s), ((wh []).b ++ made 1 (hdata h.next s)).length⟩) = two live (wh (laid h st recs)) (wh (laid h.next s [])) := by
            show (two live _ _).set (1 - live) _ = _
            rw [two_seto hl, laid_nil]
            rfl
          have e2' : (LF falls live h st recs (some (o + 1, [kk, kk]))).check2 ⟨falls, live, h⟩ s = (0, ⟨two live (wh (laid h st recs)) (wh (laid h.next s [])), true, falls, some (o - 2, [kk, kk])⟩) := by
            rw [e2, hP]
            rfl
          have hx : (⟨two live (wh (laid h st recs)) (wh (laid h.next s [])), true, falls, some (o - 2, [kk, kk])⟩ : St).L[live]? = some (wh (laid h st recs)) := two_live hl _ _
          have ht := trunc_f (n := 0) rfl hx (Nat.zero_le _)
          have e3 : (LF falls live h st recs (some (o + 1, [kk, kk]))).check3 ⟨falls, live, h⟩ s = (⟨two live (wh (laid h st recs)) (wh (laid h.next s [])), true, falls, some (o - 2, [kk, kk])⟩ : St).truncate live ((0 : Nat) : Int) := by
            unfold St.check3
            rw [e2']
            rfl
          rw [ht] at e3
          obtain ⟨m, rfl⟩ : ∃ m, o = m + 2 := ⟨o - 2, by omega⟩
          rw [Nat.add_sub_cancel] at e2' e3 hx
          match m with
          | 0 =>
            have eo : (⟨two live (wh (laid h st recs)) (wh (laid h.next s [])), true, falls, some (0, [kk, kk])⟩ : St).op = _ := op_zero rfl
            rw [eo, if_pos (by simp)] at e3
            have e : (LF falls live h st recs (some (0 + 2 + 1, [kk, kk]))).wcheck ⟨falls, live, h⟩ s = (40, (⟨two live (wh (laid h st recs)) (wh (laid h.next s [])), true, falls, some (0, [kk, kk])⟩ : St).fail [kk, kk], ⟨falls, live, h⟩) := by
              unfold St.wcheck
              rw [if_neg (by simp [LF]), if_neg hfu, e1, if_neg (by simp), e2', if_neg (by simp), e3, if_pos (by simp)]
            rw [e]
            have hs : stay (some (0 + 2 + 1, kk)) 2 (s.length + 33) = true := by unfold stay; simp
            rw [hs]
            refine ⟨.dead (1 - live) h.next [] (laid h st recs) rfl rfl (Cr.fail ⟨rfl, ?_, frames_nil, .inr ⟨_, hlh, by show h.g < _; omega⟩⟩ _) rfl hfn (by omega) kn rfl rfl (by omega), by simp; omega⟩
            show two live _ _ = _
            rw [two_turn hl, List.append_nil]
            rfl
          | m + 1 =>
            have eo : (⟨two live (wh (laid h st recs)) (wh (laid h.next s [])), true, falls, some (m + 1, [kk, kk])⟩ : St).op = _ := op_succ rfl
            rw [eo, if_neg (by simp)] at e3
            have e : (LF falls live h st recs (some (m + 1 + 2 + 1, [kk, kk]))).wcheck ⟨falls, live, h⟩ s = (0, LF falls (1 - live) h.next s [] (some (m, [kk, kk])), ⟨falls, 1 - live, h.next⟩) := by
              unfold St.wcheck
              rw [if_neg (by simp [LF]), if_neg hfu, e1, if_neg (by simp), e2', if_neg (by simp), e3, if_neg (by simp)]
              simp only [LF, Prod.mk.injEq, true_and, and_true]
              rw [two_set hl, two_turn hl]
              rfl
            rw [e]
            exact ⟨.good (1 - live) h.next _ rfl rfl rfl (by omega) kn rfl rfl (by omega), by simp; omega⟩
  · have hfu : fitsU h.cap s.length = false := by
      unfold fitsU weight
      by_cases hb : (s.length : Int) < 0 ∨ 4194280 < (s.length : Int)
      · rw [if_pos hb]; simp
      · rw [if_neg hb]; simp; omega
    have e : (LF falls live h st recs (fz fu)).wcheck ⟨falls, live, h⟩ s = (60, LF falls live h st recs (fz fu), ⟨falls, live, h⟩) := by
      unfold St.wcheck
      rw [if_neg (by simp [LF]), if_pos hfu]
    rw [e]
    exact ⟨.full rfl rfl rfl, by simp; omega⟩

end Go.Proofs.Ytnfjhdedcnbdbaa
