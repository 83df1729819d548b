/-
  cutRest.
-/
import Derived.Test.YtnfjhdedcnbdbaaGreatWlG
namespace Go.Proofs.YtnfjhdedcnbdbaaGreat
open Go.RowKit
set_option linter.unusedVariables false
set_option linter.unusedSimpArgs false

theorem cutLive_ok {S : St} {live n : Nat} (h : (S.cutLive live n).1 = 0) : (S.cutLive live n).2.falls = S.falls := by
  unfold St.cutLive at h ⊢
  split at h <;> rename_i h1
  · rw [if_pos h1]
    exact truncate_ok h
  · rw [if_neg h1]

set_option maxRecDepth 100000 in
theorem cutRestP (p : Nat) (F : Nat → Prop) (S : St) (live n : Nat) (w : World) (h : Dk 64 79 w p F S) (hf : S.falls ≤ 1099511627776) (hl : live ≤ 1) (hn : n ≤ 16777216) :
    Calls Tryz.prog 38 #[.pointer (some ⟨p, 0, none⟩), .int .i64 (live : Int), .int .i64 (n : Int)] w fun e w' => e = .returned (.int .i64 (S.cutRest live n).1) ∧ Dks 64 79 w w' p F (S.cutRest live n).2 := by
  have H := hidden h
  have HF := hidden hf
  clear h hf
  have hq : Hid (S.cutRest live n = if (S.cutLive live n).1 ≠ 0 then S.cutLive live n else (S.cutLive live n).2.cutOther live) := rfl
  obtain ⟨q, hqq⟩ : ∃ q, S.cutRest live n = q := ⟨_, rfl⟩
  rw [hqq] at hq ⊢
  clear hqq
  have hk : Hid ((S.cutLive live n).1 = 0 → (S.cutLive live n).2.falls = S.falls) := cutLive_ok
  have hc : Hid (S.cutLive live n = if (n : Int) < S.size live then S.truncate live n else (0, S)) := rfl
  generalize S.cutLive live n = cl at *
  obtain ⟨ce, CS⟩ := cl
  dsimp only at hq hk
  have hw1 : IntKind.i64.wrap (1 - (live : Int)) = 1 - (live : Int) := wrapI _ (by omega) (by omega)
  -- the second half
  have HOT : Hid (CS.cutOther live = if 0 < CS.size (1 - live : Int) then CS.truncate (1 - live : Int) 0 else (0, CS)) := rfl
  have HSS := hidden (sizeP p F S w live H.out)
  obtain ⟨z, hz⟩ : ∃ z, S.size live = z := ⟨_, rfl⟩
  rw [hz] at hc HSS
  clear hz
  by_cases hgt : (n : Int) < z
  · rw [if_pos hgt] at hc
    by_cases he : ce = 0
    · subst he
      rw [if_neg (by simp)] at hq
      go_enter Tryz.func38, Tryz.ntmps38
      go_wp2_with fail
      refine HSS.out.mono ?_
      rintro e w1 ⟨rfl, rfl⟩
      go_wp2_with fail
      refine (truncateP p F S w1 live n H.out HF.out (by omega)).mono ?_
      rintro e w2 ⟨rfl, hD⟩
      rw [← hc.out] at hD ⊢
      have HD := hidden hD
      clear hD
      dsimp only
      go_wp2_with fail
      obtain ⟨F2, k1, k2, k3⟩ := HD.out
      have HK1 := hidden k1
      have HK2 := hidden k2
      have HK3 := hidden k3
      clear k1 k2 k3
      refine (sizeP p F2 CS w2 (1 - (live : Int)) HK1.out).mono ?_
      rintro e w3 ⟨rfl, rfl⟩
      obtain ⟨z2, hz2⟩ : ∃ z2, CS.size (1 - (live : Int)) = z2 := ⟨_, rfl⟩
      rw [hz2] at HOT ⊢
      clear hz2
      by_cases h0 : 0 < z2
      · rw [if_pos h0] at HOT
        go_wp2_with fail
        refine (truncateP p F2 CS w3 (1 - (live : Int)) 0 HK1.out (by rw [hk.out (by first | rfl | trivial)]; exact HF.out) (by omega)).mono ?_
        rintro e w4 ⟨rfl, hD4⟩
        have HD4 := hidden (Dks.trans HK2.out HK3.out hD4)
        clear hD4
        rw [← HOT.out, ← hq.out] at HD4 ⊢
        go_wp2_with fail
        go_ret
        exact ⟨rfl, HD4.out⟩
      · rw [if_neg h0] at HOT
        rw [HOT.out] at hq
        go_wp2_with fail
        go_ret
        rw [hq.out]
        exact ⟨rfl, HD.out⟩
    · rw [if_pos he] at hq
      go_enter Tryz.func38, Tryz.ntmps38
      go_wp2_with fail
      refine HSS.out.mono ?_
      rintro e w1 ⟨rfl, rfl⟩
      go_wp2_with fail
      refine (truncateP p F S w1 live n H.out HF.out (by omega)).mono ?_
      rintro e w2 ⟨rfl, hD⟩
      rw [← hc.out] at hD ⊢
      have HD := hidden hD
      clear hD
      dsimp only
      go_wp2_with fail
      go_ret
      rw [hq.out]
      exact ⟨rfl, HD.out⟩
  · rw [if_neg hgt] at hc
    have hc1 := hc.out
    simp only [Prod.mk.injEq] at hc1
    obtain ⟨rfl, rfl⟩ := hc1
    rw [if_neg (by simp)] at hq
    clear hc hk
    go_enter Tryz.func38, Tryz.ntmps38
    go_wp2_with fail
    refine HSS.out.mono ?_
    rintro e w1 ⟨rfl, rfl⟩
    go_wp2_with fail
    refine (sizeP p F CS w1 (1 - (live : Int)) H.out).mono ?_
    rintro e w3 ⟨rfl, rfl⟩
    obtain ⟨z2, hz2⟩ : ∃ z2, CS.size (1 - (live : Int)) = z2 := ⟨_, rfl⟩
    rw [hz2] at HOT ⊢
    clear hz2
    by_cases h0 : 0 < z2
    · rw [if_pos h0] at HOT
      go_wp2_with fail
      refine (truncateP p F CS w3 (1 - (live : Int)) 0 H.out HF.out (by omega)).mono ?_
      rintro e w4 ⟨rfl, hD4⟩
      have HD4 := hidden hD4
      clear hD4
      rw [← HOT.out, ← hq.out] at HD4 ⊢
      go_wp2_with fail
      go_ret
      exact ⟨rfl, HD4.out⟩
    · rw [if_neg h0] at HOT
      rw [HOT.out] at hq
      go_wp2_with fail
      go_ret
      rw [hq.out]
      exact ⟨rfl, Dks.same H.out⟩

end Go.Proofs.YtnfjhdedcnbdbaaGreat
