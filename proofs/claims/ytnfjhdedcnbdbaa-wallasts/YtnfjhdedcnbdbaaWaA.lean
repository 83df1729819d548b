/-
  The document's examples, by the program.
-/
import Derived.Test.YtnfjhdedcnbdbaaWlK
import Derived.Test.YtnfjhdedcnbdbaaWlH
import Derived.Test.YtnfjhdedcnbdbaaWsN
namespace Go.Proofs.Ytnfjhdedcnbdbaa
open Go.RowKit
set_option linter.unusedVariables false
set_option linter.unusedSimpArgs false

def hA : Hd := ⟨1, 1024, 4⟩
def hB : Hd := ⟨2, 1024, 4⟩
theorem okA : okH 1 1024 4 = true := by decide
theorem okB : hA.ok = true := by decide
theorem nextA : hA.next = hB := rfl
theorem lgA : Lgok hA [97, 98] [] := ⟨by decide, by decide, by rw [laid_nil_len]; decide, fun r hr => by cases hr⟩
theorem fresh_opens : (St.fresh 2).opens = (.error 61, St.fresh 2) := by
  apply opens_error
  rfl
theorem fresh_format : (St.fresh 2).format 1024 4 [97, 98] = (0, LS 0 0 hA [97, 98] []) := format_q (x := ⟨[], 0⟩) (y := ⟨[], 0⟩) rfl rfl rfl okA (by decide)
theorem open_A : (LS 0 0 hA [97, 98] []).opens = (.ok ⟨0, hA, [97, 98], [], (laid hA [97, 98] []).length⟩, LS 0 0 hA [97, 98] []) := opens_q (by decide) lgA
theorem bytes_A : (LS 0 0 hA [97, 98] []).bytes ⟨0, 0, hA⟩ = 35 := by rw [bytes_q (by decide), laid_nil_len]; rfl
theorem app_A : (LS 0 0 hA [97, 98] []).wappend ⟨0, 0, hA⟩ [120, 121, 122] = (0, LS 0 0 hA [97, 98] [[120, 121, 122]]) := wappend_q (by decide) (by decide) (by rw [laid_nil_len]; decide)
theorem len_B : (laid hA [97, 98] [[120, 121, 122]]).length = 47 := by
  have := laid_snoc_len hA [97, 98] [] [120, 121, 122]
  rw [laid_nil_len] at this
  exact this
theorem bytes_B : (LS 0 0 hA [97, 98] [[120, 121, 122]]).bytes ⟨0, 0, hA⟩ = 47 := by rw [bytes_q (by decide), len_B]; rfl
theorem fits_B (n : Int) : (LS 0 0 hA [97, 98] [[120, 121, 122]]).fits ⟨0, 0, hA⟩ n = decide (0 ≤ n ∧ n ≤ 4194304 ∧ 47 + (n + 9) ≤ 1024) := by unfold St.fits; rw [bytes_B]; rfl
theorem chk_B : (LS 0 0 hA [97, 98] [[120, 121, 122]]).wcheck ⟨0, 0, hA⟩ [113] = (0, LS 0 1 hB [113] [], ⟨0, 1, hB⟩) := by
  have := wcheck_q (falls := 0) (live := 0) (h := hA) (st := [97, 98]) (recs := [[120, 121, 122]]) (st' := [113]) (by decide) (by decide) (by decide)
  rw [nextA] at this
  exact this
theorem chk_C (s : List Int) (hs : s.length = 992) : (LS 0 1 hB [113] []).wcheck ⟨0, 1, hB⟩ s = (60, LS 0 1 hB [113] [], ⟨0, 1, hB⟩) := by
  unfold St.wcheck
  rw [if_neg (by simp [LS]), if_pos (by rw [hs]; decide)]
theorem bytes_C : (LS 0 1 hB [113] []).bytes ⟨0, 1, hB⟩ = 34 := by rw [bytes_q (by decide), laid_nil_len]; rfl
theorem size_C : (LS 0 1 hB [113] []).size 0 = 0 := size_at (f := 0) (x := ⟨[], 0⟩) rfl

/-- The state, as it is read. -/
theorem FdM.sl {B : Nat} {A : World} {x : El} {r : List El} {sv rv : Value} (h : FdM B A x r sv rv) (hb : Byte (x.2.2.drop 24)) : ∃ a n c, sv = .slice a n c ∧ n = (x.2.2.drop 24).length ∧ Sl A a n (x.2.2.drop 24) ∧ (a = none → n = 0 ∧ c = 0) := by
  obtain ⟨h1, _, _, ⟨g, n, c, off, hv, hn, h24, hoff, rfl⟩, _, _⟩ := h
  have ho := h1.2
  rw [hv, ← hn] at ho
  refine ⟨_, _, _, rfl, by rw [List.length_drop, hn], ⟨by rw [List.length_drop, hn], hb, fun j hj => ?_⟩, fun e => by cases e⟩
  refine ⟨_, rfl, ?_⟩
  have e := hoff (by omega)
  subst e
  have q := ho.cells rfl (24 + j) (.int .u8 ((x.2.2.drop 24).getD j 0)) (by
    simp only [cells8, List.getElem?_map]
    rw [List.getElem?_eq_getElem (by omega)]
    simp only [Option.map_some, List.getD, List.getElem?_drop]
    rw [List.getElem?_eq_getElem (by omega)]
    rfl)
  rw [Addr.add_lit] at q ⊢
  rw [Nat.zero_add] at q
  exact q
theorem FdM.chgF {B : Nat} {A A' : World} {x : El} {r : List El} {sv rv : Value} {F : Nat → Prop} (h : FdM B A x r sv rv) (hc : Chg F A A') (h1 : ∀ y ∈ x :: r, ∀ g, y.2.1.ownBlock = some g → ¬ F g) (h2 : ∀ g, rv.ownBlock = some g → ¬ F g) : FdM B A' x r sv rv := by
  obtain ⟨q1, q2, q3, q4, q5, q6⟩ := h
  exact ⟨q1.chg hc (h1 x (by simp)), fun y hy => (q2 y hy).chg hc (h1 y (by simp [hy])), q3, q4, q5, hc.owns q6 h2⟩

end Go.Proofs.Ytnfjhdedcnbdbaa
