/-
  The frames with which bytes begin. Nothing of the program.
-/
import Derived.Test.YtiaopgphjailiaaFrM
namespace Go.Proofs.Ytiaopgphjailiaa
open Go.RowKit
set_option linter.unusedVariables false

def scanL : Nat → List Int → List (Int × List Int)
  | 0, _ => []
  | f + 1, l => if (gett l).2.2 = 0 then [] else ((gett l).1, (gett l).2.1) :: scanL f (l.drop (gett l).2.2)
def frames (l : List Int) : List (Int × List Int) := scanL l.length l
theorem gett_nil (l : List Int) (h : l.length = 0) : (gett l).2.2 = 0 := by rw [gett_short (by omega)]
theorem gett_pos {l : List Int} (h : (gett l).2.2 ≠ 0) : 9 ≤ (gett l).2.2 ∧ (gett l).2.2 ≤ l.length ∧ (gett l).2.2 = (gett l).2.1.length + 9 ∧ (gett l).2.1.length ≤ 4194304 := by
  rcases gett_n l with e | ⟨e, e2, e3⟩
  · exact absurd e h
  · omega
theorem scanL_fuel : ∀ (f g : Nat) (l : List Int), l.length ≤ f → l.length ≤ g → scanL f l = scanL g l
  | 0, 0, _, _, _ => rfl
  | 0, g + 1, l, hf, _ => by simp [scanL, gett_nil l (by omega)]
  | f + 1, 0, l, _, hg => by simp [scanL, gett_nil l (by omega)]
  | f + 1, g + 1, l, hf, hg => by
    unfold scanL
    by_cases h : (gett l).2.2 = 0
    · rw [if_pos h, if_pos h]
    · have := gett_pos h
      rw [if_neg h, if_neg h, scanL_fuel f g _ (by rw [List.length_drop]; omega) (by rw [List.length_drop]; omega)]
theorem frames_none {l : List Int} (h : (gett l).2.2 = 0) : frames l = [] := by
  unfold frames
  cases l.length with
  | zero => rfl
  | succ n => unfold scanL; rw [if_pos h]
theorem frames_some {l : List Int} (h : (gett l).2.2 ≠ 0) : frames l = ((gett l).1, (gett l).2.1) :: frames (l.drop (gett l).2.2) := by
  have hp := gett_pos h
  unfold frames
  obtain ⟨n, hn⟩ : ∃ n, l.length = n + 1 := ⟨l.length - 1, by omega⟩
  rw [hn]
  conv => lhs; unfold scanL
  rw [if_neg h, scanL_fuel n _ _ (by rw [List.length_drop]; omega) (Nat.le_refl _)]
/-- How many bytes frames have together. -/
def fsz : List (Int × List Int) → Nat
  | [] => 0
  | x :: r => x.2.length + 9 + fsz r
theorem fsz_append (a b : List (Int × List Int)) : fsz (a ++ b) = fsz a + fsz b := by
  induction a with
  | nil => simp [fsz]
  | cons x r ih => simp only [List.cons_append, fsz, ih]; omega
theorem frames_ind {p : List Int → Prop} (h : ∀ l, ((gett l).2.2 ≠ 0 → p (l.drop (gett l).2.2)) → p l) (l : List Int) : p l := by
  suffices ∀ n (l : List Int), l.length ≤ n → p l from this _ l (Nat.le_refl _)
  intro n
  induction n with
  | zero => exact fun l hl => h l (fun hh => absurd (gett_nil l (by omega)) hh)
  | succ n ih => exact fun l hl => h l (fun hh => ih _ (by have := gett_pos hh; rw [List.length_drop]; omega))
theorem fsz_le (l : List Int) : fsz (frames l) ≤ l.length := by
  induction l using frames_ind with
  | _ l ih =>
    by_cases h : (gett l).2.2 = 0
    · rw [frames_none h]; exact Nat.zero_le _
    · have hp := gett_pos h
      have := ih h
      rw [frames_some h]
      simp only [fsz]
      rw [List.length_drop] at this
      omega
/-- Behind some frames stand the others. -/
theorem frames_drop (l : List Int) : ∀ (pre rest : List (Int × List Int)), frames l = pre ++ rest → frames (l.drop (fsz pre)) = rest := by
  induction l using frames_ind with
  | _ l ih =>
    intro pre rest he
    cases pre with
    | nil => simpa [fsz] using he
    | cons x r =>
      by_cases h : (gett l).2.2 = 0
      · rw [frames_none h] at he; cases he
      · have hp := gett_pos h
        rw [frames_some h] at he
        injection he with h1 h2
        have := ih h r rest h2
        rw [List.drop_drop] at this
        rw [← this, ← h1]
        simp only [fsz]
        rw [hp.2.2.1]
theorem fsz_pre {l : List Int} {pre rest : List (Int × List Int)} (h : frames l = pre ++ rest) : fsz pre + fsz rest ≤ l.length := by
  have := fsz_le l
  rw [h, fsz_append] at this
  exact this
theorem fsz_len (fs : List (Int × List Int)) : 9 * fs.length ≤ fsz fs := by
  induction fs with
  | nil => exact Nat.le_refl _
  | cons x r ih => simp only [fsz, List.length_cons]; omega
theorem frames_byte {l : List Int} (hb : Byte l) : ∀ x ∈ frames l, Byte x.2 ∧ 0 ≤ x.1 ∧ x.1 ≤ 255 ∧ x.2.length ≤ 4194304 := by
  induction l using frames_ind with
  | _ l ih =>
    intro x hx
    by_cases h : (gett l).2.2 = 0
    · rw [frames_none h] at hx; cases hx
    · have hp := gett_pos h
      rw [frames_some h] at hx
      rcases List.mem_cons.1 hx with rfl | hx
      · exact ⟨gett_byte hb, (gett_k hb).1, (gett_k hb).2, hp.2.2.2⟩
      · exact ih h (hb.drop _) x hx

end Go.Proofs.Ytiaopgphjailiaa
