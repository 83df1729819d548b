/-
  A log on a disk: what is told of it.
-/
import Derived.Test.YtnfjhdedcnbdbaaGreatWlM
namespace Go.Proofs.YtnfjhdedcnbdbaaGreat
open Go.RowKit
set_option linter.unusedVariables false
set_option linter.unusedSimpArgs false

theorem frames_made (k : Int) (d x : List Int) (h : d.length ≤ 4194304) : frames (made k d ++ x) = (k, d) :: frames x := by
  have hg := gett_made k d x h
  have h0 : (gett (made k d ++ x)).2.2 ≠ 0 := by rw [hg]; simp
  rw [frames_some h0, hg]
  simp only
  rw [List.drop_append_of_le_length (by rw [made_length]; omega), List.drop_of_length_le (by rw [made_length]; omega), List.nil_append]
theorem frames_cut (k : Int) (d : List Int) (h : d.length ≤ 4194304) (m : Nat) (hm : m < d.length + 9) : frames ((made k d).take m) = [] := by
  apply frames_none
  rw [gett_cut k d h m hm]
theorem frames_nil : frames [] = [] := frames_none (gett_nil [] rfl)
def recsB (recs : List (List Int)) : List Int := (recs.map (made 2)).flatten
theorem frames_recs (x : List Int) : ∀ (recs : List (List Int)), (∀ r ∈ recs, r.length ≤ 4194304) → frames (recsB recs ++ x) = recs.map (fun r => ((2 : Int), r)) ++ frames x
  | [], _ => by simp [recsB]
  | r :: l, h => by
    have ih := frames_recs x l (fun y hy => h y (by simp [hy]))
    have e : recsB (r :: l) = made 2 r ++ recsB l := by simp [recsB]
    rw [e, List.append_assoc, frames_made 2 r _ (h r (by simp)), ih]
    rfl
def laid (h : Hd) (st : List Int) (recs : List (List Int)) : List Int := made 1 (hdata h st) ++ recsB recs
theorem recsB_snoc (recs : List (List Int)) (r : List Int) : recsB (recs ++ [r]) = recsB recs ++ made 2 r := by simp [recsB]
theorem laid_snoc (h : Hd) (st : List Int) (recs : List (List Int)) (r : List Int) : laid h st (recs ++ [r]) = laid h st recs ++ made 2 r := by rw [laid, recsB_snoc, ← List.append_assoc]; rfl
theorem laid_nil (h : Hd) (st : List Int) : laid h st [] = made 1 (hdata h st) := by simp [laid, recsB]
theorem laid_nil_len (h : Hd) (st : List Int) : (laid h st []).length = st.length + 33 := by rw [laid_nil, made_length, hdata_length]; omega
theorem laid_snoc_len (h : Hd) (st : List Int) (recs : List (List Int)) (r : List Int) : (laid h st (recs ++ [r])).length = (laid h st recs).length + (r.length + 9) := by rw [laid_snoc, List.length_append, made_length]
/-- A log that may be. -/
structure Lgok (h : Hd) (st : List Int) (recs : List (List Int)) : Prop where
  ok : h.ok = true
  g : h.g < 9223372036854775808
  len : (laid h st recs).length ≤ h.cap
  rcs : ∀ r ∈ recs, r.length ≤ 4194304
theorem Lgok.st {h : Hd} {st : List Int} {recs : List (List Int)} (k : Lgok h st recs) : st.length + 33 ≤ 4194304 := by
  have h1 := k.len
  have h2 := (h.ok_iff.1 k.ok).2.2.1
  unfold laid at h1
  rw [List.length_append, made_length, hdata_length] at h1
  omega
theorem Lgok.frms {h : Hd} {st : List Int} {recs : List (List Int)} (k : Lgok h st recs) (x : List Int) : frames (laid h st recs ++ x) = (1, hdata h st) :: (recs.map (fun r => ((2 : Int), r)) ++ frames x) := by
  have h3 := k.st
  rw [laid, List.append_assoc, frames_made 1 _ _ (by rw [hdata_length]; omega), frames_recs x recs k.rcs]
theorem fsz_recs : ∀ recs : List (List Int), fsz (recs.map (fun r => ((2 : Int), r))) = (recsB recs).length
  | [] => rfl
  | r :: l => by
    have e : recsB (r :: l) = made 2 r ++ recsB l := by simp [recsB]
    rw [e, List.length_append, made_length, ← fsz_recs l]
    rfl
theorem Lgok.size {h : Hd} {st : List Int} {recs : List (List Int)} (k : Lgok h st recs) (x : List Int) (hx : frames x = []) : fsz (frames (laid h st recs ++ x)) = (laid h st recs).length := by
  rw [k.frms x, hx, List.append_nil, fsz, fsz_recs, laid, List.length_append, made_length]
theorem Lgok.hd {h : Hd} {st : List Int} {recs : List (List Int)} (k : Lgok h st recs) (x : List Int) : headAt (laid h st recs ++ x) = some (h, st) := by
  unfold headAt
  rw [k.frms x]
  exact headIn_data h st k.ok (by have := k.g; omega)
theorem Lgok.gd {h : Hd} {st : List Int} {recs : List (List Int)} (k : Lgok h st recs) (x : List Int) (hx : frames x = []) : good h (frames (laid h st recs ++ x)) = true := by
  have h1 := k.size x hx
  unfold good
  rw [h1]
  rw [k.frms x, hx]
  simp [k.g, k.len]
/-- What Open finds of a log with something torn behind it, where the other file is none, or an elder one. -/
theorem find_log {S : St} {live : Nat} {h : Hd} {st : List Int} {recs : List (List Int)} {x : List Int} (hon : S.on = true) (h2 : S.L.length = 2) (hl : live ≤ 1) (k : Lgok h st recs) (hf : S.file live = laid h st recs ++ x) (hx : frames x = [])
    (ho : headAt (S.file (1 - live)) = none ∨ ∃ b, headAt (S.file (1 - live)) = some b ∧ b.1.g < h.g) : S.find = .ok ⟨live, h, st, recs, (laid h st recs).length⟩ := by
  have hh : headAt (S.file live) = some (h, st) := by rw [hf]; exact k.hd x
  have hfin : finS S live (h, st) = .ok ⟨live, h, st, recs, (laid h st recs).length⟩ := by
    unfold finS
    rw [hf, if_pos (k.gd x hx), k.size x hx, k.frms x, hx]
    simp [Function.comp_def]
  unfold St.find
  rw [if_neg (by rw [hon]; simp), if_neg (by omega)]
  rcases (show live = 0 ∨ live = 1 by omega) with rfl | rfl
  · rw [hh]
    rcases ho with ho | ⟨b, ho, hg⟩
    · rw [show (1 - 0 : Nat) = 1 from rfl] at ho
      rw [ho]
      exact hfin
    · rw [show (1 - 0 : Nat) = 1 from rfl] at ho
      rw [ho]
      simp only
      rw [if_neg (by omega), if_neg (by omega)]
      exact hfin
  · rw [hh]
    rcases ho with ho | ⟨b, ho, hg⟩
    · rw [show (1 - 1 : Nat) = 0 from rfl] at ho
      rw [ho]
      exact hfin
    · rw [show (1 - 1 : Nat) = 0 from rfl] at ho
      rw [ho]
      simp only
      rw [if_neg (by omega), if_pos (by omega)]
      exact hfin
/-- Both files, by the live one. -/
def two (live : Nat) (a b : Fl) : List Fl := if live = 0 then [a, b] else [b, a]
theorem two_live {live : Nat} (hl : live ≤ 1) (a b : Fl) : (two live a b)[live]? = some a := by
  rcases (show live = 0 ∨ live = 1 by omega) with rfl | rfl <;> rfl
theorem two_other {live : Nat} (hl : live ≤ 1) (a b : Fl) : (two live a b)[1 - live]? = some b := by
  rcases (show live = 0 ∨ live = 1 by omega) with rfl | rfl <;> rfl
theorem two_set {live : Nat} (hl : live ≤ 1) (a b x : Fl) : (two live a b).set live x = two live x b := by
  rcases (show live = 0 ∨ live = 1 by omega) with rfl | rfl <;> rfl
theorem two_seto {live : Nat} (hl : live ≤ 1) (a b x : Fl) : (two live a b).set (1 - live) x = two live a x := by
  rcases (show live = 0 ∨ live = 1 by omega) with rfl | rfl <;> rfl
theorem two_len (live : Nat) (a b : Fl) : (two live a b).length = 2 := by unfold two; split <;> rfl
theorem two_turn {live : Nat} (hl : live ≤ 1) (a b : Fl) : two live a b = two (1 - live) b a := by
  rcases (show live = 0 ∨ live = 1 by omega) with rfl | rfl <;> rfl

end Go.Proofs.YtnfjhdedcnbdbaaGreat
