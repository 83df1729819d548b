/-
  Digits. Nothing of the program.
-/
import Derived.Test.YtfieglepljmmkaaRowB
namespace Go.Proofs.Ytfieglepljmmkaa
set_option linter.unusedVariables false

/-- A digit's byte. -/
def dig (n : Nat) : Int := if n < 10 then (48 + n : Nat) else (87 + n : Nat)
/-- A digit's value, of any byte. -/
def dval (c : Int) : Nat := if 97 ≤ c then ((c - 87) % 16).toNat else ((c - 48) % 16).toNat
def isDig (c : Int) : Bool := decide (48 ≤ c ∧ c ≤ 57) || decide (97 ≤ c ∧ c ≤ 102)
def pairL (c : Int) : List Int := [dig (c.toNat / 16), dig (c.toNat % 16)]
def hexL (l : List Int) : List Int := l.flatMap pairL

theorem dig_byte (n : Nat) (h : n < 16) : 0 ≤ dig n ∧ dig n ≤ 255 := by
  unfold dig
  split <;> omega
theorem dval_lt (c : Int) : dval c < 16 := by
  unfold dval
  split <;> omega
theorem dval_dig (n : Nat) (h : n < 16) : dval (dig n) = n := by
  unfold dval dig
  split <;> split <;> omega
theorem dig_dval (c : Int) (h : isDig c = true) : dig (dval c) = c := by
  simp only [isDig, Bool.or_eq_true, decide_eq_true_eq] at h
  unfold dval dig
  split <;> split <;> omega
theorem isDig_dig (n : Nat) (h : n < 16) : isDig (dig n) = true := by
  simp only [isDig, Bool.or_eq_true, decide_eq_true_eq]
  unfold dig
  split <;> omega
theorem hexL_len (l : List Int) : (hexL l).length = 2 * l.length := by
  induction l with
  | nil => rfl
  | cons a r ih => simp [hexL, pairL] at ih ⊢; omega
theorem hexL_byte (l : List Int) (h : Byte l) : Byte (hexL l) := by
  intro n hn
  simp only [hexL, List.mem_flatMap] at hn
  obtain ⟨c, hc, hn⟩ := hn
  have hb := h c hc
  simp only [pairL, List.mem_cons, List.not_mem_nil, or_false] at hn
  rcases hn with rfl | rfl
  · exact dig_byte _ (by omega)
  · exact dig_byte _ (by omega)

/-- The bytes of digits: the pairs' values. -/
def unL : List Int → List Int
  | a :: b :: r => ((dval a * 16 + dval b : Nat) : Int) :: unL r
  | _ => []
def okL (s : List Int) : Bool := decide (s.length % 2 = 0) && s.all isDig
theorem unL_hexL : ∀ (l : List Int), Byte l → unL (hexL l) = l
  | [], _ => rfl
  | c :: r, h => by
    have hc := h c (by simp)
    have : hexL (c :: r) = dig (c.toNat / 16) :: dig (c.toNat % 16) :: hexL r := rfl
    rw [this, unL, dval_dig _ (by omega), dval_dig _ (by omega), unL_hexL r (fun x hx => h x (by simp [hx]))]
    congr 1
    omega
theorem okL_hexL (l : List Int) (h : Byte l) : okL (hexL l) = true := by
  simp only [okL, Bool.and_eq_true, decide_eq_true_eq, hexL_len]
  refine ⟨by omega, ?_⟩
  rw [List.all_eq_true]
  intro n hn
  simp only [hexL, List.mem_flatMap] at hn
  obtain ⟨c, hc, hn⟩ := hn
  have hb := h c hc
  simp only [pairL, List.mem_cons, List.not_mem_nil, or_false] at hn
  rcases hn with rfl | rfl
  · exact isDig_dig _ (by omega)
  · exact isDig_dig _ (by omega)
theorem unL_len : ∀ (s : List Int), (unL s).length = s.length / 2
  | [] => rfl
  | [a] => by simp [unL]
  | a :: b :: r => by
    simp [unL, unL_len r]
    omega
theorem unL_at : ∀ (s : List Int) (i : Nat), 2 * i + 1 < s.length → (unL s).getD i 0 = ((dval (s.getD (2 * i) 0) * 16 + dval (s.getD (2 * i + 1) 0) : Nat) : Int)
  | [], i, h => by simp at h
  | [a], i, h => by simp at h
  | a :: b :: r, 0, h => rfl
  | a :: b :: r, i + 1, h => by
    have := unL_at r i (by simp at h; omega)
    simp only [unL]
    rw [show 2 * (i + 1) = (2 * i) + 1 + 1 by omega, show (2 * i) + 1 + 1 + 1 = (2 * i + 1) + 1 + 1 by omega]
    simpa using this
theorem unL_byte : ∀ (s : List Int), Byte (unL s)
  | [] => fun n hn => by simp [unL] at hn
  | [a] => fun n hn => by simp [unL] at hn
  | a :: b :: r => by
    intro n hn
    simp only [unL, List.mem_cons] at hn
    rcases hn with rfl | hn
    · have := dval_lt a
      have := dval_lt b
      omega
    · exact unL_byte r n hn

end Go.Proofs.Ytfieglepljmmkaa
