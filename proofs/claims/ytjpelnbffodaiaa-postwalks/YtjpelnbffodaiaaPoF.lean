/-
  Package post: And, Or, Not, Add, Take.
-/
import Derived.Test.YtjpelnbffodaiaaPoE
namespace Go.Proofs.Ytjpelnbffodaiaa
open Go.RowKit
set_option linter.unusedVariables false
set_option linter.unusedSimpArgs false

theorem wrd_joF {p q r : Bool} {a b : List Nat} (h1 : Wrd a) (h2 : Wrd b) : Wrd (joF p q r a b) := by
  by_cases h : Ris a ∧ Ris b
  · intro x hx
    rcases (joF_mem h.1 h.2 x).1 hx with e | e | e
    · exact h1 x e.2.1
    · exact h1 x e.2.1
    · exact h2 x e.2.2
  · rw [joF_not h]; exact Wrd.nil

theorem jF_len (p q r : Bool) : ∀ (n : Nat) (a b : List Nat), a.length + b.length ≤ n → (jF p q r a b).length ≤ a.length + b.length := by
  intro n
  induction n with
  | zero =>
    intro a b hn
    have : a = [] := List.eq_nil_of_length_eq_zero (by omega)
    have : b = [] := List.eq_nil_of_length_eq_zero (by omega)
    subst a; subst b
    cases r <;> simp [jF]
  | succ n ih =>
    intro a b hn
    cases a with
    | nil => cases r <;> simp [jF]
    | cons x s =>
      cases b with
      | nil => cases p <;> simp [jF]
      | cons y t =>
        simp only [List.length_cons] at hn
        rw [jF]
        split
        · have := ih s (y :: t) (by simp; omega)
          cases p <;> simp at this ⊢ <;> omega
        · split
          · have := ih (x :: s) t (by simp; omega)
            cases r <;> simp at this ⊢ <;> omega
          · have := ih s t (by omega)
            cases q <;> simp at this ⊢ <;> omega
theorem joF_len (p q r : Bool) (a b : List Nat) : (joF p q r a b).length ≤ a.length + b.length := by
  unfold joF
  split
  · exact jF_len p q r _ a b (Nat.le_refl _)
  · simp

/-- What came out is handed in. -/
theorem ar_owns {w : World} {base : Nat} {ad : Option Addr} {n c : Nat} {l : List Nat} (h : w.ownsRow base 23 1 (.slice ad n c) n (cells32 l)) (hb : Wrd l) : Ar w ad n c l := by
  obtain ⟨_, h1, h2, h3⟩ := owns_cap h
  exact ⟨sw_of_owns h hb, h3, h1, h2⟩
theorem ar_one (w : World) (x : Nat) (hx : x ≤ 4294967295) : Ar (w.alloc (.cells #[.int .u32 (x : Int)] 23)) (some ⟨w.heap.size, 0, none⟩) 1 1 [x] :=
  ⟨sw_lit w [x] (Wrd.one hx) 23 (0, 0) 1 rfl _ rfl _ rfl, fun e => absurd e (by simp), by omega, by unfold maxLen; omega⟩

theorem andP (w : World) (a1 a2 : Option Addr) (n1 c1 n2 c2 : Nat) (A B : List Nat) (h1 : Ar w a1 n1 c1 A) (h2 : Ar w a2 n2 c2 B) (hn1 : n1 ≤ 1000000) (hn2 : n2 ≤ 1000000) :
    Calls Try.prog 10 #[.slice a1 n1 c1, .slice a2 n2 c2] w fun e w' => OutW w e w' (andF A B) := by
  go_enter Try.func10, Try.ntmps10
  go_wp2_with fail
  refine (joinP w a1 a2 n1 c1 n2 c2 A B false true false h1 h2 hn1 hn2).mono ?_
  rintro e w' ⟨ad, c, rfl, ho, hb⟩
  go_wp2
  go_ret
  exact ⟨ad, c, rfl, ho, hb⟩
theorem orP (w : World) (a1 a2 : Option Addr) (n1 c1 n2 c2 : Nat) (A B : List Nat) (h1 : Ar w a1 n1 c1 A) (h2 : Ar w a2 n2 c2 B) (hn1 : n1 ≤ 1000000) (hn2 : n2 ≤ 1000000) :
    Calls Try.prog 11 #[.slice a1 n1 c1, .slice a2 n2 c2] w fun e w' => OutW w e w' (orF A B) := by
  go_enter Try.func11, Try.ntmps11
  go_wp2_with fail
  refine (joinP w a1 a2 n1 c1 n2 c2 A B true true true h1 h2 hn1 hn2).mono ?_
  rintro e w' ⟨ad, c, rfl, ho, hb⟩
  go_wp2
  go_ret
  exact ⟨ad, c, rfl, ho, hb⟩
theorem notP (w : World) (a1 a2 : Option Addr) (n1 c1 n2 c2 : Nat) (A B : List Nat) (h1 : Ar w a1 n1 c1 A) (h2 : Ar w a2 n2 c2 B) (hn1 : n1 ≤ 1000000) (hn2 : n2 ≤ 1000000) :
    Calls Try.prog 12 #[.slice a1 n1 c1, .slice a2 n2 c2] w fun e w' => OutW w e w' (notF A B) := by
  go_enter Try.func12, Try.ntmps12
  go_wp2_with fail
  refine (joinP w a1 a2 n1 c1 n2 c2 A B true false false h1 h2 hn1 hn2).mono ?_
  rintro e w' ⟨ad, c, rfl, ho, hb⟩
  go_wp2
  go_ret
  exact ⟨ad, c, rfl, ho, hb⟩

/-- A list and a yes or no. -/
def OutB (w : World) (e : Ending) (w' : World) (L : List Nat) (ok : Bool) : Prop :=
  ∃ ad c, e = .returned (.tuple #[.slice ad L.length c, .bool ok]) ∧ w'.ownsRow w.heap.size 23 1 (.slice ad L.length c) L.length (cells32 L) ∧ Below w.heap.size w w'

theorem addP (w : World) (a1 : Option Addr) (n1 c1 x : Nat) (A : List Nat) (h1 : Ar w a1 n1 c1 A) (hn1 : n1 ≤ 1000000) (hx : x ≤ 4294967295) :
    Calls Try.prog 13 #[.slice a1 n1 c1, .int .u32 (x : Int)] w fun e w' => OutB w e w' (addF A x) (decide (Ris A) && !hasF A x) := by
  have H1 := hidden h1
  clear h1
  go_enter Try.func13, Try.ntmps13
  go_wp2_with fail
  have hb0 : Below w.heap.size w (w.alloc (.cells #[.int .u32 (x : Int)] 23)) := (Below.refl _ _).alloc (Nat.le_refl _) _
  refine (orP _ a1 _ n1 c1 1 1 A [x] (H1.out.later hb0) (ar_one w x hx) hn1 (by omega)).mono ?_
  rintro e w1 ⟨ad, c, rfl, ho, hb1⟩
  have B1 := hidden (hb0.trans (hb1.mono hb0.size))
  have O1 := hidden (owns_base ho hb0.size)
  go_wp2_with fail
  refine (risesP _ a1 n1 c1 A (H1.out.later B1.out).sw (by omega)).mono ?_
  rintro e w2 ⟨rfl, hb2⟩
  have B2 := hidden (B1.out.trans (hb2.mono B1.out.size))
  have O2 := hidden (owns_later O1.out hb2)
  clear hb0 hb1 hb2 ho
  by_cases hr : Ris A
  · simp only [hr, decide_true]
    go_wp2_with fail
    refine (hasP _ a1 n1 c1 x A (H1.out.later B2.out).sw (by omega)).mono ?_
    rintro e w3 ⟨rfl, hb3⟩
    go_wp2
    go_ret2
    exact ⟨ad, c, by simp [addF, hr], owns_later O2.out hb3, B2.out.trans (hb3.mono B2.out.size)⟩
  · simp only [hr, decide_false]
    go_wp2
    go_ret2
    exact ⟨ad, c, by simp [addF, hr], O2.out, B2.out⟩

theorem takeP (w : World) (a1 : Option Addr) (n1 c1 x : Nat) (A : List Nat) (h1 : Ar w a1 n1 c1 A) (hn1 : n1 ≤ 1000000) (hx : x ≤ 4294967295) :
    Calls Try.prog 14 #[.slice a1 n1 c1, .int .u32 (x : Int)] w fun e w' => OutB w e w' (takF A x) (hasF A x) := by
  have H1 := hidden h1
  clear h1
  go_enter Try.func14, Try.ntmps14
  go_wp2_with fail
  have hb0 : Below w.heap.size w (w.alloc (.cells #[.int .u32 (x : Int)] 23)) := (Below.refl _ _).alloc (Nat.le_refl _) _
  refine (notP _ a1 _ n1 c1 1 1 A [x] (H1.out.later hb0) (ar_one w x hx) hn1 (by omega)).mono ?_
  rintro e w1 ⟨ad, c, rfl, ho, hb1⟩
  have B1 := hidden (hb0.trans (hb1.mono hb0.size))
  have O1 := hidden (owns_base ho hb0.size)
  clear hb0 hb1 ho
  go_wp2_with fail
  refine (hasP _ a1 n1 c1 x A (H1.out.later B1.out).sw (by omega)).mono ?_
  rintro e w3 ⟨rfl, hb3⟩
  go_wp2
  go_ret2
  exact ⟨ad, c, by simp [takF], owns_later O1.out hb3, B1.out.trans (hb3.mono B1.out.size)⟩

end Go.Proofs.Ytjpelnbffodaiaa
