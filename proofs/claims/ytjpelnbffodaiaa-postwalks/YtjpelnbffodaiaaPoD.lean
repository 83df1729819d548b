/-
  Package post: Has; parts.holds.
-/
import Derived.Test.YtjpelnbffodaiaaPoC
namespace Go.Proofs.Ytjpelnbffodaiaa
open Go.RowKit
set_option linter.unusedVariables false
set_option linter.unusedSimpArgs false

theorem owns_base {w : World} {base base' : Nat} {e : TypeId} {x : Value} {n : Nat} {xs : List Value} (h : w.ownsRow base e 1 x n xs) (hb : base' ≤ base) : w.ownsRow base' e 1 x n xs := by
  refine ⟨h.1, ?_⟩
  rcases h.2 with h1 | ⟨g, c, cur, h1, h2, h3⟩
  · exact .inl h1
  · exact .inr ⟨g, c, cur, h1, Nat.le_trans hb h2, h3⟩

theorem mem_getD {l : List Nat} {x : Nat} : x ∈ l ↔ ∃ j, j < l.length ∧ l.getD j 0 = x := by
  constructor
  · intro h
    obtain ⟨j, hj, e⟩ := List.mem_iff_getElem.1 h
    exact ⟨j, hj, by simp [List.getD, hj, e]⟩
  · rintro ⟨j, hj, e⟩
    have : l[j] = x := by simpa [List.getD, hj] using e
    exact this ▸ List.getElem_mem hj

set_option maxRecDepth 100000 in
set_option maxHeartbeats 4000000 in
theorem indexP (w : World) (ad : Option Addr) (n c x : Nat) (l : List Nat) (hs : Sw w ad n l) (hn : n ≤ 1000000000) :
    Calls Try.prog 48 #[.slice ad n c, .int .u32 (x : Int)] w fun e w' => ∃ k : Int, e = .returned (.int .i64 k) ∧ ((0 ≤ k ∧ x ∈ l) ∨ (k = -1 ∧ x ∉ l)) ∧ w' = w := by
  have HS := hidden hs
  have hl := hs.len
  clear hs
  go_enter Try.func48, Try.ntmps48
  go_wp2_with fail
  go_loopw [8] (fun s8 wx => ∃ i : Nat, s8 = .int .i64 (i : Int) ∧ i ≤ n ∧ Hid (∀ j, j < i → l.getD j 0 ≠ x) ∧ wx = w) (fun s8 _ => n - (intOf s8).toNat)
  case atStart => exact ⟨0, rfl, by omega, hidden (fun j hj => by omega), rfl⟩
  case round =>
    rename World => wr
    obtain ⟨i, rfl, hi, hno, rfl⟩ := hrel
    by_cases hlt : i < n
    · have hltz : (i : Int) < (n : Int) := by omega
      obtain ⟨b, o, rfl, _, hc⟩ := HS.out.at (by omega)
      have k1 := hc i hlt
      obtain ⟨y, hy⟩ : ∃ y, l.getD i 0 = y := ⟨_, rfl⟩
      rw [hy] at k1
      have HY := hidden hy
      clear hc hy
      by_cases hxy : x = y
      · subst hxy
        go_wp2
        go_ret
        exact ⟨_, rfl, .inl ⟨by omega, mem_getD.2 ⟨i, by omega, HY.out⟩⟩, by simp⟩
      · have hz : ¬ (x : Int) = (y : Int) := by omega
        go_wp2
        refine ⟨⟨i + 1, by first | rfl | simp, by omega, hidden (fun j hj => ?_), by first | trivial | rfl⟩, ?_⟩
        · by_cases e : j = i
          · subst e; rw [HY.out]; exact fun e => hxy e.symm
          · exact hno.out j (by omega)
        · simp [intOf]
          omega
    · have hltz : ¬ (i : Int) < (n : Int) := by omega
      go_wp2
      go_ret
      refine ⟨_, rfl, .inr ⟨rfl, fun h => ?_⟩, rfl⟩
      obtain ⟨j, hj, e⟩ := mem_getD.1 h
      exact hno.out j (by omega) e

theorem containsP (w : World) (ad : Option Addr) (n c x : Nat) (l : List Nat) (hs : Sw w ad n l) (hn : n ≤ 1000000000) :
    Calls Try.prog 36 #[.slice ad n c, .int .u32 (x : Int)] w fun e w' => e = .returned (.bool (decide (x ∈ l))) ∧ w' = w := by
  go_enter Try.func36, Try.ntmps36
  go_wp2_with fail
  refine (indexP w ad n c x l hs hn).mono ?_
  rintro e w' ⟨k, rfl, h, rfl⟩
  rcases h with ⟨h1, h2⟩ | ⟨rfl, h2⟩
  · go_wp2
    go_ret
    simp [h1, h2]
  · go_wp2
    go_ret
    simp [h2]

theorem hasP (w : World) (ad : Option Addr) (n c x : Nat) (l : List Nat) (hs : Sw w ad n l) (hn : n ≤ 1000000000) :
    Calls Try.prog 21 #[.slice ad n c, .int .u32 (x : Int)] w fun e w' => e = .returned (.bool (hasF l x)) ∧ Below w.heap.size w w' := by
  have HS := hidden hs
  clear hs
  go_enter Try.func21, Try.ntmps21
  go_wp2_with fail
  refine (risesP w ad n c l HS.out hn).mono ?_
  rintro e w' ⟨rfl, hb⟩
  by_cases hr : Ris l
  · simp only [hr, decide_true]
    go_wp2_with fail
    refine (containsP w' ad n c x l (HS.out.later hb) hn).mono ?_
    rintro e w2 ⟨rfl, rfl⟩
    go_wp2
    go_ret
    exact ⟨by simp [hasF, hr], hb⟩
  · simp only [hr, decide_false]
    go_wp2
    go_ret
    exact ⟨by simp [hasF, hr], hb⟩

/-- The parts that are wanted. -/
def ptV (p q r : Bool) : Value := .agg #[.bool p, .bool q, .bool r]

set_option maxRecDepth 100000 in
theorem holdsP (w : World) (p q r : Bool) (o : Int) (x : Bool) (h : (o = -1 ∧ x = p) ∨ (o = 1 ∧ x = r) ∨ (o = 0 ∧ x = q)) :
    Calls Try.prog 46 #[ptV p q r, .int .i64 o] w fun e w' => e = .returned (.bool x) ∧ Below w.heap.size w w' := by
  unfold ptV
  rcases h with ⟨rfl, rfl⟩ | ⟨rfl, rfl⟩ | ⟨rfl, rfl⟩
  all_goals
    go_enter Try.func46, Try.ntmps46
    go_wp2
    go_ret
    exact ⟨by simp, (Below.refl _ _).alloc (Nat.le_refl _) _⟩

end Go.Proofs.Ytjpelnbffodaiaa
