import Derived.Test.YtfhhcpcedfgceaaPutsB
import Derived.Test.YtfhhcpcedfgceaaPutsC
namespace Go.Proofs.Ytfhhcpcedfgceaa
open Go.RowKit
set_option linter.unusedVariables false

/-- What the k-th list must be, and its length. -/
def WL (l s : List Int) (N F len2 : Nat) (k : Nat) : List Int := if k % 3 = 0 then l ++ enc N else if k % 3 = 1 then l ++ enc F else l ++ enc len2 ++ s
def WN (len N F len2 : Nat) (k : Nat) : Nat := if k % 3 = 0 then len + grp N + 1 else if k % 3 = 1 then len + grp F + 1 else len + grp len2 + 1 + len2

theorem R.three {w0 w w' : World} {B p M : Nat} {tch : Nat → Prop} {vl : Value} {ad : Nat → Option Addr} {nn cc : Nat → Nat} {L : Nat → List Int} (h : R w0 B p M tch w (.slice none 0 0) (.slice none 0 0) vl M ((List.range M).map (VV ad nn cc)) (.slice none 0 0) 0 [] (VV ad nn cc) nn L)
    {g c : Nat} {u1 u2 u3 : Value} {n1 n2 n3 : Nat} {L1 L2 L3 : List Int} (ho : w'.ownsRow B 22 1 (.slice (some ⟨g, 0, none⟩) (M + 3) c) (M + 3) ((List.range M).map (VV ad nn cc) ++ [u1, u2, u3])) (ht : Trip w.heap.size w' u1 u2 u3 n1 n2 n3 L1 L2 L3) (hg : w.grownBy w' vl.ownBlock) :
    ∃ (ad' : Nat → Option Addr) (nn' cc' : Nat → Nat) (L' : Nat → List Int), R w0 B p (M + 3) tch w' (.slice none 0 0) (.slice none 0 0) (.slice (some ⟨g, 0, none⟩) (M + 3) c) (M + 3) ((List.range (M + 3)).map (VV ad' nn' cc')) (.slice none 0 0) 0 [] (VV ad' nn' cc') nn' L' ∧
      (∀ k, k < M → nn' k = nn k ∧ L' k = L k) ∧ (nn' M = n1 ∧ L' M = L1) ∧ (nn' (M + 1) = n2 ∧ L' (M + 1) = L2) ∧ (nn' (M + 2) = n3 ∧ L' (M + 2) = L3) := by
  have h1 := h.step hg (fun x hx => ⟨(h.l.lt x hx).1, fun k hk e => owns_apart (h.row k hk) h.l (by decide) e hx⟩) ho (kept' h.mm hg (fun x hx => by simp [Value.ownBlock] at hx)) (fun k hk x hx => by simp [Value.ownBlock])
  have hBw := h.size
  have hold : ∀ k, k < M → ∀ x, (VV ad nn cc k).ownBlock = some x → x < w.heap.size := fun k hk x hx => ((h.row k hk).lt x hx).2
  obtain ⟨o1, o2, o3, a12, a13, a23⟩ := ht
  obtain ⟨p1, q1, rfl⟩ := owns_form o1
  obtain ⟨p2, q2, rfl⟩ := owns_form o2
  obtain ⟨p3, q3, rfl⟩ := owns_form o3
  have h2 := h1.add (owns_base o1 (Nat.zero_le _)) (fun x hx => ⟨by have := (o1.lt x hx).1; omega, by simp [Value.ownBlock], fun k hk e => by have := (o1.lt x hx).1; have := hold k hk x e; omega⟩)
  have h3 := h2.add (owns_base o2 (Nat.zero_le _)) (fun x hx => ⟨by have := (o2.lt x hx).1; omega, by simp [Value.ownBlock], fun k hk e => by
    by_cases hkM : k = M
    · simp only [hkM, if_true] at e
      exact a12 x e hx
    · simp only [hkM, if_false] at e
      have := (o2.lt x hx).1; have := hold k (by omega) x e; omega⟩)
  have h4 := h3.add (owns_base o3 (Nat.zero_le _)) (fun x hx => ⟨by have := (o3.lt x hx).1; omega, by simp [Value.ownBlock], fun k hk e => by
    by_cases hkM1 : k = M + 1
    · simp only [hkM1, if_true] at e
      exact a23 x e hx
    · simp only [hkM1, if_false] at e
      by_cases hkM : k = M
      · simp only [hkM, if_true] at e
        exact a13 x e hx
      · simp only [hkM, if_false] at e
        have := (o3.lt x hx).1; have := hold k (by omega) x e; omega⟩)
  have exs : (List.range M).map (VV ad nn cc) ++ [.slice p1 n1 q1, .slice p2 n2 q2, .slice p3 n3 q3] = (((List.range M).map (VV ad nn cc) ++ [Value.slice p1 n1 q1]) ++ [Value.slice p2 n2 q2]) ++ [Value.slice p3 n3 q3] := by simp
  have eD : (fun k => if k = M + 1 + 1 then Value.slice p3 n3 q3 else if k = M + 1 then Value.slice p2 n2 q2 else if k = M then Value.slice p1 n1 q1 else VV ad nn cc k)
      = VV (fun k => if k = M + 1 + 1 then p3 else if k = M + 1 then p2 else if k = M then p1 else ad k) (fun k => if k = M + 1 + 1 then n3 else if k = M + 1 then n2 else if k = M then n1 else nn k) (fun k => if k = M + 1 + 1 then q3 else if k = M + 1 then q2 else if k = M then q1 else cc k) := by
    funext k
    unfold VV
    by_cases e1 : k = M + 1 + 1
    · simp [e1]
    · by_cases e2 : k = M + 1
      · simp [e2]
      · by_cases e3 : k = M
        · simp [e3, show ¬ M = M + 1 + 1 by omega]
        · simp [e1, e2, e3]
  rw [eD, exs, range_add, range_add, range_add] at h4
  refine ⟨_, _, _, _, h4, fun k hk => ?_, ?_, ?_, ?_⟩
  · have e1 : ¬ k = M := by omega
    have e2 : ¬ k = M + 1 := by omega
    have e3 : ¬ k = M + 1 + 1 := by omega
    simp [e1, e2, e3]
  · simp [show ¬ M = M + 1 + 1 by omega]
  · simp
  · simp

end Go.Proofs.Ytfhhcpcedfgceaa
