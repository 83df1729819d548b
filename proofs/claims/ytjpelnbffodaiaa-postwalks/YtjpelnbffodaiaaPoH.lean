/-
  owned: a list's owner writes over it.
-/
import Derived.Test.YtjpelnbffodaiaaPoG
namespace Go.Proofs.Ytjpelnbffodaiaa
open Go.RowKit
set_option linter.unusedVariables false
set_option linter.unusedSimpArgs false

theorem own_fr {w : World} {base : Nat} {e : TypeId} {g n c i : Nat} {xs : List Value} (h : w.ownsRow base e 1 (.slice (some ⟨g, 0, none⟩) n c) n xs) : w.frozen? ⟨g, i, none⟩ = false := by
  rcases h.2 with ⟨h1, _⟩ | ⟨g', c', cur, hv, h2, h3, _⟩
  · simp at h1
  · simp only [Value.slice.injEq, Option.some.injEq, Addr.mk.injEq] at hv
    obtain ⟨⟨rfl, _⟩, _⟩ := hv
    exact frozen_of_row w g i _ e h3
theorem set32 (l : List Nat) (i x : Nat) : (cells32 l).set i (.int .u32 (x : Int)) = cells32 (l.set i x) := by
  unfold cells32
  rw [← List.map_set]
theorem wrd_set {l : List Nat} (h : Wrd l) (i : Nat) {x : Nat} (hx : x ≤ 4294967295) : Wrd (l.set i x) := fun n hn => by
  rcases List.mem_or_eq_of_mem_set hn with h1 | rfl
  · exact h n h1
  · exact hx

set_option maxRecDepth 100000 in
set_option maxHeartbeats 4000000 in
theorem ownedP (w : World) (B : Nat) (ad : Option Addr) (n c : Nat) (l : List Nat) (ho : w.ownsRow B 23 1 (.slice ad n c) n (cells32 l)) (hwd : Wrd l) (hB : B ≤ w.heap.size) (hn : n ≤ 1000000) :
    Calls Try.prog 23 #[.slice ad n c] w fun e w' => e = .returned (.tuple #[]) ∧ Below B w w' := by
  have HO := hidden ho
  have HWD := hidden hwd
  clear ho hwd
  go_enter Try.func23, Try.ntmps23
  go_wp2_with fail
  go_loopw [2] (fun s2 wr => ∃ (i : Nat) (l' : List Nat), s2 = .int .i64 (i : Int) ∧ i ≤ n ∧ Hid (wr.ownsRow B 23 1 (.slice ad n c) n (cells32 l')) ∧ Hid (Wrd l') ∧ Hid (Below B w wr)) (fun s2 _ => n - (intOf s2).toNat)
  case atStart => exact ⟨0, l, rfl, by omega, HO, HWD, hidden (Below.refl _ _)⟩
  case round =>
    rename World => wr
    obtain ⟨i, l', rfl, hi, hown, hwl, hbel⟩ := hrel
    by_cases hlt : i < n
    · have hltz : (i : Int) < (n : Int) := by omega
      obtain ⟨g, rfl, hg⟩ := owns_at hown.out (by omega)
      have hcl := hown.out.cellAt i (by omega)
      have hfr : wr.frozen? ⟨g, i, none⟩ = false := own_fr hown.out
      obtain ⟨x, hx⟩ : ∃ x, (cells32 l')[i]? = some x := by
        have := own_len hown.out
        exact ⟨_, List.getElem?_eq_getElem (by rw [cells32_length]; omega)⟩
      rw [hx] at hcl
      clear hx
      go_wp2
      have hs := (hown.out.stored i (.int .u32 7)).1
      have e7 : (Value.int IntKind.u32 7) = .int .u32 ((7 : Nat) : Int) := rfl
      rw [e7, set32] at hs
      refine ⟨⟨i + 1, l'.set i 7, by first | rfl | simp, by omega, hidden hs, hidden (wrd_set hwl.out i (by omega)), hidden (hbel.out.setCell hg _)⟩, ?_⟩
      simp [intOf]
      omega
    · have hltz : ¬ (i : Int) < (n : Int) := by omega
      go_wp2_with fail
      go_loopw [0, 3] (fun s0 s3 wq => ∃ (a' : Option Addr) (j c' : Nat) (m : List Nat), s0 = .slice a' (n + j) c' ∧ s3 = .int .i64 (j : Int) ∧ j ≤ 9 ∧ Hid (wq.ownsRow B 23 1 (.slice a' (n + j) c') (n + j) (cells32 m)) ∧ Hid (Below B w wq)) (fun _ s3 _ => 9 - (intOf s3).toNat)
      case atStart => exact ⟨ad, 0, c, l', rfl, rfl, by omega, hown, hbel⟩
      case round =>
        rename World => wq
        obtain ⟨a', j, c', m, rfl, rfl, hj, ho', hb'⟩ := hrel
        by_cases hj9 : j < 9
        · have hjz : (j : Int) < 9 := by omega
          go_wp2_with (refine wpList_pushW _ rfl (.tmp 17) (.tmp 18) rfl B (.slice a' (n + j) c') (n + j) m rfl wq ho'.out 7 7 rfl rfl rfl (by omega) (Nat.le_trans hB hb'.out.size) ?_; intro g8 c8 w8 o8 b8)
          refine ⟨⟨_, j + 1, c8, _, rfl, by first | rfl | simp, by omega, hidden o8, hidden (hb'.out.trans b8)⟩, ?_⟩
          simp [intOf]
          omega
        · have hjz : ¬ (j : Int) < 9 := by omega
          go_wp2
          go_end0
          exact ⟨rfl, hb'.out⟩

end Go.Proofs.Ytjpelnbffodaiaa
