import Derived.Test.YtalmpmhnkilalaaGreatDoorWwI
/-
  Package wire: which fields a kind of request uses.
-/
namespace Go.Proofs.YtalmpmhnkilalaaGreatDoor
open Go.RowKit
set_option linter.unusedVariables false

/-- Ints in memory. -/
def In (w : World) (ad : Option Addr) (l : List Nat) : Prop := Es w ad 1 (l.map (fun (n : Nat) => [Value.int .i64 (n : Int)]))
theorem in_lit (w : World) (l : List Nat) (C : Array Value) (hC : C = (l.map (fun (n : Nat) => Value.int .i64 (n : Int))).toArray) (e : TypeId) : In (w.alloc (.cells C e)) (some ⟨w.heap.size, 0, none⟩) l := by
  subst hC
  intro _
  refine ⟨_, _, rfl, by simp, fun i x hx j v hv => ?_⟩
  rw [List.getElem?_map] at hx
  cases hn : l[i]? with
  | none => rw [hn] at hx; cases hx
  | some n =>
    rw [hn] at hx
    simp at hx
    subst hx
    obtain ⟨rfl, rfl⟩ : j = 0 ∧ v = Value.int .i64 (n : Int) := by
      cases j with
      | zero => simp at hv; exact ⟨rfl, hv.symm⟩
      | succ j => simp at hv
    have h := (Blk.new w e (l.map (fun (n : Nat) => Value.int .i64 (n : Int)))).cell i
    rw [List.getElem?_map, hn] at h
    simpa using h

/-- What a kind of request uses. -/
def fieldsK (k : Int) : Option (List Nat) :=
  if k = 1 then some [0, 1, 2] else if k = 2 then some [0, 1, 3, 4, 5] else if k = 3 then some [0, 1, 6] else if k = 4 ∨ k = 5 then some [0, 1, 3]
  else if k = 6 then some [0, 1, 3, 7] else if k = 7 ∨ k = 17 then some [0, 1] else if k = 16 then some [0, 1, 8, 9] else if k = 18 then some [0, 1, 11, 10, 3]
  else if k = 19 then some [0, 1, 11] else none

def fieldsQ (w : World) (k : Int) (e : Ending) (w' : World) : Prop :=
  Below w.heap.size w w' ∧ match fieldsK k with
    | some l => e = .returned (.tuple #[.slice (some ⟨w.heap.size, 0, none⟩) l.length l.length, .bool true]) ∧ In w' (some ⟨w.heap.size, 0, none⟩) l
    | none => e = .returned (.tuple #[.slice none 0 0, .bool false])

theorem fieldsOfP (k : Int) (w : World) (h0 : -9223372036854775808 ≤ k) (h1 : k ≤ 9223372036854775807) : Calls Tryz.prog 55 #[.int .i64 k] w (fieldsQ w k) := by
  by_cases k1 : k = 1
  · subst k1
    go_enter Tryz.func55, Tryz.ntmps55
    go_wp2_with fail
    go_ret2
    exact ⟨(Below.refl _ _).alloc (Nat.le_refl _) _, rfl, in_lit w [0, 1, 2] _ rfl _⟩
  by_cases k2 : k = 2
  · subst k2
    go_enter Tryz.func55, Tryz.ntmps55
    go_wp2_with fail
    go_ret2
    exact ⟨(Below.refl _ _).alloc (Nat.le_refl _) _, rfl, in_lit w [0, 1, 3, 4, 5] _ rfl _⟩
  by_cases k3 : k = 3
  · subst k3
    go_enter Tryz.func55, Tryz.ntmps55
    go_wp2_with fail
    go_ret2
    exact ⟨(Below.refl _ _).alloc (Nat.le_refl _) _, rfl, in_lit w [0, 1, 6] _ rfl _⟩
  by_cases k4 : k = 4
  · subst k4
    go_enter Tryz.func55, Tryz.ntmps55
    go_wp2_with fail
    go_ret2
    exact ⟨(Below.refl _ _).alloc (Nat.le_refl _) _, rfl, in_lit w [0, 1, 3] _ rfl _⟩
  by_cases k5 : k = 5
  · subst k5
    go_enter Tryz.func55, Tryz.ntmps55
    go_wp2_with fail
    go_ret2
    exact ⟨(Below.refl _ _).alloc (Nat.le_refl _) _, rfl, in_lit w [0, 1, 3] _ rfl _⟩
  by_cases k6 : k = 6
  · subst k6
    go_enter Tryz.func55, Tryz.ntmps55
    go_wp2_with fail
    go_ret2
    exact ⟨(Below.refl _ _).alloc (Nat.le_refl _) _, rfl, in_lit w [0, 1, 3, 7] _ rfl _⟩
  by_cases k7 : k = 7
  · subst k7
    go_enter Tryz.func55, Tryz.ntmps55
    go_wp2_with fail
    go_ret2
    exact ⟨(Below.refl _ _).alloc (Nat.le_refl _) _, rfl, in_lit w [0, 1] _ rfl _⟩
  by_cases k17 : k = 17
  · subst k17
    go_enter Tryz.func55, Tryz.ntmps55
    go_wp2_with fail
    go_ret2
    exact ⟨(Below.refl _ _).alloc (Nat.le_refl _) _, rfl, in_lit w [0, 1] _ rfl _⟩
  by_cases k16 : k = 16
  · subst k16
    go_enter Tryz.func55, Tryz.ntmps55
    go_wp2_with fail
    go_ret2
    exact ⟨(Below.refl _ _).alloc (Nat.le_refl _) _, rfl, in_lit w [0, 1, 8, 9] _ rfl _⟩
  by_cases k18 : k = 18
  · subst k18
    go_enter Tryz.func55, Tryz.ntmps55
    go_wp2_with fail
    go_ret2
    exact ⟨(Below.refl _ _).alloc (Nat.le_refl _) _, rfl, in_lit w [0, 1, 11, 10, 3] _ rfl _⟩
  by_cases k19 : k = 19
  · subst k19
    go_enter Tryz.func55, Tryz.ntmps55
    go_wp2_with fail
    go_ret2
    exact ⟨(Below.refl _ _).alloc (Nat.le_refl _) _, rfl, in_lit w [0, 1, 11] _ rfl _⟩
  have hk : fieldsK k = none := by
    unfold fieldsK
    rw [if_neg k1, if_neg k2, if_neg k3, if_neg (by omega), if_neg k6, if_neg (by omega), if_neg k16, if_neg k18, if_neg k19]
  go_enter Tryz.func55, Tryz.ntmps55
  go_wp2_with fail
  go_ret2
  refine ⟨Below.refl _ _, ?_⟩
  rw [hk]
  rfl

end Go.Proofs.YtalmpmhnkilalaaGreatDoor

/-
  Package wire: slices.Contains over ints.
-/
namespace Go.Proofs.YtalmpmhnkilalaaGreatDoor
open Go.RowKit
set_option linter.unusedVariables false

set_option maxHeartbeats 1000000 in
theorem indexP (ad : Option Addr) (N c : Nat) (l : List Nat) (y : Nat) (w : World) (hN : l.length = N) (hN9 : N ≤ 9223372036854775807) (hE : In w ad l) :
    Calls Tryz.prog 149 #[.slice ad N c, .int .i64 (y : Int)] w fun e w' => ∃ r : Int, e = .returned (.int .i64 r) ∧ (0 ≤ r ↔ y ∈ l) ∧ w' = w := by
  have HN := hidden hN
  have HE := hidden hE
  clear hN hE
  go_enter Tryz.func149, Tryz.ntmps149
  go_wp2_with fail
  go_loopw [4, 5, 8] (fun v4 v5 v8 wx => ∃ i : Nat, v8 = .int .i64 (i : Int) ∧ i ≤ N ∧ wx = w ∧ Hid (y ∉ l.take i)) (fun _ _ v8 _ => N - (intOf v8).toNat)
  case atStart => exact ⟨0, rfl, by omega, rfl, hidden (by simp)⟩
  case round =>
    obtain ⟨i, rfl, hi, rfl, hI⟩ := hrel
    by_cases hin : i < N
    · obtain ⟨x, hx⟩ : ∃ x, l[i]? = some x := ⟨l[i]'(by have := HN.out; omega), by simp⟩
      have hxm : (l.map (fun (n : Nat) => [Value.int .i64 (n : Int)]))[i]? = some [.int .i64 (x : Int)] := by rw [List.getElem?_map, hx]; rfl
      obtain ⟨bb, off, rfl, hbb, hcell⟩ := HE.out (by intro h0; rw [h0] at hxm; simp at hxm)
      have c0 := hcell i _ hxm 0 _ rfl
      rw [Nat.add_zero, Nat.mul_one] at c0
      have HX := hidden (And.intro (List.mem_of_getElem? hx) (show l.take (i + 1) = l.take i ++ [x] by rw [List.take_add_one, hx]; rfl))
      clear hcell hxm hx hbb
      by_cases hxy : y = x
      · subst hxy
        go_wp2_with fail
        go_ret
        exact ⟨(i : Int), rfl, ⟨fun _ => HX.out.1, fun _ => by omega⟩, rfl⟩
      · have hne : ¬ (y : Int) = (x : Int) := by omega
        go_wp2_with fail
        refine ⟨⟨i + 1, by first | rfl | simp, by omega, by first | trivial | rfl, hidden ?_⟩, ?_⟩
        · rw [HX.out.2]
          intro h
          rcases List.mem_append.1 h with h | h
          · exact hI.out h
          · simp at h
            exact hxy h
        · show N - ((i : Int) + 1).toNat < N - (i : Int).toNat
          omega
    · have hT := hidden (show y ∉ l by have h9 := hI.out; rwa [List.take_of_length_le (by have := HN.out; omega)] at h9)
      clear hI
      go_wp2_with fail
      go_ret
      exact ⟨-1, rfl, ⟨fun h => by omega, fun h => absurd h hT.out⟩, rfl⟩

theorem containsP (ad : Option Addr) (N c : Nat) (l : List Nat) (y : Nat) (w : World) (hN : l.length = N) (hN9 : N ≤ 9223372036854775807) (hE : In w ad l) :
    Calls Tryz.prog 87 #[.slice ad N c, .int .i64 (y : Int)] w fun e w' => e = .returned (.bool (decide (y ∈ l))) ∧ w' = w := by
  have HI := hidden (indexP ad N c l y w hN hN9 hE)
  clear hN hE
  go_enter Tryz.func87, Tryz.ntmps87
  go_wp2_with fail
  refine HI.out.mono ?_
  rintro e w1 ⟨r, rfl, hr, rfl⟩
  have HR := hidden hr
  clear hr
  go_wp2_with fail
  go_ret
  refine ⟨?_, rfl⟩
  show Ending.returned (.bool (decide (0 ≤ r))) = _
  rw [decide_eq_decide.2 HR.out]

end Go.Proofs.YtalmpmhnkilalaaGreatDoor
