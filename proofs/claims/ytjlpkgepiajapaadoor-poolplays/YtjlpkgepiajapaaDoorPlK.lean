/-
  Package pool: Slots.
-/
import Derived.Test.YtjlpkgepiajapaaDoorPlJ
import Derived.Test.YtjlpkgepiajapaaDoorMlK
import Derived.Shelf.SlIterI.Nil
import Derived.Shelf.SortM.Plain
import Derived.Shelf.SortM.SortNone
import Derived.Shelf.AbstractIn
import Derived.Ground.GgzProg
import Derived.Ground.SlgmProg
namespace Go.Proofs.YtjlpkgepiajapaaDoor
open Go.RowKit Go.Maps Go.Sort Go.Shelf
set_option linter.unusedVariables false
set_option linter.unusedSimpArgs false

shelf_lay_g SlLaysZI.n7 Ggz 7 at Tryd 35 as Tryd.keysP
shelf_lay_g SlLaysZI.n6 Ggz 6 at Tryd 34 as Tryd.sortedP
shelf_lay_g SlLaysM.n5 Slgm 5 at Tryd 41 as Tryd.sortP

theorem sortsP (m : Nat) : AnyZI.SortsIn Tryd.prog Tryd.sortedP_ren Fence.wide m :=
  ⟨fun blk off cap ss W hH hblk hsz => callsIn_wide.2 (AnyM.slices_Sort_int Tryd.sortP blk off cap ss W hH hblk hsz),
   fun p cap W => callsIn_wide.2 (AnyM.slices_Sort_int_none Tryd.sortP p cap W)⟩

/-- Whose slots: their numbers, ascending. -/
def slL (st : Sx) (n : Nat) (o : ByteArray) : List Int := (setL st n o).map (·.1)
theorem slL_len (st : Sx) (n : Nat) (o : ByteArray) : (slL st n o).length = (setL st n o).length := by simp [slL]
theorem slL_sorted (st : Sx) (n : Nat) (o : ByteArray) : (slL st n o).Pairwise (fun a b => decide (a ≤ b) = true) := by
  unfold slL setL
  rw [List.pairwise_map, List.pairwise_filterMap]
  refine List.Pairwise.imp ?_ (List.pairwise_lt_range (n := n))
  intro i j hij x hx y hy
  have hx1 : x.1 = (i : Int) := by
    cases e : st i with
    | none => rw [e] at hx; cases hx
    | some z =>
      rw [e] at hx
      simp only at hx
      split at hx
      · injection hx with hx; rw [← hx]
      · cases hx
  have hy1 : y.1 = (j : Int) := by
    cases e : st j with
    | none => rw [e] at hy; cases hy
    | some z =>
      rw [e] at hy
      simp only at hy
      split at hy
      · injection hy with hy; rw [← hy]
      · cases hy
  rw [hx1, hy1]
  simp only [decide_eq_true_eq]
  omega
theorem setL_len (st : Sx) (n : Nat) (o : ByteArray) : (setL st n o).length ≤ n := by
  have := List.length_filterMap_le (fun i => match st i with
    | some x => if x.1 = o then some ((i : Int), uV) else none
    | none => none) (List.range n)
  rw [List.length_range] at this
  exact this
theorem wf_nat (i : Nat) (h : i < 65536) : (Lit.int .i64 (i : Int)).wf = true := by
  have hm : IntKind.i64.min = -9223372036854775808 := by decide
  simp [Lit.wf, hm]
  omega
def SlotsPost (st : Sx) (n : Nat) (o : ByteArray) (w : World) (e : Ending) (w' : World) : Prop :=
  ∃ v, e = .returned v ∧ w'.ownsRow w.heap.size 3 1 v (slL st n o).length ((slL st n o).map encZ) ∧ (v = .slice none 0 0 ↔ slL st n o = []) ∧ Below w.heap.size w w'
set_option maxHeartbeats 2000000 in
theorem slots_none (o : ByteArray) (p n g tb ob : Nat) (ow : ByteArray → Option Nat) (st : Sx) (w : World) (h : Pl w p n g tb ob ow st) (ho : ow o = none) : Calls Tryd.prog 17 #[.pointer (some ⟨p, 0, none⟩), .string o] w fun e w' => SlotsPost st n o w e w' := by
  obtain ⟨c0, c1, c2, c3⟩ := h.cells
  have l1 := h.lookO o
  rw [ho] at l1
  have hsl : Hid (slL st n o = []) := hidden (by unfold slL; rw [h.non o ho]; rfl)
  clear h c0 c1 c2
  refine (callsIn_wide (n := 6)).1 ?_
  have hseq : SeqGives Fence.wide 2 Tryd.prog 42 #[.pointer (some ⟨w.heap.size, 0, none⟩)] encZ (fun ss : List Int => ss = []) 0 (w.alloc (.cells #[.map none] 77)) :=
    AnyZI.keys_gives_nil (ρ := Tryd.keysP_ren) { Tryd.keysP with } Fence.wide _ trivial rfl w.heap.size _ (by simp) (by simp)
  have cK : ∀ mb W, CallsIn Fence.wide 5 Tryd.prog 35 #[.map mb] W fun e w' => e = .returned (.func (.func 42) #[] #[.pointer (some ⟨W.heap.size, 0, none⟩)]) ∧ w' = W.alloc (.cells #[.map mb] 77) := fun mb W => AnyZI.keys_in Tryd.keysP Fence.wide 5 trivial rfl mb W
  have cS := AnyZI.sorted_in Tryd.sortedP Fence.wide 5 trivial trivial trivial trivial rfl (by omega) (sortsP _) (enters_of Tryd.func41 (by kernel_rfl) rfl) 42 #[.pointer (some ⟨w.heap.size, 0, none⟩)] trivial (enters_of Tryd.func42 (by kernel_rfl) rfl) _ 0 (Nat.zero_le _) (by omega) _ hseq
  change CallsIn _ _ Tryd.prog 34 _ _ _ at cS
  have hfK : Fence.wide.fn 35 := trivial
  have hfS : Fence.wide.fn 34 := trivial
  refine callsIn_of_wp Tryd.func17 rfl trivial ?_ rfl
  simp only [Tryd.ntmps17, List.size_toArray, List.length_cons, List.length_nil, Nat.reduceAdd, Nat.reduceSub, Array.replicate_succ, Array.replicate_zero, List.push_toArray, List.append_toArray, List.nil_append, List.cons_append]
  gi_wp2_with (first
    | (gi_at_call 35; refine (cK _ _).mono ?_; rintro e w' ⟨rfl, rfl⟩)
    | (gi_at_call 34; refine cS.mono ?_; rintro e w' ⟨v, ss, rfl, rfl, hrow, hnil, hb⟩))
  go_ret
  refine ⟨v, rfl, ?_, ?_, ((Below.refl _ w).alloc (Nat.le_refl _) _).trans (hb.mono (by simp))⟩
  · rw [hsl.out]
    have hm : ([] : List Int).mergeSort (fun x y => decide (x ≤ y)) = [] := by simp
    rw [hm] at hrow
    exact ownsRow_base_a hrow (by simp)
  · rw [hsl.out]; exact ⟨fun _ => rfl, fun _ => hnil.2 trivial⟩
set_option maxHeartbeats 2000000 in
theorem slots_some (o : ByteArray) (sb p n g tb ob : Nat) (ow : ByteArray → Option Nat) (st : Sx) (w : World) (h : Pl w p n g tb ob ow st) (ho : ow o = some sb) : Calls Tryd.prog 17 #[.pointer (some ⟨p, 0, none⟩), .string o] w fun e w' => SlotsPost st n o w e w' := by
  obtain ⟨c0, c1, c2, c3⟩ := h.cells
  have l1 := h.lookO o
  rw [ho] at l1
  have hn1 := h.n1.2
  have hln := setL_len st n o
  obtain ⟨D0, hown, hperm, hsz⟩ := (h.set o sb ho).1.owns (P := Tryd.prog) (k := 3) Tryd.underlying3 (by
    intro q hq
    obtain ⟨i, hi, _, hk, _⟩ := mem_setL.1 (show (q.1, q.2) ∈ _ from hq)
    rw [hk]
    exact wf_nat i (by omega)) (by simp [maxLen]; omega)
  have hperm' : Hid ((intKeys D0).Perm (slL st n o)) := hidden hperm
  have hmax : Maps.size D0 ≤ maxLen := by rw [hsz]; simp [maxLen]; omega
  have hbytes : Maps.size D0 * 8 ≤ 140737488355328 := by rw [hsz]; omega
  clear h c0 c1 c2 hperm hsz hln hn1
  refine (callsIn_wide (n := 6)).1 ?_
  have hbl := hown.lt
  have hseq : SeqGives Fence.wide 2 Tryd.prog 42 #[.pointer (some ⟨w.heap.size, 0, none⟩)] encZ (fun ss => ss.Perm (intKeys D0)) (Maps.size D0) (w.alloc (.cells #[.map (some sb)] 77)) :=
    AnyZI.keys_gives (ρ := Tryd.keysP_ren) { Tryd.keysP with } Fence.wide _ trivial rfl (by omega) w.heap.size sb _ D0 _ (by simp) (by simp) (by
      obtain ⟨es, clock, hb, Ft, hs, hD⟩ := hown
      exact ⟨es, clock, (Below.heap_alloc _ _ sb hbl).trans hb, Ft, hs, hD⟩)
  have cK : ∀ mb W, CallsIn Fence.wide 5 Tryd.prog 35 #[.map mb] W fun e w' => e = .returned (.func (.func 42) #[] #[.pointer (some ⟨W.heap.size, 0, none⟩)]) ∧ w' = W.alloc (.cells #[.map mb] 77) := fun mb W => AnyZI.keys_in Tryd.keysP Fence.wide 5 trivial rfl mb W
  have cS := AnyZI.sorted_in Tryd.sortedP Fence.wide 5 trivial trivial trivial trivial rfl (by omega) (sortsP _) (enters_of Tryd.func41 (by kernel_rfl) rfl) 42 #[.pointer (some ⟨w.heap.size, 0, none⟩)] trivial (enters_of Tryd.func42 (by kernel_rfl) rfl) _ _ hmax hbytes _ hseq
  change CallsIn _ _ Tryd.prog 34 _ _ _ at cS
  have hfK : Fence.wide.fn 35 := trivial
  have hfS : Fence.wide.fn 34 := trivial
  clear hown hbl hmax hbytes
  refine callsIn_of_wp Tryd.func17 rfl trivial ?_ rfl
  simp only [Tryd.ntmps17, List.size_toArray, List.length_cons, List.length_nil, Nat.reduceAdd, Nat.reduceSub, Array.replicate_succ, Array.replicate_zero, List.push_toArray, List.append_toArray, List.nil_append, List.cons_append]
  gi_wp2_with (first
    | (gi_at_call 35; refine (cK _ _).mono ?_; rintro e w' ⟨rfl, rfl⟩)
    | (gi_at_call 34; refine cS.mono ?_; rintro e w' ⟨v, ss, rfl, hS, hrow, hnil, hb⟩))
  go_ret
  have hp : ss.Perm (slL st n o) := hS.trans hperm'.out
  have hms : ss.mergeSort (fun x y => decide (x ≤ y)) = slL st n o := by
    have h1 := mergeSort_of_perm_i hp
    rw [show leI = (fun x y : Int => decide (x ≤ y)) from rfl] at h1
    rw [h1]
    exact List.mergeSort_of_pairwise (slL_sorted st n o)
  refine ⟨v, rfl, ?_, ?_, ((Below.refl _ w).alloc (Nat.le_refl _) _).trans (hb.mono (by simp))⟩
  · rw [hms, hp.length_eq] at hrow
    exact ownsRow_base_a hrow (by simp)
  · rw [hnil]
    constructor
    · intro e; subst e; exact List.nil_perm.1 hp
    · intro e; rw [e] at hp; exact List.perm_nil.1 hp
theorem slotsB (o : ByteArray) (base p n : Nat) (st : Sx) (w : World) (h : PB base w p n st) : Calls Tryd.prog 17 #[.pointer (some ⟨p, 0, none⟩), .string o] w fun e w' => SlotsPost st n o w e w' := by
  obtain ⟨h1, h2, g, tb, ob, ow, h3, h4⟩ := h
  cases ho : ow o with
  | none => exact slots_none o p n g tb ob ow st w h3 ho
  | some sb => exact slots_some o sb p n g tb ob ow st w h3 ho

end Go.Proofs.YtjlpkgepiajapaaDoor
