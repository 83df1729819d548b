import Derived.Test.YtgmdpbahcbhfjaaGreatDoorJPoB
import Derived.Test.YtgmdpbahcbhfjaaGreatDoorJRng
import Derived.RangeFuncNested
import Derived.RangeFuncBound
import Derived.Shelf.Abstract
import Derived.Shelf.RegionOpen
import Derived.OwnWalkIn
import Derived.TacticsInMore
import Derived.LoopNIn
import Derived.LoopIn
import Derived.Sort.BigQuietIn
set_option linter.unusedSimpArgs false
set_option linter.unusedVariables false
set_option maxHeartbeats 40000000
set_option maxRecDepth 100000
/-
  Package post: runs, as an iterator.
-/
namespace Go.Proofs.YtgmdpbahcbhfjaaGreatDoor.J
open Go Go.RowKit Go.Shelf
attribute [local go_sem] Oper.semAt_some
theorem wide_fn (f : FuncId) : Fence.wide.fn f = True := rfl
attribute [local go_sem] wide_fn

def encR (x : Nat × Nat) : Array Value := #[.int .u32 (x.1 : Int), .int .i64 (x.2 : Int)]
def TellR (l : List Nat) (pre : List (Nat × Nat)) (x : Nat × Nat) (w : World) : Prop := ∃ rest, runsF l = pre ++ x :: rest
def ReadR (bx : Nat) (ad : Option Addr) (n c : Nat) (l : List Nat) (w : World) : Prop := w.cell? ⟨bx, 0, none⟩ = some (.slice ad n c) ∧ Sw w ad n l

theorem Sw.cells' {w : World} {x : Addr} {len : Nat} {l : List Nat} (h : Sw w (some x) len l) : ∀ j, j < len → w.cell? (x.add j) = some (.int .u32 ((l.getD j 0 : Nat) : Int)) := by
  intro j hj
  obtain ⟨y, hy, hd⟩ := h.cell j hj
  obtain rfl := Option.some.inj hy
  exact hd

theorem runsP (w : World) (ad : Option Addr) (n c : Nat) :
    Calls Tryz.prog 105 #[.slice ad n c] w fun e w' => e = .returned (.func (.func 133) #[] #[.pointer (some ⟨w.heap.size, 0, none⟩)]) ∧ Blk w' w.heap.size 107 [.slice ad n c] ∧ Below w.heap.size w w' := by
  go_enter Tryz.func105, Tryz.ntmps105
  go_wp2_with fail
  go_ret
  exact ⟨rfl, heap_alloc_new w _, (Below.refl _ _).alloc (Nat.le_refl _) _⟩

theorem compare_ne {x y : Nat} (h : x ≠ y) (w : World) : ∃ z : Int, ((z : Int) == 0) = false ∧ ∀ w, Calls Tryz.prog 103 #[.int .u32 (x : Int), .int .u32 (y : Int)] w fun e w' => e = .returned (.int .i64 z) ∧ w' = w := by
  rcases Nat.lt_or_ge x y with h1 | h1
  · exact ⟨-1, rfl, fun w => compare_lt h1 w⟩
  · exact ⟨1, rfl, fun w => compare_gt (by omega) w⟩

set_option maxRecDepth 100000 in
set_option maxHeartbeats 8000000 in
theorem runs_seqs (bx : Nat) (ad : Option Addr) (n c : Nat) (l : List Nat) (w : World) (hn9 : n ≤ 1000000000) :
    Seqs Tryz.prog 133 #[.pointer (some ⟨bx, 0, none⟩)] encR (ReadR bx ad n c l) (TellR l) (fun xs => xs = runsF l) (fun pre => ∃ rest, runsF l = pre ++ rest) w := by
  intro m lp J Jx W hW hJ hJx hT hY h0
  have H0 := hT _ _ h0
  have c0 := H0.1
  have hlen := hidden H0.2.len
  have HY := hidden hY
  have HT := hidden hT
  have HJ := hidden hJ
  clear hY hT hJ hW H0
  have hdp : Fence.wide.depth.isSome = false := rfl
  refine callsIn_of_wp Tryz.func133 rfl trivial ?_ rfl
  simp only [Tryz.ntmps133, List.size_toArray, List.length_cons, List.length_nil, Nat.reduceAdd, Nat.reduceSub, Array.replicate_succ, Array.replicate_zero, List.push_toArray, List.append_toArray, List.nil_append, List.cons_append]
  gi_wp2
  gi_loopw [3, 7] (fun s3 s7 wr => ∃ (f i : Nat) (pre : List (Nat × Nat)), s3 = .int .i64 (f : Int) ∧ s7 = .int .i64 (i : Int) ∧ i ≤ n ∧ f ≤ i ∧ Hid (i < n → Alike l f i) ∧ Hid (i = n → f = n) ∧ Hid (runsF l = pre ++ runsF (l.drop f)) ∧ Hid (J pre wr))
    (fun _ s7 _ => n - (intOf s7).toNat)
  case atStart => exact ⟨0, 0, [], rfl, rfl, by omega, by omega, hidden (fun _ => alike_self l 0), hidden (fun h => h), hidden (by simp), hidden h0⟩
  case round =>
    obtain ⟨f, i, pre, rfl, rfl, hin, hfi, hA, hE, hR, hj⟩ := hrel
    have HT2 := HT.out _ _ hj.out
    have c1 := HT2.1
    have HS := hidden HT2.2
    clear HT2 c0
    by_cases hlt : i < n
    · have hltz : (i : Int) < (n : Int) := by omega
      obtain ⟨b, o, rfl, _, hc⟩ := HS.out.at (by omega)
      have k1 := hc i hlt
      obtain ⟨x, hx⟩ : ∃ x, l.getD i 0 = x := ⟨_, rfl⟩
      rw [hx] at k1
      have HX := hidden hx
      have hll := hlen.out
      by_cases hn1 : i + 1 < n
      · have hltn : (i : Int) + 1 < (n : Int) := by omega
        have k2 := hc (i + 1) hn1
        obtain ⟨y, hy⟩ : ∃ y, l.getD (i + 1) 0 = y := ⟨_, rfl⟩
        rw [hy] at k2
        have HY2 := hidden hy
        clear hc hy hx
        by_cases hxy : x = y
        · subst hxy
          have HC := hidden (compare_eq x)
          have hAn := hidden (alike_next (hA.out hlt) (HX.out.trans HY2.out.symm))
          gi_wp2
          gi_big_quiet_th (first | (refine CallsIn.quiet_of_same (callsIn_wide.2 (HC.out _))))
          gi_wp2
          refine ⟨⟨f, i + 1, pre, rfl, by first | rfl | simp, by omega, by omega, hidden (fun _ => hAn.out), hidden (fun h => by omega), hR, hidden (HJ.out _ _ _ hj.out (below_drewN (Below.refl wr.heap.size wr) nq))⟩, ?_⟩
          simp [intOf]
          omega
        · obtain ⟨z, hz, hC⟩ := compare_ne hxy wr
          have HC := hidden hC
          have HNE : i + 1 < l.length → l.getD i 0 ≠ l.getD (i + 1) 0 := fun _ => by rw [HX.out, HY2.out]; exact hxy
          clear hC hxy
          gi_wp2
          gi_big_quiet_th (first | (refine CallsIn.quiet_of_same (callsIn_wide.2 (HC.out _))))
          have HSTEP := hidden (runs_step hfi (by omega) (hA.out hlt) (HNE))
          have HR2 : Hid (runsF l = pre ++ (x, i + 1 - f) :: runsF (l.drop (i + 1))) := by
            show _ = _
            rw [hR.out, HSTEP.out, HX.out]
          have HJ2 := hidden (HJ.out _ _ _ hj.out (below_drewN (Below.refl wr.heap.size wr) nq))
          obtain ⟨w2, hw2⟩ : ∃ w2, wr.drewN nq = w2 := ⟨_, rfl⟩
          rw [hw2] at HJ2 ⊢
          have HT3 := HT.out _ _ HJ2.out
          have c1 := HT3.1
          have k1 : w2.cell? ⟨b, o + i, none⟩ = some (.int .u32 (x : Int)) := by
            have h := HT3.2.cells' i hlt
            rw [Addr.add_lit, HX.out] at h
            exact h
          have hsub : (i : Int) + 1 - (f : Int) = ((i + 1 - f : Nat) : Int) := by omega
          obtain ⟨fn, tmps, assign, body, hy, hRR⟩ := HY.out pre (x, i + 1 - f) w2 HJ2.out ⟨_, HR2.out⟩
          dsimp only [encR] at hy
          have HRR := hidden hRR
          clear hRR HT3 hw2 HJ2 HSTEP
          gi_wp2
          refine HRR.out.mono ?_
          rintro e w3 (⟨rfl, hj2⟩ | ⟨rfl, hjx⟩)
          · have HJ3 := hidden hj2
            clear hj2
            gi_wp2
            refine ⟨⟨i + 1, i + 1, pre ++ [(x, i + 1 - f)], rfl, by first | rfl | simp, by omega, by omega, hidden (fun _ => alike_self l _), hidden (fun h => h), hidden (by rw [HR2.out, List.append_assoc]; rfl), HJ3⟩, ?_⟩
            simp [intOf]
            omega
          · gi_wp2
            refine bodyPost_ret (results_none rfl _ _ _) rfl ?_
            exact ⟨⟨_, rfl⟩, .inr ⟨_, ⟨_, by rw [HR2.out, List.append_assoc]; rfl⟩, hjx⟩⟩
      · have hltn : ¬ (i : Int) + 1 < (n : Int) := by omega
        have hdec : decide ((i : Int) + 1 < (n : Int)) = false := by simp; omega
        have HNE : i + 1 < l.length → l.getD i 0 ≠ l.getD (i + 1) 0 := fun h => by omega
        clear hc hx
        gi_wp2
        gi_big_quiet_th (fail)
        have HSTEP := hidden (runs_step hfi (by omega) (hA.out hlt) (HNE))
        have HR2 : Hid (runsF l = pre ++ (x, i + 1 - f) :: runsF (l.drop (i + 1))) := by
          show _ = _
          rw [hR.out, HSTEP.out, HX.out]
        have HJ2 := hidden (HJ.out _ _ _ hj.out (below_drewN (Below.refl wr.heap.size wr) nq))
        obtain ⟨w2, hw2⟩ : ∃ w2, wr.drewN nq = w2 := ⟨_, rfl⟩
        rw [hw2] at HJ2 ⊢
        have HT3 := HT.out _ _ HJ2.out
        have c1 := HT3.1
        have k1 : w2.cell? ⟨b, o + i, none⟩ = some (.int .u32 (x : Int)) := by
          have h := HT3.2.cells' i hlt
          rw [Addr.add_lit, HX.out] at h
          exact h
        have hsub : (i : Int) + 1 - (f : Int) = ((i + 1 - f : Nat) : Int) := by omega
        obtain ⟨fn, tmps, assign, body, hy, hRR⟩ := HY.out pre (x, i + 1 - f) w2 HJ2.out ⟨_, HR2.out⟩
        dsimp only [encR] at hy
        have HRR := hidden hRR
        clear hRR HT3 hw2 HJ2 HSTEP
        gi_wp2
        refine HRR.out.mono ?_
        rintro e w3 (⟨rfl, hj2⟩ | ⟨rfl, hjx⟩)
        · have HJ3 := hidden hj2
          clear hj2
          gi_wp2
          refine ⟨⟨i + 1, i + 1, pre ++ [(x, i + 1 - f)], rfl, by first | rfl | simp, by omega, by omega, hidden (fun _ => alike_self l _), hidden (fun h => h), hidden (by rw [HR2.out, List.append_assoc]; rfl), HJ3⟩, ?_⟩
          simp [intOf]
          omega
        · gi_wp2
          refine bodyPost_ret (results_none rfl _ _ _) rfl ?_
          exact ⟨⟨_, rfl⟩, .inr ⟨_, ⟨_, by rw [HR2.out, List.append_assoc]; rfl⟩, hjx⟩⟩
    · have hltz : ¬ (i : Int) < (n : Int) := by omega
      obtain rfl : i = n := by omega
      have hf := hE.out rfl
      subst hf
      have HP : Hid (runsF l = pre) := by
        show _ = _
        rw [hR.out, List.drop_of_length_le (by have := hlen.out; omega)]
        simp [runsF]
      gi_wp2
      go_end0
      exact ⟨⟨_, rfl⟩, .inl (by rw [HP.out]; exact hj.out)⟩
end Go.Proofs.YtgmdpbahcbhfjaaGreatDoor.J
