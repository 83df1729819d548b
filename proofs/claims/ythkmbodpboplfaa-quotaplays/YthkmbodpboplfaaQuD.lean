/-
  Package quota: Take.
-/
import Derived.Test.YthkmbodpboplfaaQuC
namespace Go.Proofs.Ythkmbodpboplfaa
open Go.RowKit
set_option linter.unusedVariables false
set_option linter.unusedSimpArgs false

theorem duringE (a : Ac) (n : Int) (w : World) : Calls Try.prog 26 #[aV a, .int .i64 n] w fun e w' => e = .returned (aV (durA a n)) ∧ w' = (w.alloc (.cells (aL (durA a n)).toArray 32)).alloc (.cells (aL (durA a n)).toArray 32) := by
  obtain ⟨m1, m2, m3, m4, m5⟩ := a
  by_cases h : m5 < n
  · have e1 : durA ⟨m1, m2, m3, m4, m5⟩ n = ⟨m1, m2, m3, 0, n⟩ := by simp [durA, h]
    rw [e1]
    unfold aV aL
    clear e1
    go_enter Try.func26, Try.ntmps26
    go_wp2_with fail
    refine bodyPost_ret (results_cell_row rfl _ _ (w.heap.size + 1) 32 _ (0, 0) _ rfl (heap_alloc2_new _ _ _) Try.underlying32 rfl (by kernel_rfl)) rfl ?_
    exact ⟨rfl, rfl⟩
  · have e1 : durA ⟨m1, m2, m3, m4, m5⟩ n = ⟨m1, m2, m3, m4, m5⟩ := by simp [durA, h]
    rw [e1]
    unfold aV aL
    clear e1
    go_enter Try.func26, Try.ntmps26
    go_wp2_with fail
    refine bodyPost_ret (results_cell_row rfl _ _ (w.heap.size + 1) 32 _ (0, 0) _ rfl (heap_alloc2_new _ _ _) Try.underlying32 rfl (by kernel_rfl)) rfl ?_
    exact ⟨rfl, rfl⟩
theorem roomE (a : Ac) (w : World) (x y : Int) (hx : a.ms - a.se = x) (hy : a.mx - a.wr = y) (hi : I64 x) (hj : I64 y) : Calls Try.prog 27 #[aV a] w fun e w' => e = .returned (.tuple #[.int .i64 x, .int .i64 y]) ∧ ∃ nq, w' = (w.alloc (.cells (aL a).toArray 32)).drewN nq := by
  obtain ⟨m1, m2, m3, m4, m5⟩ := a
  simp only at hx hy
  unfold aV aL
  unfold I64 at hi hj
  go_enter Try.func27, Try.ntmps27
  go_wp2_with fail
  go_quiet (fail)
  go_wp2_with fail
  go_ret2
  exact ⟨rfl, _, rfl⟩

/-- What Take answers, and leaves. -/
def takeA (g : Gk) (s : ByteArray) (n x y : Int) : Int × Gk :=
  if (g s).isSome = false then (171, g) else if x < 0 ∨ y < 0 then (1, g) else if (roomA (getA g s) n).1 < x then (150, g) else if (roomA (getA g s) n).2 < y then (151, g) else
    (0, updA g s (some ⟨(durA (getA g s) n).ms, (durA (getA g s) n).mx, (durA (getA g s) n).se + x, (durA (getA g s) n).wr + y, (durA (getA g s) n).wi⟩))
theorem ok_take {a : Ac} (h : OkA a) {n x y : Int} (hn : n ≤ 9223372036854775807) (h0 : ¬ (x < 0 ∨ y < 0)) (h1 : ¬ (roomA a n).1 < x) (h2 : ¬ (roomA a n).2 < y) :
    OkA ⟨(durA a n).ms, (durA a n).mx, (durA a n).se + x, (durA a n).wr + y, (durA a n).wi⟩ := by
  obtain ⟨k1, k2, k3, k4, k5⟩ := h
  unfold roomA durA at *
  split at h1 <;> rename_i hq
  · rw [if_pos hq] at *
    simp at *
    exact ⟨by simp; omega, by simp; omega, by simp; omega, by simp; omega, by simp; omega⟩
  · rw [if_neg hq] at *
    simp at *
    exact ⟨by simp; omega, by simp; omega, by simp; omega, by simp; omega, by simp; omega⟩

theorem take_none (s : ByteArray) (n x y : Int) (p b : Nat) (g : Gk) (w : World) (h : Bk w p b g) (h1 : (g s).isSome = false) : Calls Try.prog 13 #[.pointer (some ⟨p, 0, none⟩), .string s, .int .i64 n, .int .i64 x, .int .i64 y] w fun e w' => BkP w p b (171, g) e w' := by
  have HN := hidden (fun w => knownP (getA g s) w)
  rw [h.known s, h1] at HN
  have hl := h.look s
  have c0 := h.blk.cell 0
  simp only [List.getElem?_cons_zero] at c0
  have H := hidden h
  clear h h1
  generalize getA g s = a at *
  obtain ⟨m1, m2, m3, m4, m5⟩ := a
  unfold aV aL at *
  go_enter Try.func13, Try.ntmps13
  go_wp2_with (refine (HN.out _).mono ?_; clear HN; rintro e w3 ⟨rfl, b3⟩)
  go_ret
  have b4 : Below w.heap.size w w3 := below_alloc.trans (b3.mono (by simp))
  exact ⟨rfl, H.out.later b4, Chg.of_below b4⟩
theorem take_arg (s : ByteArray) (n x y : Int) (p b : Nat) (g : Gk) (w : World) (h : Bk w p b g) (h1 : (g s).isSome = true) (h2 : x < 0 ∨ y < 0) : Calls Try.prog 13 #[.pointer (some ⟨p, 0, none⟩), .string s, .int .i64 n, .int .i64 x, .int .i64 y] w fun e w' => BkP w p b (1, g) e w' := by
  have HN := hidden (fun w => knownP (getA g s) w)
  rw [h.known s, h1] at HN
  have hl := h.look s
  have c0 := h.blk.cell 0
  simp only [List.getElem?_cons_zero] at c0
  have H := hidden h
  clear h h1
  generalize getA g s = a at *
  obtain ⟨m1, m2, m3, m4, m5⟩ := a
  unfold aV aL at *
  rcases (show x < 0 ∨ (0 ≤ x ∧ y < 0) by omega) with h3 | ⟨h3, h4⟩
  all_goals
    clear h2
    go_enter Try.func13, Try.ntmps13
    go_wp2_with (refine (HN.out _).mono ?_; clear HN; rintro e w3 ⟨rfl, b3⟩)
    go_ret
    have b4 : Below w.heap.size w w3 := below_alloc.trans (b3.mono (by simp))
    exact ⟨rfl, H.out.later b4, Chg.of_below b4⟩

theorem below_more {w w' : World} (h : Below w.heap.size w w') (o : Obj) : Below w.heap.size w (w'.alloc o) := h.alloc h.size o
set_option maxHeartbeats 1000000 in
theorem take_walk (s : ByteArray) (n x y : Int) (p b : Nat) (g : Gk) (w : World) (a a2 : Ac) (r1 r2 : Int) (h : Bk w p b g)
    (hl : (Instr.lookup 52 (.map (some b)) (.string s) false).run Try.prog w = .ok (aV a) w)
    (HN : Hid (∀ w : World, Calls Try.prog 25 #[aV a] w fun e w' => e = .returned (.bool true) ∧ w' = w.alloc (.cells (aL a).toArray 32)))
    (HD : Hid (∀ w : World, Calls Try.prog 26 #[aV a, .int .i64 n] w fun e w' => e = .returned (aV a2) ∧ w' = (w.alloc (.cells (aL a2).toArray 32)).alloc (.cells (aL a2).toArray 32)))
    (HR : Hid (∀ w : World, Calls Try.prog 27 #[aV a2] w fun e w' => e = .returned (.tuple #[.int .i64 r1, .int .i64 r2]) ∧ ∃ nq, w' = (w.alloc (.cells (aL a2).toArray 32)).drewN nq))
    (h3 : 0 ≤ x) (h4 : 0 ≤ y) :
    (r1 < x → Calls Try.prog 13 #[.pointer (some ⟨p, 0, none⟩), .string s, .int .i64 n, .int .i64 x, .int .i64 y] w fun e w' => BkP w p b (150, g) e w') ∧
    (¬ r1 < x → r2 < y → Calls Try.prog 13 #[.pointer (some ⟨p, 0, none⟩), .string s, .int .i64 n, .int .i64 x, .int .i64 y] w fun e w' => BkP w p b (151, g) e w') ∧
    (¬ r1 < x → ¬ r2 < y → OkA ⟨a2.ms, a2.mx, a2.se + x, a2.wr + y, a2.wi⟩ → Calls Try.prog 13 #[.pointer (some ⟨p, 0, none⟩), .string s, .int .i64 n, .int .i64 x, .int .i64 y] w fun e w' => BkP w p b (0, updA g s (some ⟨a2.ms, a2.mx, a2.se + x, a2.wr + y, a2.wi⟩)) e w') := by
  have c0 := h.blk.cell 0
  simp only [List.getElem?_cons_zero] at c0
  have H := hidden h
  have hpl := h.blk.lt
  clear h
  obtain ⟨m1, m2, m3, m4, m5⟩ := a
  obtain ⟨n1, n2, n3, n4, n5⟩ := a2
  refine ⟨fun q1 => ?_, fun q1 q2 => ?_, fun q1 q2 ho => ?_⟩
  · unfold aV aL at *
    go_enter Try.func13, Try.ntmps13
    go_wp2_with (first | (refine (HN.out _).mono ?_; clear HN; rintro e w3 ⟨rfl, rfl⟩) | (refine (HD.out _).mono ?_; clear HD; rintro e w4 ⟨rfl, rfl⟩) | (refine (HR.out _).mono ?_; clear HR; rintro e w5 ⟨rfl, nq, rfl⟩))
    go_ret
    exact ⟨rfl, H.out.later (below_drewN (below_more (below_more (below_more (below_more below_alloc _) _) _) _) _), Chg.of_below (below_drewN (below_more (below_more (below_more (below_more below_alloc _) _) _) _) _)⟩
  · unfold aV aL at *
    go_enter Try.func13, Try.ntmps13
    go_wp2_with (first | (refine (HN.out _).mono ?_; clear HN; rintro e w3 ⟨rfl, rfl⟩) | (refine (HD.out _).mono ?_; clear HD; rintro e w4 ⟨rfl, rfl⟩) | (refine (HR.out _).mono ?_; clear HR; rintro e w5 ⟨rfl, nq, rfl⟩))
    go_ret
    exact ⟨rfl, H.out.later (below_drewN (below_more (below_more (below_more (below_more below_alloc _) _) _) _) _), Chg.of_below (below_drewN (below_more (below_more (below_more (below_more below_alloc _) _) _) _) _)⟩
  · have o1 := ho.se
    have o2 := ho.wr
    have o3 := ho.ms
    have o4 := ho.mx
    simp only at o1 o2 o3 o4
    have HO := hidden ho
    clear ho
    unfold aV aL at *
    go_enter Try.func13, Try.ntmps13
    go_wp2_with (first | (refine (HN.out _).mono ?_; clear HN; rintro e w3 ⟨rfl, rfl⟩) | (refine (HD.out _).mono ?_; clear HD; rintro e w4 ⟨rfl, rfl⟩) | (refine (HR.out _).mono ?_; clear HR; rintro e w5 ⟨rfl, nq, rfl⟩))
    obtain ⟨w9, hw9⟩ : ∃ w9, (((((((w.alloc (Obj.cells #[.int .i64 n1, .int .i64 n2, .int .i64 n3, .int .i64 n4, .int .i64 n5] 32)).alloc (Obj.cells #[.int .i64 m1, .int .i64 m2, .int .i64 m3, .int .i64 m4, .int .i64 m5] 32)).alloc (Obj.cells #[.int .i64 n1, .int .i64 n2, .int .i64 n3, .int .i64 n4, .int .i64 n5] 32)).alloc (Obj.cells #[.int .i64 n1, .int .i64 n2, .int .i64 n3, .int .i64 n4, .int .i64 n5] 32)).alloc (Obj.cells #[.int .i64 n1, .int .i64 n2, .int .i64 n3, .int .i64 n4, .int .i64 n5] 32)).drewN nq).setCell ⟨w.heap.size, 2, none⟩ (.int .i64 (n3 + x))).setCell ⟨w.heap.size, 3, none⟩ (.int .i64 (n4 + y)) = w9 := ⟨_, rfl⟩
    rw [hw9]
    have k9 : Blk w9 w.heap.size 32 [.int .i64 n1, .int .i64 n2, .int .i64 (n3 + x), .int .i64 (n4 + y), .int .i64 n5] := by
      rw [← hw9]
      exact (((((((Blk.new w 32 [.int .i64 n1, .int .i64 n2, .int .i64 n3, .int .i64 n4, .int .i64 n5]).alloc _).alloc _).alloc _).alloc _).drewN nq).set 2 _).set 3 _
    have b9 : Below w.heap.size w w9 := by
      rw [← hw9]
      exact ((below_drewN (below_more (below_more (below_more (below_more below_alloc _) _) _) _) nq).setCell (Nat.le_refl _) _).setCell (Nat.le_refl _) _
    clear hw9
    have H9 := hidden (H.out.later b9)
    have e0 := H9.out.blk.cell 0
    simp only [List.getElem?_cons_zero] at e0
    have f0 := k9.cell 0
    have f1 := k9.cell 1
    have f2 := k9.cell 2
    have f3 := k9.cell 3
    have f4 := k9.cell 4
    simp only [List.getElem?_cons_zero, List.getElem?_cons_succ] at f0 f1 f2 f3 f4
    obtain ⟨w7, hst, m7, c7, z7⟩ := Mp.store (P := Try.prog) (w := w9.drew) H9.out.mp Try.underlying52 Try.underlying9 s (aV ⟨n1, n2, n3 + x, n4 + y, n5⟩)
    unfold aV aL at hst
    clear h3 h4 o1 o2 o3 o4 q1 q2
    go_region
    all_goals
      go_wp2_with fail
      go_ret
      refine ⟨rfl, ⟨c7.blk H9.out.blk H9.out.ne, mp_upd (v := some _) m7, updA_ok H9.out.ok HO.out⟩, ?_⟩
      exact ((Chg.of_below b9).trans (Chg.drew _ _) (fun i _ hi => hi)).trans c7 (fun i _ hi => hi)

theorem takeP (s : ByteArray) (n x y : Int) (p b : Nat) (g : Gk) (w : World) (h : Bk w p b g) (hn : n ≤ 9223372036854775807) : Calls Try.prog 13 #[.pointer (some ⟨p, 0, none⟩), .string s, .int .i64 n, .int .i64 x, .int .i64 y] w fun e w' => BkP w p b (takeA g s n x y) e w' := by
  unfold takeA
  split
  · next h1 => exact take_none s n x y p b g w h h1
  · next h1 =>
    simp only [Bool.not_eq_false] at h1
    split
    · next h2 => exact take_arg s n x y p b g w h h1 h2
    · next h2 =>
      have hf := room_fits (h.has s) n
      have hk : (!decide (getA g s = aZ)) = true := by rw [h.known s, h1]
      have ha : OkA (getA g s) := by
        rcases h.has s with e | e
        · rw [e] at hk
          simp at hk
        · exact e
      have HW := take_walk s n x y p b g w (getA g s) (durA (getA g s) n) (roomA (getA g s) n).1 (roomA (getA g s) n).2 h (h.look s)
        (hidden (fun w => by have := knownE (getA g s) w; rw [hk] at this; exact this)) (hidden (fun w => duringE (getA g s) n w))
        (hidden (fun w => roomE (durA (getA g s) n) w _ _ rfl rfl (by unfold I64; omega) (by unfold I64; omega))) (by omega) (by omega)
      split
      · next h3 => exact HW.1 h3
      · next h3 =>
        split
        · next h4 => exact HW.2.1 h3 h4
        · next h4 => exact HW.2.2 h3 h4 (ok_take ha hn h2 h3 h4)

end Go.Proofs.Ythkmbodpboplfaa
