/-
  Package quota: Put, Set.
-/
import Derived.Test.YthkmbodpboplfaaQuB
namespace Go.Proofs.Ythkmbodpboplfaa
open Go.RowKit
set_option linter.unusedVariables false
set_option linter.unusedSimpArgs false

/-- What Put answers, and leaves. -/
def putA (g : Gk) (s : ByteArray) (a : Ac) : Int × Gk :=
  if (limB a.ms && limB a.mx) = false then (152, g) else if ¬ bndA a = a then (1, g) else if (g s).isSome then (163, g) else (0, updA g s (some a))
theorem ok_of_put {a : Ac} (h1 : (limB a.ms && limB a.mx) = true) (h2 : bndA a = a) (hw : a.wi ≤ 9223372036854775807) : OkA a := by
  obtain ⟨m1, m2, m3, m4, m5⟩ := a
  simp [limB, bndA] at h1 h2 hw
  exact ⟨by simp; omega, by simp; omega, by simp; omega, by simp; omega, by simp; omega⟩
/-- What a call leaves of a book. -/
def BkP (w : World) (p b : Nat) (r : Int × Gk) (e : Ending) (w' : World) : Prop := e = .returned (.int .i64 r.1) ∧ Bk w' p b r.2 ∧ Chg (fun i => i = b) w w'
theorem updA_ok {g : Gk} {s : ByteArray} {a : Ac} (h : ∀ s a, g s = some a → OkA a) (ha : OkA a) : ∀ t c, updA g s (some a) t = some c → OkA c := by
  intro t c ht
  unfold updA at ht
  split at ht
  · cases ht; exact ha
  · exact h t c ht
theorem below3 {w : World} {A B C : Obj} : Below w.heap.size w (((w.alloc A).alloc B).alloc C) := (below_alloc.alloc (by simp) _).alloc (by simp; omega) _

theorem put_lim (s : ByteArray) (a : Ac) (p b : Nat) (g : Gk) (w : World) (h : Bk w p b g) (hl : (limB a.ms && limB a.mx) = false) : Calls Try.prog 14 #[.pointer (some ⟨p, 0, none⟩), .string s, aV a] w fun e w' => BkP w p b (152, g) e w' := by
  have HL := hidden (fun (n : Int) (w : World) => isLimitP n w)
  have H := hidden h
  clear h
  obtain ⟨m1, m2, m3, m4, m5⟩ := a
  unfold aV aL
  simp only at hl
  by_cases h1 : limB m1 = false
  · clear hl
    go_enter Try.func14, Try.ntmps14
    go_wp2_with (refine (HL.out _ _).mono ?_; rintro e w3 ⟨rfl, rfl⟩; rw [h1])
    go_ret
    exact ⟨rfl, H.out.later below_alloc, Chg.of_below below_alloc⟩
  · simp only [Bool.not_eq_false] at h1
    have h2 : limB m2 = false := by rw [h1] at hl; simpa using hl
    clear hl
    go_enter Try.func14, Try.ntmps14
    go_wp2_with (refine (HL.out _ _).mono ?_; rintro e w3 ⟨rfl, rfl⟩; first | rw [h1] | rw [h2])
    go_ret
    exact ⟨rfl, H.out.later below_alloc, Chg.of_below below_alloc⟩

set_option maxHeartbeats 2000000 in
theorem put_arg (s : ByteArray) (a : Ac) (p b : Nat) (g : Gk) (w : World) (h : Bk w p b g) (h1 : limB a.ms = true) (h2 : limB a.mx = true) (h3 : ¬ bndA a = a) : Calls Try.prog 14 #[.pointer (some ⟨p, 0, none⟩), .string s, aV a] w fun e w' => BkP w p b (1, g) e w' := by
  have HL := hidden (fun (n : Int) (w : World) => isLimitP n w)
  have HB := hidden (fun w => boundedE a w)
  have H := hidden h
  clear h
  obtain ⟨m1, m2, m3, m4, m5⟩ := a
  have hB : bndA ⟨m1, m2, m3, m4, m5⟩ = ⟨m1, m2, min (max m3 0) m1, min (max m4 0) m2, max m5 0⟩ := rfl
  rw [hB] at HB h3
  generalize min (max m3 0) m1 = n3 at *
  generalize min (max m4 0) m2 = n4 at *
  generalize max m5 0 = n5 at *
  unfold aV aL at HB ⊢
  simp only at h1 h2
  clear hB
  simp only [Ac.mk.injEq, true_and] at h3
  rcases (show (¬ m3 = n3) ∨ (m3 = n3 ∧ ¬ m4 = n4) ∨ (m3 = n3 ∧ m4 = n4 ∧ ¬ m5 = n5) by omega) with h4 | ⟨rfl, h4⟩ | ⟨rfl, rfl, h4⟩
  all_goals
    clear h3
    go_enter Try.func14, Try.ntmps14
    go_wp2_with (refine (HL.out _ _).mono ?_; rintro e w3 ⟨rfl, rfl⟩; first | rw [h1] | rw [h2])
    go_region_with (refine (HB.out _).mono ?_; rintro e w3 ⟨rfl, rfl⟩)
    all_goals
      go_wp2_with fail
      go_ret
      exact ⟨rfl, H.out.later (below_drewN below3 1), Chg.of_below (below_drewN below3 1)⟩

set_option maxHeartbeats 2000000 in
theorem put_known (s : ByteArray) (a : Ac) (p b : Nat) (g : Gk) (w : World) (h : Bk w p b g) (h1 : limB a.ms = true) (h2 : limB a.mx = true) (h3 : bndA a = a) (h4 : (g s).isSome = true) : Calls Try.prog 14 #[.pointer (some ⟨p, 0, none⟩), .string s, aV a] w fun e w' => BkP w p b (163, g) e w' := by
  have HL := hidden (fun (n : Int) (w : World) => isLimitP n w)
  have HB := hidden (fun w => boundedE a w)
  have HN := hidden (fun w => knownP (getA g s) w)
  rw [h.known s, h4] at HN
  rw [h3] at HB
  have hl := fun (w' : World) (hb : Below w.heap.size w w') => (h.later hb).look s
  have HQ := hidden hl
  have c0 := h.blk.cell 0
  simp only [List.getElem?_cons_zero] at c0
  have H := hidden h
  clear h hl h3 h4
  generalize getA g s = a1 at *
  obtain ⟨m1, m2, m3, m4, m5⟩ := a
  unfold aL at HB
  unfold aV at HB
  unfold aL at HB
  have e1 : aV ⟨m1, m2, m3, m4, m5⟩ = .agg #[.int .i64 m1, .int .i64 m2, .int .i64 m3, .int .i64 m4, .int .i64 m5] := rfl
  rw [e1]
  clear e1
  simp only at h1 h2
  go_enter Try.func14, Try.ntmps14
  go_wp2_with (refine (HL.out _ _).mono ?_; rintro e w3 ⟨rfl, rfl⟩; first | rw [h1] | rw [h2])
  go_region_with (refine (HB.out _).mono ?_; rintro e w3 ⟨rfl, rfl⟩)
  all_goals
    obtain ⟨w5, hw5⟩ : ∃ w5, (((w.alloc (Obj.cells #[.int .i64 m1, .int .i64 m2, .int .i64 m3, .int .i64 m4, .int .i64 m5] 32)).alloc (Obj.cells #[.int .i64 m1, .int .i64 m2, .int .i64 m3, .int .i64 m4, .int .i64 m5] 32)).alloc (Obj.cells #[.int .i64 m1, .int .i64 m2, .int .i64 m3, .int .i64 m4, .int .i64 m5] 32)).drew = w5 := ⟨_, rfl⟩
    rw [hw5]
    have b5 : Below w.heap.size w w5 := by rw [← hw5]; exact below_drewN below3 1
    have k5 : Blk w5 w.heap.size 32 (aL ⟨m1, m2, m3, m4, m5⟩) := by rw [← hw5]; exact ((Blk.new w 32 _).alloc _).alloc _
    clear hw5
    have H5 := hidden (H.out.later b5)
    have l5 := HQ.out w5 b5
    have d0 := H5.out.blk.cell 0
    simp only [List.getElem?_cons_zero] at d0
    go_wp2_with (refine (HN.out _).mono ?_; rintro e w6 ⟨rfl, b6⟩)
    go_ret
    exact ⟨rfl, H5.out.later b6, Chg.of_below (b5.trans (b6.mono b5.size))⟩

set_option maxHeartbeats 2000000 in
theorem put_new (s : ByteArray) (a : Ac) (p b : Nat) (g : Gk) (w : World) (h : Bk w p b g) (h1 : limB a.ms = true) (h2 : limB a.mx = true) (h3 : bndA a = a) (h4 : (g s).isSome = false) (hw : a.wi ≤ 9223372036854775807) : Calls Try.prog 14 #[.pointer (some ⟨p, 0, none⟩), .string s, aV a] w fun e w' => BkP w p b (0, updA g s (some a)) e w' := by
  have HL := hidden (fun (n : Int) (w : World) => isLimitP n w)
  have HB := hidden (fun w => boundedE a w)
  have HN := hidden (fun w => knownP (getA g s) w)
  rw [h.known s, h4] at HN
  rw [h3] at HB
  have hl := fun (w' : World) (hb : Below w.heap.size w w') => (h.later hb).look s
  have HQ := hidden hl
  have c0 := h.blk.cell 0
  simp only [List.getElem?_cons_zero] at c0
  have H := hidden h
  clear h hl h4
  generalize getA g s = a1 at *
  have HO := hidden (ok_of_put (by rw [h1, h2]; rfl) h3 hw)
  clear hw h3
  obtain ⟨m1, m2, m3, m4, m5⟩ := a
  unfold aL at HB
  unfold aV at HB
  unfold aL at HB
  have e1 : aV ⟨m1, m2, m3, m4, m5⟩ = .agg #[.int .i64 m1, .int .i64 m2, .int .i64 m3, .int .i64 m4, .int .i64 m5] := rfl
  rw [e1]
  clear e1
  simp only at h1 h2
  go_enter Try.func14, Try.ntmps14
  go_wp2_with (refine (HL.out _ _).mono ?_; rintro e w3 ⟨rfl, rfl⟩; first | rw [h1] | rw [h2])
  go_region_with (refine (HB.out _).mono ?_; rintro e w3 ⟨rfl, rfl⟩)
  all_goals
    obtain ⟨w5, hw5⟩ : ∃ w5, (((w.alloc (Obj.cells #[.int .i64 m1, .int .i64 m2, .int .i64 m3, .int .i64 m4, .int .i64 m5] 32)).alloc (Obj.cells #[.int .i64 m1, .int .i64 m2, .int .i64 m3, .int .i64 m4, .int .i64 m5] 32)).alloc (Obj.cells #[.int .i64 m1, .int .i64 m2, .int .i64 m3, .int .i64 m4, .int .i64 m5] 32)).drew = w5 := ⟨_, rfl⟩
    rw [hw5]
    have b5 : Below w.heap.size w w5 := by rw [← hw5]; exact below_drewN below3 1
    have k5 : Blk w5 w.heap.size 32 (aL ⟨m1, m2, m3, m4, m5⟩) := by rw [← hw5]; exact ((Blk.new w 32 _).alloc _).alloc _
    clear hw5
    have H5 := hidden (H.out.later b5)
    have l5 := HQ.out w5 b5
    have d0 := H5.out.blk.cell 0
    simp only [List.getElem?_cons_zero] at d0
    go_wp2_with (refine (HN.out _).mono ?_; rintro e w6 ⟨rfl, b6⟩)
    have H6 := hidden (H5.out.later b6)
    have k6 := k5.later b6
    have e0 := H6.out.blk.cell 0
    simp only [List.getElem?_cons_zero] at e0
    have f0 := k6.cell 0
    have f1 := k6.cell 1
    have f2 := k6.cell 2
    have f3 := k6.cell 3
    have f4 := k6.cell 4
    simp only [aL, List.getElem?_cons_zero, List.getElem?_cons_succ] at f0 f1 f2 f3 f4
    obtain ⟨w7, hst, m7, c7, z7⟩ := Mp.store (P := Try.prog) (w := w6.drew) H6.out.mp Try.underlying52 Try.underlying9 s (aV ⟨m1, m2, m3, m4, m5⟩)
    unfold aV aL at hst
    go_region
    all_goals
      go_wp2_with fail
      go_ret
      refine ⟨rfl, ⟨c7.blk H6.out.blk H6.out.ne, mp_upd (v := some _) m7, updA_ok H6.out.ok HO.out⟩, ?_⟩
      exact ((Chg.of_below (b5.trans (b6.mono b5.size))).trans (Chg.drew _ _) (fun i _ hi => hi)).trans c7 (fun i _ hi => hi)

theorem putP (s : ByteArray) (a : Ac) (p b : Nat) (g : Gk) (w : World) (h : Bk w p b g) (hw : a.wi ≤ 9223372036854775807) : Calls Try.prog 14 #[.pointer (some ⟨p, 0, none⟩), .string s, aV a] w fun e w' => BkP w p b (putA g s a) e w' := by
  unfold putA
  split
  · next h1 => exact put_lim s a p b g w h h1
  · next h1 =>
    simp only [Bool.not_eq_false, Bool.and_eq_true] at h1
    split
    · next h2 => exact put_arg s a p b g w h h1.1 h1.2 h2
    · next h2 =>
      simp only [Decidable.not_not] at h2
      split
      · next h3 => exact put_known s a p b g w h h1.1 h1.2 h2 h3
      · next h3 => exact put_new s a p b g w h h1.1 h1.2 h2 (by simpa using h3) hw

theorem built32 (x y : Int) : Try.prog.built 32 [(0, .int .i64 x), (1, .int .i64 y)] = some #[.int .i64 x, .int .i64 y, .int .i64 0, .int .i64 0, .int .i64 0] := by kernel_rfl
theorem setP (s : ByteArray) (x y : Int) (p b : Nat) (g : Gk) (w : World) (h : Bk w p b g) : Calls Try.prog 11 #[.pointer (some ⟨p, 0, none⟩), .string s, .int .i64 x, .int .i64 y] w fun e w' => BkP w p b (putA g s ⟨x, y, 0, 0, 0⟩) e w' := by
  have HP := hidden (putP s ⟨x, y, 0, 0, 0⟩ p b g w h (by simp))
  clear h
  obtain ⟨R, hR⟩ : ∃ R, putA g s ⟨x, y, 0, 0, 0⟩ = R := ⟨_, rfl⟩
  rw [hR] at HP ⊢
  clear hR
  unfold aV aL at HP
  go_enter Try.func11, Try.ntmps11
  go_wp2_with (refine HP.out.mono ?_; clear HP; rintro e w3 ⟨rfl, h3, c3⟩)
  go_ret
  exact ⟨rfl, h3, c3⟩

end Go.Proofs.Ythkmbodpboplfaa
