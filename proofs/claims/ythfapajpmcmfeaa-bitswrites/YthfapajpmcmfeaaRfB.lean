import Derived.Test.YthfapajpmcmfeaaGetR
namespace Go.Proofs.Ythfapajpmcmfeaa
open Go.RowKit
set_option linter.unusedVariables false

theorem nm_bit {V m : Nat} {f : Nat → Bool} (h : Nm V m f) : Nm (2 * V + (f m).toNat) (m + 1) f := by
  have hX : Nm (f m).toNat 1 (fun i => f (m + i)) := by
    intro j
    rcases Nat.eq_zero_or_pos j with rfl | hj
    · cases hb : f m <;> simp [hb]
    · have e : ¬ j < 1 := by omega
      have e2 : (f m).toNat.testBit j = false := Nat.testBit_lt_two_pow (Nat.lt_of_lt_of_le (show (f m).toNat < 2 ^ 1 by cases f m <;> decide) (Nat.pow_le_pow_right (by omega) hj))
      rw [e2]
      simp [e]
  have := nm_join h hX
  rw [nat_join 1 (V * 2 ^ 1) _ (by omega) (by cases f m <;> decide)] at this
  rw [show 2 * V = V * 2 ^ 1 by omega]
  exact this
theorem wrapS (x : Int) (h1 : -9223372036854775808 ≤ x) (h2 : x ≤ 9223372036854775807) : IntKind.i64.wrap x = x := by
  rw [IntKind.wrap_i64]
  omega
theorem SS.row {w : World} {q t : Nat} {L : List Bool} (h : SS w q L t) {g : Nat} {cs : Array Value} (hg : w.heap[g]? = some (.cells cs 4 (0, 0))) : g ≠ q := by
  obtain ⟨_, v, hB, _⟩ := h
  rintro rfl
  unfold Blk at hB
  rw [hB] at hg
  cases hg

set_option maxHeartbeats 2000000 in
theorem getR_any (q t : Nat) (L : List Bool) (n : Int) (w : World) (h : SS w q L t) (hl : L.length ≤ 70368744177664) (hn : 0 ≤ n) (hn2 : n ≤ 64) (hn3 : t + n.toNat ≤ L.length) :
    Calls Try.prog 14 #[.pointer (some ⟨q, 0, none⟩), .int .i64 n] w fun e w' => ∃ V : Nat, e = .returned (.tuple #[.int .u64 (V : Int), .bool true]) ∧ Nm V n.toNat (fun i => L.getD (t + i) false) ∧ SS w' q L (t + n.toNat) ∧ Chg (fun i => i = q) w w' := by
  obtain ⟨k, rfl⟩ : ∃ k : Nat, n = (k : Int) := ⟨n.toNat, by omega⟩
  rw [Int.toNat_natCast] at *
  have HH := hidden h
  obtain ⟨ht, v, hB, hO, hne⟩ := h
  obtain ⟨ad, c, rfl⟩ := owns_form hO
  obtain ⟨N', hN⟩ : ∃ N', L.length = N' := ⟨_, rfl⟩
  rw [hN] at hB hl ht hn3
  have hql := hB.lt
  have HC0 : Hid (∀ w1, Lat w w1 → w1.cell? ⟨q, 0, none⟩ = some (.slice ad N' c)) := fun w1 hL => by rw [hL.cell (p := ⟨q, 0, none⟩) hql]; exact hB.cell 0
  have HC1 : Hid (∀ w1, Lat w w1 → w1.cell? ⟨q, 1, none⟩ = some (.int .i64 (t : Int))) := fun w1 hL => by rw [hL.cell (p := ⟨q, 1, none⟩) hql]; exact hB.cell 1
  have HN := hidden hN
  have HB := hidden hB
  have HO := hidden hO
  clear hB hO hne hN hql
  have hk64 : k ≤ 64 := by omega
  clear hn hn2
  go_enter Try.func14, Try.ntmps14
  go_wp2_with fail
  refine getr_ok q N' c t (k : Int) ad _ _ _ (by rfl) (by rfl) (by rfl) HC0.out HC1.out (by omega) (by omega) (wrapS _ (by omega) (by omega)) (by omega) ?_
  intro v8 v9 v10 v11 v12 v13 v14 v15 v16 v17 v18 v19 v20 v21 v22 v23 v24 v25 v26 w1 hL
  have HL := hidden hL
  clear hL HC0 HC1
  simp only [Act.put, List.setIfInBounds_toArray, List.set_cons_succ, List.set_cons_zero]
  go_wp2_with fail
  go_loopw [6, 7] (fun vv iv wr => ∃ (i V : Nat), i ≤ k ∧ vv = .int .u64 (V : Int) ∧ iv = .int .i64 (i : Int) ∧ Nm V i (fun j => L.getD (t + j) false) ∧ Chg (fun _ => False) w wr) (fun _ iv _ => k - (intOf iv).toNat)
  case atStart => exact ⟨0, 0, Nat.zero_le _, rfl, rfl, Nm.zero _, Chg.of_below HL.out⟩
  case round =>
    rename World => wr
    obtain ⟨i, V, hik, rfl, rfl, hV, hC⟩ := hrel
    have hB := hC.blk HB.out (fun e => e)
    have HV := hidden hV
    have HC := hidden hC
    have c1 : wr.cell? ⟨q, 1, none⟩ = some (.int .i64 (t : Int)) := hB.cell 1
    have f1 := hB.frozen 1
    by_cases hlt : i < k
    · obtain ⟨g, rfl⟩ : ∃ g, ad = some ⟨g, 0, none⟩ := by
        rcases HO.out.2 with ⟨h0, h1⟩ | ⟨g, cap, cur, h0, _⟩
        · have := HN.out
          omega
        · simp only [Value.slice.injEq] at h0
          exact ⟨g, h0.1⟩
      have c0 : wr.cell? ⟨q, 0, none⟩ = some (.slice (some ⟨g, 0, none⟩) N' c) := hB.cell 0
      have hO := hC.owns HO.out (fun _ _ e => e)
      have cb : wr.cell? ⟨g, t + i, none⟩ = some (.bool (L.getD (t + i) false)) := by
        have hti : t + i < L.length := by rw [HN.out]; omega
        rw [hO.cellAt (t + i) (by omega)]
        simp [List.getD, hti]
      have hVn := nm_bit hV
      have hVb := hVn.lt
      have hV64 : 2 ^ (i + 1) ≤ 2 ^ 64 := Nat.pow_le_pow_right (by omega) (by omega)
      clear hB hV hC hO f1
      have hti : (t : Int) + (i : Int) = ((t + i : Nat) : Int) := by omega
      obtain ⟨m, hm⟩ : ∃ m, t + i = m := ⟨_, rfl⟩
      rw [hm] at cb hVb hVn hti
      have hmN : m < N' := by omega
      have hmul : 2 * (V : Int) < 18446744073709551616 := by
        have : 2 * V < 18446744073709551616 := by omega
        omega
      cases hb : L.getD m false with
      | false =>
        rw [hb] at cb hVn
        have HVN := hidden hVn
        clear hVn hVb hV64 hb hm
        go_wp2_with fail
        go_region
        have HC2 : Hid (Chg (fun _ => False) w wr.drew) := HC.out.trans (Chg.drew _ _) (fun _ _ h => h)
        generalize wr.drew = w2 at *
        clear c0 c1 cb
        go_wp2_with fail
        refine ⟨⟨i + 1, 2 * V, by omega, ?_, ?_, by simpa using HVN.out, HC2.out⟩, ?_⟩
        · congr 1
        · go_num
        · simp [intOf]
          omega
      | true =>
        rw [hb] at cb hVn hVb
        have hadd : 2 * (V : Int) + 1 < 18446744073709551616 := by
          have : 2 * V + 1 < 18446744073709551616 := by simp at hVb; omega
          omega
        have HVN := hidden hVn
        clear hVn hVb hV64 hb hm
        go_wp2_with fail
        go_region
        have HC2 : Hid (Chg (fun _ => False) w wr.drew) := HC.out.trans (Chg.drew _ _) (fun _ _ h => h)
        generalize wr.drew = w2 at *
        clear c0 c1 cb
        go_wp2_with fail
        refine ⟨⟨i + 1, 2 * V + 1, by omega, ?_, ?_, by simpa using HVN.out, HC2.out⟩, ?_⟩
        · congr 1
        · go_num
        · simp [intOf]
          omega
    · obtain rfl : i = k := by omega
      clear hB hV hC
      go_wp2_with fail
      go_ret2
      refine ⟨V, rfl, HV.out, ?_, (HC.out.mono (fun _ _ h => h.elim)).trans (Chg.set ⟨q, 1, none⟩ _ wr) (fun _ _ h => h)⟩
      rw [show (t : Int) + (i : Int) = ((t + i : Nat) : Int) by omega]
      exact (HH.out.same HC.out).step (by rw [HN.out]; exact hn3)

set_option maxHeartbeats 2000000 in
theorem getR_bad (q t : Nat) (L : List Bool) (n : Int) (w : World) (h : SS w q L t) (hl : L.length ≤ 70368744177664) (hn : n < 0 ∨ 64 < n ∨ (L.length : Int) - t < n) :
    Calls Try.prog 14 #[.pointer (some ⟨q, 0, none⟩), .int .i64 n] w fun e w' => e = .returned (.tuple #[.int .u64 0, .bool false]) ∧ SS w' q L t ∧ Chg (fun _ => False) w w' := by
  have HH := hidden h
  obtain ⟨ht, v, hB, hO, hne⟩ := h
  obtain ⟨ad, c, rfl⟩ := owns_form hO
  obtain ⟨N', hN⟩ : ∃ N', L.length = N' := ⟨_, rfl⟩
  rw [hN] at hB hl ht hn
  have hql := hB.lt
  have HC0 : Hid (∀ w1, Lat w w1 → w1.cell? ⟨q, 0, none⟩ = some (.slice ad N' c)) := fun w1 hL => by rw [hL.cell (p := ⟨q, 0, none⟩) hql]; exact hB.cell 0
  have HC1 : Hid (∀ w1, Lat w w1 → w1.cell? ⟨q, 1, none⟩ = some (.int .i64 (t : Int))) := fun w1 hL => by rw [hL.cell (p := ⟨q, 1, none⟩) hql]; exact hB.cell 1
  clear hB hO hne hN hql
  go_enter Try.func14, Try.ntmps14
  by_cases h1 : n < 0
  · go_wp2_with fail
    refine getr_neg q N' c t n ad _ _ _ (by rfl) (by rfl) (by rfl) h1 ?_
    intro v8 v9 v10 v11 v12 v13 v14 v15 v16 v17 v18 v19 v20 v21 v22 v23 v24 v25 v26 w1 hL
    have HL := hidden hL
    clear hL HC0 HC1
    simp only [Act.put, List.setIfInBounds_toArray, List.set_cons_succ, List.set_cons_zero]
    go_wp2_with fail
    go_ret2
    exact ⟨rfl, HH.out.same (Chg.of_below HL.out), Chg.of_below HL.out⟩
  · by_cases h2 : 64 < n
    · go_wp2_with fail
      refine getr_big q N' c t n ad _ _ _ (by rfl) (by rfl) (by rfl) (by omega) (by omega) ?_
      intro v8 v9 v10 v11 v12 v13 v14 v15 v16 v17 v18 v19 v20 v21 v22 v23 v24 v25 v26 w1 hL
      have HL := hidden hL
      clear hL HC0 HC1
      simp only [Act.put, List.setIfInBounds_toArray, List.set_cons_succ, List.set_cons_zero]
      go_wp2_with fail
      go_ret2
      exact ⟨rfl, HH.out.same (Chg.of_below HL.out), Chg.of_below HL.out⟩
    · go_wp2_with fail
      refine getr_few q N' c t n ad _ _ _ (by rfl) (by rfl) (by rfl) HC0.out HC1.out (by omega) (by omega) (wrapS _ (by omega) (by omega)) (by omega) ?_
      intro v8 v9 v10 v11 v12 v13 v14 v15 v16 v17 v18 v19 v20 v21 v22 v23 v24 v25 v26 w1 hL
      have HL := hidden hL
      clear hL HC0 HC1
      simp only [Act.put, List.setIfInBounds_toArray, List.set_cons_succ, List.set_cons_zero]
      go_wp2_with fail
      go_ret2
      exact ⟨rfl, HH.out.same (Chg.of_below HL.out), Chg.of_below HL.out⟩

end Go.Proofs.Ythfapajpmcmfeaa
