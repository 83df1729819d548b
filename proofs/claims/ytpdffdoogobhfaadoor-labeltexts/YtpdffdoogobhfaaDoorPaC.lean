/-
  The program's reader: take, word, escaped.
-/
import Derived.Test.YtpdffdoogobhfaaDoorPaB
namespace Go.Proofs.YtpdffdoogobhfaaDoor
open Go.RowKit
set_option linter.unusedVariables false
set_option linter.unusedSimpArgs false

theorem sk_sk (S : List UInt8) (a : Nat) : sk S (sk S a) = sk S a := sk_stop (sk_next S a)

set_option maxRecDepth 100000 in
set_option maxHeartbeats 2000000 in
theorem takeP (r : Nat) (s : ByteArray) (a : Nat) (c : UInt8) (w : World) (h : Rd w r s a) (ha : a ≤ s.size) (hs : s.size ≤ 140737488355328) :
    Calls Tryd.prog 60 #[.pointer (some ⟨r, 0, none⟩), .int .u8 (c.toNat : Int)] w fun e w' => e = .returned (.bool (tk (bts s) a c)) ∧ Rd w' r s (tkAt (bts s) a c) ∧ Chg (fun i => i = r) w w' := by
  have hle : sk (bts s) a ≤ s.size := by rw [size_bts] at ha ⊢; exact sk_le ha
  have k : ∀ w1, Rd w1 r s a ∨ Rd w1 r s (sk (bts s) a) → Calls Tryd.prog 62 #[.pointer (some ⟨r, 0, none⟩)] w1 fun e w' => e = .returned (.bool (decide (sk (bts s) a = s.size))) ∧ Rd w' r s (sk (bts s) a) ∧ Chg (fun i => i = r) w1 w' := by
    intro w1 h1
    rcases h1 with h1 | h1
    · exact atEndP r s a w1 h1 ha hs
    · have := atEndP r s _ w1 h1 hle hs
      rw [sk_sk] at this; exact this
  obtain ⟨q, hq⟩ : ∃ q, tk (bts s) a c = q := ⟨_, rfl⟩
  unfold tkAt
  rw [hq]
  unfold tk at hq
  obtain ⟨b, hb⟩ : ∃ b, sk (bts s) a = b := ⟨_, rfl⟩
  rw [hb] at k hle hq ⊢
  have HH := hidden h
  clear hb h
  by_cases hend : b = s.size
  · rw [decide_eq_true hend] at k
    have hqf : q = false := by rw [← hq, List.getElem?_eq_none (by rw [← size_bts]; omega)]; rfl
    subst hqf
    clear hend hq
    go_enter Tryd.func60, Tryd.ntmps60
    go_wp2
    refine take_end r s a b (c.toNat : Int) w _ _ (by rfl) (by rfl) (by rfl) HH.out k ?_
    intro v5 v6 v7 v8 v9 v10 v11 v12 v13 v14 v15 v16 v17 v18 w1 hL hR
    simp only [Act.put, List.setIfInBounds_toArray, List.set_cons_succ, List.set_cons_zero]
    have H1 := hidden hR
    have HC := hidden hL.1
    clear hL hR k
    go_wp2
    go_ret
    exact ⟨rfl, H1.out, HC.out⟩
  · rw [decide_eq_false hend] at k
    have hblt : b < s.size := by omega
    obtain ⟨x, hx, hx2, _⟩ := byte_at s hblt
    have hqe : q = decide (x = c) := by rw [← hq, hx2]; simp
    have hne : (((x.toNat : Nat) : Int) != (c.toNat : Int)) = !q := by
      rw [hqe, bne, beq8 x c.toNat c.toNat_lt]; simp
    clear hq hqe
    go_enter Tryd.func60, Tryd.ntmps60
    go_wp2
    refine take_at r s a b (c.toNat : Int) (x.toNat : Int) (!q) w _ _ (by rfl) (by rfl) (by rfl) HH.out k hblt (by omega) (by rw [hx]) hne ?_
    intro v5 v6 v7 v8 v9 v10 v11 v12 v13 v14 v15 v16 v17 v18 w1 hL hR
    simp only [Act.put, List.setIfInBounds_toArray, List.set_cons_succ, List.set_cons_zero]
    have c1 : w1.cell? ⟨r, 1, none⟩ = some (.int .i64 (b : Int)) := hR.cell 1
    have f1 := hR.frozen 1
    have H1 := hidden hR
    have HC := hidden hL.1
    clear hL hR k hne
    cases q with
    | true =>
      go_wp2
      go_ret
      refine ⟨rfl, ?_, HC.out.trans (Chg.set ⟨r, 1, none⟩ _ _) (fun _ _ e => e)⟩
      have := H1.out.set (b + 1)
      simpa using this
    | false =>
      go_wp2
      go_ret
      exact ⟨rfl, H1.out, HC.out⟩

/-- The word that stands at a place. -/
def wordL (S : List UInt8) (a : Nat) : List UInt8 := (S.drop a).take (wsz true (S.drop a))
def wordAt (S : List UInt8) (a : Nat) : Nat := a + wsz true (S.drop a)
theorem wordAt_le {S : List UInt8} {a : Nat} (h : a ≤ S.length) : wordAt S a ≤ S.length := by
  have := wsz_le true (S.drop a); rw [List.length_drop] at this; unfold wordAt; omega
theorem bts_extract (s : ByteArray) (i j : Nat) : bts (s.extract i j) = ((bts s).drop i).take (j - i) := by
  simp [bts]

set_option maxRecDepth 100000 in
set_option maxHeartbeats 2000000 in
theorem wordP (r : Nat) (s : ByteArray) (a : Nat) (w : World) (h : Rd w r s a) (ha : a ≤ s.size) (hs : s.size ≤ 140737488355328) :
    Calls Tryd.prog 76 #[.pointer (some ⟨r, 0, none⟩)] w fun e w' => e = .returned (.string (oft (wordL (bts s) a))) ∧ Rd w' r s (wordAt (bts s) a) ∧ Chg (fun i => i = r) w w' := by
  have c0 : w.cell? ⟨r, 0, none⟩ = some (.string s) := h.cell 0
  have c1 : w.cell? ⟨r, 1, none⟩ = some (.int .i64 (a : Int)) := h.cell 1
  have f1 := h.frozen 1
  have hsz : (s.extract a s.size).size ≤ 9223372036854775807 := by rw [size_bts, bts_extract, List.length_take, List.length_drop, ← size_bts]; omega
  have hb0 : bts (s.extract a s.size) = (bts s).drop a := by rw [bts_extract, List.take_of_length_le (by rw [List.length_drop, ← size_bts]; exact Nat.le_refl _)]
  have k := fun w => wordSizeP (s.extract a s.size) w hsz
  rw [hb0] at k
  unfold wordL wordAt
  have hle := wsz_le true ((bts s).drop a)
  rw [List.length_drop, ← size_bts] at hle
  obtain ⟨n, hn⟩ : ∃ n, wsz true ((bts s).drop a) = n := ⟨_, rfl⟩
  rw [hn] at k hle ⊢
  have HH := hidden h
  clear hn h hb0 hsz
  have z1 : (a : Int) ≤ (s.size : Int) := by omega
  obtain ⟨m, hm⟩ : ∃ m, a + n = m := ⟨_, rfl⟩
  have hwr : IntKind.i64.wrap ((a : Int) + (n : Int)) = (m : Int) := by
    simp [IntKind.wrap, IntKind.bits, IntKind.signed]; omega
  have z2 : (a : Int) ≤ (m : Int) := by omega
  have hmle : m ≤ s.size := by omega
  have z3 : (m : Int) ≤ (s.size : Int) := by omega
  have z4 : a ≤ m := by omega
  rw [hm]
  have HM := hidden hm
  clear hm hle
  go_enter Tryd.func76, Tryd.ntmps76
  go_wp2
  go_region_with (refine (k _).mono ?_; rintro e w' ⟨rfl, rfl⟩)
  all_goals
    have hr2 : Rd (w.setCell ⟨r, 1, none⟩ (.int .i64 (m : Int))).drew r s m := (HH.out.set m).drewN 1
    have hch : Hid (Chg (fun i => i = r) w (w.setCell ⟨r, 1, none⟩ (.int .i64 (m : Int))).drew) := hidden ((Chg.set ⟨r, 1, none⟩ _ w).trans (Chg.drew (fun i => i = r) _) (fun _ _ e => e))
    obtain ⟨w2, hw2⟩ : ∃ w2, (w.setCell ⟨r, 1, none⟩ (.int .i64 (m : Int))).drew = w2 := ⟨_, rfl⟩
    rw [hw2] at hr2 hch ⊢
    have d0 : w2.cell? ⟨r, 0, none⟩ = some (.string s) := hr2.cell 0
    have d1 : w2.cell? ⟨r, 1, none⟩ = some (.int .i64 (m : Int)) := hr2.cell 1
    have H2 := hidden hr2
    clear hw2 hr2 c0 c1 f1 hwr
    go_wp2
    go_quiet (fail)
    go_wp2
    go_ret
    refine ⟨?_, H2.out.drewN _, hch.out.trans (Chg.drewN (fun i => i = r) w2 _) (fun _ _ e => e)⟩
    have e : s.extract a m = oft (((bts s).drop a).take n) := bts_inj (by rw [bts_oft, bts_extract]; congr 1; have := HM.out; omega)
    rw [← e]; rfl

end Go.Proofs.YtpdffdoogobhfaaDoor
