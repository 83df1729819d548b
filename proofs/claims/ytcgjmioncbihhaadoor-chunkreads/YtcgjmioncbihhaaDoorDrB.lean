/-
  The document's own reader: signed, x.
-/
import Derived.Test.YtcgjmioncbihhaaDoorDrA
namespace Go.Proofs.YtcgjmioncbihhaaDoor
open Go.RowKit
set_option linter.unusedVariables false
set_option linter.unusedSimpArgs false

set_option maxRecDepth 100000 in
set_option maxHeartbeats 2000000 in
theorem signedD (v w : Nat) (w0 : World) (hv : v < 18446744073709551616) (hw : w = 0 ∨ w = 7 ∨ w = 9 ∨ w = 12 ∨ w = 64) :
    Calls Tryd.prog 46 #[.int .u64 (v : Int), .int .i64 (w : Int)] w0 fun e w' => e = .returned (.int .i64 (sg v w)) ∧ w' = w0 := by
  rcases hw with rfl | rfl | rfl | rfl | rfl
  all_goals
    go_enter Tryd.func46, Tryd.ntmps46
    go_wp2
    go_ret
    refine ⟨?_, by first | trivial | rfl⟩
  · exact congrArg (fun z => Ending.returned (.int .i64 z)) (by unfold sg; rw [w64, u64w]; simp)
  · exact congrArg (fun z => Ending.returned (.int .i64 z)) (by unfold sg; rw [w64, u64w]; simp)
  · exact congrArg (fun z => Ending.returned (.int .i64 z)) (by unfold sg; rw [w64, u64w]; simp)
  · exact congrArg (fun z => Ending.returned (.int .i64 z)) (by unfold sg; rw [w64, u64w]; simp)
  · exact congrArg (fun z => Ending.returned (.int .i64 z)) (by unfold sg; rw [w64]; simp; unfold wr; omega)

theorem rdX_inv {c0 c : List Bool} {x0 : Nat} (h : rdX (true :: c0) = some (x0, c)) : 12 ≤ c0.length ∧ fa c0 + fz c0 ≤ 64 ∧ fz c0 ≤ (fc c0).length ∧ fx c0 = x0 ∧ (fc c0).drop (fz c0) = c := by
  by_cases hle : fa c0 + fz c0 ≤ 64
  · obtain ⟨h1, h2, h3⟩ := ((rdX_yes false hle).2 rfl).2 _ _ h
    rw [Bool.or_eq_false_iff] at h3
    have hz : fz c0 ≤ (fc c0).length := by
      rcases Nat.lt_or_ge (fc c0).length (fz c0) with h5 | h5
      · have := h3.1
        unfold tkW at this
        rw [if_neg (by omega)] at this
        cases this
      · exact h5
    have h12 : 12 ≤ c0.length := by
      rcases Nat.lt_or_ge c0.length 12 with h5 | h5
      · have := h3.1
        rw [f_short (by omega), tkW_true] at this
        cases this
      · exact h5
    refine ⟨h12, hle, hz, h1, ?_⟩
    unfold tkB at h2
    rwa [if_pos hz] at h2
  · rw [rdX_no hle] at h; cases h

/-- What one of the document's reads leaves. -/
def XdP {α : Type} (rd : List Bool → Option (α × List Bool)) (w : World) (r c : Nat) (ad : Option Addr) (l : List Int) (B : List Bool) (bad : Bool) (x : α) (w' : World) : Prop :=
  (∃ B' bad', YS w' r ad c l B' bad' ∧ ∀ x0 cc, rd B = some (x0, cc) → x = x0 ∧ B' = cc ∧ bad' = bad) ∧ Chg (fun i => i = r) w w'

set_option maxRecDepth 100000 in
set_option maxHeartbeats 8000000 in
theorem xD (w : World) (r c : Nat) (ad : Option Addr) (l : List Int) (B : List Bool) (bad : Bool) (h : YS w r ad c l B bad) :
    Calls Tryd.prog 30 #[.pointer (some ⟨r, 0, none⟩)] w fun e w' => ∃ x : Nat, e = .returned (.int .u64 (x : Int)) ∧ x < 18446744073709551616 ∧ XdP rdX w r c ad l B bad x w' := by
  have HY := hidden h
  have G1 : Hid (∀ w1 B1 b1, YS w1 r ad c l B1 b1 → Calls Tryd.prog 28 #[.pointer (some ⟨r, 0, none⟩), .int .i64 1] w1 fun e w' => e = .returned (.int .u64 (tkV 1 B1 : Int)) ∧ (∃ B' bad', YS w' r ad c l B' bad' ∧ (1 ≤ B1.length → B' = B1.drop 1 ∧ bad' = b1) ∧ (¬ 1 ≤ B1.length → bad' = true)) ∧ Chg (fun i => i = r) w1 w') := hidden (fun w1 B1 b1 h1 => getD w1 r c 1 ad l B1 b1 h1 (by omega))
  have G6 : Hid (∀ w1 B1 b1, YS w1 r ad c l B1 b1 → Calls Tryd.prog 28 #[.pointer (some ⟨r, 0, none⟩), .int .i64 6] w1 fun e w' => e = .returned (.int .u64 (tkV 6 B1 : Int)) ∧ (∃ B' bad', YS w' r ad c l B' bad' ∧ (6 ≤ B1.length → B' = B1.drop 6 ∧ bad' = b1) ∧ (¬ 6 ≤ B1.length → bad' = true)) ∧ Chg (fun i => i = r) w1 w') := hidden (fun w1 B1 b1 h1 => getD w1 r c 6 ad l B1 b1 h1 (by omega))
  clear h
  go_enter Tryd.func30, Tryd.ntmps30
  go_wp2_with fail
  refine (G1.out w B bad HY.out).mono ?_
  rintro e w1 ⟨rfl, ⟨B1, b1, hY1, hk1, _⟩, hc1⟩
  have Y1 := hidden hY1
  have C1 := hidden hc1
  have K1 := hidden hk1
  clear hY1 hc1 hk1
  by_cases hb : tkV 1 B = 0
  · have HZ : Hid (∀ x0 cc, rdX B = some (x0, cc) → (0 : Nat) = x0 ∧ B1 = cc ∧ b1 = bad) := hidden (fun x0 cc hh => by
      rcases tk1 B with ⟨rfl, _⟩ | ⟨c, rfl, _⟩ | ⟨c, _, h2, _⟩
      · simp [rdX] at hh
      · simp only [rdX] at hh
        injection hh with hh
        injection hh with h5 h6
        obtain ⟨h7, h8⟩ := K1.out (by simp)
        exact ⟨h5, by rw [h7, ← h6]; rfl, h8⟩
      · rw [h2] at hb; exact absurd hb (by omega))
    rw [hb]
    go_wp2
    go_ret
    exact ⟨0, rfl, by omega, ⟨_, _, Y1.out, HZ.out⟩, C1.out⟩
  · obtain ⟨c0, rfl, h2⟩ : ∃ c0, B = true :: c0 ∧ tkV 1 B = 1 := by
      rcases tk1 B with ⟨_, h2, _⟩ | ⟨c, _, h2, _⟩ | ⟨c, h1, h2, _⟩
      · exact absurd h2 hb
      · exact absurd h2 hb
      · exact ⟨c, h1, h2⟩
    obtain ⟨e1, e2⟩ := K1.out (by simp)
    have e1' : B1 = c0 := by rw [e1]; rfl
    subst e1' e2
    rw [h2]
    clear hb h2 K1 e1
    go_wp2_with fail
    refine (G6.out w1 _ _ Y1.out).mono ?_
    rintro e w2 ⟨rfl, ⟨B2, b2, hY2, hk2, _⟩, hc2⟩
    have Y2 := hidden hY2
    have C2 := hidden (C1.out.trans hc2 (fun _ _ e => e))
    have K2 := hidden hk2
    clear hY2 hc2 hk2
    have ha6 := tkV_pow (n := 6) (B := B1)
    go_wp2_with fail
    refine (G6.out w2 _ _ Y2.out).mono ?_
    rintro e w3 ⟨rfl, ⟨B3, b3, hY3, hk3, _⟩, hc3⟩
    have Y3 := hidden hY3
    have C3 := hidden (C2.out.trans hc3 (fun _ _ e => e))
    have K3 := hidden hk3
    clear hY3 hc3 hk3
    have hz6 := tkV_pow (n := 6) (B := B2)
    have INV : Hid (∀ x0 cc, rdX (true :: B1) = some (x0, cc) → fa B1 = tkV 6 B1 ∧ fz B1 = tkV 6 B2 + 1 ∧ fc B1 = B3 ∧ b3 = b1 ∧ fa B1 + fz B1 ≤ 64 ∧ fz B1 ≤ B3.length ∧ fx B1 = x0 ∧ B3.drop (fz B1) = cc) := hidden (fun x0 cc hh => by
      obtain ⟨i1, i2, i3, i4, i5⟩ := rdX_inv hh
      obtain ⟨j1, j2⟩ := K2.out (by omega)
      have hB2 : B2 = tkB 6 B1 := by rw [j1]; unfold tkB; rw [if_pos (by omega)]
      obtain ⟨j3, j4⟩ := K3.out (by rw [j1, List.length_drop]; omega)
      have hB3 : fc B1 = B3 := by rw [j3]; unfold fc; rw [← hB2]; unfold tkB; rw [if_pos (by rw [j1, List.length_drop]; omega)]
      refine ⟨rfl, by unfold fz; rw [← hB2], hB3, by rw [j4, j2], i2, by rw [← hB3]; exact i3, i4, by rw [← hB3]; exact i5⟩)
    clear K2 K3
    obtain ⟨a, ha⟩ : ∃ a, tkV 6 B1 = a := ⟨_, rfl⟩
    obtain ⟨zz, hzz⟩ : ∃ zz, tkV 6 B2 = zz := ⟨_, rfl⟩
    rw [ha] at ha6 INV ⊢
    rw [hzz] at hz6 INV ⊢
    have hzi : (zz : Int) + 1 = ((zz + 1 : Nat) : Int) := by omega
    by_cases hle : a + (zz + 1) ≤ 64
    · have hno : ¬ (64 : Int) < (a : Int) + ((zz : Int) + 1) := by omega
      obtain ⟨bh, hbh⟩ : ∃ bh, 64 - a - (zz + 1) = bh := ⟨_, rfl⟩
      have hbe : (64 : Int) - (a : Int) - ((zz : Int) + 1) = (bh : Int) := by omega
      have hb64 : bh ≤ 63 := by omega
      have HG := hidden (getD w3 r c (zz + 1) ad l B3 b3 Y3.out (by omega))
      have hvp := tkV_pow (n := zz + 1) (B := B3)
      obtain ⟨V, hV⟩ : ∃ V, tkV (zz + 1) B3 = V := ⟨_, rfl⟩
      rw [hV] at HG hvp
      have hxl : V * 2 ^ bh < 18446744073709551616 := by
        have h3 : V * 2 ^ bh < 2 ^ (zz + 1) * 2 ^ bh := Nat.mul_lt_mul_of_pos_right hvp (Nat.two_pow_pos _)
        rw [← Nat.pow_add] at h3
        have h4 : 2 ^ (zz + 1 + bh) ≤ 2 ^ 64 := Nat.pow_le_pow_right (by omega) (by omega)
        omega
      have hsh : IntKind.u64.wrap ((V : Int) * 2 ^ bh) = ((V * 2 ^ bh : Nat) : Int) := by
        rw [u64w]
        have e1 : ((V * 2 ^ bh : Nat) : Int) = (V : Int) * 2 ^ bh := by rw [Int.natCast_mul, Int.natCast_pow]; rfl
        rw [← e1]
        omega
      have HVV := hidden hV
      rw [← hzi] at HG
      clear hV hzi hvp
      have hv64 : V < 18446744073709551616 := by
        have := Nat.two_pow_pos bh
        have h5 : V * 1 ≤ V * 2 ^ bh := Nat.mul_le_mul_left _ this
        omega
      go_wp2_with fail
      refine HG.out.mono ?_
      rintro e w4 ⟨rfl, ⟨B4, b4, hY4, hk4, _⟩, hc4⟩
      have Y4 := hidden hY4
      have C4 := hidden (C3.out.trans hc4 (fun _ _ e => e))
      have FI : Hid (∀ x0 cc, rdX (true :: B1) = some (x0, cc) → V * 2 ^ bh = x0 ∧ B4 = cc ∧ b4 = b1) := hidden (fun x0 cc hh => by
        obtain ⟨i1, i2, i3, i4, i5, i6, i7, i8⟩ := INV.out x0 cc hh
        obtain ⟨j1, j2⟩ := hk4 (by rw [← i2]; exact i6)
        refine ⟨?_, by rw [j1, ← i2]; exact i8, by rw [j2, i4]⟩
        rw [← i7]
        unfold fx
        rw [i3, i2, i1, hbh, HVV.out])
      clear hY4 hc4 hk4 HG
      go_wp2_with (first | simp only [hsh] | fail)
      go_ret
      exact ⟨V * 2 ^ bh, by first | rfl | simp [hsh], hxl, ⟨_, _, Y4.out, FI.out⟩, C4.out⟩
    · have hno : (64 : Int) < (a : Int) + ((zz : Int) + 1) := by omega
      obtain ⟨t, ht, hB, hD⟩ := Y3.out.blk
      have f2 := hB.frozen 2
      have c2 := hB.cell 2
      simp at c2
      have hc := chg_set w3 r 2 (.bool true)
      have Y4 : Hid (YS (w3.setCell ⟨r, 2, none⟩ (.bool true)) r ad c l B3 true) := hidden ⟨⟨t, ht, by have := hB.set 2 (.bool true); simpa using this, hD⟩, hc.sl Y3.out.sl (fun z hz h0 e => Y3.out.ne z hz h0 e), Y3.out.ne, Y3.out.len⟩
      have C4 := hidden (C3.out.trans hc (fun _ _ e => e))
      have FI : Hid (∀ x0 cc, rdX (true :: B1) = some (x0, cc) → (0 : Nat) = x0 ∧ B3 = cc ∧ true = b1) := hidden (fun x0 cc hh => by
        obtain ⟨i1, i2, i3, i4, i5, i6, i7, i8⟩ := INV.out x0 cc hh
        omega)
      clear hB hD hc hzi
      go_wp2_with fail
      first | go_region | skip
      go_wp2
      go_ret
      exact ⟨0, rfl, by omega, ⟨_, _, Y4.out, FI.out⟩, C4.out⟩

end Go.Proofs.YtcgjmioncbihhaaDoor
