/-
  Package chunk: putDrift.
-/
import Derived.Test.YtcgjmioncbihhaaDoorChB
namespace Go.Proofs.YtcgjmioncbihhaaDoor
open Go.RowKit
set_option linter.unusedVariables false
set_option linter.unusedSimpArgs false

theorem low0 : low 0 (cl 1) = [false] := by decide
theorem low1 : low 1 (cl 1) = [true] := by decide
theorem cl0 : cl (0 : Int) = 0 := by decide
theorem cl6 : cl (6 : Int) = 6 := by decide
theorem cl7 : cl (7 : Int) = 7 := by decide
theorem cl9 : cl (9 : Int) = 9 := by decide
theorem cl12 : cl (12 : Int) = 12 := by decide
theorem cl64 : cl (64 : Int) = 64 := by decide
theorem cl_of {n : Nat} (h : n ≤ 64) : cl (n : Int) = n := by unfold cl; omega

/-- A block of another type is none of the writer's. -/
theorem ws_ne {w : World} {p bx : Nat} {rb : Option Nat} {L : List Bool} {ty : TypeId} {l : List Value} (h : WS w p rb L) (hB : Blk w bx ty l) (h5 : ty ≠ 5) (h81 : ty ≠ 81) : ¬ fpt p rb bx := by
  obtain ⟨v, R, hW⟩ := h
  rintro (e | e)
  · subst e
    have := hB.symm.trans hW.blk
    injection this with this
    injection this with _ h2 _
    exact h81 h2
  · have ho := hW.own
    rw [e] at ho
    rcases hW.row.2 with ⟨h1, _⟩ | ⟨g, c, cur, h1, _, h3, _⟩
    · rw [h1] at ho
      simp [Value.ownBlock] at ho
    · rw [h1] at ho
      have hg : g = bx := by simpa [Value.ownBlock] using ho
      subst hg
      have := hB.symm.trans h3
      injection this with this
      injection this with _ h2 _
      exact h5 h2

/-- What a writer's calls leave, from a world on. -/
def WU (w w' : World) (p : Nat) (rb : Option Nat) (L : List Bool) : Prop := ∃ rb', WS w' p rb' L ∧ Chg (fpt p rb) w w' ∧ Moved w rb rb'
theorem WU.start {w : World} {p : Nat} {rb : Option Nat} {L : List Bool} (h : WS w p rb L) : WU w w p rb L := ⟨rb, h, Chg.of_below (Below.refl _ _), .inl rfl⟩
theorem WU.later {w w1 w2 : World} {p : Nat} {rb : Option Nat} {L : List Bool} (h : WU w w1 p rb L) (hb : Below w1.heap.size w1 w2) : WU w w2 p rb L := by
  obtain ⟨rb', h1, h2, h3⟩ := h
  exact ⟨rb', h1.chg (Chg.of_below (F := fun _ => False) hb) (fun _ _ e => e), h2.trans (Chg.of_below (F := fun _ => False) hb) (fun i _ hi => absurd hi id), h3⟩
theorem WU.blk {w w1 : World} {p bx : Nat} {rb : Option Nat} {L L0 : List Bool} {ty : TypeId} {l : List Value} (h : WU w w1 p rb L) (h0 : WS w p rb L0) (hB : Blk w bx ty l) (h5 : ty ≠ 5) (h81 : ty ≠ 81) : Blk w1 bx ty l := by
  obtain ⟨rb', h1, h2, h3⟩ := h
  exact h2.blk hB (ws_ne h0 hB h5 h81)
theorem WU.more {w w1 w2 : World} {p : Nat} {rb rb1 : Option Nat} {L : List Bool} (h2 : Chg (fpt p rb) w w1) (h3 : Moved w rb rb1) (k : WU w1 w2 p rb1 L) : WU w w2 p rb L := by
  obtain ⟨rb', k1, k2, k3⟩ := k
  refine ⟨rb', k1, h2.trans k2 (fun i hi hF => ?_), ?_⟩
  · rcases hF with e | e
    · exact .inl e
    · rcases h3 with e3 | ⟨g, e3, hg⟩
      · exact .inr (e3 ▸ e)
      · rw [e3] at e
        have : g = i := Option.some.inj e
        omega
  · rcases k3 with e3 | ⟨g, e3, hg⟩
    · rw [e3]; exact h3
    · exact .inr ⟨g, e3, Nat.le_trans h2.size hg⟩
theorem WU.put {w w1 : World} {p : Nat} {rb : Option Nat} {L : List Bool} (h : WU w w1 p rb L) (v : Nat) (n : Int) (hv : v < 18446744073709551616) (hL : L.length ≤ 1099511627776) :
    Calls Tryd.prog 53 #[.pointer (some ⟨p, 0, none⟩), .int .u64 (v : Int), .int .i64 n] w1 fun e w2 => e = .returned (.tuple #[]) ∧ WU w w2 p rb (L ++ low v (cl n)) := by
  obtain ⟨rb', h1, h2, h3⟩ := h
  refine (put_any p rb' L v n w1 h1 hv hL).mono ?_
  rintro e w2 ⟨rfl, rb2, k1, k2, k3⟩
  exact ⟨rfl, WU.more h2 h3 ⟨rb2, k1, k2, k3⟩⟩

/-- The widths, by their place. -/
def agW : Value := .agg #[.int .i64 0, .int .i64 7, .int .i64 9, .int .i64 12]
theorem ix0 (w : World) : (Instr.index 95 (.agg #[.int .i64 0, .int .i64 7, .int .i64 9, .int .i64 12]) (.int .i64 0)).run Tryd.prog w = .ok (.int .i64 0) w := by kernel_rfl
theorem ix1 (w : World) : (Instr.index 95 (.agg #[.int .i64 0, .int .i64 7, .int .i64 9, .int .i64 12]) (.int .i64 1)).run Tryd.prog w = .ok (.int .i64 7) w := by kernel_rfl
theorem ix2 (w : World) : (Instr.index 95 (.agg #[.int .i64 0, .int .i64 7, .int .i64 9, .int .i64 12]) (.int .i64 2)).run Tryd.prog w = .ok (.int .i64 9) w := by kernel_rfl
theorem ix3 (w : World) : (Instr.index 95 (.agg #[.int .i64 0, .int .i64 7, .int .i64 9, .int .i64 12]) (.int .i64 3)).run Tryd.prog w = .ok (.int .i64 12) w := by kernel_rfl
/-- A row of bits, as a value. -/
def rwV (p : Nat) : Value := .agg #[.pointer (some ⟨p, 0, none⟩)]

set_option maxRecDepth 100000 in
set_option maxHeartbeats 4000000 in
theorem putDriftP (w : World) (p : Nat) (rb : Option Nat) (L : List Bool) (d : Int) (h : WS w p rb L) (hG : Gv w) (hd : I64 d) (hL : L.length ≤ 1000000000) :
    Calls Tryd.prog 39 #[rwV p, .int .i64 d] w fun e w' => e = .returned (.tuple #[]) ∧ WU w w' p rb (L ++ drB d) := by
  have HW := hidden h
  have HG := hidden hG
  have hu : IntKind.u64.wrap d = (un d : Int) := by rw [u64w]; unfold un; omega
  have hul := un_lt d
  have HF := hidden (fun w1 k hk => fitsP d k w1 hd hk)
  have hd' := hd
  unfold I64 at hd'
  unfold rwV
  clear h hG hd
  go_enter Tryd.func39, Tryd.ntmps39
  go_wp2_with (refine wpList_box_blk rfl 56 (.tmp 0) rfl [.pointer (some ⟨p, 0, none⟩)] rfl ?_; intro w2 B2 bl2 hz2; have HB2 := hidden B2; have HW2 := hidden (HW.out.chg (Chg.of_below (F := fun _ => False) bl2) (fun _ _ e => e)); have HG2 := hidden (HG.out.later bl2); have HC2 := hidden (Chg.of_below (F := fpt p rb) bl2); clear B2 bl2 hz2; have g0 := (HG2.out.wid 0 (by omega)); have g1 := (HG2.out.wid 1 (by omega)); have g2 := (HG2.out.wid 2 (by omega)); have g3 := (HG2.out.wid 3 (by omega)); simp [wds] at g0 g1 g2 g3)
  have FIN := hidden (fun (w9 : World) (L9 : List Bool) (h9 : WU w2 w9 p rb L9) => WU.more HC2.out (.inl rfl) h9)
  generalize w.heap.size = bx at *
  go_loopw [7] (fun s7 wr => ∃ k : Nat, s7 = .int .i64 (k : Int) ∧ k ≤ 4 ∧ Hid (∀ j, j < k → ¬ fit d (wds.getD j 0)) ∧ Hid (WU w2 wr p rb (L ++ List.replicate k true))) (fun s7 _ => 4 - (intOf s7).toNat)
  case atStart => exact ⟨0, rfl, by omega, hidden (fun j hj => by omega), hidden (by simpa using WU.start HW2.out)⟩
  case round =>
    rename World => wr
    obtain ⟨k, rfl, hk, hno, hW⟩ := hrel
    have c0 := (hW.out.blk HW2.out HB2.out (by decide) (by decide)).cell 0
    simp at c0
    by_cases hk4 : k < 4
    · have hkz : (k : Int) < 4 := by omega
      have hcase : k = 0 ∨ k = 1 ∨ k = 2 ∨ k = 3 := by omega
      rcases hcase with rfl | rfl | rfl | rfl
      · rw [show ((0 : Nat) : Int) = 0 from rfl]
        have hix := ix0
        go_wp2_with fail
        refine (HF.out wr 0 (by omega)).mono ?_
        rintro e w3 ⟨rfl, rfl⟩
        by_cases hf : fit d 0
        · simp only [hf, decide_true]
          have HD := hidden (dr0  hf)
          clear hf
          go_wp2_with fail
          refine (hW.out.put 0 1 (by omega) (by simp; omega)).mono ?_
          rintro e w4 ⟨rfl, h4⟩
          have H4 := hidden h4
          have c4 := (h4.blk HW2.out HB2.out (by decide) (by decide)).cell 0
          simp at c4
          clear h4
          go_wp2_with fail
          refine (H4.out.put (un d) 0 hul (by simp [low0]; omega)).mono ?_
          rintro e w5 ⟨rfl, h5⟩
          have H5 := hidden h5
          clear h5
          go_wp2
          refine bodyPost_ret (results_none rfl _ _ _) rfl ?_
          refine ⟨rfl, ?_⟩
          have h6 := FIN.out _ _ H5.out
          rw [low0, cl0] at h6
          rw [HD.out]
          simpa [low] using h6
        · simp only [hf, decide_false]
          have HF' := hidden hf
          clear hf
          go_wp2_with fail
          refine (hW.out.put 1 1 (by omega) (by simp; omega)).mono ?_
          rintro e w4 ⟨rfl, h4⟩
          rw [low1] at h4
          have H4 := hidden h4
          clear h4
          go_wp2
          refine ⟨⟨0 + 1, by first | rfl | simp, by omega, hidden (fun j hj => ?_), by simpa using H4⟩, ?_⟩
          · by_cases ej : j = 0
            · subst ej; exact HF'.out
            · exact hno.out j (by omega)
          · simp [intOf]
      · rw [show ((1 : Nat) : Int) = 1 from rfl]
        have hix := ix1
        go_wp2_with fail
        refine (HF.out wr 7 (by omega)).mono ?_
        rintro e w3 ⟨rfl, rfl⟩
        by_cases hf : fit d 7
        · simp only [hf, decide_true]
          have HD := hidden (dr1 (hno.out 0 (by omega)) hf)
          clear hf
          go_wp2_with fail
          refine (hW.out.put 0 1 (by omega) (by simp; omega)).mono ?_
          rintro e w4 ⟨rfl, h4⟩
          have H4 := hidden h4
          have c4 := (h4.blk HW2.out HB2.out (by decide) (by decide)).cell 0
          simp at c4
          clear h4
          go_wp2_with fail
          refine (H4.out.put (un d) 7 hul (by simp [low0]; omega)).mono ?_
          rintro e w5 ⟨rfl, h5⟩
          have H5 := hidden h5
          clear h5
          go_wp2
          refine bodyPost_ret (results_none rfl _ _ _) rfl ?_
          refine ⟨rfl, ?_⟩
          have h6 := FIN.out _ _ H5.out
          rw [low0, cl7] at h6
          rw [HD.out]
          simpa using h6
        · simp only [hf, decide_false]
          have HF' := hidden hf
          clear hf
          go_wp2_with fail
          refine (hW.out.put 1 1 (by omega) (by simp; omega)).mono ?_
          rintro e w4 ⟨rfl, h4⟩
          rw [low1] at h4
          have H4 := hidden h4
          clear h4
          go_wp2
          refine ⟨⟨1 + 1, by first | rfl | simp, by omega, hidden (fun j hj => ?_), by simpa using H4⟩, ?_⟩
          · by_cases ej : j = 1
            · subst ej; exact HF'.out
            · exact hno.out j (by omega)
          · simp [intOf]
      · rw [show ((2 : Nat) : Int) = 2 from rfl]
        have hix := ix2
        go_wp2_with fail
        refine (HF.out wr 9 (by omega)).mono ?_
        rintro e w3 ⟨rfl, rfl⟩
        by_cases hf : fit d 9
        · simp only [hf, decide_true]
          have HD := hidden (dr2 (hno.out 0 (by omega)) (hno.out 1 (by omega)) hf)
          clear hf
          go_wp2_with fail
          refine (hW.out.put 0 1 (by omega) (by simp; omega)).mono ?_
          rintro e w4 ⟨rfl, h4⟩
          have H4 := hidden h4
          have c4 := (h4.blk HW2.out HB2.out (by decide) (by decide)).cell 0
          simp at c4
          clear h4
          go_wp2_with fail
          refine (H4.out.put (un d) 9 hul (by simp [low0]; omega)).mono ?_
          rintro e w5 ⟨rfl, h5⟩
          have H5 := hidden h5
          clear h5
          go_wp2
          refine bodyPost_ret (results_none rfl _ _ _) rfl ?_
          refine ⟨rfl, ?_⟩
          have h6 := FIN.out _ _ H5.out
          rw [low0, cl9] at h6
          rw [HD.out]
          simpa using h6
        · simp only [hf, decide_false]
          have HF' := hidden hf
          clear hf
          go_wp2_with fail
          refine (hW.out.put 1 1 (by omega) (by simp; omega)).mono ?_
          rintro e w4 ⟨rfl, h4⟩
          rw [low1] at h4
          have H4 := hidden h4
          clear h4
          go_wp2
          refine ⟨⟨2 + 1, by first | rfl | simp, by omega, hidden (fun j hj => ?_), by simpa using H4⟩, ?_⟩
          · by_cases ej : j = 2
            · subst ej; exact HF'.out
            · exact hno.out j (by omega)
          · simp [intOf]
      · rw [show ((3 : Nat) : Int) = 3 from rfl]
        have hix := ix3
        go_wp2_with fail
        refine (HF.out wr 12 (by omega)).mono ?_
        rintro e w3 ⟨rfl, rfl⟩
        by_cases hf : fit d 12
        · simp only [hf, decide_true]
          have HD := hidden (dr3 (hno.out 0 (by omega)) (hno.out 1 (by omega)) (hno.out 2 (by omega)) hf)
          clear hf
          go_wp2_with fail
          refine (hW.out.put 0 1 (by omega) (by simp; omega)).mono ?_
          rintro e w4 ⟨rfl, h4⟩
          have H4 := hidden h4
          have c4 := (h4.blk HW2.out HB2.out (by decide) (by decide)).cell 0
          simp at c4
          clear h4
          go_wp2_with fail
          refine (H4.out.put (un d) 12 hul (by simp [low0]; omega)).mono ?_
          rintro e w5 ⟨rfl, h5⟩
          have H5 := hidden h5
          clear h5
          go_wp2
          refine bodyPost_ret (results_none rfl _ _ _) rfl ?_
          refine ⟨rfl, ?_⟩
          have h6 := FIN.out _ _ H5.out
          rw [low0, cl12] at h6
          rw [HD.out]
          simpa using h6
        · simp only [hf, decide_false]
          have HF' := hidden hf
          clear hf
          go_wp2_with fail
          refine (hW.out.put 1 1 (by omega) (by simp; omega)).mono ?_
          rintro e w4 ⟨rfl, h4⟩
          rw [low1] at h4
          have H4 := hidden h4
          clear h4
          go_wp2
          refine ⟨⟨3 + 1, by first | rfl | simp, by omega, hidden (fun j hj => ?_), by simpa using H4⟩, ?_⟩
          · by_cases ej : j = 3
            · subst ej; exact HF'.out
            · exact hno.out j (by omega)
          · simp [intOf]
    · have hkz : ¬ (k : Int) < 4 := by omega
      obtain rfl : k = 4 := by omega
      have HD := hidden (dr4 (hno.out 0 (by omega)) (hno.out 1 (by omega)) (hno.out 2 (by omega)) (hno.out 3 (by omega)))
      go_wp2_with fail
      refine (hW.out.put (un d) 64 hul (by simp; omega)).mono ?_
      rintro e w3 ⟨rfl, h3⟩
      have H3 := hidden h3
      clear h3
      go_wp2
      go_end0
      refine ⟨rfl, ?_⟩
      have := FIN.out _ _ H3.out
      rw [List.append_assoc, cl64] at this
      rw [HD.out]
      exact this

end Go.Proofs.YtcgjmioncbihhaaDoor
