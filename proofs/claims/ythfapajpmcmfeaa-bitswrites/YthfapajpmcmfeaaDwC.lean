import Derived.Test.YthfapajpmcmfeaaDwA
namespace Go.Proofs.Ythfapajpmcmfeaa
open Go.RowKit
set_option linter.unusedVariables false

theorem byte_bt {R : List Int} {L : List Bool} {c s : Nat} (hR : R.length = s) (hb : ∀ j, j < 8 * s → bt R j = L.getD j false) (hc : Nm c 8 (fun j => L.getD (8 * s + j) false)) : ∀ j, j < 8 * (s + 1) → bt (R ++ [(c : Int)]) j = L.getD j false := by
  intro j hj
  by_cases h : j < 8 * s
  · rw [← hb j h]
    unfold bt
    simp [List.getD, List.getElem?_append_left (show j / 8 < R.length by omega)]
  · unfold bt
    rw [List.getD_eq_getElem?_getD, List.getElem?_append_right (by omega), show j / 8 - R.length = 0 by omega]
    show ((c : Int)).toNat.testBit (7 - j % 8) = _
    rw [Int.toNat_natCast, hc]
    have a : decide (7 - j % 8 < 8) = true := by simp; omega
    rw [a, Bool.true_and]
    show L.getD (8 * s + (8 - 1 - (7 - j % 8))) false = L.getD j false
    congr 1
    omega

set_option maxHeartbeats 2000000 in
theorem bytesR_any (q : Nat) (rb : Option Nat) (L : List Bool) (w : World) (h : DS w q rb L) (hL : L.length ≤ 1099511627840) :
    Calls Try.prog 24 #[.pointer (some ⟨q, 0, none⟩)] w fun e w' => ∃ ad c R, e = .returned (.slice ad ((L.length + 7) / 8) c) ∧ R.length = (L.length + 7) / 8 ∧ w'.ownsRow w.heap.size 5 1 (.slice ad ((L.length + 7) / 8) c) ((L.length + 7) / 8) (cells8 R) ∧ Byte R ∧ Rep R L ∧ Below w.heap.size w w' := by
  obtain ⟨i0, hi, hz0, hz1, hz2⟩ := info_parts info5
  obtain ⟨v, hD⟩ := h
  obtain ⟨ad, c, rfl⟩ := owns_form hD.row
  obtain ⟨n, hn⟩ : ∃ n, L.length = n := ⟨_, rfl⟩
  have hB := hD.blk
  rw [hn] at hB hL
  have HB := hidden hB
  have HO := hidden hD.row
  have HN := hidden hn
  clear hD hB hn
  go_enter Try.func24, Try.ntmps24
  go_wp2_with fail
  go_loopw [3, 4] (fun ov iv wr => ∃ (s : Nat) (R : List Int), 8 * s < n + 8 ∧ iv = .int .i64 ((8 * s : Nat) : Int) ∧ R.length = s ∧ wr.ownsRow w.heap.size 5 1 ov s (cells8 R) ∧ Byte R ∧ (∀ j, j < 8 * s → bt R j = L.getD j false) ∧ Below w.heap.size w wr) (fun _ iv _ => n + 8 - (intOf iv).toNat)
  case atStart => exact ⟨0, [], by omega, rfl, rfl, World.ownsRow_nil _ _ _ _, fun x hx => (by simp at hx), fun j hj => absurd hj (by omega), Below.refl _ _⟩
  case round =>
    rename World => wr
    obtain ⟨s, R, hs8, rfl, hRl, hO, hRb, hbt, hbl⟩ := hrel
    have HRl := hidden hRl
    have HOr := hidden hO
    have HRb := hidden hRb
    have HBT := hidden hbt
    have HBL := hidden hbl
    obtain ⟨av, cv, rfl⟩ := owns_form hO
    clear hRl hO hRb hbt hbl
    have hBr := HB.out.later HBL.out
    have c0 : wr.cell? ⟨q, 0, none⟩ = some (.slice ad n c) := hBr.cell 0
    obtain ⟨i, hi8⟩ : ∃ i, 8 * s = i := ⟨_, rfl⟩
    rw [hi8] at HBT hs8 ⊢
    have HI := hidden hi8
    clear hi8
    by_cases hlt : i < n
    · go_wp2_with fail
      obtain ⟨w0, rfl⟩ : ∃ w0 : World, w0 = wr := ⟨_, rfl⟩
      go_loopw [5, 6] (fun cv kv wr => ∃ (k V : Nat), k ≤ 8 ∧ cv = .int .i64 (V : Int) ∧ kv = .int .i64 (k : Int) ∧ Nm V k (fun j => L.getD (i + j) false) ∧ wr = w0) (fun _ kv _ => 8 - (intOf kv).toNat)
      case atStart => exact ⟨0, 0, Nat.zero_le _, rfl, rfl, Nm.zero _, rfl⟩
      case round =>
        obtain ⟨k, V, hk8, rfl, rfl, hV, rfl⟩ := hrel
        by_cases hk : k < 8
        · have hVn := nm_bit hV
          have hVb := hV.lt
          have hV8 : 2 ^ k ≤ 2 ^ 8 := Nat.pow_le_pow_right (by omega) (by omega)
          have hV256 : V ≤ 256 := by omega
          clear hV hVb hV8
          by_cases hin : i + k < n
          · obtain ⟨g, rfl⟩ : ∃ g, ad = some ⟨g, 0, none⟩ := by
              rcases HO.out.2 with ⟨h0, h1⟩ | ⟨g, cap, cur, h0, _⟩
              · have := HN.out
                omega
              · simp only [Value.slice.injEq] at h0
                exact ⟨g, h0.1⟩
            obtain ⟨m, hm⟩ : ∃ m, i + k = m := ⟨_, rfl⟩
            have hmi : (i : Int) + (k : Int) = (m : Int) := by omega
            have cb : wr.cell? ⟨g, m, none⟩ = some (.bool (L.getD m false)) := by
              have hml : m < L.length := by rw [HN.out]; omega
              have hO2 := (Chg.of_below (F := fun _ => False) HBL.out).owns HO.out (fun _ _ e => e)
              rw [hO2.cellAt m (by omega)]
              simp [List.getD, hml]
            have hmn : m < n := by omega
            rw [hm] at hVn hin
            have hmb : m ≤ 1099511627840 := by omega
            clear hm
            cases hb : L.getD m false with
            | false =>
              rw [hb] at cb hVn
              have HVN := hidden hVn
              clear hVn hb
              go_wp2_with fail
              refine ⟨⟨k + 1, 2 * V, by omega, ?_, ?_, by simpa using HVN.out, trivial⟩, ?_⟩
              · go_num
              · go_num
              · simp [intOf]
                omega
            | true =>
              rw [hb] at cb hVn
              have HVN := hidden hVn
              clear hVn hb
              go_wp2_with fail
              refine ⟨⟨k + 1, 2 * V + 1, by omega, ?_, ?_, by simpa using HVN.out, trivial⟩, ?_⟩
              · go_num
              · go_num
              · simp [intOf]
                omega
          · have hz : L.getD (i + k) false = false := by
              simp [List.getD, show L.length ≤ i + k by rw [HN.out]; omega]
            rw [hz] at hVn
            have hge : n ≤ i + k := by omega
            have HVN := hidden hVn
            clear hVn hz
            go_wp2_with fail
            refine ⟨⟨k + 1, 2 * V, by omega, ?_, ?_, by simpa using HVN.out, trivial⟩, ?_⟩
            · go_num
            · go_num
            · simp [intOf]
              omega
        · obtain rfl : k = 8 := by omega
          have hVl : V < 256 := hV.lt
          have hVm : (V : Int) % 256 = (V : Int) := by omega
          have HV := hidden hV
          clear hV
          have hsb : s ≤ 1099511627840 := by have := HI.out; omega
          go_wp2_with (first
            | (at_builtin; (refine wpList_push _ rfl _ _ 29 rfl 5 i0 (.int .u8 0) 1 Try.underlying29 hi hz0 hz1 hz2 rfl w.heap.size (.slice av s cv) s (cells8 R) rfl (by exact (Chg.alloc (fun _ => False) wr _).owns HOr.out (fun _ _ h => h)) ⟨wr.heap.size, 0, none⟩ (.int .u8 (V : Int)) rfl (by first | (simp; done) | (simp; omega)) rfl (by unfold maxLen; omega) (by omega) (by have := HBL.out.size; simp; omega) ?_); intro g6 c6 w6 ho6 hp6; obtain ⟨r1, r2⟩ := hp6.chg; have r3 : Below w.heap.size w w6 := HBL.out.trans (r1.below HBL.out.size (fun i hi => (HOr.out.lt i hi).1)); have HO6 := hidden ho6; have HB6 := hidden r3; clear r1 r2 r3 ho6 hp6))
          have hI := HI.out
          refine ⟨⟨s + 1, R ++ [(V : Int)], by omega, ?_, by rw [List.length_append, HRl.out]; rfl, ?_, ?_, ?_, HB6.out⟩, ?_⟩
          · congr 1
            omega
          · rw [cells8_append]
            exact HO6.out
          · exact HRb.out.append (fun x hx => by simp at hx; omega)
          · refine byte_bt HRl.out (fun j hj => HBT.out j (by omega)) ?_
            rw [hI]
            exact HV.out
          · simp [intOf]
            omega
    · have hI := HI.out
      have hsn : (n + 7) / 8 = s := by omega
      have HSN := hidden hsn
      clear hI hsn
      go_wp2_with fail
      go_ret
      have hN := HN.out
      have hI := HI.out
      have hsn := HSN.out
      rw [hN, hsn]
      refine ⟨av, cv, R, rfl, HRl.out, HOr.out, HRb.out, fun j => ?_, HBL.out⟩
      by_cases hj : j < i
      · exact HBT.out j hj
      · rw [bt_beyond R j (by rw [HRl.out]; omega)]
        simp [List.getD, show L.length ≤ j by omega]

end Go.Proofs.Ythfapajpmcmfeaa
