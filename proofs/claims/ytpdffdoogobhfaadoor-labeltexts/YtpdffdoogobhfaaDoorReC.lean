/-
  The document's own: UTF8.
-/
import Derived.Test.YtpdffdoogobhfaaDoorReB
namespace Go.Proofs.YtpdffdoogobhfaaDoor
open Go.RowKit
set_option linter.unusedVariables false
set_option linter.unusedSimpArgs false

theorem callJ_false {l : List UInt8} {lo hi : Nat} : ∀ {n k : Nat}, k ≤ n → callJ l lo hi k = false → callJ l lo hi n = false
  | 0, k, h, e => by obtain rfl : k = 0 := by omega
                     exact e
  | n + 1, k, h, e => by
    by_cases h2 : k = n + 1
    · rw [← h2]; exact e
    · rw [callJ, callJ_false (n := n) (by omega) e, Bool.false_and]

set_option maxRecDepth 100000 in
set_option maxHeartbeats 8000000 in
theorem utf8P (s : ByteArray) (w : World) (hs : s.size ≤ 4611686018427387904) : Calls Tryd.prog 55 #[.string s] w fun e w' => e = .returned (.bool (Lib.validD (bts s))) ∧ w' = w := by
  obtain ⟨R, hR⟩ : ∃ R, Lib.validD (bts s) = R := ⟨_, rfl⟩
  have HR := hidden hR
  rw [hR]
  clear hR
  go_enter Tryd.func55, Tryd.ntmps55
  go_wp2
  go_loopw [3] (fun s0 wx => ∃ i : Nat, s0 = .int .i64 (i : Int) ∧ i ≤ s.size ∧ Hid (Lib.validD ((bts s).drop i) = R) ∧ wx = w) (fun s0 _ => s.size - (intOf s0).toNat)
  case atStart => exact ⟨0, rfl, by omega, hidden (by simpa using HR.out), rfl⟩
  case round =>
    obtain ⟨i, rfl, hi, hrel, rfl⟩ := hrel
    by_cases hlt : i < s.size
    · have hltz : (i : Int) < (s.size : Int) := by omega
      obtain ⟨x, hx, hx2, hdr⟩ := byte_at s hlt
      have hbt : ∀ j, bt ((bts s).drop i) j = ((bts s).getD (i + j) 0).toNat := fun j => by simp [bt, List.getD, List.getElem?_drop]
      have hb0 : bt ((bts s).drop i) 0 = x.toNat := by rw [hdr]; rfl
      have hv := valid_fol ((bts s).drop i) (by rw [hdr]; simp)
      rw [hb0, hrel.out] at hv
      have hlen : ((bts s).drop i).length = s.size - i := by rw [List.length_drop, ← size_bts]
      rw [hlen] at hv
      have kF := fun w => followsP x.toNat x.toNat_lt w
      cases hf : fol x.toNat with
      | none =>
        rw [hf] at hv
        have HV := hidden hv
        have e1 : folN x.toNat = -1 := by rw [folN, hf]
        have e2 : folL x.toNat = 0 := by rw [folL, hf]
        have e3 : folH x.toNat = 0 := by rw [folH, hf]
        rw [e1, e2, e3] at kF
        clear hv hf e1 e2 e3 hdr hx2 hb0 hbt hlen hrel
        go_wp2_with (go_at_call 74; refine (kF _).mono ?_; rintro e w' ⟨rfl, hw'⟩; obtain rfl := hw'.symm)
        go_ret
        exact ⟨by rw [HV.out]; rfl, rfl⟩
      | some y =>
        obtain ⟨n, lo, hi'⟩ := y
        rw [hf] at hv
        simp only at hv
        have e1 : folN x.toNat = (n : Int) := by rw [folN, hf]
        have e2 : folL x.toNat = lo := by rw [folL, hf]
        have e3 : folH x.toNat = hi' := by rw [folH, hf]
        have hn3 : n ≤ 3 := by have := folN_range x.toNat; rw [e1] at this; omega
        rw [e1, e2, e3] at kF
        have HV := hidden hv
        have HBT := hidden hbt
        have z0 : ¬ (n : Int) < 0 := by omega
        clear hv hf e1 e2 e3 hdr hx2 hb0 hbt hlen hrel
        by_cases hin : i + n < s.size
        · have z1 : ¬ (s.size : Int) ≤ (i : Int) + (n : Int) := by omega
          go_wp2_with (go_at_call 74; refine (kF _).mono ?_; rintro e w' ⟨rfl, hw'⟩; obtain rfl := hw'.symm)
          clear kF hltz z0 z1
          go_loopw [7] (fun s0 wx => ∃ k : Nat, s0 = .int .i64 (k : Int) ∧ 1 ≤ k ∧ k ≤ n + 1 ∧ Hid (callJ ((bts s).drop i) lo hi' (k - 1) = true) ∧ wx = wr) (fun s0 _ => n + 1 - (intOf s0).toNat)
          case atStart => exact ⟨1, rfl, by omega, by omega, hidden rfl, rfl⟩
          case round =>
            obtain ⟨k, rfl, hk1, hk2, hcal, rfl⟩ := hrel
            by_cases hkn : k ≤ n
            · have hknz : (k : Int) ≤ (n : Int) := by omega
              obtain ⟨q, hq⟩ : ∃ q, i + k = q := ⟨_, rfl⟩
              have hqn : q < s.size := by omega
              obtain ⟨y, hy, hy2, -⟩ := byte_at s hqn
              have hb : bt ((bts s).drop i) k = y.toNat := by rw [HBT.out k, hq, List.getD, hy2]; rfl
              have hck : cok ((bts s).drop i) lo hi' k = !((decide (k = 1) && (decide (y.toNat < lo) || decide (hi' < y.toNat))) || decide (y.toNat < 128) || decide (191 < y.toNat)) := by rw [cok, hb]
              have hst : callJ ((bts s).drop i) lo hi' k = cok ((bts s).drop i) lo hi' k := by
                obtain ⟨k', rfl⟩ : ∃ k', k = k' + 1 := ⟨k - 1, by omega⟩
                have := hcal.out
                rw [Nat.add_sub_cancel] at this
                rw [callJ, this, Bool.true_and]
              have hqz : (i : Int) + (k : Int) = (q : Int) := by omega
              have hqs : (q : Int) < (s.size : Int) := by omega
              rw [hck] at hst
              have HST := hidden hst
              clear hst hck hb hy2
              have hsplit : (k = 1 ∧ y.toNat < lo) ∨ (k = 1 ∧ ¬ y.toNat < lo ∧ hi' < y.toNat) ∨ (k = 1 ∧ ¬ y.toNat < lo ∧ ¬ hi' < y.toNat ∧ y.toNat < 128) ∨ (k = 1 ∧ ¬ y.toNat < lo ∧ ¬ hi' < y.toNat ∧ ¬ y.toNat < 128 ∧ 191 < y.toNat) ∨ (k = 1 ∧ ¬ y.toNat < lo ∧ ¬ hi' < y.toNat ∧ ¬ y.toNat < 128 ∧ ¬ 191 < y.toNat) ∨ (¬ k = 1 ∧ y.toNat < 128) ∨ (¬ k = 1 ∧ ¬ y.toNat < 128 ∧ 191 < y.toNat) ∨ (¬ k = 1 ∧ ¬ y.toNat < 128 ∧ ¬ 191 < y.toNat) := by omega
              rcases hsplit with hc | hc | hc | hc | hc | hc | hc | hc
              · have hq1 : (i : Int) + 1 = (q : Int) := by omega
                have f1 : (y.toNat : Int) < (lo : Int) := by omega
                have HV2 : Hid (R = false) := hidden (by rw [HV.out, callJ_false hkn (by rw [HST.out]; simp [hc]), Bool.and_false]; rfl)
                obtain ⟨rfl, -⟩ := hc
                clear hqz
                go_wp2
                go_ret
                exact ⟨by rw [HV2.out]; rfl, rfl⟩
              · have hq1 : (i : Int) + 1 = (q : Int) := by omega
                have f1 : ¬ (y.toNat : Int) < (lo : Int) := by omega
                have f2 : (hi' : Int) < (y.toNat : Int) := by omega
                have HV2 : Hid (R = false) := hidden (by rw [HV.out, callJ_false hkn (by rw [HST.out]; simp [hc]), Bool.and_false]; rfl)
                obtain ⟨rfl, -⟩ := hc
                clear hqz
                go_wp2
                go_ret
                exact ⟨by rw [HV2.out]; rfl, rfl⟩
              · have hq1 : (i : Int) + 1 = (q : Int) := by omega
                have f1 : ¬ (y.toNat : Int) < (lo : Int) := by omega
                have f2 : ¬ (hi' : Int) < (y.toNat : Int) := by omega
                have f3 : (y.toNat : Int) < 128 := by omega
                have HV2 : Hid (R = false) := hidden (by rw [HV.out, callJ_false hkn (by rw [HST.out]; simp [hc]), Bool.and_false]; rfl)
                obtain ⟨rfl, -⟩ := hc
                clear hqz
                go_wp2
                go_ret
                exact ⟨by rw [HV2.out]; rfl, rfl⟩
              · have hq1 : (i : Int) + 1 = (q : Int) := by omega
                have f1 : ¬ (y.toNat : Int) < (lo : Int) := by omega
                have f2 : ¬ (hi' : Int) < (y.toNat : Int) := by omega
                have f3 : ¬ (y.toNat : Int) < 128 := by omega
                have f4 : (191 : Int) < (y.toNat : Int) := by omega
                have HV2 : Hid (R = false) := hidden (by rw [HV.out, callJ_false hkn (by rw [HST.out]; simp [hc]), Bool.and_false]; rfl)
                obtain ⟨rfl, -⟩ := hc
                clear hqz
                go_wp2
                go_ret
                exact ⟨by rw [HV2.out]; rfl, rfl⟩
              · have hq1 : (i : Int) + 1 = (q : Int) := by omega
                have f1 : ¬ (y.toNat : Int) < (lo : Int) := by omega
                have f2 : ¬ (hi' : Int) < (y.toNat : Int) := by omega
                have f3 : ¬ (y.toNat : Int) < 128 := by omega
                have f4 : ¬ (191 : Int) < (y.toNat : Int) := by omega
                have HC : Hid (callJ ((bts s).drop i) lo hi' k = true) := hidden (by rw [HST.out]; simp [hc])
                obtain ⟨rfl, -⟩ := hc
                clear hqz
                go_wp2
                exact ⟨⟨2, rfl, by omega, by omega, HC, trivial⟩, by simp only [intOf]; omega⟩
              · have f0 : ((k : Int) == 1) = false := by simp; omega
                have f3 : (y.toNat : Int) < 128 := by omega
                have HV2 : Hid (R = false) := hidden (by rw [HV.out, callJ_false hkn (by rw [HST.out]; simp [hc]), Bool.and_false]; rfl)
                go_wp2
                go_ret
                exact ⟨by rw [HV2.out]; rfl, rfl⟩
              · have f0 : ((k : Int) == 1) = false := by simp; omega
                have f3 : ¬ (y.toNat : Int) < 128 := by omega
                have f4 : (191 : Int) < (y.toNat : Int) := by omega
                have HV2 : Hid (R = false) := hidden (by rw [HV.out, callJ_false hkn (by rw [HST.out]; simp [hc]), Bool.and_false]; rfl)
                go_wp2
                go_ret
                exact ⟨by rw [HV2.out]; rfl, rfl⟩
              · have f0 : ((k : Int) == 1) = false := by simp; omega
                have f3 : ¬ (y.toNat : Int) < 128 := by omega
                have f4 : ¬ (191 : Int) < (y.toNat : Int) := by omega
                have HC : Hid (callJ ((bts s).drop i) lo hi' k = true) := hidden (by rw [HST.out]; simp [hc])
                go_wp2
                exact ⟨⟨k + 1, rfl, by omega, by omega, HC, trivial⟩, by simp only [intOf]; omega⟩
            · have hknz : ¬ (k : Int) ≤ (n : Int) := by omega
              obtain rfl : k = n + 1 := by omega
              have HN : Hid (Lib.validD ((bts s).drop (i + 1 + n)) = R) := hidden (by have := hcal.out; rw [Nat.add_sub_cancel] at this; rw [HV.out, this, decide_eq_true (by omega), List.drop_drop]; simp [Nat.add_assoc, Nat.add_comm, Nat.add_left_comm])
              go_wp2
              exact ⟨⟨i + 1 + n, by simp, by omega, HN, trivial⟩, by simp only [intOf]; omega⟩
        · have z1 : (s.size : Int) ≤ (i : Int) + (n : Int) := by omega
          have HV2 : Hid (R = false) := hidden (by rw [HV.out, decide_eq_false (by omega)]; rfl)
          go_wp2_with (go_at_call 74; refine (kF _).mono ?_; rintro e w' ⟨rfl, hw'⟩; obtain rfl := hw'.symm)
          go_ret
          exact ⟨by rw [HV2.out]; rfl, rfl⟩
    · have hltz : ¬ (i : Int) < (s.size : Int) := by omega
      have HV2 : Hid (R = true) := hidden (by rw [← hrel.out, List.drop_of_length_le (by rw [← size_bts]; omega)]; rfl)
      go_wp2
      go_ret
      exact ⟨by rw [HV2.out]; rfl, rfl⟩

end Go.Proofs.YtpdffdoogobhfaaDoor
