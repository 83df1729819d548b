import Derived.Test.YtcgjmioncbihhaaDoorCln
import Derived.Deep.CutRange
import Derived.Handy
namespace Go.Proofs.YtcgjmioncbihhaaDoor
open Go.RowKit
set_option linter.unusedVariables false

theorem built59 (ad : Option Addr) (n c : Nat) : Tryd.prog.built 92 [(0, .slice ad n c)] = some #[.slice ad n c, .int .i64 0] := by kernel_rfl

theorem left_any (p t : Nat) (l : List Int) (w : World) (h : RS w p l t) (hl : l.length ≤ 70368744177664) : Calls Tryd.prog 51 #[.pointer (some ⟨p, 0, none⟩)] w fun e w' => e = .returned (.int .i64 ((8 * l.length - t : Nat) : Int)) ∧ Chg (fun _ => False) w w' := by
  obtain ⟨ht, ad, c, hB, hS, hne⟩ := h
  obtain ⟨n, hn⟩ : ∃ n, l.length = n := ⟨_, rfl⟩
  rw [hn] at hB hl ht ⊢
  have c0 : w.cell? ⟨p, 0, none⟩ = some (.slice ad n c) := hB.cell 0
  have c1 : w.cell? ⟨p, 1, none⟩ = some (.int .i64 (t : Int)) := hB.cell 1
  clear hB hS hne hn
  go_enter Tryd.func51, Tryd.ntmps51
  go_wp2_with fail
  go_region
  go_wp2_with fail
  go_ret
  refine ⟨?_, Chg.drew _ _⟩
  show Ending.returned (.int .i64 ((n : Int) * 8 - (t : Int))) = _
  congr 2
  omega

set_option maxHeartbeats 1000000 in
theorem newReader_any (ad : Option Addr) (n c : Nat) (l : List Int) (w : World) (h : Sl w ad n l) (hn : n ≤ 70368744177664) (hnone : ad = none → n = 0 ∧ c = 0) :
    Calls Tryd.prog 32 #[.slice ad n c] w fun e w' => ∃ p, e = .returned (.pointer (some ⟨p, 0, none⟩)) ∧ w.heap.size ≤ p ∧ RS w' p l 0 ∧ Below w.heap.size w w' := by
  have HS := hidden h
  have HNO := hidden hnone
  clear h hnone
  go_enter Tryd.func32, Tryd.ntmps32
  go_wp2_with fail
  refine (clone_any ad n c l w HS.out hn HNO.out).mono ?_
  rintro e w1 ⟨ad', c', rfl, ho, hb⟩
  go_wp2_with (first
    | (refine wpList_build_to rfl 92 #[(0, .tmp 4)] rfl [(0, .slice ad' n c')] #[.slice ad' n c', .int .i64 0] ?_ (built59 _ _ _) ?_; kernel_rfl)
    | (refine wpList_box_blk rfl 92 (.tmp 5) rfl [.slice ad' n c', .int .i64 0] rfl ?_; intro w2 B2 bl2 hz2))
  go_ret
  have hS := (sl_of_owns ho HS.out.byte).later bl2
  have hl := HS.out.len
  refine ⟨_, rfl, hb.size, ⟨by omega, ad', c', by rw [hl]; exact B2, by rw [hl]; exact hS, fun x hx hp => ?_⟩, hb.trans (bl2.mono hb.size)⟩
  have := (sl_of_owns ho HS.out.byte).lt x hx (by omega)
  omega

set_option maxHeartbeats 2000000 in
theorem get_any (p t : Nat) (l : List Int) (n : Int) (w : World) (h : RS w p l t) (hl : l.length ≤ 70368744177664) (hn : 0 ≤ n) (hn2 : n ≤ 64) (hn3 : t + n.toNat ≤ 8 * l.length) :
    Calls Tryd.prog 63 #[.pointer (some ⟨p, 0, none⟩), .int .i64 n] w fun e w' => ∃ V : Nat, e = .returned (.tuple #[.int .u64 (V : Int), .bool true]) ∧ Nm V n.toNat (fun i => bt l (t + i)) ∧ RS w' p l (t + n.toNat) ∧ Chg (fun i => i = p) w w' := by
  obtain ⟨k, rfl⟩ : ∃ k : Nat, n = (k : Int) := ⟨n.toNat, by omega⟩
  rw [Int.toNat_natCast] at *
  obtain ⟨N', hN⟩ : ∃ N', l.length = N' := ⟨_, rfl⟩
  have HL : Hid (∀ w, RS w p l t → Calls Tryd.prog 51 #[.pointer (some ⟨p, 0, none⟩)] w fun e w' => e = .returned (.int .i64 ((8 * N' - t : Nat) : Int)) ∧ Chg (fun _ => False) w w') := fun w h => hN ▸ left_any p t l w h hl
  rw [hN] at hl hn3
  obtain ⟨lf, hlf⟩ : ∃ lf, 8 * N' - t = lf := ⟨_, rfl⟩
  rw [hlf] at HL
  have hlf2 : k ≤ lf := by omega
  have HH := hidden h
  have HN := hidden hN
  have HLF := hidden hlf
  clear h hN hlf
  go_enter Tryd.func63, Tryd.ntmps63
  go_wp2_with fail
  refine (HL.out w HH.out).mono ?_
  rintro e w1 ⟨rfl, hC⟩
  have HC1 := hidden hC
  clear hC
  go_wp2_with fail
  have hk64 : k ≤ 64 := by omega
  generalize decide (lf < k) = b1
  generalize decide ((k : Int) < 0) = b2
  generalize decide (64 < (k : Int)) = b3
  go_loopw [6, 7] (fun vv lv wr => ∃ (left V : Nat), left ≤ k ∧ vv = .int .u64 (V : Int) ∧ lv = .int .i64 (left : Int) ∧ RS wr p l (t + (k - left)) ∧ Nm V (k - left) (fun i => bt l (t + i)) ∧ Chg (fun i => i = p) w wr) (fun _ lv _ => (intOf lv).toNat)
  case atStart => exact ⟨k, 0, Nat.le_refl _, rfl, rfl, by rw [Nat.sub_self]; exact HH.out.same HC1.out, by rw [Nat.sub_self]; exact Nm.zero _, HC1.out.mono (fun _ _ h => h.elim)⟩
  case round =>
    rename World => wr
    obtain ⟨left, V, hle, rfl, rfl, hR, hV, hC⟩ := hrel
    clear HL HC1 HH
    obtain ⟨m, hm⟩ : ∃ m, k - left = m := ⟨_, rfl⟩
    rw [hm] at hR hV
    have HR := hidden hR
    have HV := hidden hV
    have HC := hidden hC
    have HM := hidden hm
    by_cases hl0 : 0 < left
    · obtain ⟨hts, ad, c, hB, hS, hne⟩ := hR
      rw [HN.out] at hB hS hne hts
      obtain ⟨s, hs⟩ : ∃ s, t + m = s := ⟨_, rfl⟩
      rw [hs] at hB hts
      have hs8 : s / 8 < N' := by omega
      have hsb : s ≤ 562949953421312 := by omega
      obtain ⟨g, off, rfl, hgl, hcell⟩ := hS.at (by omega)
      have c0 : wr.cell? ⟨p, 0, none⟩ = some (.slice (some ⟨g, off, none⟩) N' c) := hB.cell 0
      have c1 : wr.cell? ⟨p, 1, none⟩ = some (.int .i64 (s : Int)) := hB.cell 1
      have f1 := hB.frozen 1
      have cq := hcell _ hs8
      have hyb := hS.byte.at (s / 8)
      have HBy := hidden hS.byte
      obtain ⟨q, hq⟩ : ∃ q, s / 8 = q := ⟨_, rfl⟩
      rw [hq] at cq hyb hs8
      obtain ⟨y, hy⟩ : ∃ y, l.getD q 0 = y := ⟨_, rfl⟩
      rw [hy] at cq hyb
      have hqi : (s : Int) / 8 = (q : Int) := by omega
      have hqb : q ≤ 70368744177664 := by omega
      obtain ⟨ah, hah⟩ : ∃ ah, s % 8 = ah := ⟨_, rfl⟩
      have hahi : (s : Int) % 8 = (ah : Int) := by omega
      have hah8 : ah < 8 := by omega
      obtain ⟨tk, htk⟩ : ∃ tk, min (8 - ah) left = tk := ⟨_, rfl⟩
      have htk1 : tk + ah ≤ 8 ∧ tk ≤ left ∧ 0 < tk := by omega
      obtain ⟨d, hd⟩ : ∃ d, 8 - tk = d := ⟨_, rfl⟩
      have hdi : 8 - (tk : Int) = (d : Int) := by omega
      have hd8 : d ≤ 8 := by omega
      obtain ⟨l2, hl2⟩ : ∃ l2, left - tk = l2 := ⟨_, rfl⟩
      have hl2i : (left : Int) - (tk : Int) = (l2 : Int) := by omega
      have hX := piece_nm (l := l) HBy.out s ah tk y.toNat hah htk1.1 (by rw [hq, hy])
      rw [hd] at hX
      have HX := hidden hX
      have HS := hidden hs
      have HQ := hidden hq
      have HAH := hidden hah
      have HTK := hidden htk
      have HD := hidden hd
      have HL2 := hidden hl2
      clear hS hB hcell hne hV hC hm hq hy hah htk hd hl2 hX hs
      go_upto_region 7 with fail
      rw [hahi]
      go_cut [9] from 24 to 67 (fun s9 wx => s9 = .int .i64 (tk : Int) ∧ wx = wr)
      case first =>
        go_wp2_with fail
        all_goals
          go_meet
          case rel =>
            refine ⟨?_, rfl⟩
            have := HTK.out
            congr 1
            omega
      case rest =>
        obtain ⟨rfl, hwc⟩ := hcut
        obtain rfl := hwc.symm
        clear hwc
        go_wp2_with fail
        go_region
        rw [shl_eq y ah d hyb]
        obtain ⟨X, hX⟩ : ∃ X, y.toNat * 2 ^ ah % 256 / 2 ^ d = X := ⟨_, rfl⟩
        rw [hX] at HX ⊢
        have hXb : X < 256 := by
          rw [← hX]
          exact Nat.lt_of_le_of_lt (Nat.div_le_self _ _) (Nat.mod_lt _ (by omega))
        have hj := join_eq V X m tk HV.out.lt hXb (by have := HM.out; omega)
        have HX2 := hidden hX
        clear hX c0 cq
        obtain ⟨w2, hw2⟩ : ∃ w2, wr.drew = w2 := ⟨_, rfl⟩
        have hR2 : RS w2 p l s := by
          rw [← hw2, ← HS.out]
          exact HR.out.same (Chg.drew _ _)
        have hC2 : Chg (fun i => i = p) w w2 := by
          rw [← hw2]
          exact HC.out.trans (Chg.drew (fun _ => False) _) (fun _ _ h => h.elim)
        have d1 : w2.cell? ⟨p, 1, none⟩ = some (.int .i64 (s : Int)) := by rw [← hw2]; exact c1
        have g1 : w2.frozen? ⟨p, 1, none⟩ = false := by rw [← hw2]; exact f1
        rw [hw2]
        clear hw2 c1 f1
        have HR2 := hidden hR2
        have HC2 := hidden hC2
        clear hR2 hC2
        have HJ := hidden hj
        clear hj
        go_wp2_with fail
        have hm := HM.out
        have hl2 := HL2.out
        refine ⟨⟨l2, V * 2 ^ tk ||| X, by omega, ?_, rfl, ?_, ?_, HC2.out.trans (Chg.set ⟨p, 1, none⟩ _ w2) (fun i _ h => h)⟩, ?_⟩
        · rw [← HJ.out, IntKind.wrap_u64]
        · have e : (s : Int) + (tk : Int) = ((t + (k - l2) : Nat) : Int) := by
            have := HS.out
            omega
          rw [e]
          exact HR2.out.step (by rw [HN.out]; omega)
        · have e : k - l2 = m + tk := by omega
          rw [e]
          refine nm_join HV.out ?_
          have := HX.out
          rw [← HS.out] at this
          intro j
          rw [this j]
          show (decide (j < tk) && bt l (t + m + (tk - 1 - j))) = (decide (j < tk) && bt l (t + (m + (tk - 1 - j))))
          rw [Nat.add_assoc]
        · show (l2 : Int).toNat < (left : Int).toNat
          omega
    · have h0 : left = 0 := by omega
      subst h0
      clear hR hV hC hm
      go_wp2_with fail
      go_ret2
      have hm := HM.out
      rw [Nat.sub_zero] at hm
      subst hm
      exact ⟨V, rfl, HV.out, HR.out, HC.out⟩

theorem get_bad (p t : Nat) (l : List Int) (n : Int) (w : World) (h : RS w p l t) (hl : l.length ≤ 70368744177664) (hn : n < 0 ∨ 64 < n ∨ 8 * (l.length : Int) - t < n) :
    Calls Tryd.prog 63 #[.pointer (some ⟨p, 0, none⟩), .int .i64 n] w fun e w' => e = .returned (.tuple #[.int .u64 0, .bool false]) ∧ RS w' p l t ∧ Chg (fun _ => False) w w' := by
  have ht := h.1
  obtain ⟨N', hN⟩ : ∃ N', l.length = N' := ⟨_, rfl⟩
  have HL : Hid (∀ w, RS w p l t → Calls Tryd.prog 51 #[.pointer (some ⟨p, 0, none⟩)] w fun e w' => e = .returned (.int .i64 ((8 * N' - t : Nat) : Int)) ∧ Chg (fun _ => False) w w') := fun w h => hN ▸ left_any p t l w h hl
  rw [hN] at hl hn ht
  obtain ⟨lf, hlf⟩ : ∃ lf, 8 * N' - t = lf := ⟨_, rfl⟩
  rw [hlf] at HL
  have hn2 : n < 0 ∨ 64 < n ∨ (lf : Int) < n := by omega
  have HH := hidden h
  clear h hN hlf hn ht
  go_enter Tryd.func63, Tryd.ntmps63
  by_cases h1 : n < 0
  · clear hn2
    go_wp2_with fail
    go_ret2
    exact ⟨rfl, HH.out, Chg.refl _ _⟩
  · by_cases h2 : 64 < n
    · clear hn2
      go_wp2_with fail
      go_ret2
      exact ⟨rfl, HH.out, Chg.refl _ _⟩
    · have h3 : (lf : Int) < n := by omega
      clear hn2
      go_wp2_with fail
      refine (HL.out w HH.out).mono ?_
      rintro e w1 ⟨rfl, hC⟩
      have HR := hidden (HH.out.same hC)
      have HC := hidden hC
      clear hC
      go_wp2_with fail
      go_ret2
      exact ⟨rfl, HR.out, HC.out⟩

end Go.Proofs.YtcgjmioncbihhaaDoor
