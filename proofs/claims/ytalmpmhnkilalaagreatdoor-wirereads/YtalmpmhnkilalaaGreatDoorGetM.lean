import Derived.Test.YtalmpmhnkilalaaGreatDoorWld
import Derived.Test.YtalmpmhnkilalaaGreatDoorWrC
import Derived.Deep.CutRange
import Derived.Handy
namespace Go.Proofs.YtalmpmhnkilalaaGreatDoor
open Go.RowKit
set_option linter.unusedVariables false

theorem RS.same {a b : World} {p t : Nat} {l : List Int} (h : RS a p l t) (hc : Chg (fun _ => False) a b) : RS b p l t := by
  obtain ⟨h1, ad, c, h2, h3, h4⟩ := h
  exact ⟨h1, ad, c, hc.blk h2 (fun e => e), hc.sl h3 (fun _ _ _ e => e), h4⟩
theorem RS.chg {F : Nat → Prop} {a b : World} {p t : Nat} {l : List Int} (h : RS a p l t) (hc : Chg F a b) (hF : ∀ i, F i → a.heap.size ≤ i) : RS b p l t :=
  h.same (hc.mono (fun i hi hf => by have := hF i hf; omega))
theorem RS.step {a : World} {p t t2 : Nat} {l : List Int} (h : RS a p l t) (h2 : t2 ≤ 8 * l.length) : RS (a.setCell ⟨p, 1, none⟩ (.int .i64 (t2 : Int))) p l t2 := by
  obtain ⟨h1, ad, c, hB, hS, hne⟩ := h
  exact ⟨h2, ad, c, hB.set 1 _, (Chg.set ⟨p, 1, none⟩ _ a).sl hS (fun x hx hp e => Nat.ne_of_lt (hne x hx hp) e), hne⟩

theorem piece_nm {l : List Int} (hb : Byte l) (s ah t y : Nat) (hah : s % 8 = ah) (ht : t + ah ≤ 8) (hy : (l.getD (s / 8) 0).toNat = y) : Nm (y * 2 ^ ah % 256 / 2 ^ (8 - t)) t (fun i => bt l (s + i)) := by
  intro j
  have hyb : y < 256 := by
    have := hb.at (s / 8)
    omega
  rw [Nat.testBit_div_two_pow, show (256 : Nat) = 2 ^ 8 from rfl, Nat.testBit_mod_two_pow, Nat.testBit_mul_two_pow]
  by_cases hj : j < t
  · have a1 : decide (j + (8 - t) < 8) = true := by simp; omega
    have a2 : decide (ah ≤ j + (8 - t)) = true := by simp; omega
    have a3 : decide (j < t) = true := by simpa using hj
    rw [a1, a2, a3, Bool.true_and, Bool.true_and, Bool.true_and]
    show _ = bt l (s + (t - 1 - j))
    unfold bt
    rw [show (s + (t - 1 - j)) / 8 = s / 8 by omega, show 7 - (s + (t - 1 - j)) % 8 = j + (8 - t) - ah by omega, hy]
  · have a1 : decide (j + (8 - t) < 8) = false := decide_eq_false (by omega)
    have a3 : decide (j < t) = false := decide_eq_false (by omega)
    rw [a1, a3, Bool.false_and, Bool.false_and]
theorem nm_join {V X m t : Nat} {f : Nat → Bool} (h : Nm V m f) (k : Nm X t (fun i => f (m + i))) : Nm (V * 2 ^ t ||| X) (m + t) f := by
  intro j
  rw [Nat.testBit_or, Nat.testBit_mul_two_pow, h (j - t), k j]
  by_cases hj : j < t
  · have a1 : decide (t ≤ j) = false := by simp; omega
    have a2 : decide (j < t) = true := by simpa using hj
    have a3 : decide (j < m + t) = true := by simp; omega
    rw [a1, a2, a3, Bool.false_and, Bool.false_or, Bool.true_and, Bool.true_and]
    show f (m + (t - 1 - j)) = f (m + t - 1 - j)
    congr 1
    omega
  · have a1 : decide (t ≤ j) = true := by simp; omega
    have a2 : decide (j < t) = false := by simp; omega
    rw [a1, a2, Bool.true_and, Bool.false_and, Bool.or_false]
    by_cases hm : j - t < m
    · have a3 : decide (j - t < m) = true := by simpa using hm
      have a4 : decide (j < m + t) = true := by simp; omega
      rw [a3, a4, Bool.true_and, Bool.true_and]
      congr 1
      omega
    · have a3 : decide (j - t < m) = false := by simp; omega
      have a4 : decide (j < m + t) = false := by simp; omega
      rw [a3, a4, Bool.false_and, Bool.false_and]
theorem join_eq (V X m t : Nat) (hV : V < 2 ^ m) (hX : X < 256) (hm : m + t ≤ 64) : bits .or .u64 ((V : Int) * 2 ^ t % 18446744073709551616) (X : Int) = ((V * 2 ^ t ||| X : Nat) : Int) := by
  have h1 : V * 2 ^ t < 2 ^ 64 := by
    have b : V * 2 ^ t < 2 ^ m * 2 ^ t := Nat.mul_lt_mul_of_pos_right hV (Nat.two_pow_pos _)
    rw [← Nat.pow_add] at b
    exact Nat.lt_of_lt_of_le b (Nat.pow_le_pow_right (by omega) (by omega))
  have e : (V : Int) * 2 ^ t % 18446744073709551616 = ((V * 2 ^ t : Nat) : Int) := by
    have : (V : Int) * 2 ^ t = ((V * 2 ^ t : Nat) : Int) := by simp
    rw [this]
    omega
  rw [e, u64_or_nat _ _ (by omega) (by omega)]
theorem shl_eq (y : Int) (ah d : Nat) (hy : 0 ≤ y ∧ y ≤ 255) : y * 2 ^ ah % 256 / 2 ^ d = ((y.toNat * 2 ^ ah % 256 / 2 ^ d : Nat) : Int) := by
  have e : y = ((y.toNat : Nat) : Int) := by omega
  generalize y.toNat = z at *
  subst e
  simp

end Go.Proofs.YtalmpmhnkilalaaGreatDoor

namespace Go.Proofs.YtalmpmhnkilalaaGreatDoor
open Go.RowKit
set_option linter.unusedVariables false

theorem built59 (ad : Option Addr) (n c : Nat) : Tryz.prog.built 215 [(0, .slice ad n c)] = some #[.slice ad n c, .int .i64 0] := by kernel_rfl

theorem left_any (p t : Nat) (l : List Int) (w : World) (h : RS w p l t) (hl : l.length ≤ 70368744177664) : Calls Tryz.prog 216 #[.pointer (some ⟨p, 0, none⟩)] w fun e w' => e = .returned (.int .i64 ((8 * l.length - t : Nat) : Int)) ∧ Chg (fun _ => False) w w' := by
  obtain ⟨ht, ad, c, hB, hS, hne⟩ := h
  obtain ⟨n, hn⟩ : ∃ n, l.length = n := ⟨_, rfl⟩
  rw [hn] at hB hl ht ⊢
  have c0 : w.cell? ⟨p, 0, none⟩ = some (.slice ad n c) := hB.cell 0
  have c1 : w.cell? ⟨p, 1, none⟩ = some (.int .i64 (t : Int)) := hB.cell 1
  clear hB hS hne hn
  go_enter Tryz.func216, Tryz.ntmps216
  go_wp2_with fail
  go_region
  go_wp2_with fail
  go_ret
  refine ⟨?_, Chg.drew _ _⟩
  show Ending.returned (.int .i64 ((n : Int) * 8 - (t : Int))) = _
  congr 2
  omega

set_option maxHeartbeats 1000000 in
theorem newReader_any (ad : Option Addr) (n c : Nat) (l : List Int) (w : World) (h : Sl w ad n l) (hn : n ≤ 70368744177664) (hnone : ad = none → n = 0 ∧ c = 0) :
    Calls Tryz.prog 204 #[.slice ad n c] w fun e w' => ∃ p, e = .returned (.pointer (some ⟨p, 0, none⟩)) ∧ w.heap.size ≤ p ∧ RS w' p l 0 ∧ Below w.heap.size w w' := by
  have HS := hidden h
  have HNO := hidden hnone
  clear h hnone
  go_enter Tryz.func204, Tryz.ntmps204
  go_wp2_with fail
  refine (clone_any ad n c l w HS.out hn HNO.out).mono ?_
  rintro e w1 ⟨ad', c', rfl, ho, hb⟩
  go_wp2_with (first
    | (refine wpList_build_to rfl 215 #[(0, .tmp 4)] rfl [(0, .slice ad' n c')] #[.slice ad' n c', .int .i64 0] ?_ (built59 _ _ _) ?_; kernel_rfl)
    | (refine wpList_box_blk rfl 215 (.tmp 5) rfl [.slice ad' n c', .int .i64 0] rfl ?_; intro w2 B2 bl2 hz2))
  go_ret
  have hS := (sl_of_owns ho HS.out.byte).later bl2
  have hl := HS.out.len
  refine ⟨_, rfl, hb.size, ⟨by omega, ad', c', by rw [hl]; exact B2, by rw [hl]; exact hS, fun x hx hp => ?_⟩, hb.trans (bl2.mono hb.size)⟩
  have := (sl_of_owns ho HS.out.byte).lt x hx (by omega)
  omega

set_option maxHeartbeats 2000000 in
theorem get_any (p t : Nat) (l : List Int) (n : Int) (w : World) (h : RS w p l t) (hl : l.length ≤ 70368744177664) (hn : 0 ≤ n) (hn2 : n ≤ 64) (hn3 : t + n.toNat ≤ 8 * l.length) :
    Calls Tryz.prog 222 #[.pointer (some ⟨p, 0, none⟩), .int .i64 n] w fun e w' => ∃ V : Nat, e = .returned (.tuple #[.int .u64 (V : Int), .bool true]) ∧ Nm V n.toNat (fun i => bt l (t + i)) ∧ RS w' p l (t + n.toNat) ∧ Chg (fun i => i = p) w w' := by
  obtain ⟨k, rfl⟩ : ∃ k : Nat, n = (k : Int) := ⟨n.toNat, by omega⟩
  rw [Int.toNat_natCast] at *
  obtain ⟨N', hN⟩ : ∃ N', l.length = N' := ⟨_, rfl⟩
  have HL : Hid (∀ w, RS w p l t → Calls Tryz.prog 216 #[.pointer (some ⟨p, 0, none⟩)] w fun e w' => e = .returned (.int .i64 ((8 * N' - t : Nat) : Int)) ∧ Chg (fun _ => False) w w') := fun w h => hN ▸ left_any p t l w h hl
  rw [hN] at hl hn3
  obtain ⟨lf, hlf⟩ : ∃ lf, 8 * N' - t = lf := ⟨_, rfl⟩
  rw [hlf] at HL
  have hlf2 : k ≤ lf := by omega
  have HH := hidden h
  have HN := hidden hN
  have HLF := hidden hlf
  clear h hN hlf
  go_enter Tryz.func222, Tryz.ntmps222
  go_wp2_with fail
  refine (HL.out w HH.out).mono ?_
  rintro e w1 ⟨rfl, hC⟩
  have HC1 := hidden hC
  clear hC
  go_wp2_with fail
  have hk64 : k ≤ 64 := by omega
  generalize decide (lf < k) = b1
  generalize decide ((k : Int) < 0) = b2
  generalize decide (64 < (k : Int)) = b3
  go_loopw [6, 7] (fun vv lv wr => ∃ (left V : Nat), left ≤ k ∧ vv = .int .u64 (V : Int) ∧ lv = .int .i64 (left : Int) ∧ RS wr p l (t + (k - left)) ∧ Nm V (k - left) (fun i => bt l (t + i)) ∧ Chg (fun i => i = p) w wr) (fun _ lv _ => (intOf lv).toNat)
  case atStart => exact ⟨k, 0, Nat.le_refl _, rfl, rfl, by rw [Nat.sub_self]; exact HH.out.same HC1.out, by rw [Nat.sub_self]; exact Nm.zero _, HC1.out.mono (fun _ _ h => h.elim)⟩
  case round =>
    rename World => wr
    obtain ⟨left, V, hle, rfl, rfl, hR, hV, hC⟩ := hrel
    clear HL HC1 HH
    obtain ⟨m, hm⟩ : ∃ m, k - left = m := ⟨_, rfl⟩
    rw [hm] at hR hV
    have HR := hidden hR
    have HV := hidden hV
    have HC := hidden hC
    have HM := hidden hm
    by_cases hl0 : 0 < left
    · obtain ⟨hts, ad, c, hB, hS, hne⟩ := hR
      rw [HN.out] at hB hS hne hts
      obtain ⟨s, hs⟩ : ∃ s, t + m = s := ⟨_, rfl⟩
      rw [hs] at hB hts
      have hs8 : s / 8 < N' := by omega
      have hsb : s ≤ 562949953421312 := by omega
      obtain ⟨g, off, rfl, hgl, hcell⟩ := hS.at (by omega)
      have c0 : wr.cell? ⟨p, 0, none⟩ = some (.slice (some ⟨g, off, none⟩) N' c) := hB.cell 0
      have c1 : wr.cell? ⟨p, 1, none⟩ = some (.int .i64 (s : Int)) := hB.cell 1
      have f1 := hB.frozen 1
      have cq := hcell _ hs8
      have hyb := hS.byte.at (s / 8)
      have HBy := hidden hS.byte
      obtain ⟨q, hq⟩ : ∃ q, s / 8 = q := ⟨_, rfl⟩
      rw [hq] at cq hyb hs8
      obtain ⟨y, hy⟩ : ∃ y, l.getD q 0 = y := ⟨_, rfl⟩
      rw [hy] at cq hyb
      have hqi : (s : Int) / 8 = (q : Int) := by omega
      have hqb : q ≤ 70368744177664 := by omega
      obtain ⟨ah, hah⟩ : ∃ ah, s % 8 = ah := ⟨_, rfl⟩
      have hahi : (s : Int) % 8 = (ah : Int) := by omega
      have hah8 : ah < 8 := by omega
      obtain ⟨tk, htk⟩ : ∃ tk, min (8 - ah) left = tk := ⟨_, rfl⟩
      have htk1 : tk + ah ≤ 8 ∧ tk ≤ left ∧ 0 < tk := by omega
      obtain ⟨d, hd⟩ : ∃ d, 8 - tk = d := ⟨_, rfl⟩
      have hdi : 8 - (tk : Int) = (d : Int) := by omega
      have hd8 : d ≤ 8 := by omega
      obtain ⟨l2, hl2⟩ : ∃ l2, left - tk = l2 := ⟨_, rfl⟩
      have hl2i : (left : Int) - (tk : Int) = (l2 : Int) := by omega
      have hX := piece_nm (l := l) HBy.out s ah tk y.toNat hah htk1.1 (by rw [hq, hy])
      rw [hd] at hX
      have HX := hidden hX
      have HS := hidden hs
      have HQ := hidden hq
      have HAH := hidden hah
      have HTK := hidden htk
      have HD := hidden hd
      have HL2 := hidden hl2
      clear hS hB hcell hne hV hC hm hq hy hah htk hd hl2 hX hs
      go_upto_region 7 with fail
      rw [hahi]
      go_cut [9] from 24 to 67 (fun s9 wx => s9 = .int .i64 (tk : Int) ∧ wx = wr)
      case first =>
        go_wp2_with fail
        all_goals
          go_meet
          case rel =>
            refine ⟨?_, rfl⟩
            have := HTK.out
            congr 1
            omega
      case rest =>
        obtain ⟨rfl, hwc⟩ := hcut
        obtain rfl := hwc.symm
        clear hwc
        go_wp2_with fail
        go_region
        rw [shl_eq y ah d hyb]
        obtain ⟨X, hX⟩ : ∃ X, y.toNat * 2 ^ ah % 256 / 2 ^ d = X := ⟨_, rfl⟩
        rw [hX] at HX ⊢
        have hXb : X < 256 := by
          rw [← hX]
          exact Nat.lt_of_le_of_lt (Nat.div_le_self _ _) (Nat.mod_lt _ (by omega))
        have hj := join_eq V X m tk HV.out.lt hXb (by have := HM.out; omega)
        have HX2 := hidden hX
        clear hX c0 cq
        obtain ⟨w2, hw2⟩ : ∃ w2, wr.drew = w2 := ⟨_, rfl⟩
        have hR2 : RS w2 p l s := by
          rw [← hw2, ← HS.out]
          exact HR.out.same (Chg.drew _ _)
        have hC2 : Chg (fun i => i = p) w w2 := by
          rw [← hw2]
          exact HC.out.trans (Chg.drew (fun _ => False) _) (fun _ _ h => h.elim)
        have d1 : w2.cell? ⟨p, 1, none⟩ = some (.int .i64 (s : Int)) := by rw [← hw2]; exact c1
        have g1 : w2.frozen? ⟨p, 1, none⟩ = false := by rw [← hw2]; exact f1
        rw [hw2]
        clear hw2 c1 f1
        have HR2 := hidden hR2
        have HC2 := hidden hC2
        clear hR2 hC2
        have HJ := hidden hj
        clear hj
        go_wp2_with fail
        have hm := HM.out
        have hl2 := HL2.out
        refine ⟨⟨l2, V * 2 ^ tk ||| X, by omega, ?_, rfl, ?_, ?_, HC2.out.trans (Chg.set ⟨p, 1, none⟩ _ w2) (fun i _ h => h)⟩, ?_⟩
        · rw [← HJ.out, IntKind.wrap_u64]
        · have e : (s : Int) + (tk : Int) = ((t + (k - l2) : Nat) : Int) := by
            have := HS.out
            omega
          rw [e]
          exact HR2.out.step (by rw [HN.out]; omega)
        · have e : k - l2 = m + tk := by omega
          rw [e]
          refine nm_join HV.out ?_
          have := HX.out
          rw [← HS.out] at this
          intro j
          rw [this j]
          show (decide (j < tk) && bt l (t + m + (tk - 1 - j))) = (decide (j < tk) && bt l (t + (m + (tk - 1 - j))))
          rw [Nat.add_assoc]
        · show (l2 : Int).toNat < (left : Int).toNat
          omega
    · have h0 : left = 0 := by omega
      subst h0
      clear hR hV hC hm
      go_wp2_with fail
      go_ret2
      have hm := HM.out
      rw [Nat.sub_zero] at hm
      subst hm
      exact ⟨V, rfl, HV.out, HR.out, HC.out⟩

theorem get_bad (p t : Nat) (l : List Int) (n : Int) (w : World) (h : RS w p l t) (hl : l.length ≤ 70368744177664) (hn : n < 0 ∨ 64 < n ∨ 8 * (l.length : Int) - t < n) :
    Calls Tryz.prog 222 #[.pointer (some ⟨p, 0, none⟩), .int .i64 n] w fun e w' => e = .returned (.tuple #[.int .u64 0, .bool false]) ∧ RS w' p l t ∧ Chg (fun _ => False) w w' := by
  have ht := h.1
  obtain ⟨N', hN⟩ : ∃ N', l.length = N' := ⟨_, rfl⟩
  have HL : Hid (∀ w, RS w p l t → Calls Tryz.prog 216 #[.pointer (some ⟨p, 0, none⟩)] w fun e w' => e = .returned (.int .i64 ((8 * N' - t : Nat) : Int)) ∧ Chg (fun _ => False) w w') := fun w h => hN ▸ left_any p t l w h hl
  rw [hN] at hl hn ht
  obtain ⟨lf, hlf⟩ : ∃ lf, 8 * N' - t = lf := ⟨_, rfl⟩
  rw [hlf] at HL
  have hn2 : n < 0 ∨ 64 < n ∨ (lf : Int) < n := by omega
  have HH := hidden h
  clear h hN hlf hn ht
  go_enter Tryz.func222, Tryz.ntmps222
  by_cases h1 : n < 0
  · clear hn2
    go_wp2_with fail
    go_ret2
    exact ⟨rfl, HH.out, Chg.refl _ _⟩
  · by_cases h2 : 64 < n
    · clear hn2
      go_wp2_with fail
      go_ret2
      exact ⟨rfl, HH.out, Chg.refl _ _⟩
    · have h3 : (lf : Int) < n := by omega
      clear hn2
      go_wp2_with fail
      refine (HL.out w HH.out).mono ?_
      rintro e w1 ⟨rfl, hC⟩
      have HR := hidden (HH.out.same hC)
      have HC := hidden hC
      clear hC
      go_wp2_with fail
      go_ret2
      exact ⟨rfl, HR.out, HC.out⟩

end Go.Proofs.YtalmpmhnkilalaaGreatDoor

namespace Go.Proofs.YtalmpmhnkilalaaGreatDoor
open Go.RowKit
set_option linter.unusedVariables false

/-- A writer all of whose memory is new since w0. -/
def WB (w0 w : World) (p : Nat) (L : List Bool) : Prop := ∃ rb, WS w p rb L ∧ (∀ i, rb = some i → w0.heap.size ≤ i) ∧ w0.heap.size ≤ p ∧ Below w0.heap.size w0 w
theorem WB.bel {w0 w : World} {p : Nat} {L : List Bool} (h : WB w0 w p L) : Below w0.heap.size w0 w := by
  obtain ⟨_, _, _, _, h⟩ := h
  exact h
theorem WB.later {w0 w w' : World} {p : Nat} {L : List Bool} (h : WB w0 w p L) (hb : Below w.heap.size w w') : WB w0 w' p L := by
  obtain ⟨rb, h1, h2, h3, h4⟩ := h
  exact ⟨rb, h1.chg (Chg.of_below (F := fun _ => False) hb) (fun _ _ e => e), h2, h3, h4.trans (hb.mono h4.size)⟩
theorem new_b (w0 w : World) (h : Below w0.heap.size w0 w) : Calls Tryz.prog 197 #[] w fun e w' => e = .returned (.pointer (some ⟨w.heap.size, 0, none⟩)) ∧ WB w0 w' w.heap.size [] :=
  (newWriter_any w).mono (fun e w' ⟨h1, h2, h3⟩ => ⟨h1, none, h2, fun i hi => (by cases hi), h.size, h.trans (h3.mono h.size)⟩)
theorem put_b (w0 w : World) (p : Nat) (L : List Bool) (v : Nat) (n : Int) (h : WB w0 w p L) (hv : v < 18446744073709551616) (hL : L.length ≤ 1099511627776) :
    Calls Tryz.prog 218 #[.pointer (some ⟨p, 0, none⟩), .int .u64 (v : Int), .int .i64 n] w fun e w' => e = .returned (.tuple #[]) ∧ WB w0 w' p (L ++ low v (cl n)) := by
  obtain ⟨rb, h1, h2, h3, h4⟩ := h
  refine (put_any p rb L v n w h1 hv hL).mono ?_
  rintro e w' ⟨rfl, rb', k1, k2, k3⟩
  refine ⟨rfl, rb', k1, fun i hi => ?_, h3, h4.trans (k2.below h4.size (fun i hi => ?_))⟩
  · rcases k3 with rfl | ⟨g, rfl, hg⟩
    · exact h2 i hi
    · have := h4.size
      simp at hi
      omega
  · rcases hi with rfl | hi
    · exact h3
    · exact h2 i hi
theorem cut_b (w0 w : World) (p : Nat) (L : List Bool) (n : Int) (h : WB w0 w p L) (hL : L.length ≤ 1099511627840) :
    Calls Tryz.prog 202 #[.pointer (some ⟨p, 0, none⟩), .int .i64 n] w fun e w' => e = .returned (.tuple #[]) ∧ WB w0 w' p (L.take n.toNat) := by
  obtain ⟨rb, h1, h2, h3, h4⟩ := h
  refine (cut_any p rb L n w h1 hL).mono ?_
  rintro e w' ⟨rfl, k1, k2⟩
  refine ⟨rfl, rb, k1, h2, h3, h4.trans (k2.below h4.size (fun i hi => ?_))⟩
  rcases hi with rfl | hi
  · exact h3
  · exact h2 i hi
theorem len_b (w0 w : World) (p : Nat) (L : List Bool) (h : WB w0 w p L) : Calls Tryz.prog 198 #[.pointer (some ⟨p, 0, none⟩)] w fun e w' => e = .returned (.int .i64 (L.length : Int)) ∧ w' = w := by
  obtain ⟨rb, h1, h2, h3, h4⟩ := h
  exact len_any p rb L w h1
theorem bytes_b (w0 w : World) (p : Nat) (L : List Bool) (h : WB w0 w p L) (hL : L.length ≤ 1099511627840) :
    Calls Tryz.prog 203 #[.pointer (some ⟨p, 0, none⟩)] w fun e w' => ∃ ad c R, e = .returned (.slice ad ((L.length + 7) / 8) c) ∧ R.length = (L.length + 7) / 8 ∧ Sl w' ad ((L.length + 7) / 8) R ∧ (ad = none → (L.length + 7) / 8 = 0 ∧ c = 0) ∧ Rep R L ∧ WB w0 w' p L := by
  have hh := h
  obtain ⟨rb, h1, h2, h3, h4⟩ := h
  refine (bytes_any p rb L w h1 hL).mono ?_
  rintro e w' ⟨ad, c, R, rfl, k1, k2, k3, k4, k5⟩
  exact ⟨ad, c, R, rfl, k1, sl_of_owns k2 k3, (owns_cap k2).2.2.2, k4, hh.later k5⟩

/-- A reader all of whose memory is new since w0. -/
def RB (w0 w : World) (p : Nat) (l : List Int) (t : Nat) : Prop := RS w p l t ∧ w0.heap.size ≤ p ∧ Below w0.heap.size w0 w
theorem reader_b (w0 w : World) (ad : Option Addr) (n c : Nat) (l : List Int) (h : Below w0.heap.size w0 w) (hS : Sl w ad n l) (hn : n ≤ 70368744177664) (hnone : ad = none → n = 0 ∧ c = 0) :
    Calls Tryz.prog 204 #[.slice ad n c] w fun e w' => ∃ p, e = .returned (.pointer (some ⟨p, 0, none⟩)) ∧ RB w0 w' p l 0 := by
  refine (newReader_any ad n c l w hS hn hnone).mono ?_
  rintro e w' ⟨p, rfl, h1, h2, h3⟩
  exact ⟨p, rfl, h2, Nat.le_trans h.size h1, h.trans (h3.mono h.size)⟩
theorem get_b (w0 w : World) (p t : Nat) (l : List Int) (n : Int) (h : RB w0 w p l t) (hl : l.length ≤ 70368744177664) (hn : 0 ≤ n) (hn2 : n ≤ 64) (hn3 : t + n.toNat ≤ 8 * l.length) :
    Calls Tryz.prog 222 #[.pointer (some ⟨p, 0, none⟩), .int .i64 n] w fun e w' => ∃ V : Nat, e = .returned (.tuple #[.int .u64 (V : Int), .bool true]) ∧ Nm V n.toNat (fun i => bt l (t + i)) ∧ RB w0 w' p l (t + n.toNat) := by
  obtain ⟨h1, h2, h3⟩ := h
  refine (get_any p t l n w h1 hl hn hn2 hn3).mono ?_
  rintro e w' ⟨V, rfl, k1, k2, k3⟩
  exact ⟨V, rfl, k1, k2, h2, h3.trans (k3.below h3.size (fun i hi => by subst hi; exact h2))⟩
theorem get_bad_b (w0 w : World) (p t : Nat) (l : List Int) (n : Int) (h : RB w0 w p l t) (hl : l.length ≤ 70368744177664) (hn : n < 0 ∨ 64 < n ∨ 8 * (l.length : Int) - t < n) :
    Calls Tryz.prog 222 #[.pointer (some ⟨p, 0, none⟩), .int .i64 n] w fun e w' => e = .returned (.tuple #[.int .u64 0, .bool false]) ∧ RB w0 w' p l t := by
  obtain ⟨h1, h2, h3⟩ := h
  refine (get_bad p t l n w h1 hl hn).mono ?_
  rintro e w' ⟨rfl, k1, k2⟩
  exact ⟨rfl, k1, h2, h3.trans (k2.below h3.size (fun i hi => hi.elim))⟩
theorem left_b (w0 w : World) (p t : Nat) (l : List Int) (h : RB w0 w p l t) (hl : l.length ≤ 70368744177664) :
    Calls Tryz.prog 216 #[.pointer (some ⟨p, 0, none⟩)] w fun e w' => e = .returned (.int .i64 ((8 * l.length - t : Nat) : Int)) ∧ RB w0 w' p l t := by
  obtain ⟨h1, h2, h3⟩ := h
  refine (left_any p t l w h1 hl).mono ?_
  rintro e w' ⟨rfl, k1⟩
  exact ⟨rfl, h1.same k1, h2, h3.trans (k1.below h3.size (fun i hi => hi.elim))⟩

theorem rep_of {R : List Int} {L : List Bool} (hl : L.length ≤ 8 * R.length) (h : (List.range (8 * R.length)).all (fun i => bt R i == L.getD i false) = true) : Rep R L := by
  intro i
  by_cases hi : i < 8 * R.length
  · have := List.all_eq_true.1 h i (List.mem_range.2 hi)
    simpa using this
  · rw [bt_beyond R i (by omega)]
    simp [List.getD, show L.length ≤ i by omega]
theorem nm_of {V U n : Nat} {f : Nat → Bool} (h : Nm V n f) (hU : U < 2 ^ n) (k : (List.range n).all (fun j => U.testBit j == f (n - 1 - j)) = true) : V = U := by
  refine h.unique (fun j => ?_)
  by_cases hj : j < n
  · have := List.all_eq_true.1 k j (List.mem_range.2 hj)
    have h2 : U.testBit j = f (n - 1 - j) := by simpa using this
    rw [h2]
    simp [hj]
  · rw [Nat.testBit_lt_two_pow (Nat.lt_of_lt_of_le hU (Nat.pow_le_pow_right (by omega) (by omega)))]
    simp [hj]

end Go.Proofs.YtalmpmhnkilalaaGreatDoor
