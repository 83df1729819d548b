import Derived.Test.YtalmpmhnkilalaaGreatDoorWrB
import Derived.Handy
import Derived.Test.YtalmpmhnkilalaaGreatDoorWld
namespace Go.Proofs.YtalmpmhnkilalaaGreatDoor
open Go.RowKit
set_option linter.unusedVariables false
set_option maxRecDepth 100000

def setl (R : List Int) : Nat → List Int → List Int
  | o, [] => R
  | o, x :: r => setl (R.set o x) (o + 1) r
theorem setl_len : ∀ (vs : List Int) (R : List Int) (o : Nat), (setl R o vs).length = R.length
  | [], R, o => rfl
  | x :: r, R, o => by rw [setl, setl_len r]; simp
theorem setl_at : ∀ (vs : List Int) (R : List Int) (o q : Nat), o + vs.length ≤ R.length → (setl R o vs).getD q 0 = if o ≤ q ∧ q < o + vs.length then vs.getD (q - o) 0 else R.getD q 0
  | [], R, o, q, h => by
    rw [setl, if_neg (by simp only [List.length_nil]; omega)]
  | x :: r, R, o, q, h => by
    rw [List.length_cons] at h
    rw [setl, setl_at r (R.set o x) (o + 1) q (by simp; omega)]
    simp only [List.length_cons]
    by_cases h1 : q = o
    · subst h1
      rw [if_neg (by omega), if_pos (by omega), Nat.sub_self]
      simp [List.getD, show q < R.length by omega]
    · by_cases h2 : o + 1 ≤ q ∧ q < o + 1 + r.length
      · rw [if_pos h2, if_pos (by omega), show q - o = (q - (o + 1)) + 1 by omega]
        simp [List.getD]
      · rw [if_neg h2, if_neg (by omega)]
        simp [List.getD, List.getElem?_set_ne (Ne.symm h1)]
theorem setl_byte : ∀ (vs : List Int) (R : List Int) (o : Nat), Byte R → Byte vs → Byte (setl R o vs)
  | [], R, o, h, k => h
  | x :: r, R, o, h, k => by
    rw [setl]
    refine setl_byte r _ _ (fun y hy => ?_) (fun y hy => k y (List.mem_cons_of_mem _ hy))
    rcases List.mem_or_eq_of_mem_set hy with h1 | h1
    · exact h y h1
    · subst h1
      exact k _ List.mem_cons_self
theorem owns_sets {base : Nat} {e : TypeId} {g n cap : Nat} : ∀ (vs : List Int) (R : List Int) (o : Nat) (w : World), w.ownsRow base e 1 (.slice (some ⟨g, 0, none⟩) n cap) n (cells8 R) → o + vs.length ≤ R.length →
    (w.setCells g o (cells8 vs)).ownsRow base e 1 (.slice (some ⟨g, 0, none⟩) n cap) n (cells8 (setl R o vs))
  | [], R, o, w, h, hl => h
  | x :: r, R, o, w, h, hl => by
    rw [List.length_cons] at hl
    show ((w.setCell ⟨g, o, none⟩ (.int .u8 x)).setCells g (o + 1) (cells8 r)).ownsRow _ _ _ _ _ (cells8 (setl (R.set o x) (o + 1) r))
    exact owns_sets r (R.set o x) (o + 1) _ (owns_set h o x (by omega)) (by simp; omega)
theorem Chg.sets (g : Nat) : ∀ (vs : List Value) (o : Nat) (w : World), Chg (fun i => i = g) w (w.setCells g o vs)
  | [], o, w => Chg.refl _ _
  | v :: r, o, w => by
    rw [World.setCells]
    exact (Chg.set ⟨g, o, none⟩ v w).trans (Chg.sets g r (o + 1) _) (fun _ _ h => h)

theorem zero5 (w : World) : (zeroValue 5).run Tryz.prog w = .ok (.int .u8 0) w := by kernel_rfl

theorem andnot_eq (y : Int) (d : Nat) (hy : 0 ≤ y ∧ y ≤ 255) (hd : d ≤ 8) : bits .andNot .u8 y ((2 ^ d - 1) % 256) = ((y.toNat &&& (255 - (2 ^ d - 1)) : Nat) : Int) := by
  have e2 : ((2 : Int) ^ d - 1) % 256 = ((2 ^ d - 1 : Nat) : Int) := by
    have : ∀ t, t ≤ 8 → ((2 : Int) ^ t - 1) % 256 = ((2 ^ t - 1 : Nat) : Int) := by decide
    exact this d hd
  have e3 : 2 ^ d - 1 < 256 := by
    have : ∀ t, t ≤ 8 → 2 ^ t - 1 < 256 := by decide
    exact this d hd
  rw [e2, u8_andNot y _ hy.1 (by omega) (by omega) (by omega), Int.toNat_natCast]

theorem cut_end {w w3 : World} {p g n c k s : Nat} {L : List Bool} {R R2 : List Int} (h : WR w p (some g) L (.slice (some ⟨g, 0, none⟩) R.length c) R) (hs : L.length = s) (hks : k < s) (hn : R.length = n)
    (hO : w3.ownsRow 0 5 1 (.slice (some ⟨g, 0, none⟩) n c) n (cells8 R2)) (hB : Blk w3 p 208 [.slice (some ⟨g, 0, none⟩) n c, .int .i64 (k : Int)]) (hR2 : Byte R2) (hl2 : R2.length = n)
    (hc : ∀ q, q < n → R2.getD q 0 = if k % 8 ≠ 0 ∧ q = k / 8 then (((R.getD q 0).toNat &&& (255 - (2 ^ (8 - k % 8) - 1)) : Nat) : Int) else if (k + 7) / 8 ≤ q ∧ q < (s + 7) / 8 then 0 else R.getD q 0) : WS w3 p (some g) (L.take k) := by
  have hlen := h.len
  have ht : (L.take k).length = k := by rw [List.length_take]; omega
  refine ⟨.slice (some ⟨g, 0, none⟩) n c, R2, h.ne, rfl, ?_, ?_, hR2, cut_rep h.rep k (by omega) h.len (by omega) (fun q hq => by rw [hs]; exact hc q (by omega)), by omega⟩
  · rw [ht]
    exact hB
  · rw [hl2]
    exact hO

set_option maxHeartbeats 1000000 in
theorem cut_any (p : Nat) (rb : Option Nat) (L : List Bool) (n : Int) (w : World) (h : WS w p rb L) (hL : L.length ≤ 1099511627840) :
    Calls Tryz.prog 202 #[.pointer (some ⟨p, 0, none⟩), .int .i64 n] w fun e w' => e = .returned (.tuple #[]) ∧ WS w' p rb (L.take n.toNat) ∧ Chg (fpt p rb) w w' := by
  obtain ⟨v, R, hW⟩ := h
  obtain ⟨s, hs⟩ : ∃ s, L.length = s := ⟨_, rfl⟩
  have c1 : w.cell? ⟨p, 1, none⟩ = some (.int .i64 (s : Int)) := by rw [← hs]; exact hW.blk.cell 1
  have f1 := hW.blk.frozen 1
  rw [hs] at hL
  go_enter Tryz.func202, Tryz.ntmps202
  go_upto_region 0 with fail
  go_cut [1] from 5 to 6 (fun s1 wc => s1 = .int .i64 (n.toNat : Int) ∧ wc = w)
  case first =>
    go_wp2_with fail
    all_goals
      go_meet
      case rel =>
        refine ⟨?_, rfl⟩
        congr 1
        omega
  case rest =>
    obtain ⟨rfl, hwc⟩ := hcut
    obtain rfl := hwc.symm
    clear hwc
    obtain ⟨k, hk⟩ : ∃ k, n.toNat = k := ⟨_, rfl⟩
    rw [hk]
    have HKD := hidden hk
    clear hk
    have HS := hidden hs
    have HW := hidden hW
    clear hs hW
    by_cases hks : s ≤ k
    · go_wp2_with fail
      go_returns
      refine ⟨rfl, ?_, Chg.refl _ _⟩
      rw [HKD.out, List.take_of_length_le (by rw [HS.out]; exact hks)]
      exact ⟨v, R, HW.out⟩
    · have hlen := HW.out.len
      rw [HS.out] at hlen
      obtain ⟨ad, c, rfl⟩ := owns_form HW.out.row
      obtain ⟨g, rfl⟩ : ∃ g, ad = some ⟨g, 0, none⟩ := by
        rcases HW.out.row.2 with ⟨h0, h1⟩ | ⟨g, cap, cur, h0, _⟩
        · omega
        · simp only [Value.slice.injEq] at h0
          exact ⟨g, h0.1⟩
      obtain ⟨N', hN⟩ : ∃ N', R.length = N' := ⟨_, rfl⟩
      have hg : rb = some g := HW.out.own.symm
      subst hg
      have c0 : w.cell? ⟨p, 0, none⟩ = some (.slice (some ⟨g, 0, none⟩) N' c) := by rw [← hN]; exact HW.out.blk.cell 0
      obtain ⟨_, hnc, hcm, _⟩ := owns_cap HW.out.row
      have hcm2 : c ≤ 9223372036854775807 := by unfold maxLen at hcm; omega
      rw [hN] at hnc hlen
      have HN := hidden hN
      clear hN hcm
      obtain ⟨a, ha⟩ : ∃ a, (k + 7) / 8 = a := ⟨_, rfl⟩
      obtain ⟨b, hb⟩ : ∃ b, (s + 7) / 8 = b := ⟨_, rfl⟩
      have hab : a ≤ b := by omega
      have hbn : b ≤ N' := by omega
      have HB1 := hidden (fun w => ha ▸ bytesOf_any k w (by omega))
      have HB2 := hidden (fun w => hb ▸ bytesOf_any s w (by omega))
      have HA := hidden ha
      have HBB := hidden hb
      clear ha hb
      have hks' : k < s := by omega
      have hfr : ∀ j, w.frozen? ⟨g, j, none⟩ = false := fun j => by
        rcases HW.out.row.2 with ⟨h0, _⟩ | ⟨g', cap, cur, h0, _, hh, _⟩
        · cases h0
        · simp only [Value.slice.injEq, Option.some.injEq, Addr.mk.injEq] at h0
          obtain ⟨⟨rfl, _⟩, _, rfl⟩ := h0
          exact frozen_of_row w g j _ 5 hh
      have hcl : ∀ j, j < N' → w.cell? ⟨g, j, none⟩ = some (.int .u8 (R.getD j 0)) := fun j hj => by
        have hj2 : j < R.length := by rw [HN.out]; exact hj
        rw [HW.out.row.cellAt j (by omega)]
        simp [cells8, List.getD, hj2]
      have HCLR : Hid (∀ w1, Lat w w1 → (Builtin.clear_ #[22] 0 #[.slice (if c = a then some ⟨g, 0, none⟩ else some ⟨g, a, none⟩) (b - a) (c - a)]).run Tryz.prog w1 = .ok (.tuple #[]) (w1.setCells g a (cells8 (List.replicate (b - a) 0)))) := by
        intro w1 hL
        by_cases hlt : a < b
        · rw [if_neg (by omega)]
          have := Go.Lib.run_clear_slice w1 22 5 0 (.int .u8 0) Tryz.underlying22 zero5 rfl rfl g a (b - a) (c - a) (by omega) (fun j hj => by rw [hL.cell (p := ⟨g, a + j, none⟩) (HW.out.lt g (.inr rfl)), hcl _ (by omega)]; rfl) (fun j hj => by
            have := hfr (a + j)
            rw [← this]
            exact World.frozen?_of_block (hL.block g (HW.out.lt g (.inr rfl))))
          rw [this]
          simp [cells8]
        · rw [show b - a = 0 by omega]
          split <;> rfl
      have HCL := hidden hcl
      have HSLA : Hid (∀ w1, (Instr.sliceAt 22 (.slice (some ⟨g, 0, none⟩) N' c) (some (.int .i64 (a : Int))) (some (.int .i64 (b : Int))) Option.none).run Tryz.prog w1 = .ok (.slice (if c = a then some ⟨g, 0, none⟩ else some ⟨g, a, none⟩) (b - a) (c - a)) w1) := fun w1 => run_slice_ab w1 g N' c a b hab (by omega)
      have HC0 : Hid (∀ w1, Lat w w1 → w1.cell? ⟨p, 0, none⟩ = some (.slice (some ⟨g, 0, none⟩) N' c)) := fun w1 hL => by rw [hL.cell (p := ⟨p, 0, none⟩) HW.out.blk.lt]; exact c0
      have HC1 : Hid (∀ w1, Lat w w1 → w1.cell? ⟨p, 1, none⟩ = some (.int .i64 (s : Int))) := fun w1 hL => by rw [hL.cell (p := ⟨p, 1, none⟩) HW.out.blk.lt]; exact c1
      clear hcl hfr
      have hks8 : k / 8 < N' := by omega
      go_wp2_with fail
      refine cut_r2 p g N' c k s a b _ _ _ _ _ (by rfl) (by rfl) (by rfl) HC0.out HC1.out HB1.out HB2.out HSLA.out HCLR.out ?_
      intro v13 v14 v15 v16 v17 v18 v19 v20 v21 v22 v23 v24 w1 hL
      have hCh : Chg (fpt p (some g)) w (w1.setCells g a (cells8 (List.replicate (b - a) 0))) := (Chg.of_below (F := fpt p (some g)) hL).trans (Chg.sets g _ a w1) (fun i _ h => .inr (by rw [h]))
      have hW1 : WR w1 p (some g) L (.slice (some ⟨g, 0, none⟩) R.length c) R := HW.out.chg (Chg.of_below (F := fun _ => False) hL) (fun _ _ h => h)
      have hrow := hW1.row
      rw [HN.out] at hrow
      have hO := owns_sets (List.replicate (b - a) 0) R a w1 hrow (by rw [List.length_replicate, HN.out]; omega)
      have hB := (Chg.sets g (cells8 (List.replicate (b - a) 0)) a w1).blk hW1.blk (fun e => HW.out.ne (by rw [e]))
      obtain ⟨R1, hR1⟩ : ∃ R1, setl R a (List.replicate (b - a) 0) = R1 := ⟨_, rfl⟩
      have hR1l : R1.length = N' := by rw [← hR1, setl_len, HN.out]
      have hR1a : ∀ q, R1.getD q 0 = if a ≤ q ∧ q < b then 0 else R.getD q 0 := fun q => by
        rw [← hR1, setl_at _ _ _ _ (by rw [List.length_replicate, HN.out]; omega), List.length_replicate, show a + (b - a) = b by omega]
        split
        · simp [List.getD, List.getElem?_replicate]
          split <;> rfl
        · rfl
      have hR1b : Byte R1 := by
        rw [← hR1]
        exact setl_byte _ _ _ HW.out.byte (fun y hy => by have := List.eq_of_mem_replicate hy; omega)
      rw [hR1] at hO
      rw [HS.out, HN.out] at hB
      obtain ⟨w2, hw2⟩ : ∃ w2, w1.setCells g a (cells8 (List.replicate (b - a) 0)) = w2 := ⟨_, rfl⟩
      rw [hw2] at hCh hO hB
      show Exit.then _ _ .normal _ (w1.setCells g a (cells8 (List.replicate (b - a) 0)))
      rw [hw2]
      clear hw2 hR1 hrow hW1 hL
      have HCh := hidden hCh
      have HO := hidden hO
      have HBk := hidden hB
      have HR1a := hidden hR1a
      have HR1b := hidden hR1b
      have HR1l := hidden hR1l
      clear hCh hO hB hR1a hR1b hR1l c0 c1 f1 HC0 HC1 HB1 HB2 HSLA HCLR
      simp only [Act.put, List.setIfInBounds_toArray, List.set_cons_succ, List.set_cons_zero]
      obtain ⟨r, hr⟩ : ∃ r, k % 8 = r := ⟨_, rfl⟩
      have hri : (k : Int) % 8 = (r : Int) := by omega
      have hr8 : r < 8 := by omega
      have HR := hidden hr
      clear hr
      have e0 : w2.cell? ⟨p, 0, none⟩ = some (.slice (some ⟨g, 0, none⟩) N' c) := HBk.out.cell 0
      have e1 : w2.cell? ⟨p, 1, none⟩ = some (.int .i64 (s : Int)) := HBk.out.cell 1
      have ef := HBk.out.frozen 1
      by_cases hr0 : r = 0
      · subst hr0
        go_wp2_with fail
        go_end0
        rw [HKD.out]
        have hB3 : Blk (w2.setCell ⟨p, 1, none⟩ (.int .i64 (k : Int))) p 208 [.slice (some ⟨g, 0, none⟩) N' c, .int .i64 (k : Int)] := HBk.out.set 1 _
        have hO3 := ownsRow_setCell_other HO.out (a := ⟨p, 1, none⟩) (fun e => HW.out.ne (by simpa [Value.ownBlock] using e)) (.int .i64 (k : Int))
        refine ⟨rfl, cut_end HW.out HS.out hks' HN.out hO3 hB3 HR1b.out HR1l.out (fun q hq => ?_), HCh.out.trans (Chg.set ⟨p, 1, none⟩ _ w2) (fun i _ h => .inl h)⟩
        rw [HR1a.out q, HA.out, HBB.out, HR.out]
        simp
      · obtain ⟨q, hq⟩ : ∃ q, k / 8 = q := ⟨_, rfl⟩
        have hqi : (k : Int) / 8 = (q : Int) := by omega
        have hqb : q ≤ 1099511627840 := by omega
        rw [hq] at hks8
        obtain ⟨d, hd⟩ : ∃ d, 8 - r = d := ⟨_, rfl⟩
        have hdi : 8 - (r : Int) = (d : Int) := by omega
        have hd8 : d ≤ 8 := by omega
        obtain ⟨y, hy⟩ : ∃ y, R1.getD q 0 = y := ⟨_, rfl⟩
        have hyb := HR1b.out.at q
        rw [hy] at hyb
        have hyR : y = R.getD q 0 := by
          rw [← hy, HR1a.out q, if_neg]
          have := HA.out
          have := HR.out
          omega
        have cq : w2.cell? ⟨g, q, none⟩ = some (.int .u8 y) := by
          have hq2 : q < R1.length := by rw [HR1l.out]; exact hks8
          rw [HO.out.cellAt q (by omega), ← hy]
          simp [cells8, List.getD, hq2]
        have fq : w2.frozen? ⟨g, q, none⟩ = false := by
          rcases HO.out.2 with ⟨h0, _⟩ | ⟨g', cap, cur, h0, _, hh, _⟩
          · cases h0
          · simp only [Value.slice.injEq, Option.some.injEq, Addr.mk.injEq] at h0
            obtain ⟨⟨rfl, _⟩, _, rfl⟩ := h0
            exact frozen_of_row w2 g q _ 5 hh
        have HY := hidden hy
        have HYR := hidden hyR
        have HQ := hidden hq
        have HD := hidden hd
        clear hy hyR hq hd
        go_wp2_with fail
        go_region
        rw [andnot_eq y d hyb hd8]
        obtain ⟨X, hX⟩ : ∃ X, y.toNat &&& (255 - (2 ^ d - 1)) = X := ⟨_, rfl⟩
        rw [hX]
        have hXb : X < 256 := by
          have : y.toNat &&& (255 - (2 ^ d - 1)) ≤ y.toNat := Nat.and_le_left
          omega
        have hO3 := owns_set HO.out q (X : Int) (by rw [HR1l.out]; exact hks8)
        have hB3 := HBk.out.setOff ⟨g, q, none⟩ (.int .u8 (X : Int)) (fun e => HW.out.ne (by rw [e]))
        have hC3 : Chg (fpt p (some g)) w (w2.setCell ⟨g, q, none⟩ (.int .u8 (X : Int))) := HCh.out.trans (Chg.set ⟨g, q, none⟩ _ w2) (fun i _ h => .inr (by rw [h]))
        obtain ⟨w3, hw3⟩ : ∃ w3, (w2.setCell ⟨g, q, none⟩ (.int .u8 (X : Int))).drew = w3 := ⟨_, rfl⟩
        have hO4 : w3.ownsRow 0 5 1 (.slice (some ⟨g, 0, none⟩) N' c) N' (cells8 (R1.set q (X : Int))) := by rw [← hw3]; exact hO3
        have hB4 : Blk w3 p 208 [.slice (some ⟨g, 0, none⟩) N' c, .int .i64 (s : Int)] := by rw [← hw3]; exact hB3
        have hC4 : Chg (fpt p (some g)) w w3 := by rw [← hw3]; exact hC3.trans (Chg.drew (fun _ => False) _) (fun _ _ h => h.elim)
        rw [hw3]
        clear hO3 hB3 hC3 hw3 e0 e1 ef cq fq
        have e1 : w3.cell? ⟨p, 1, none⟩ = some (.int .i64 (s : Int)) := hB4.cell 1
        have ef := hB4.frozen 1
        have HO4 := hidden hO4
        have HB4 := hidden hB4
        have HC4 := hidden hC4
        have HX := hidden hX
        clear hO4 hB4 hC4 hX
        go_wp2_with fail
        go_end0
        rw [HKD.out]
        have hB5 : Blk (w3.setCell ⟨p, 1, none⟩ (.int .i64 (k : Int))) p 208 [.slice (some ⟨g, 0, none⟩) N' c, .int .i64 (k : Int)] := HB4.out.set 1 _
        have hO5 := ownsRow_setCell_other HO4.out (a := ⟨p, 1, none⟩) (fun e => HW.out.ne (by simpa [Value.ownBlock] using e)) (.int .i64 (k : Int))
        refine ⟨rfl, cut_end HW.out HS.out hks' HN.out hO5 hB5 ?_ (by rw [List.length_set]; exact HR1l.out) (fun j hj => ?_), HC4.out.trans (Chg.set ⟨p, 1, none⟩ _ w3) (fun i _ h => .inl h)⟩
        · intro x hx
          rcases List.mem_or_eq_of_mem_set hx with h1 | h1
          · exact HR1b.out x h1
          · omega
        · rw [HA.out, HBB.out, HR.out, HQ.out, HD.out]
          have hql : q < R1.length := by rw [HR1l.out]; exact hks8
          by_cases hj : j = q
          · subst hj
            rw [if_pos ⟨hr0, rfl⟩, ← HYR.out, HX.out]
            simp [List.getD, hql]
          · rw [if_neg (fun h => hj h.2), ← HR1a.out j]
            simp [List.getD, List.getElem?_set_ne (Ne.symm hj)]

end Go.Proofs.YtalmpmhnkilalaaGreatDoor

namespace Go.Proofs.YtalmpmhnkilalaaGreatDoor
open Go.RowKit
set_option linter.unusedVariables false

/-- bytes.Clone. -/
theorem clone_any (ad : Option Addr) (n c : Nat) (l : List Int) (w : World) (h : Sl w ad n l) (hn : n ≤ 70368744177664) (hnone : ad = none → n = 0 ∧ c = 0) :
    Calls Tryz.prog 33 #[.slice ad n c] w fun e w' => ∃ ad' c', e = .returned (.slice ad' n c') ∧ w'.ownsRow w.heap.size 5 1 (.slice ad' n c') n (cells8 l) ∧ Below w.heap.size w w' := by
  obtain ⟨i0, hi, hz0, hz1, hz2⟩ := info_parts info5
  have HS := hidden h
  clear h
  go_enter Tryz.func33, Tryz.ntmps33
  cases ad with
  | none =>
    obtain ⟨rfl, rfl⟩ := hnone rfl
    have heq := fun (w : World) => Go.Lib.run_eql_slice_nil (P := Tryz.prog) w 22 5 none 0 0 0 0 Tryz.underlying22
    go_wp2_with fail
    go_ret
    have hl : l = [] := List.eq_nil_of_length_eq_zero HS.out.len
    subst hl
    exact ⟨none, 0, rfl, World.ownsRow_nil _ _ _ _, Below.refl _ _⟩
  | some x =>
    clear hnone
    have heq := fun (w : World) => Go.Lib.run_eql_slice_nil (P := Tryz.prog) w 22 5 (some x) n c 0 0 Tryz.underlying22
    go_wp2_with (first
      | (at_builtin; refine wpList_append_sl _ rfl _ _ 22 rfl w.heap.size 5 i0 (.int .u8 0) Tryz.underlying22 hi hz0 hz1 hz2 rfl (.slice (some ⟨w.heap.size, 0, none⟩) 0 0) 0 [] rfl ?_ (some x) n c l rfl ?_ (fun h => by cases h) (by omega) (by simp) ?_))
    · refine ⟨rfl, .inr ⟨w.heap.size, 0, #[], rfl, Nat.le_refl _, ?_, Nat.le_refl _, by unfold maxLen; omega, rfl, rfl⟩⟩
      exact heap_alloc_new w _
    · exact (Chg.alloc (fun _ => False) w _).sl HS.out (fun _ _ _ h => h)
    · intro ad' c' w' h1 h2
      have h3 : Below w.heap.size w w' := ((Below.refl _ _).alloc (Nat.le_refl _) (Obj.cells #[] 5)).grown h2 (by simp) (fun k hk => by simp [Value.ownBlock] at hk; omega)
      have H1 := hidden h1
      have H3 := hidden h3
      clear h1 h2 h3
      go_wp2_with fail
      go_ret
      exact ⟨ad', c', rfl, H1.out, H3.out⟩

set_option maxHeartbeats 1000000 in
theorem bytes_any (p : Nat) (rb : Option Nat) (L : List Bool) (w : World) (h : WS w p rb L) (hL : L.length ≤ 1099511627840) :
    Calls Tryz.prog 203 #[.pointer (some ⟨p, 0, none⟩)] w fun e w' => ∃ ad' c' R, e = .returned (.slice ad' ((L.length + 7) / 8) c') ∧ R.length = (L.length + 7) / 8 ∧ w'.ownsRow w.heap.size 5 1 (.slice ad' ((L.length + 7) / 8) c') ((L.length + 7) / 8) (cells8 R) ∧ Byte R ∧ Rep R L ∧ Below w.heap.size w w' := by
  obtain ⟨v, R, hW⟩ := h
  obtain ⟨ad, c, rfl⟩ := owns_form hW.row
  obtain ⟨m, hm⟩ : ∃ m, L.length = m := ⟨_, rfl⟩
  obtain ⟨k, hk⟩ : ∃ k, (m + 7) / 8 = k := ⟨_, rfl⟩
  obtain ⟨n, hn⟩ : ∃ n, R.length = n := ⟨_, rfl⟩
  have c0 : w.cell? ⟨p, 0, none⟩ = some (.slice ad n c) := by rw [← hn]; exact hW.blk.cell 0
  have c1 : w.cell? ⟨p, 1, none⟩ = some (.int .i64 (m : Int)) := by rw [← hm]; exact hW.blk.cell 1
  have hlen := hW.len
  rw [hm, hn] at hlen
  rw [hm] at hL ⊢
  rw [hk]
  obtain ⟨_, hnc, hcm, hnone⟩ := owns_cap hW.row
  rw [hn] at hnc hnone
  have HNONE : Hid (ad = none → k = 0 ∧ c = 0) := fun e => by have := hnone e; omega
  clear hnone
  have hkn : k ≤ n := by omega
  have hcm2 : c ≤ 9223372036854775807 := by unfold maxLen at hcm; omega
  have hS := sl_of_owns hW.row hW.byte
  rw [hn] at hS
  have HB := hidden (fun w => hk ▸ bytesOf_any m w (by omega))
  have HC := hidden (fun w (h : Sl w ad k (R.take k)) => clone_any ad k c (R.take k) w h (by omega))
  have HSK : Hid (Sl w ad k (R.take k)) := hS.take hkn
  have HW := hidden hW
  have HK := hidden hk
  have HM := hidden hm
  have HN := hidden hn
  clear hS hW hk hm hn
  go_enter Tryz.func203, Tryz.ntmps203
  go_wp2_with fail
  go_region_with (first
    | (refine (HB.out _).mono ?_; rintro e w' ⟨rfl, rfl⟩)
    | (refine (HC.out _ ((Chg.drew (fun _ => False) w).sl HSK.out (fun _ _ _ h => h)) HNONE.out).mono ?_; rintro e w' ⟨ad', c', rfl, ho, hb⟩))
  all_goals
    have HO : Hid (w'.ownsRow w.heap.size 5 1 (Value.slice ad' k c') k (cells8 (List.take k R))) := ho
    have HBB : Hid (Below w.heap.size w w') := ((Below.refl _ w).drew).trans hb
    clear ho hb
    go_wp2_with fail
    go_ret
    have hk := HK.out
    have hm := HM.out
    refine ⟨ad', c', R.take k, rfl, by rw [List.length_take, HN.out]; omega, HO.out, HW.out.byte.take k, HW.out.rep.take k (by omega), HBB.out⟩

end Go.Proofs.YtalmpmhnkilalaaGreatDoor
