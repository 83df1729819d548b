import Derived.Test.YtnfjhdedcnbdbaaGreatLent
import Derived.Test.YtnfjhdedcnbdbaaGreatWgA
import Derived.BigQuiet
import Derived.Laws.CopyOwn
namespace Go.Proofs.YtnfjhdedcnbdbaaGreat
open Go.RowKit
set_option linter.unusedVariables false

theorem getD_left (l : List Int) (j : Nat) (h : j < l.length) : (l ++ List.replicate 8 201).getD j 0 = l.getD j 0 := by
  simp [List.getD, List.getElem?_append_left h]
theorem getD_right (l : List Int) (j : Nat) (h : l.length ≤ j) (h2 : j < l.length + 8) : (l ++ List.replicate 8 201).getD j 0 = 201 := by
  rw [List.getD_eq_getElem?_getD, List.getElem?_append_right h, List.getElem?_replicate, if_pos (by omega)]
  rfl

/-- Bytes that were lent are as they were. -/
theorem lent_cell {w : World} {g len : Nat} {l : List Int} (h : Blk w g 5 (cells8 (l ++ List.replicate 8 201))) (hl : l.length = len) : ∀ j, j < len + 8 → w.cell? ⟨g, 0 + j, none⟩ = some (.int .u8 ((l ++ List.replicate 8 201).getD j 0)) := by
  intro j hj
  rw [Nat.zero_add, h.cell]
  have : j < (l ++ List.replicate 8 (201 : Int)).length := by simp; omega
  simp only [cells8, List.getElem?_map, List.getElem?_eq_getElem this, Option.map_some, List.getD, Option.getD_some]
theorem lent_sl {w : World} {g len : Nat} {l : List Int} (h : Blk w g 5 (cells8 (l ++ List.replicate 8 201))) (hl : l.length = len) (hb : Byte l) : Sl w (some ⟨g, 0, none⟩) len l := by
  refine ⟨hl, hb, fun j hj => ⟨_, rfl, ?_⟩⟩
  have := lent_cell h hl j (by omega)
  rw [getD_left l j (by omega)] at this
  rw [Addr.add_lit]
  exact this

end Go.Proofs.YtnfjhdedcnbdbaaGreat

/-
  WalPlays: bytes that are lent.
-/
namespace Go.Proofs.YtnfjhdedcnbdbaaGreat
open Go.RowKit
set_option linter.unusedVariables false
set_option linter.unusedSimpArgs false

set_option maxRecDepth 100000 in
set_option maxHeartbeats 1000000 in
theorem lentP (ad : Option Addr) (len cap : Nat) (l : List Int) (w : World) (hs : Sl w ad len l) (hb : len ≤ 140737488355000) : Calls Tryz.prog 21 #[.slice ad len cap] w fun e w' =>
    e = .returned (.slice (some ⟨w.heap.size, 0, none⟩) len (len + 8)) ∧ Blk w' w.heap.size 5 (cells8 (l ++ List.replicate 8 201)) ∧ Below w.heap.size w w' := by
  obtain ⟨i0, hi, hz0, hz1, hz2⟩ := info_parts info5
  have hlen := hs.len
  have HS := hidden hs
  have HLEN := hidden hlen
  clear hs hlen
  obtain ⟨g, hg⟩ : ∃ g, w.heap.size = g := ⟨_, rfl⟩
  go_enter Tryz.func21, Tryz.ntmps21
  go_wp2_with (first
    | (refine wpList_make_room w rfl (.tmp 7) (.tmp 7) 28 rfl 5 i0 (.int .u8 0) Tryz.underlying28 hi hz0 hz1 hz2 rfl .i64 .i64 _ _ (len + 8) (len + 8) rfl rfl ?_ ?_ (Nat.le_refl _) (by omega) ?_; (omega); (omega); intro w1 B1 hsz1 bl1; have HB1 := hidden B1; have HBL1 := hidden bl1; clear B1 bl1)
    | (refine wpList_copy_splice rfl (.tmp 9) (.tmp 10) 28 28 rfl 5 Tryz.underlying28 size5b _ _ _ _ _ _ rfl rfl g 0 (List.replicate (len + 8) (Value.int .u8 0)) 5 (by rw [← hg]; exact HB1.out) (cells8 l) (lent_min HLEN.out) (fun hp => ⟨rfl, lent_src (HS.out.later HBL1.out) hp⟩) (lent_fit HLEN.out) (cells8_one l) g w (by rw [← hg]; exact HBL1.out) (Nat.le_refl _) ?_; intro w2 B2 bl2; have HBL2 := hidden bl2; clear bl2))
  have HB2 : Hid (Blk w2 g 5 (cells8 (lentTo l l.length))) := by
    have := B2.out
    rw [← HLEN.out, splice_zero] at this
    exact this
  have HG := hidden hg
  clear B2 HB1 HBL1 hg hsz1
  go_loopw [4] (fun iv wr => ∃ i : Nat, len ≤ i ∧ i ≤ len + 8 ∧ iv = .int .i64 i ∧ Blk wr g 5 (cells8 (lentTo l i)) ∧ Below g w wr) (fun iv _ => len + 8 - (intOf iv).toNat)
  case atStart => exact ⟨len, Nat.le_refl _, by omega, rfl, by rw [← HLEN.out]; exact HB2.out, HBL2.out⟩
  case round =>
    rename World => wr
    obtain ⟨i, hi1, hi2, rfl, hB, hbl⟩ := hrel
    clear HB2 HBL2
    have HB := hidden hB
    have HBL := hidden hbl
    clear hB hbl
    by_cases hlt : i < len + 8
    · have hc : ∃ v, wr.cell? ⟨g, i, none⟩ = some v := by
        rw [HB.out.cell]
        exact ⟨_, List.getElem?_eq_getElem (by rw [cells8_length, lentTo_len l i (by rw [HLEN.out]; exact hi1) (by rw [HLEN.out]; exact hi2), HLEN.out]; exact hlt)⟩
      obtain ⟨v, hc⟩ := hc
      have hf := HB.out.frozen i
      go_wp2_with fail
      refine ⟨⟨i + 1, by omega, by omega, rfl, ?_, HBL.out.setCell (Nat.le_refl g) _⟩, ?_⟩
      · rw [← lentTo_step l i (by rw [HLEN.out]; exact hi1) (by rw [HLEN.out]; exact hlt)]
        exact HB.out.set i _
      · simp only [intOf]; omega
    · have hge : (len : Int) + 8 ≤ i := by omega
      have hie : i = l.length + 8 := by rw [HLEN.out]; omega
      have HF : Hid (Blk wr g 5 (cells8 (l ++ List.replicate 8 201))) := by
        have := HB.out
        rw [hie, lentTo_full] at this
        exact this
      clear hie
      go_wp2_with fail
      go_ret
      rw [HG.out]
      exact ⟨rfl, HF.out, HBL.out⟩

theorem bk_at (m : List Int) (i : Nat) (h : i < m.length) : (cells8 (List.replicate i 202 ++ m.drop i))[i]? = some (.int .u8 (m.getD i 0)) := by
  unfold cells8
  rw [List.getElem?_map, List.getElem?_append_right (by simp)]
  simp [List.getD, h]
theorem bk_set (m : List Int) (i : Nat) (h : i < m.length) : (cells8 (List.replicate i 202 ++ m.drop i)).set i (.int .u8 202) = cells8 (List.replicate (i + 1) 202 ++ m.drop (i + 1)) := by
  unfold cells8
  apply List.ext_getElem?
  intro j
  rw [List.getElem?_set]
  by_cases hj : i = j
  · subst hj
    rw [if_pos rfl, if_pos (by simp; omega)]
    rw [List.getElem?_map, List.getElem?_append_left (by simp)]
    simp [List.getElem?_replicate]
  · rw [if_neg hj]
    simp only [List.getElem?_map]
    congr 1
    rcases Nat.lt_or_ge j i with k | k
    · rw [List.getElem?_append_left (by simp; omega), List.getElem?_append_left (by simp; omega)]
      simp [List.getElem?_replicate, k, Nat.lt_succ_of_lt k]
    · rw [List.getElem?_append_right (by simp; omega), List.getElem?_append_right (by simp; omega)]
      simp
      congr 1
      omega

set_option maxRecDepth 100000 in
set_option maxHeartbeats 2000000 in
theorem backP (g : Nat) (sa : Option Addr) (len cs : Nat) (l : List Int) (w : World) (hB : Blk w g 5 (cells8 (l ++ List.replicate 8 201))) (hs : Sl w sa len l) (hne : ∀ x, sa = some x → 0 < len → x.block ≠ g) (hb : len ≤ 2147483648) :
    Calls Tryz.prog 34 #[.slice (some ⟨g, 0, none⟩) len (len + 8), .slice sa len cs] w fun e w' => e = .returned (.bool true) ∧ Chg (fun i => i = g) w w' := by
  have HO := hidden hB
  have HS := hidden hs
  have HNE := hidden hne
  have HL := hidden hs.len
  clear hB hs hne
  have hcap : ((len : Int) + 8) = ((len + 8 : Nat) : Int) := by omega
  obtain ⟨N, hN⟩ : ∃ N, len + 8 = N := ⟨_, rfl⟩
  rw [hN] at hcap ⊢
  have HN := hidden hN
  go_enter Tryz.func34, Tryz.ntmps34
  go_wp2_with fail
  go_loopw [6, 7] (fun okv iv wr => ∃ i : Nat, i ≤ N ∧ okv = .bool true ∧ iv = .int .i64 (i : Int) ∧ Blk wr g 5 (cells8 (List.replicate i 202 ++ (l ++ List.replicate 8 201).drop i)) ∧ Chg (fun k => k = g) w wr) (fun _ iv _ => N - (intOf iv).toNat)
  case atStart => exact ⟨0, Nat.zero_le _, rfl, rfl, by simpa using HO.out, Chg.refl _ _⟩
  case round =>
    rename World => wr
    obtain ⟨i, hi, rfl, rfl, hOr, hC⟩ := hrel
    by_cases hlt : i < N
    · have hll : (l ++ List.replicate 8 201).length = N := by simp [HL.out]; omega
      have hxi : wr.cell? ⟨g, i, none⟩ = some (.int .u8 ((l ++ List.replicate 8 201).getD i 0)) := by rw [hOr.cell]; exact bk_at _ i (by omega)
      have hfi := hOr.frozen i
      have HOr := hidden hOr
      have HC := hidden hC
      have fin : ∀ w2, (∃ n, w2 = ((wr.setCell ⟨g, i, none⟩ (.int .u8 202)).drewN n)) → Blk w2 g 5 (cells8 (List.replicate (i + 1) 202 ++ (l ++ List.replicate 8 201).drop (i + 1))) ∧ Chg (fun k => k = g) w w2 := by
        rintro w2 ⟨n, rfl⟩
        have h1 := HOr.out.set i (.int .u8 202)
        rw [bk_set _ i (by omega)] at h1
        exact ⟨(Chg.drewN (fun _ => False) _ n).blk h1 (fun h => h), (HC.out.trans (Chg.set ⟨g, i, none⟩ _ wr) (fun _ _ h => h)).trans (Chg.drewN _ _ n) (fun _ _ h => h)⟩
      have HFIN := hidden fin
      clear fin hOr hC
      by_cases hk2 : i < len
      · have hv : (l ++ List.replicate 8 201).getD i 0 = l.getD i 0 := by simp [List.getD, List.getElem?_append_left (by rw [HL.out]; exact hk2)]
        rw [hv] at hxi
        have hsr : Sl wr sa len l := HC.out.sl HS.out (fun x hx h0 e => HNE.out x hx h0 e)
        obtain ⟨b, off, hcc⟩ := hsr.at (by omega)
        obtain ⟨rfl, hcell⟩ : sa = some ⟨b, off, none⟩ ∧ ∀ j, j < len → wr.cell? ⟨b, off + j, none⟩ = some (.int .u8 (l.getD j 0)) := by first | exact ⟨hcc.1, hcc.2.2⟩ | exact hcc
        have hsk := hcell i hk2
        clear hcell hcc hsr hv
        generalize l.getD i 0 = z at *
        have hd : decide (len ≤ i) = false := by simp; omega
        have hki : (i : Int) < (len : Int) := by omega
        have hmin : min (i : Int) ((len : Int) - 1) = (i : Int) := by omega
        go_wp2_with fail
        go_quiet (fail)
        go_wp2_with fail
        obtain ⟨q1, q2⟩ := HFIN.out _ ⟨_, rfl⟩
        refine ⟨⟨i + 1, by omega, by first | rfl | simp, by first | rfl | simp, q1, q2⟩, ?_⟩
        simp [intOf]
        omega
      · have hv : (l ++ List.replicate 8 201).getD i 0 = 201 := getD_right l i (by rw [HL.out]; omega) (by rw [HL.out]; omega)
        rw [hv] at hxi
        have hd : decide ((i : Int) < (len : Int)) = false := by simp; omega
        have hki : (len : Int) ≤ (i : Int) := by omega
        go_wp2_with fail
        go_quiet (fail)
        go_wp2_with fail
        obtain ⟨q1, q2⟩ := HFIN.out _ ⟨_, rfl⟩
        refine ⟨⟨i + 1, by omega, by first | rfl | simp, by first | rfl | simp, q1, q2⟩, ?_⟩
        simp [intOf]
        omega
    · have hiN : i = N := by omega
      subst hiN
      have HOr := hidden hOr
      have HC := hidden hC
      clear hOr hC
      go_wp2_with fail
      go_ret
      exact ⟨rfl, HC.out⟩

end Go.Proofs.YtnfjhdedcnbdbaaGreat
