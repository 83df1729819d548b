import Derived.Test.YtnfjhdedcnbdbaaGreatChecked
import Derived.Test.YtnfjhdedcnbdbaaGreatCrcM
import Derived.Test.YtnfjhdedcnbdbaaGreatAny
import Derived.Deep.QuietTactic
import Derived.BigQuiet
namespace Go.Proofs.YtnfjhdedcnbdbaaGreat
open Go.RowKit
set_option linter.unusedVariables false

theorem xor32 (a b : Nat) (ha : a < 4294967296) (hb : b < 4294967296) : bits .xor .u32 (a : Int) (b : Int) = ((a ^^^ b : Nat) : Int) := u32_xor_nat a b ha hb
theorem not32 (a : Nat) (ha : a < 4294967296) : bits .xor .u32 IntKind.u32.max (a : Int) = ((4294967295 - a : Nat) : Int) := by
  have h := N_not (BitVec.ofNat 32 a)
  have e : N (BitVec.ofNat 32 a) = a := by
    unfold N
    rw [BitVec.toNat_ofNat]
    omega
  rw [e] at h
  refine h.trans ?_
  unfold N
  rw [BitVec.toNat_not, BitVec.toNat_ofNat]
  omega
theorem and32_1 (a : Nat) (ha : a < 4294967296) : bits .and .u32 (a : Int) 1 = ((a % 2 : Nat) : Int) := by
  have := u32_and_nat a 1 ha (by decide)
  rw [Nat.and_one_is_mod] at this
  exact this
theorem and32_15 (a : Nat) (ha : a < 4294967296) : bits .and .u32 (a : Int) 15 = ((a % 16 : Nat) : Int) := by
  have := u32_and_nat a 15 ha (by decide)
  rw [show a &&& 15 = a % 16 from Nat.and_two_pow_sub_one_eq_mod a 4] at this
  exact this

set_option maxHeartbeats 400000 in
set_option maxRecDepth 100000 in
theorem shiftOut_any (n : Nat) (w : World) (hn : n < 4294967296) : Calls Tryz.prog 104 #[.int .u32 (n : Int)] w fun e w' => e = .returned (.int .u32 (sNs 4 n : Nat)) ∧ w' = w := by
  go_enter Tryz.func104, Tryz.ntmps104
  go_wp2_with fail
  go_loopw [0, 4] (fun nv iv wr => ∃ i : Nat, i ≤ 4 ∧ iv = .int .i64 i ∧ nv = .int .u32 (sNs i n : Nat) ∧ wr = w) (fun _ iv _ => 4 - (intOf iv).toNat)
  case atStart => exact ⟨0, by omega, rfl, rfl, rfl⟩
  case round =>
    obtain ⟨i, hi, rfl, rfl, rfl⟩ := hrel
    by_cases hlt : i < 4
    · have hb := sNs_lt i n hn
      have hs : sNs (i + 1) n = sN (sNs i n) := rfl
      have HS := hidden hs
      clear hs
      generalize sNs i n = x at *
      have hx : bits .xor .u32 ((x : Int) / 2) 3988292384 = ((x / 2 ^^^ 3988292384 : Nat) : Int) := xor32 (x / 2) 3988292384 (by omega) (by decide)
      have ha := and32_1 x hb
      have H2 : Hid (sN x = (x / 2) ^^^ (if x % 2 = 1 then 3988292384 else 0)) := rfl
      by_cases hm : x % 2 = 1
      · have hm' : (((x % 2 : Nat) : Int) == 1) = true := by rw [hm]; rfl
        have HM := hidden hm
        clear hm
        go_wp2
        refine ⟨⟨i + 1, by omega, rfl, ?_, trivial⟩, ?_⟩
        · rw [HS.out, H2.out, if_pos HM.out]
        · simp only [intOf]; omega
      · have hm' : (((x % 2 : Nat) : Int) == 1) = false := by rw [show x % 2 = 0 by omega]; rfl
        have HM := hidden hm
        clear hm
        go_wp2
        refine ⟨⟨i + 1, by omega, rfl, ?_, trivial⟩, ?_⟩
        · rw [HS.out, H2.out, if_neg HM.out, Nat.xor_zero]; rfl
        · simp only [intOf]; omega
    · have h4 : (4 : Int) ≤ i := by omega
      go_wp2
      go_ret
      obtain rfl : i = 4 := by omega
      exact ⟨rfl, rfl⟩

/-- The table's cells. -/
def tabCells (k : Nat) : List Value := (List.range k).map (fun j => Value.int .u32 ((sNs 4 j : Nat) : Int))
theorem tabCells_len (k : Nat) : (tabCells k).length = k := by simp [tabCells]
theorem tabCells_at (k j : Nat) (h : j < k) : (tabCells k)[j]? = some (.int .u32 ((sNs 4 j : Nat) : Int)) := by simp [tabCells, h]
theorem tab_step (i : Nat) (h : i < 16) : (tabCells i ++ List.replicate (16 - i) (Value.int .u32 0)).set i (.int .u32 ((sNs 4 i : Nat) : Int)) = tabCells (i + 1) ++ List.replicate (16 - (i + 1)) (Value.int .u32 0) := by
  rw [List.set_append, if_neg (by simp [tabCells]), tabCells_len, Nat.sub_self, show 16 - i = (16 - (i + 1)) + 1 by omega, List.replicate_succ, List.set_cons_zero]
  simp [tabCells, List.range_succ]

theorem info55 : (Tryz.prog.info? 127).map (·.size) = some 16 := by kernel_rfl

theorem zero55 : (Tryz.prog.info? 127).map (fun i => (i.zero.map (·.cells.size), i.size)) = some (some 16, 16) := by kernel_rfl
theorem tabCells_one (k : Nat) : ∀ v ∈ tabCells k, v.oneCell' = true := by
  intro v hv
  simp only [tabCells, List.mem_map] at hv
  obtain ⟨j, _, rfl⟩ := hv
  rfl

set_option maxRecDepth 100000 in
set_option maxHeartbeats 1000000 in
set_option maxRecDepth 100000 in
theorem crcTable_any (w : World) : Calls Tryz.prog 101 #[] w fun e w' => e = .returned (.agg (tabCells 16).toArray) ∧ Below w.heap.size w w' := by
  go_enter Tryz.func101, Tryz.ntmps101
  go_wp2_with fail
  obtain ⟨w2, hw2, B2, B3, hB, _⟩ := two_new w 127 127 (List.replicate 16 (Value.int .u32 0)) (List.replicate 16 (Value.int .u32 0))
  simp only [List.replicate] at hw2
  rw [hw2]
  clear hw2
  have HB2 := hidden B2
  have HB3 := hidden B3
  have HB := hidden hB
  clear B2 B3 hB
  obtain ⟨g, hg⟩ : ∃ g, g = w.heap.size := ⟨_, rfl⟩
  rw [← hg] at HB2 HB3 HB ⊢
  have HG := hidden hg
  clear hg
  go_loopw [3] (fun iv wr => ∃ i : Nat, i ≤ 16 ∧ iv = .int .i64 i ∧ Blk wr g 127 (List.replicate 16 (.int .u32 0)) ∧ Blk wr (g + 1) 127 (tabCells i ++ List.replicate (16 - i) (.int .u32 0)) ∧ Below g w wr) (fun iv _ => 16 - (intOf iv).toNat)
  case atStart => exact ⟨0, by omega, rfl, HB2.out, HB3.out, HB.out⟩
  case round =>
    rename World => wr
    obtain ⟨i, hi, rfl, b1, b2, hb⟩ := hrel
    have H1 := hidden b1
    have H2 := hidden b2
    have H3 := hidden hb
    clear b1 b2 hb HB2 HB3 HB
    by_cases hlt : i < 16
    · have hc : wr.cell? ⟨g + 1, i, none⟩ = some (.int .u32 0) := by
        rw [H2.out.cell, List.getElem?_append_right (by rw [tabCells_len]; omega), tabCells_len]
        rw [Nat.sub_self, List.getElem?_replicate, if_pos (by omega)]
      have hf := H2.out.frozen i
      go_wp2_with fail
      refine (shiftOut_any i _ (by omega)).mono ?_
      rintro e w' ⟨rfl, rfl⟩
      go_wp2
      refine ⟨⟨i + 1, by omega, rfl, H1.out.setOff _ _ (by simp), ?_, H3.out.setCell (by simp) _⟩, ?_⟩
      · rw [← tab_step i hlt]
        exact H2.out.set i _
      · simp only [intOf]; omega
    · obtain rfl : i = 16 := by omega
      have h2 : Blk wr (g + 1) 127 (tabCells 16) := by simpa using H2.out
      have hone := tabCells_one 16
      have h3 := blk_stored (l := tabCells 16) H1.out (by simp [tabCells_len])
      have hb := H3.out.trans (below_sets (Nat.le_refl g) (tabCells 16) 0 wr)
      have hsz : (Tryz.prog.info? 127).map (·.size) = some (tabCells 16).length := by rw [info55, tabCells_len]
      generalize hT : tabCells 16 = T at *
      have HT := hidden hT
      clear hT
      have hl16 : T.length = 16 := by rw [info55] at hsz; exact (Option.some.inj hsz).symm
      go_wp2_with (first
        | refine wpList_load_blk rfl 127 (.tmp 1) rfl (g + 1) h2 rfl Tryz.underlying127 rfl hsz ?_
        | refine wpList_store_blk rfl 127 (.tmp 0) (.tmp 12) rfl rfl g H1.out rfl rfl (by simp [hl16]) hsz hone ?_)
      refine bodyPost_ret (results_cell_row rfl _ _ g 127 _ (0, 0) _ rfl h3 Tryz.underlying127 rfl (by simpa using hsz)) rfl ?_
      rw [← HG.out, HT.out]
      exact ⟨rfl, hb⟩

set_option maxRecDepth 100000 in
set_option maxHeartbeats 1000000 in
set_option maxRecDepth 100000 in
theorem crc_any (ad : Option Addr) (len cap : Nat) (l : List Int) (w : World) (hs : Sl w ad len l) (hb : len ≤ 281474976710656) : Calls Tryz.prog 94 #[.slice ad len cap] w fun e w' => e = .returned (.int .u32 (crc l : Nat)) ∧ Below w.heap.size w w' := by
  have hlen := hs.len
  go_enter Tryz.func94, Tryz.ntmps94
  go_wp2_with fail
  refine (crcTable_any w).mono ?_
  rintro e w1 ⟨rfl, hb1⟩
  have hs1 := hs.later hb1
  clear hs
  have hone := tabCells_one 16
  have hsz : (Tryz.prog.info? 127).map (·.size) = some (tabCells 16).length := by rw [info55, tabCells_len]
  have hat := tabCells_at 16
  have hl16 := tabCells_len 16
  generalize tabCells 16 = T at *
  go_wp2_with (first
    | (refine wpList_new_var rfl rfl 127 3 (.tmp 7) rfl rfl rfl rfl 16 zero55 T hl16 hone (by simp) rfl ?_; intro w2 B2 hB2 hz2))
  have hs2 := hs1.later hB2
  have hat2 : ∀ j, j < 16 → w2.cell? ⟨w1.heap.size, j, none⟩ = some (.int .u32 ((sNs 4 j : Nat) : Int)) := fun j hj => by rw [B2.cell, hat j hj]
  have hBB : Below w.heap.size w w2 := hb1.trans (hB2.mono hb1.size)
  have HAT := hidden hat2
  have HBB := hidden hBB
  have HS := hidden hs2
  clear hat hat2 hs1 hs2 hb1 hB2 hz2 B2 hone hsz hBB hl16
  generalize w1.heap.size = g at *
  go_loopw [4, 10] (fun nv iv wr => ∃ i : Nat, i ≤ len ∧ iv = .int .i64 i ∧ nv = .int .u32 (crcRun (l.take i) : Nat) ∧ wr = w2) (fun _ iv _ => len - (intOf iv).toNat)
  case atStart => exact ⟨0, by omega, rfl, rfl, rfl⟩
  case round =>
    obtain ⟨i, hi, rfl, rfl, rfl⟩ := hrel
    have hrl := crcRun_lt (l.take i) (HS.out.byte.take i)
    by_cases hlt : i < len
    · obtain ⟨b, off, rfl, hbl, hc⟩ := HS.out.at (by omega)
      have hci := hc i hlt
      have hx := HS.out.byte.at i
      have hst : crcRun (l.take (i + 1)) = crcByte (crcRun (l.take i)) (l.getD i 0) := by
        rw [List.take_add_one, List.getElem?_eq_getElem (by omega : i < l.length)]
        simp only [Option.toList, List.getD, List.getElem?_eq_getElem (by omega : i < l.length), Option.getD_some]
        exact crcRun_snoc _ _
      have HC := hidden hc
      have HST := hidden hst
      clear hc hst
      generalize l.getD i 0 = c at *
      generalize crcRun (l.take i) = x at *
      obtain ⟨cn, rfl⟩ : ∃ cn : Nat, c = cn := ⟨c.toNat, by omega⟩
      have hxx := xor32 x cn hrl (by omega)
      have hxl : x ^^^ cn < 4294967296 := Nat.xor_lt_two_pow (n := 32) hrl (by omega)
      have HY : Hid (crcByte x (cn : Int) = sNs 8 (x ^^^ cn)) := rfl
      generalize x ^^^ cn = y at *
      go_wp2_with fail
      go_loopw [4, 18] (fun nv kv ws => ∃ k : Nat, k ≤ 2 ∧ kv = .int .i64 k ∧ nv = .int .u32 (sNs (4 * k) y : Nat) ∧ ws = wr) (fun _ kv _ => 2 - (intOf kv).toNat)
      case atStart => exact ⟨0, by omega, rfl, rfl, rfl⟩
      case round =>
        obtain ⟨k, hk, rfl, rfl, rfl⟩ := hrel
        have hyl := sNs_lt (4 * k) y hxl
        by_cases hk2 : k < 2
        · have hst : sNs (4 * (k + 1)) y = (sNs (4 * k) y / 16) ^^^ sNs 4 (sNs (4 * k) y % 16) := by
            rw [show 4 * (k + 1) = 4 + 4 * k by omega, sNs_add, four]
          have HST2 := hidden hst
          clear hst
          generalize sNs (4 * k) y = z at *
          have ha := and32_15 z hyl
          have htl := sNs_lt 4 (z % 16) (by omega)
          have hct := HAT.out (z % 16) (by omega)
          have hm16 : z % 16 < 16 := by omega
          generalize sNs 4 (z % 16) = u at *
          have hxu : bits .xor .u32 ((z : Int) / 16) (u : Int) = ((z / 16 ^^^ u : Nat) : Int) := xor32 (z / 16) u (by omega) htl
          generalize z % 16 = r at *
          go_wp2
          refine ⟨⟨k + 1, by omega, rfl, by rw [HST2.out], trivial⟩, ?_⟩
          simp only [intOf]; omega
        · have h2 : (2 : Int) ≤ k := by omega
          go_wp2
          obtain rfl : k = 2 := by omega
          refine ⟨⟨i + 1, by omega, rfl, by rw [HST.out, HY.out], trivial⟩, ?_⟩
          simp only [intOf]; omega
    · have h4 : (len : Int) ≤ i := by omega
      have hnot := not32 _ hrl
      go_wp2
      go_ret
      refine ⟨?_, HBB.out⟩
      rw [crc]
      simp only [List.take_of_length_le (show l.length ≤ i by omega)]
      rfl

end Go.Proofs.YtnfjhdedcnbdbaaGreat
