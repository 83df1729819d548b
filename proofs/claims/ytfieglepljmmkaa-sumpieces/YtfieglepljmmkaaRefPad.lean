import Derived.Test.YtfieglepljmmkaaShaF
import Derived.Test.YtfieglepljmmkaaHex
namespace Go.Proofs.Ytfieglepljmmkaa
open Go.RowKit
set_option linter.unusedVariables false

theorem tail8_take (n i : Nat) (h : i < 8) : (tail8 n).take (i + 1) = (tail8 n).take i ++ [((n * 8 / 256 ^ (7 - i) % 256 : Nat) : Int)] := by
  rcases (by omega : i = 0 ∨ i = 1 ∨ i = 2 ∨ i = 3 ∨ i = 4 ∨ i = 5 ∨ i = 6 ∨ i = 7) with rfl | rfl | rfl | rfl | rfl | rfl | rfl | rfl <;> rfl
theorem shr64 (n k : Nat) (hk : k ≤ 7) : ((n : Int) * 8) / 2 ^ (8 * k) % 256 = ((n * 8 / 256 ^ k % 256 : Nat) : Int) := by
  rcases (by omega : k = 0 ∨ k = 1 ∨ k = 2 ∨ k = 3 ∨ k = 4 ∨ k = 5 ∨ k = 6 ∨ k = 7) with rfl | rfl | rfl | rfl | rfl | rfl | rfl | rfl <;> simp <;> omega

theorem ending_byte (n : Nat) : Byte (ending n) := by
  intro v hv
  simp only [ending, tail8, List.cons_append, List.mem_cons, List.mem_append, List.mem_map] at hv
  rcases hv with rfl | hv | ⟨i, _, rfl⟩
  · decide
  · have := List.eq_of_mem_replicate hv
    omega
  · omega

set_option maxRecDepth 100000 in
set_option maxHeartbeats 1000000 in
theorem padded_any (ad : Option Addr) (len cap : Nat) (l : List Int) (w : World) (hs : Sl w ad len l) (hn0 : ad = none → len = 0 ∧ cap = 0) (hb : len ≤ 140737488351232) : Calls Try.prog 25 #[.slice ad len cap] w fun e w' =>
    ∃ a c, e = .returned (.slice a (l ++ ending len).length c) ∧ Sl w' a (l ++ ending len).length (l ++ ending len) ∧ (l ++ ending len).length ≤ c ∧ c ≤ 9223372036854775807 ∧ Below w.heap.size w w' := by
  obtain ⟨i0, hi, hz0, hz1, hz2⟩ := info_parts info5
  have hlen := hs.len
  have HLEN := hidden hlen
  have HS := hidden hs
  have HBYE : Hid (Byte (l ++ ending len)) := hs.byte.append (ending_byte len)
  clear hs hlen
  obtain ⟨z, hz⟩ : ∃ z, (119 - len % 64) % 64 = z := ⟨_, rfl⟩
  have hz64 : z < 64 := by omega
  have HZ := hidden hz
  clear hz
  have HON := hidden (World.ownsRow_nil w w.heap.size 5 1)
  go_enter Try.func25, Try.ntmps25
  go_wp2_with (first
    | (at_builtin; refine wpList_append_sl _ rfl (.tmp 6) (.tmp 7) 22 rfl w.heap.size 5 i0 (.int .u8 0) Try.underlying22 hi hz0 hz1 hz2 rfl _ 0 [] rfl HON.out ad len cap l rfl HS.out hn0 (by omega) (Nat.le_refl _) ?_; intro ad1 c1 w1 hown1 hgr1; have hbl1 := grown_below hgr1 HON.out (Nat.le_refl _); rw [Nat.zero_add, List.nil_append] at hown1; have HO1 := hidden hown1; have HBL1 := hidden hbl1; have HSL1 := hidden (sl_lit w1 [128] (by intro n hn; simp at hn; omega) 5 (0, 0) 1 rfl _ rfl _ rfl); have HL1 := hidden ((Below.refl w1.heap.size w1).alloc (Nat.le_refl _) (.cells #[.int .u8 128] 5)); clear hown1 hbl1 hgr1)
    | (at_builtin; refine wpList_append_sl _ rfl (.tmp 9) (.tmp 10) 22 rfl w.heap.size 5 i0 (.int .u8 0) Try.underlying22 hi hz0 hz1 hz2 rfl _ len l rfl (owns_later HO1.out HL1.out) _ 1 1 [128] rfl HSL1.out (fun h => by cases h) (by omega) (by have := HBL1.out.size; have := HL1.out.size; omega) ?_; intro ad2 c2 w2 hown2 hgr2; have hbl2 := grown_below hgr2 (owns_later HO1.out HL1.out) (by have := HBL1.out.size; have := HL1.out.size; omega); have HO2 := hidden hown2; have HBL2 := hidden hbl2; clear hown2 hbl2 hgr2))
  have HB2 : Hid (Below w.heap.size w w2) := (HBL1.out.trans (HL1.out.mono HBL1.out.size)).trans HBL2.out
  clear HBL1 HL1 HSL1 HBL2 HO1 HON HS
  go_loopw [3] (fun ov wr => ∃ (k : Nat) (v : Value), k ≤ z ∧ ov = v ∧ wr.ownsRow w.heap.size 5 1 v (len + 1 + k) (cells8 (l ++ [128] ++ List.replicate k 0)) ∧ Below w.heap.size w wr) (fun ov _ => len + 1 + z - (match ov with | .slice _ n _ => n | _ => 0))
  case atStart => exact ⟨0, _, Nat.zero_le _, rfl, by simpa using HO2.out, HB2.out⟩
  case round =>
    rename World => wr
    obtain ⟨k, v, hk, rfl, ho, hbl⟩ := hrel
    obtain ⟨al, cl, rfl⟩ := owns_form ho
    have HO := hidden ho
    have HB := hidden hbl
    clear ho hbl HO2 HB2
    have hzz := HZ.out
    by_cases hlt : k < z
    · have hm : (((len : Int) + 1 + (k : Int)) % 64 == 56) = false := by rw [beq_eq_false_iff_ne]; omega
      have hm2 : ¬ (((len : Int) + 1 + (k : Int)) % 64 = 56) := by omega
      have HSL := hidden (sl_lit wr [0] (by intro n hn; simp at hn; omega) 5 (0, 0) 1 rfl _ rfl _ rfl)
      have HL1 := hidden ((Below.refl wr.heap.size wr).alloc (Nat.le_refl _) (.cells #[.int .u8 0] 5))
      have HSZ : Hid (w.heap.size ≤ (wr.alloc (.cells #[.int .u8 0] 5)).heap.size) := by
        show w.heap.size ≤ (wr.alloc (.cells #[.int .u8 0] 5)).heap.size
        have := HB.out.size
        simp
        omega
      clear hzz
      go_wp2_with (first
        | (at_builtin; refine wpList_append_sl _ rfl (.tmp 16) (.tmp 17) 22 rfl w.heap.size 5 i0 (.int .u8 0) Try.underlying22 hi hz0 hz1 hz2 rfl _ (len + 1 + k) (l ++ [128] ++ List.replicate k 0) rfl (owns_later HO.out HL1.out) _ 1 1 [0] rfl HSL.out (fun h => by cases h) (by omega) HSZ.out ?_; intro ad3 c3 w3 hown3 hgr3; have hbl3 := grown_below hgr3 (owns_later HO.out HL1.out) HSZ.out; have HO3 := hidden hown3; have HBL3 := hidden hbl3; clear hown3 hbl3 hgr3))
      refine ⟨⟨k + 1, _, by omega, rfl, ?_, (HB.out.trans (HL1.out.mono HB.out.size)).trans HBL3.out⟩, ?_⟩
      · rw [List.replicate_succ', ← List.append_assoc, show len + 1 + (k + 1) = len + 1 + k + 1 by omega]
        exact HO3.out
      · show len + 1 + z - (len + 1 + k + 1) < len + 1 + z - (len + 1 + k)
        omega
    · have hkz : k = z := by omega
      have hm : (((len : Int) + 1 + (k : Int)) % 64 == 56) = true := by rw [beq_iff_eq]; omega
      have hm2 : ((len : Int) + 1 + (k : Int)) % 64 = 56 := by omega
      have HO2 : Hid (wr.ownsRow w.heap.size 5 1 (.slice al (len + 1 + k) cl) (len + 1 + z + 0) (cells8 (l ++ (128 :: List.replicate z 0 ++ (tail8 len).take 0)))) := by
        show wr.ownsRow w.heap.size 5 1 (.slice al (len + 1 + k) cl) (len + 1 + z + 0) (cells8 (l ++ (128 :: List.replicate z 0 ++ (tail8 len).take 0)))
        have := HO.out
        rw [hkz] at this ⊢
        simpa using this
      have HKZ := hidden hkz
      clear hzz hkz HO
      go_wp2_with fail
      clear hm hm2
      go_loopw [3, 5] (fun ov iv ws => ∃ (j k : Nat) (v : Value), j ≤ 8 ∧ iv = .int .i64 (7 - (j : Int)) ∧ ov = v ∧ ws.ownsRow w.heap.size 5 1 v (len + 1 + z + j) (cells8 (l ++ (128 :: List.replicate z 0 ++ (tail8 len).take j))) ∧ Below w.heap.size w ws) (fun _ iv _ => ((intOf iv) + 1).toNat)
      case atStart => exact ⟨0, 0, _, by omega, rfl, rfl, HO2.out, HB.out⟩
      case round =>
        rename World => ws
        obtain ⟨j, _, v, hj, rfl, rfl, ho, hbl⟩ := hrel
        obtain ⟨al2, cl2, rfl⟩ := owns_form ho
        have HO := hidden ho
        have HB3 := hidden hbl
        clear ho hbl HO2 HB
        by_cases hj8 : j < 8
        · obtain ⟨q, hq⟩ : ∃ q : Nat, 7 - j = q := ⟨_, rfl⟩
          have hqI : 7 - (j : Int) = (q : Int) := by omega
          have hsh := shr64 len q (by omega)
          have HT := hidden (tail8_take len j hj8)
          rw [hq] at HT
          obtain ⟨u, hu⟩ : ∃ u : Nat, len * 8 / 256 ^ q % 256 = u := ⟨_, rfl⟩
          have hu8 : u < 256 := by omega
          rw [hu] at hsh HT
          have HSL := hidden (sl_lit ws [(u : Int)] (by intro n hn; simp at hn; omega) 5 (0, 0) 1 rfl _ rfl _ rfl)
          have HL1 := hidden ((Below.refl ws.heap.size ws).alloc (Nat.le_refl _) (.cells #[.int .u8 (u : Int)] 5))
          have HSZ : Hid (w.heap.size ≤ (ws.alloc (.cells #[.int .u8 (u : Int)] 5)).heap.size) := by
            show w.heap.size ≤ (ws.alloc (.cells #[.int .u8 (u : Int)] 5)).heap.size
            have := HB3.out.size
            simp
            omega
          have HQI := hidden hqI
          rw [hqI]
          have hq7 : q ≤ 7 := by omega
          clear hqI hu hq
          go_wp2_with (first
            | (at_builtin; refine wpList_append_sl _ rfl (.tmp 27) (.tmp 33) 22 rfl w.heap.size 5 i0 (.int .u8 0) Try.underlying22 hi hz0 hz1 hz2 rfl _ (len + 1 + z + j) (l ++ (128 :: List.replicate z 0 ++ (tail8 len).take j)) rfl (owns_later HO.out HL1.out) _ 1 1 [(u : Int)] rfl HSL.out (fun h => by cases h) (by omega) HSZ.out ?_; intro ad3 c3 w3 hown3 hgr3; have hbl3 := grown_below hgr3 (owns_later HO.out HL1.out) HSZ.out; have HO3 := hidden hown3; have HBL3 := hidden hbl3; clear hown3 hbl3 hgr3))
          refine ⟨⟨j + 1, 0, _, by omega, ?_, rfl, ?_, (HB3.out.trans (HL1.out.mono HB3.out.size)).trans HBL3.out⟩, ?_⟩
          · have := HQI.out
            congr 1
            omega
          · rw [HT.out, show len + 1 + z + (j + 1) = len + 1 + z + j + 1 by omega]
            have := HO3.out
            rw [show l ++ (128 :: List.replicate z 0 ++ (tail8 len).take j) ++ [(u : Int)] = l ++ (128 :: List.replicate z 0 ++ ((tail8 len).take j ++ [(u : Int)])) by simp] at this
            exact this
          · simp only [intOf]
            omega
        · have hneg : 7 - (j : Int) < 0 := by omega
          have he : l ++ ending len = l ++ (128 :: List.replicate z 0 ++ (tail8 len).take j) := by
            have e8 : (tail8 len).take j = tail8 len := List.take_of_length_le (by simp [tail8]; omega)
            rw [e8]
            unfold ending
            rw [HZ.out]
          have hl : (l ++ ending len).length = len + 1 + z + j := by
            have := HO.out.1
            rw [cells8_length, ← he] at this
            omega
          have hby : Byte (l ++ ending len) := HBYE.out
          have hcap := owns_cap HO.out
          have HF : Hid (Sl ws al2 (len + 1 + z + j) (l ++ ending len)) := by
            have := HO.out
            rw [← he] at this
            exact sl_of_owns this hby
          have HL := hidden hl
          have HC : Hid (len + 1 + z + j ≤ cl2 ∧ cl2 ≤ 9223372036854775807) := by
            have h2 := hcap.2.2.1
            unfold maxLen at h2
            exact ⟨hcap.2.1, by omega⟩
          clear he hl hby hcap HO
          go_wp2_with fail
          go_ret
          rw [HL.out]
          exact ⟨al2, cl2, rfl, HF.out, HC.out.1, HC.out.2, HB3.out⟩

end Go.Proofs.Ytfieglepljmmkaa
