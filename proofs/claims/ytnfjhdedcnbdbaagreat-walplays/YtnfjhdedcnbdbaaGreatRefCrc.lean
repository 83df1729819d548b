import Derived.Test.YtnfjhdedcnbdbaaGreatCrc
namespace Go.Proofs.YtnfjhdedcnbdbaaGreat
open Go.RowKit
set_option linter.unusedVariables false

set_option maxRecDepth 100000 in
set_option maxHeartbeats 1000000 in
set_option maxRecDepth 100000 in
theorem refCrc_any (ad : Option Addr) (len cap : Nat) (l : List Int) (w : World) (hs : Sl w ad len l) (hb : len ≤ 281474976710656) : Calls Tryz.prog 88 #[.slice ad len cap] w fun e w' => e = .returned (.int .u32 (crc l : Nat)) ∧ w' = w := by
  have hlen := hs.len
  have HS := hidden hs
  clear hs
  go_enter Tryz.func88, Tryz.ntmps88
  go_wp2_with fail
  go_loopw [3, 4] (fun nv iv wr => ∃ i : Nat, i ≤ len ∧ iv = .int .i64 i ∧ nv = .int .u32 (crcRun (l.take i) : Nat) ∧ wr = w) (fun _ iv _ => len - (intOf iv).toNat)
  case atStart => exact ⟨0, by omega, rfl, rfl, rfl⟩
  case round =>
    obtain ⟨i, hi, rfl, rfl, rfl⟩ := hrel
    have hrl := crcRun_lt (l.take i) (HS.out.byte.take i)
    by_cases hlt : i < len
    · obtain ⟨b, off, rfl, hbl, hc⟩ := HS.out.at (by omega)
      have hci := hc i hlt
      have hx := HS.out.byte.at i
      have hst : crcRun (l.take (i + 1)) = crcByte (crcRun (l.take i)) (l.getD i 0) := by
        rw [List.take_add_one, List.getElem?_eq_getElem (by omega : i < l.length)]
        simp only [Option.toList, List.getD, List.getElem?_eq_getElem (by omega : i < l.length), Option.getD_some]
        exact crcRun_snoc _ _
      have HST := hidden hst
      clear hc hst
      generalize l.getD i 0 = c at *
      generalize crcRun (l.take i) = x at *
      obtain ⟨cn, rfl⟩ : ∃ cn : Nat, c = cn := ⟨c.toNat, by omega⟩
      have hxx := xor32 x cn hrl (by omega)
      have hxl : x ^^^ cn < 4294967296 := Nat.xor_lt_two_pow (n := 32) hrl (by omega)
      have HY : Hid (crcByte x (cn : Int) = sNs 8 (x ^^^ cn)) := rfl
      generalize x ^^^ cn = y at *
      go_wp2_with fail
      go_loopw [3, 5] (fun nv kv ws => ∃ k : Nat, k ≤ 8 ∧ kv = .int .i64 k ∧ nv = .int .u32 (sNs k y : Nat) ∧ ws = wr) (fun _ kv _ => 8 - (intOf kv).toNat)
      case atStart => exact ⟨0, by omega, rfl, rfl, rfl⟩
      case round =>
        obtain ⟨k, hk, rfl, rfl, rfl⟩ := hrel
        have hyl := sNs_lt k y hxl
        by_cases hk8 : k < 8
        · have hs : sNs (k + 1) y = sN (sNs k y) := rfl
          have HS2 := hidden hs
          clear hs
          generalize sNs k y = z at *
          have hxz : bits .xor .u32 ((z : Int) / 2) 3988292384 = ((z / 2 ^^^ 3988292384 : Nat) : Int) := xor32 (z / 2) 3988292384 (by omega) (by decide)
          have ha := and32_1 z hyl
          have H2 : Hid (sN z = (z / 2) ^^^ (if z % 2 = 1 then 3988292384 else 0)) := rfl
          by_cases hm : z % 2 = 1
          · have hm' : (((z % 2 : Nat) : Int) == 1) = true := by rw [hm]; rfl
            have HM := hidden hm
            clear hm
            go_wp2
            refine ⟨⟨k + 1, by omega, rfl, ?_, trivial⟩, ?_⟩
            · rw [HS2.out, H2.out, if_pos HM.out]
            · simp only [intOf]; omega
          · have hm' : (((z % 2 : Nat) : Int) == 1) = false := by rw [show z % 2 = 0 by omega]; rfl
            have HM := hidden hm
            clear hm
            go_wp2
            refine ⟨⟨k + 1, by omega, rfl, ?_, trivial⟩, ?_⟩
            · rw [HS2.out, H2.out, if_neg HM.out, Nat.xor_zero]; rfl
            · simp only [intOf]; omega
        · have h8 : (8 : Int) ≤ k := by omega
          go_wp2
          obtain rfl : k = 8 := by omega
          refine ⟨⟨i + 1, by omega, rfl, by rw [HST.out, HY.out], trivial⟩, ?_⟩
          simp only [intOf]; omega
    · have h4 : (len : Int) ≤ i := by omega
      have hnot := not32 _ hrl
      go_wp2
      go_ret
      refine ⟨?_, rfl⟩
      rw [crc]
      simp only [List.take_of_length_le (show l.length ≤ i by omega)]
      rfl

end Go.Proofs.YtnfjhdedcnbdbaaGreat
