import Derived.Test.YtalmpmhnkilalaaGreatDoorWwA
import Derived.Lib.ConvBytes
import Derived.Lib.SmallJoins
/-
  Package wire's writer: octet, number, time, limited and what is written by it.
-/
namespace Go.Proofs.YtalmpmhnkilalaaGreatDoor
open Go.RowKit
set_option linter.unusedVariables false

theorem WQ.pre {w w1 w2 : World} {p : Nat} {rb rb1 : Option Nat} {s : Ws} {e : Ending} (hC : Chg (fpt p rb) w w1) (hM : Moved w rb rb1) (h : WQ w1 p rb1 s e w2) : WQ w p rb s e w2 := by
  obtain ⟨he, rb2, hW, hC2, hM2⟩ := h
  exact ⟨he, rb2, hW, hC.trans hC2 (fun i hi hf => fpt_moved hM i hi hf), hM.trans hM2 hC.size⟩
theorem WQ.later {w w1 w2 : World} {p : Nat} {rb : Option Nat} {s : Ws} {e : Ending} (hB : Below w.heap.size w w1) (h : WQ w1 p rb s e w2) : WQ w p rb s e w2 :=
  h.pre (Chg.of_below hB) (.inl rfl)

theorem octetW (p : Nat) (rb : Option Nat) (s : Ws) (x : Int) (w : World) (h : Wt w p rb s) (h0 : 0 ≤ x) (h1 : x ≤ 255) : Calls Tryz.prog 57 #[.pointer (some ⟨p, 0, none⟩), .int .u8 x] w (WQ w p rb (s.put [x])) := by
  have HW := hidden h
  clear h
  have HX := hidden (show Byte [x] from fun y hy => by simp at hy; omega)
  go_enter Tryz.func57, Tryz.ntmps57
  go_wp2_with fail
  refine (putW p rb s (some ⟨w.heap.size, 0, none⟩) 1 1 [x] _ (HW.out.later ((Below.refl _ _).alloc (Nat.le_refl _) _)) (sl_lit w [x] HX.out 5 (0, 0) 1 rfl _ rfl _ rfl) (fun h => by cases h) (by omega)).mono ?_
  rintro e w1 hQ
  have HQ := hidden (hQ.later ((Below.refl _ _).alloc (Nat.le_refl _) _))
  obtain ⟨rfl, hQ⟩ := hQ
  clear hQ
  go_wp2_with fail
  go_end0
  exact HQ.out

/-- Numbers and bytes put behind nothing. -/
theorem uintNil (N : Nat) (w : World) (h1 : N ≤ 18446744073709551615) : Calls Tryz.prog 129 #[.slice none 0 0, .int .u64 N] w fun e w' => ∃ n c, e = .returned (.slice (some ⟨w.heap.size, 0, none⟩) n c) ∧ Sl w' (some ⟨w.heap.size, 0, none⟩) n (Q.enc N) ∧ n ≤ 100 ∧ Below w.heap.size w w' := by
  refine (Q.putUint_any none 0 0 N [] w (Sl.nil _ _) (by omega) h1).mono ?_
  rintro e w2 ⟨rfl, o2, b2⟩
  rw [List.nil_append] at o2
  have hg := Q.grp_le N
  exact ⟨_, _, rfl, sl_of_owns o2 (Q.enc_byte N (by omega)), by omega, b2⟩
theorem intNil (m : Int) (w : World) (h0 : -9223372036854775808 ≤ m) (h1 : m ≤ 9223372036854775807) : Calls Tryz.prog 157 #[.slice none 0 0, .int .i64 m] w fun e w' => ∃ n c, e = .returned (.slice (some ⟨w.heap.size, 0, none⟩) n c) ∧ Sl w' (some ⟨w.heap.size, 0, none⟩) n (Q.enc (Q.fold m)) ∧ n ≤ 100 ∧ Below w.heap.size w w' := by
  have hf := Q.fold_le m h0 h1
  refine (Q.putInt_any none 0 0 m [] w (Sl.nil _ _) (by omega) h0 h1).mono ?_
  rintro e w2 ⟨rfl, o2, b2⟩
  rw [List.nil_append] at o2
  have hg := Q.grp_le (Q.fold m)
  exact ⟨_, _, rfl, sl_of_owns o2 (Q.enc_byte _ (by omega)), by omega, b2⟩
theorem bytesNil (ad : Option Addr) (len cap : Nat) (l : List Int) (w : World) (hs : Sl w ad len l) (hn : ad = none → len = 0 ∧ cap = 0) (hb : len ≤ 35184372088832) : Calls Tryz.prog 178 #[.slice none 0 0, .slice ad len cap] w fun e w' =>
    ∃ n c, e = .returned (.slice (some ⟨w.heap.size, 0, none⟩) n c) ∧ Sl w' (some ⟨w.heap.size, 0, none⟩) n (Q.enc len ++ l) ∧ n ≤ len + 100 ∧ Below w.heap.size w w' := by
  refine (Q.putBytes_any none 0 0 [] ad len cap l w (Sl.nil _ _) hs hn (by omega)).mono ?_
  rintro e w2 ⟨rfl, o2, b2⟩
  rw [List.nil_append] at o2
  have hg := Q.grp_le len
  exact ⟨_, _, rfl, sl_of_owns o2 ((Q.enc_byte _ (by omega)).append hs.byte), by omega, b2⟩

set_option maxRecDepth 4000 in
theorem numberW (p : Nat) (rb : Option Nat) (s : Ws) (N most : Nat) (w : World) (h : Wt w p rb s) (h1 : N ≤ 18446744073709551615) (h2 : most ≤ 18446744073709551615) :
    Calls Tryz.prog 74 #[.pointer (some ⟨p, 0, none⟩), .int .u64 N, .int .u64 most] w (WQ w p rb ((s.must (decide (N ≤ most))).put (Q.enc N))) := by
  have HW := hidden h
  clear h
  go_enter Tryz.func74, Tryz.ntmps74
  go_wp2_with fail
  refine (mustW p rb s (decide (N ≤ most)) w HW.out).mono ?_
  rintro e w1 ⟨rfl, rb1, hW1, hC1, hM1⟩
  have HW1 := hidden hW1
  have HC1 := hidden hC1
  have HM1 := hidden hM1
  clear hW1 hC1 hM1
  go_wp2_with fail
  refine (uintNil N w1 h1).mono ?_
  rintro e w2 ⟨n2, c2, rfl, s2, l2, b2⟩
  have HS2 := hidden s2
  have HB2 := hidden b2
  clear s2 b2
  go_wp2_with fail
  refine (putW p rb1 _ _ _ _ _ w2 (HW1.out.later HB2.out) HS2.out (fun h => by cases h) (by omega)).mono ?_
  rintro e w3 hQ
  have HQ := hidden ((hQ.later HB2.out).pre HC1.out HM1.out)
  obtain ⟨rfl, hQ⟩ := hQ
  clear hQ
  go_wp2_with fail
  go_end0
  exact HQ.out

set_option maxRecDepth 4000 in
theorem timeW (p : Nat) (rb : Option Nat) (s : Ws) (m : Int) (w : World) (h : Wt w p rb s) (h0 : -9223372036854775808 ≤ m) (h1 : m ≤ 9223372036854775807) :
    Calls Tryz.prog 105 #[.pointer (some ⟨p, 0, none⟩), .int .i64 m] w (WQ w p rb (s.put (Q.enc (Q.fold m)))) := by
  have HW := hidden h
  have hf := Q.fold_le m h0 h1
  clear h
  go_enter Tryz.func105, Tryz.ntmps105
  go_wp2_with fail
  refine (intNil m w h0 h1).mono ?_
  rintro e w2 ⟨n2, c2, rfl, s2, l2, b2⟩
  have HS2 := hidden s2
  have HB2 := hidden b2
  clear s2 b2
  go_wp2_with fail
  refine (putW p rb _ _ _ _ _ w2 (HW.out.later HB2.out) HS2.out (fun h => by cases h) (by omega)).mono ?_
  rintro e w3 hQ
  have HQ := hidden (hQ.later HB2.out)
  obtain ⟨rfl, hQ⟩ := hQ
  clear hQ
  go_wp2_with fail
  go_end0
  exact HQ.out

/-- The bytes of a text. -/
def bts (d : ByteArray) : List Int := d.data.toList.map fun (x : UInt8) => (x.toNat : Int)
theorem bts_length (d : ByteArray) : (bts d).length = d.size := by simp [bts]
theorem bts_byte (d : ByteArray) : Byte (bts d) := by
  intro n hn
  obtain ⟨x, _, rfl⟩ := List.mem_map.1 hn
  have := x.toNat_lt
  omega
theorem sl_bytes (w : World) (d : ByteArray) : Sl (Lib.bytesWorld w 5 d) (some ⟨w.heap.size, 0, none⟩) d.size (bts d) := by
  refine ⟨bts_length d, bts_byte d, fun j hj => ⟨_, rfl, ?_⟩⟩
  rw [Addr.add_lit, Nat.zero_add, Lib.bytesWorld_cell w 5 d j hj]
  congr 2
  have hl : j < d.data.size := hj
  simp only [bts, List.getD, List.getElem?_map, Array.getElem?_toList, Array.getElem?_eq_getElem hl]
  rfl
def Ws.limited (s : Ws) (d : ByteArray) (most : Nat) : Ws := if most < d.size then { s with wrong := true } else s.put (Q.enc d.size ++ bts d)

set_option maxRecDepth 4000 in
theorem limitedW (p : Nat) (rb : Option Nat) (s : Ws) (d : ByteArray) (most : Nat) (w : World) (h : Wt w p rb s) (h1 : most ≤ 1099511627776) :
    Calls Tryz.prog 150 #[.pointer (some ⟨p, 0, none⟩), .string d, .int .i64 most] w (WQ w p rb (s.limited d most)) := by
  have HW := hidden h
  by_cases hlt : most < d.size
  · obtain ⟨v, h⟩ := h
    have f3 := h.blk.frozen 3
    have c3 : w.cell? ⟨p, 3, none⟩ = some (.bool s.wrong) := h.blk.cell 3
    have HV := hidden h
    clear h
    have e : s.limited d most = { s with wrong := true } := if_pos hlt
    rw [e]
    go_enter Tryz.func150, Tryz.ntmps150
    go_wp2_with fail
    first | go_end0 | go_ret
    exact ⟨rfl, rb, ⟨v, HV.out.setWrong⟩, (Chg.set ⟨p, 3, none⟩ _ w).mono (fun i _ hi => .inl hi), .inl rfl⟩
  · clear h
    have e : s.limited d most = s.put (Q.enc d.size ++ bts d) := if_neg hlt
    rw [e]
    have hcv := fun (w : World) => Lib.run_convert_string_bytes (P := Tryz.prog) w 9 22 5 d Tryz.underlying9 Tryz.underlying22 Tryz.underlying5
    have HSB := hidden (sl_bytes w d)
    have HBW := hidden (Go.Joins.below_bytesWorld w.heap.size w 5 d (Nat.le_refl _))
    go_enter Tryz.func150, Tryz.ntmps150
    go_wp2_with fail
    refine (bytesNil _ _ _ (bts d) _ HSB.out (fun h => by cases h) (by omega)).mono ?_
    rintro e w2 ⟨n2, c2, rfl, s2, l2, b2⟩
    have HS2 := hidden s2
    have HB2 := hidden (HBW.out.trans (b2.mono HBW.out.size))
    clear s2 b2
    go_wp2_with fail
    refine (putW p rb _ _ _ _ _ w2 (HW.out.later HB2.out) HS2.out (fun h => by cases h) (by omega)).mono ?_
    rintro e w3 hQ
    have HQ := hidden (hQ.later HB2.out)
    obtain ⟨rfl, hQ⟩ := hQ
    clear hQ
    go_wp2_with fail
    go_end0
    exact HQ.out

end Go.Proofs.YtalmpmhnkilalaaGreatDoor

/-
  Package wire's writer: text, question, token, amount, count, label.
-/
namespace Go.Proofs.YtalmpmhnkilalaaGreatDoor
open Go.RowKit
set_option linter.unusedVariables false

theorem textW (p : Nat) (rb : Option Nat) (s : Ws) (d : ByteArray) (w : World) (h : Wt w p rb s) : Calls Tryz.prog 89 #[.pointer (some ⟨p, 0, none⟩), .string d] w (WQ w p rb (s.limited d 64)) := by
  have HW := hidden h
  clear h
  go_enter Tryz.func89, Tryz.ntmps89
  go_wp2_with fail
  refine (limitedW p rb s d 64 w HW.out (by omega)).mono ?_
  rintro e w3 hQ
  have HQ := hidden hQ
  obtain ⟨rfl, hQ⟩ := hQ
  clear hQ
  go_wp2_with fail
  go_end0
  exact HQ.out

theorem questionW (p : Nat) (rb : Option Nat) (s : Ws) (d : ByteArray) (w : World) (h : Wt w p rb s) : Calls Tryz.prog 111 #[.pointer (some ⟨p, 0, none⟩), .string d] w (WQ w p rb (s.limited d 4096)) := by
  have HW := hidden h
  clear h
  go_enter Tryz.func111, Tryz.ntmps111
  go_wp2_with fail
  refine (limitedW p rb s d 4096 w HW.out (by omega)).mono ?_
  rintro e w3 hQ
  have HQ := hidden hQ
  obtain ⟨rfl, hQ⟩ := hQ
  clear hQ
  go_wp2_with fail
  go_end0
  exact HQ.out

theorem tokenW (p : Nat) (rb : Option Nat) (s : Ws) (ad : Option Addr) (n c : Nat) (l : List Int) (w : World) (h : Wt w p rb s) (hs : Sl w ad n l) : Calls Tryz.prog 93 #[.pointer (some ⟨p, 0, none⟩), .slice ad n c] w (WQ w p rb (s.limited (strOfNums l) 64)) := by
  have HW := hidden h
  have hcv := run_string_of (P := Tryz.prog) 22 5 9 Tryz.underlying22 Tryz.underlying5 Tryz.underlying9 (cap := c) hs
  clear h hs
  go_enter Tryz.func93, Tryz.ntmps93
  go_wp2_with fail
  refine (limitedW p rb s (strOfNums l) 64 w HW.out (by omega)).mono ?_
  rintro e w3 hQ
  have HQ := hidden hQ
  obtain ⟨rfl, hQ⟩ := hQ
  clear hQ
  go_wp2_with fail
  go_end0
  exact HQ.out

/-- A number that may be below 0, as one without a sign. -/
def u64 (n : Int) : Nat := (n % 18446744073709551616).toNat
theorem u64_le (n : Int) : u64 n ≤ 18446744073709551615 := by unfold u64; omega
theorem wrap_u64 (n : Int) : IntKind.u64.wrap n = ((u64 n : Nat) : Int) := by
  unfold u64
  rw [Int.toNat_of_nonneg (by omega)]
  rfl
theorem amountW (p : Nat) (rb : Option Nat) (s : Ws) (n : Int) (w : World) (h : Wt w p rb s) (h0 : -9223372036854775808 ≤ n) (h1 : n ≤ 9223372036854775807) :
    Calls Tryz.prog 117 #[.pointer (some ⟨p, 0, none⟩), .int .i64 n] w (WQ w p rb ((s.must (decide (u64 n ≤ 1099511627775))).put (Q.enc (u64 n)))) := by
  have HW := hidden h
  have hu := u64_le n
  clear h
  go_enter Tryz.func117, Tryz.ntmps117
  go_wp2_with fail
  rw [wrap_u64]
  refine (numberW p rb s (u64 n) 1099511627775 w HW.out hu (by omega)).mono ?_
  rintro e w3 hQ
  have HQ := hidden hQ
  obtain ⟨rfl, hQ⟩ := hQ
  clear hQ
  go_wp2_with fail
  go_end0
  exact HQ.out
theorem countW (p : Nat) (rb : Option Nat) (s : Ws) (n : Int) (w : World) (h : Wt w p rb s) (h0 : -9223372036854775808 ≤ n) (h1 : n ≤ 9223372036854775807) :
    Calls Tryz.prog 139 #[.pointer (some ⟨p, 0, none⟩), .int .i64 n] w (WQ w p rb ((s.must (decide (u64 n ≤ 9223372036854775807))).put (Q.enc (u64 n)))) := by
  have HW := hidden h
  have hu := u64_le n
  clear h
  go_enter Tryz.func139, Tryz.ntmps139
  go_wp2_with fail
  rw [wrap_u64]
  refine (numberW p rb s (u64 n) 9223372036854775807 w HW.out hu (by omega)).mono ?_
  rintro e w3 hQ
  have HQ := hidden hQ
  obtain ⟨rfl, hQ⟩ := hQ
  clear hQ
  go_wp2_with fail
  go_end0
  exact HQ.out

theorem Wt.apart {w w1 : World} {p : Nat} {rb : Option Nat} {s : Ws} {g : Nat} {ty : TypeId} {l : List Value} (h : Wt w p rb s) (hg : w.heap.size ≤ g) (hB : Blk w1 g ty l) {w2 : World} (hC : Chg (fpt p rb) w1 w2) : Blk w2 g ty l :=
  hC.blk hB (fun e => by have := h.lt g e; omega)

/-- A label: its name and its value. -/
def Ws.label (s : Ws) (nm vl : ByteArray) : Ws := (s.limited nm 64).limited vl 64
theorem labelW (p : Nat) (rb : Option Nat) (s : Ws) (nm vl : ByteArray) (w : World) (h : Wt w p rb s) : Calls Tryz.prog 190 #[.pointer (some ⟨p, 0, none⟩), .agg #[.string nm, .string vl]] w (WQ w p rb (s.label nm vl)) := by
  have HW := hidden h
  clear h
  go_enter Tryz.func190, Tryz.ntmps190
  go_wp2_with (refine wpList_box_blk rfl 47 (.tmp 1) rfl [.string nm, .string vl] rfl ?_; intro w2 B2 bl2 hz2; have HL2 := hidden bl2; have HB2 := hidden B2; have c2 := B2.cell 0; simp at c2; have HW2 := hidden (HW.out.later bl2); clear B2 bl2 hz2)
  refine (textW p rb s nm w2 HW2.out).mono ?_
  rintro e w3 ⟨rfl, rb1, hW1, hC1, hM1⟩
  have HW1 := hidden hW1
  have HC1 := hidden hC1
  have HM1 := hidden hM1
  have c3 := (HW.out.apart (Nat.le_refl _) HB2.out hC1).cell 1
  simp at c3
  clear hW1 hC1 hM1
  go_wp2_with fail
  refine (textW p rb1 _ vl w3 HW1.out).mono ?_
  rintro e w4 hQ
  have HQ := hidden ((hQ.pre HC1.out HM1.out).later HL2.out)
  obtain ⟨rfl, hQ⟩ := hQ
  clear hQ
  go_wp2_with fail
  go_end0
  exact HQ.out

end Go.Proofs.YtalmpmhnkilalaaGreatDoor
