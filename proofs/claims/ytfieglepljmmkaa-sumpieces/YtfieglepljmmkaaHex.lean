import Derived.Test.YtfieglepljmmkaaChecked
import Derived.Test.YtfieglepljmmkaaBlk
import Derived.Test.YtfieglepljmmkaaHexM
import Derived.Deep.QuietTactic
import Derived.BigQuiet
import Derived.Laws.BitsAllLaws
namespace Go.Proofs.Ytfieglepljmmkaa
open Go.RowKit
set_option linter.unusedVariables false

theorem hid2 {p : Prop} (h : p) : Hid p := h
set_option maxHeartbeats 400000 in
theorem digitValue_any (c : Int) (w : World) (h0 : 0 ≤ c) (h1 : c ≤ 255) : Calls Try.prog 33 #[.int .u8 c] w fun e w' => e = .returned (.int .u8 (dval c : Nat)) ∧ w' = w := by
  go_enter Try.func33, Try.ntmps33
  go_wp2
  all_goals go_ret
  all_goals refine ⟨congrArg Ending.returned (congrArg (Value.int IntKind.u8) ?_), rfl⟩
  · show (c - 97 + 10) % 16 = _
    have h : 97 ≤ c := by assumption
    rw [dval, if_pos h]
    omega
  · show (c - 48) % 256 % 16 = _
    have h : c < 97 := by assumption
    rw [dval, if_neg (by omega)]
    omega

theorem info62 : (Try.prog.info? 62).map (·.size) = some 2 := by kernel_rfl
theorem new62 : (Try.prog.info? 62).map (fun i => i.zero.map (·.cells)) = some (some (cells8 [0, 0]).toArray) := by kernel_rfl
def dtab : ByteArray := ⟨#[48, 49, 50, 51, 52, 53, 54, 55, 56, 57, 97, 98, 99, 100, 101, 102]⟩
theorem dtab_at (n : Nat) (h : n < 16) : ∃ b : UInt8, dtab[n]? = some b ∧ ((b.toNat : Nat) : Int) = dig n := by
  have : ∀ n, n < 16 → ∃ b : UInt8, dtab[n]? = some b ∧ ((b.toNat : Nat) : Int) = dig n := by
    intro n h
    rcases (by omega : n = 0 ∨ n = 1 ∨ n = 2 ∨ n = 3 ∨ n = 4 ∨ n = 5 ∨ n = 6 ∨ n = 7 ∨ n = 8 ∨ n = 9 ∨ n = 10 ∨ n = 11 ∨ n = 12 ∨ n = 13 ∨ n = 14 ∨ n = 15) with rfl | rfl | rfl | rfl | rfl | rfl | rfl | rfl | rfl | rfl | rfl | rfl | rfl | rfl | rfl | rfl <;> exact ⟨_, rfl, rfl⟩
  exact this n h
theorem index_dtab (w : World) (n : Int) (h0 : 0 ≤ n) (h : n < 16) : (Instr.index 9 (.string ⟨#[48, 49, 50, 51, 52, 53, 54, 55, 56, 57, 97, 98, 99, 100, 101, 102]⟩) (.int .u8 n)).run Try.prog w = .ok (.int .u8 (dig n.toNat)) w := by
  obtain ⟨b, hb, hd⟩ := dtab_at n.toNat (by omega)
  have hb' : (⟨#[48, 49, 50, 51, 52, 53, 54, 55, 56, 57, 97, 98, 99, 100, 101, 102]⟩ : ByteArray)[n.toNat]? = some b := hb
  simp only [Instr.index, asIntOf, Sem.run_bind, Sem.run_pure, Result.andThen_ok, run_underlying Try.underlying9, if_pos h0, hb', hd]

set_option maxRecDepth 100000 in
set_option maxHeartbeats 400000 in
theorem pairOf_any (c : Int) (w : World) (h0 : 0 ≤ c) (h1 : c ≤ 255) : Calls Try.prog 32 #[.int .u8 c] w fun e w' => e = .returned (.agg (cells8 (pairL c)).toArray) ∧ Below w.heap.size w w' := by
  have ha : bits .and .u8 c 15 = c % 16 := by
    have := u8_and c 15 h0 (by omega) (by decide) (by decide)
    rw [this]
    have e : c.toNat &&& (15 : Int).toNat = c.toNat % 16 := Nat.and_two_pow_sub_one_eq_mod c.toNat 4
    rw [e]
    omega
  have i1 := fun w => index_dtab w (c / 16) (by omega) (by omega)
  have i2 := fun w => index_dtab w (c % 16) (by omega) (by omega)
  go_enter Try.func32, Try.ntmps32
  go_wp2_with (first
    | (refine wpList_alloc_blk rfl 62 rfl 2 rfl _ new62 ?_; intro w1 B1 bl1 hz1))
  have c0 : w1.cell? ⟨w.heap.size, 0, none⟩ = some (.int .u8 0) := B1.cell 0
  have c1 : w1.cell? ⟨w.heap.size, 1, none⟩ = some (.int .u8 0) := B1.cell 1
  have f0 := B1.frozen 0
  have f1 := B1.frozen 1
  simp only [Act.put, List.setIfInBounds_toArray, List.set_cons_succ, List.set_cons_zero]
  go_region
  rw [show (c / 16).toNat = c.toNat / 16 by omega, show (c % 16).toNat = c.toNat % 16 by omega]
  have hst : Blk ((w1.setCell ⟨w.heap.size, 0, none⟩ (.int .u8 (dig (c.toNat / 16)))).setCell ⟨w.heap.size, 1, none⟩ (.int .u8 (dig (c.toNat % 16)))).drew w.heap.size 62 (cells8 (pairL c)) := ((B1.set 0 (.int .u8 (dig (c.toNat / 16)))).set 1 (.int .u8 (dig (c.toNat % 16)))).drew
  have hbb : Below w.heap.size w ((w1.setCell ⟨w.heap.size, 0, none⟩ (.int .u8 (dig (c.toNat / 16)))).setCell ⟨w.heap.size, 1, none⟩ (.int .u8 (dig (c.toNat % 16)))).drew := ((bl1.setCell (Nat.le_refl _) _).setCell (Nat.le_refl _) _).drew
  generalize ((w1.setCell ⟨w.heap.size, 0, none⟩ (.int .u8 (dig (c.toNat / 16)))).setCell ⟨w.heap.size, 1, none⟩ (.int .u8 (dig (c.toNat % 16)))).drew = w2 at *
  clear ha i1 i2 c0 c1 f0 f1
  go_wp2_with fail
  refine bodyPost_ret (results_cell_row rfl _ _ w.heap.size 62 _ (0, 0) _ rfl hst Try.underlying62 rfl (by rw [info62]; rfl)) rfl ?_
  exact ⟨rfl, hbb⟩
theorem zero62 : (Try.prog.info? 62).map (fun i => (i.zero.map (·.cells.size), i.size)) = some (some 2, 2) := by kernel_rfl

theorem info5 : (Try.prog.info? 5).map (fun i => (i.zero, i.size, i.bytes)) = some (some (.int .u8 0), 1, 1) := by kernel_rfl
theorem slice62 (w : World) (b : Nat) : (Instr.sliceAt 62 (.pointer (some ⟨b, 0, none⟩)) none none none).run Try.prog w = .ok (.slice (some ⟨b, 0, none⟩) 2 2) w := by
  have e1 : Try.prog.arrayLen 62 = 2 := by kernel_rfl
  have e2 : Try.prog.elem 62 = 5 := by kernel_rfl
  have h5 : (sizeOf 5).run Try.prog w = .ok 1 w := by
    have : (Try.prog.info? 5).map (·.size) = some 1 := by kernel_rfl
    cases hq : Try.prog.info? 5 with
    | none => rw [hq] at this; cases this
    | some i =>
      rw [hq] at this
      simp only [Option.map_some, Option.some.injEq] at this
      simp [sizeOf, typeInfo, hq, this]
  have h := run_sliceAt_array_all (P := Try.prog) w 62 ⟨b, 0, none⟩ (by rw [e1, e2]; exact Try.underlying62)
  rw [h, e1, e2, h5]
  rfl

theorem owns_later {w w' : World} {base : Nat} {e : TypeId} {size : Nat} {v : Value} {n : Nat} {xs : List Value} (h : w.ownsRow base e size v n xs) (b : Below w.heap.size w w') : w'.ownsRow base e size v n xs := by
  refine h.kept (row := none) ⟨b.os, b.tape, b.output, b.size, fun i hi _ => b.block i hi⟩ ?_
  cases v.ownBlock with
  | none => exact .inl rfl
  | some k => exact .inr (by simp)
/-- A variable of bytes is read. -/
theorem sl_blk {w : World} {b : Nat} {t : TypeId} {l : List Int} (h : Blk w b t (cells8 l)) (hb : Byte l) (n : Nat) (hn : l.length = n) : Sl w (some ⟨b, 0, none⟩) n l :=
  ⟨hn, hb, fun j hj => ⟨_, rfl, by
    rw [Addr.add_lit, h.cell]
    simp [cells8, List.getD, show j < l.length by omega]⟩⟩
theorem pairL_byte (c : Int) (h0 : 0 ≤ c) (h1 : c ≤ 255) : Byte (pairL c) := by
  intro n hn
  simp only [pairL, List.mem_cons, List.not_mem_nil, or_false] at hn
  rcases hn with rfl | rfl
  · exact dig_byte _ (by omega)
  · exact dig_byte _ (by omega)
theorem hexL_snoc (l : List Int) (c : Int) : hexL (l ++ [c]) = hexL l ++ pairL c := by simp [hexL]
theorem take_snoc (l : List Int) (i : Nat) (h : i < l.length) : l.take (i + 1) = l.take i ++ [l.getD i 0] := by
  rw [List.take_add_one, List.getElem?_eq_getElem h]
  simp [List.getD, h]

set_option maxRecDepth 100000 in
set_option maxHeartbeats 1000000 in
theorem hex_any (ad : Option Addr) (len cap : Nat) (l : List Int) (w : World) (hs : Sl w ad len l) (hb : len ≤ 1099511627776) : Calls Try.prog 20 #[.slice ad len cap] w fun e w' => e = .returned (.string (strOfNums (hexL l))) ∧ Below w.heap.size w w' := by
  obtain ⟨i0, hi, hz0, hz1, hz2⟩ := info_parts info5
  have hlen := hs.len
  have HLEN := hid2 hlen
  clear hlen
  go_enter Try.func20, Try.ntmps20
  go_wp2_with (first
    | (refine wpList_make_own _ rfl _ _ 22 rfl w.heap.size 5 i0 (.int .u8 0) 1 Try.underlying22 hi hz0 hz1 .i64 .i64 _ (2 * len) rfl rfl (by omega) (by rw [hz2]; omega) (by unfold maxLen; omega) (Nat.le_refl _) ?_; intro w1 hown1 hgr1))
  have hb1 : Below w.heap.size w w1 := (Below.refl _ _).grown hgr1 (Nat.le_refl _) (fun k e => by cases e)
  have hs1 := hs.later hb1
  have HLT := hid2 hs.lt
  have HS := hid2 hs1
  have HB := hid2 hb1
  have HO := hid2 hown1
  clear hs hs1 hb1 hown1 hgr1
  go_loopw [3, 13] (fun ov iv wr => ∃ (i : Nat) (v : Value), i ≤ len ∧ iv = .int .i64 i ∧ ov = v ∧ wr.ownsRow w.heap.size 5 1 v (2 * i) (cells8 (hexL (l.take i))) ∧ Sl wr ad len l ∧ Below w.heap.size w wr) (fun _ iv _ => len - (intOf iv).toNat)
  case atStart => exact ⟨0, _, by omega, rfl, rfl, HO.out, HS.out, HB.out⟩
  case round =>
    rename World => wr
    obtain ⟨i, v, hi2, rfl, rfl, ho, hs, hb2⟩ := hrel
    have hlen := HLEN.out
    clear HS HB HO
    by_cases hlt : i < len
    · obtain ⟨b, off, rfl, hbl, hc⟩ := hs.at (by omega)
      have hci := hc i hlt
      have hx := hs.byte.at i
      have HE := hid2 (take_snoc l i (by omega))
      have HS := hid2 hs
      have HB := hid2 hb2
      have HO := hid2 ho
      clear hs hb2 ho hc hlen
      generalize l.getD i 0 = c at *
      obtain ⟨hx0, hx1⟩ := hx
      go_wp2_with fail
      refine (pairOf_any c _ hx0 hx1).mono ?_
      rintro e w2 ⟨rfl, bl2⟩
      have hone := cells8_one (pairL c)
      have hpl : (cells8 (pairL c)).length = 2 := rfl
      have hpb := pairL_byte c hx0 hx1
      have ho2 := owns_later HO.out bl2
      have hs2 := HS.out.later bl2
      have hb2 := HB.out.trans (bl2.mono HB.out.size)
      clear HO HS HB bl2
      have HO := hid2 ho2
      have HS := hid2 hs2
      have HB := hid2 hb2
      clear ho2 hs2 hb2
      have HPB := hid2 hpb
      clear hpb
      have hsn := fun w => slice62 w
      generalize hP : cells8 (pairL c) = P at *
      have HP := hid2 hP
      clear hP
      go_wp2_with (first
        | (refine wpList_new_var rfl rfl 62 6 (.tmp 18) rfl rfl rfl rfl 2 zero62 P hpl hone (by simp) rfl ?_; intro w3 B3 bl3 hz3)
        | (at_builtin; refine wpList_append_sl _ rfl _ _ 22 rfl w.heap.size 5 i0 (.int .u8 0) Try.underlying22 hi hz0 hz1 hz2 rfl _ (2 * i) (hexL (l.take i)) rfl (owns_later HO.out bl3) _ 2 2 (pairL c) rfl (sl_blk (by rw [HP.out]; exact B3) HPB.out 2 rfl) (fun h => by cases h) (by omega) (Nat.le_trans HB.out.size bl3.size) ?_; intro ad4 c4 w4 hown4 hgr4))
      have hbl4 := grown_below hgr4 (owns_later HO.out bl3) (Nat.le_trans HB.out.size bl3.size)
      refine ⟨⟨i + 1, _, by omega, rfl, rfl, ?_, (HS.out.later bl3).below hbl4 HLT.out, (HB.out.trans (bl3.mono HB.out.size)).trans hbl4⟩, ?_⟩
      · rw [HE.out, hexL_snoc, show 2 * (i + 1) = 2 * i + 2 by omega]
        exact hown4
      · simp only [intOf]; omega
    · have hge : (len : Int) ≤ i := by omega
      obtain ⟨a3, c3, rfl⟩ := owns_form ho
      have hsl := sl_of_owns ho (hexL_byte _ (hs.byte.take i))
      have k1 := run_string_of 22 5 9 Try.underlying22 Try.underlying5 Try.underlying9 (cap := c3) hsl
      have hl : l.take i = l := List.take_of_length_le (by omega)
      rw [hl] at k1
      have HB := hid2 hb2
      clear hsl hl ho hs hb2 hlen
      go_wp2_with fail
      go_ret
      exact ⟨rfl, HB.out⟩

end Go.Proofs.Ytfieglepljmmkaa
