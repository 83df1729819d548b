import Derived.Test.YtfieglepljmmkaaUnhex
import Derived.Test.YtfieglepljmmkaaPush
import Derived.Deep.RegionLaw
namespace Go.Proofs.Ytfieglepljmmkaa
open Go.RowKit
set_option linter.unusedVariables false

theorem Sl.drew {w : World} {ad : Option Addr} {len : Nat} {l : List Int} (h : Sl w ad len l) : Sl w.drew ad len l := ⟨h.len, h.byte, h.cell⟩
/-- 'append(v, a, b)' as a step of a region that draws its order. -/
theorem step_append_sl {P : Program} (w : World) {ops : Array Oper} {o : Oper} {a : Act} {K : Act → World → Prop} {Q : Exit → Act → World → Prop} {E : Prop} (hgd : o.guard = none) (s x : Operand) (t : TypeId)
    (ho : o.op = .call { callee := .builtin .append, args := #[s, x], argTypes := #[t, t] })
    (base : Nat) (e : TypeId) (i : TypeInfo) (z : Value) (ht : P.underlying t = some (.slice e)) (hi : P.info? e = some i) (hz : i.zero = some z)
    (hsize : i.size = 1) (hby : i.bytes = 1) (hzs : z.cells.size = 1)
    (v : Value) (n : Nat) (xs : List Int) (hs : a.eval s = v) (hown : w.ownsRow base e 1 v n (cells8 xs))
    (ad : Addr) (m c : Nat) (l : List Int) (hx : a.eval x = .slice (some ad) m c) (hsl : Sl w (some ad) m l)
    (hbytes : n + m ≤ 140737488355328) (hbase : base ≤ w.heap.size)
    (h : ∀ ad' c' w', w'.ownsRow base e 1 (.slice ad' (n + m) c') (n + m) (cells8 (xs ++ l)) → w.grownBy w' v.ownBlock → K (a.put o.dst (.slice ad' (n + m) c')) w') :
    if Region.wanted o (yielded ops a.tmps) = true then Oper.wp P o a w K Q else E := by
  have hw : Region.wanted o (yielded ops a.tmps) = true := by simp [Region.wanted, hgd]
  rw [if_pos hw]
  obtain ⟨v', w', hr, h1, h2, _⟩ := run_append_own (P := P) w base t o.type e i z 1 1 ht hi hz hsize hby hzs (by omega) v n (cells8 xs) hown ad m c (cells8 l) (by rw [cells8_length, hsl.len]; omega) hsl.cells (cells8_one l) (by unfold maxLen; omega) (by omega) hbase
  obtain ⟨ad', c', rfl⟩ := owns_form h1
  rw [← cells8_append] at h1
  unfold Oper.wp
  simp [execOp, ho, resolve, invoke, builtin, hs, hx, hr, Result.andThen]
  exact h ad' c' w' h1 h2

set_option maxRecDepth 100000 in
set_option maxHeartbeats 1000000 in
theorem refHex_any (ad : Option Addr) (len cap : Nat) (l : List Int) (w : World) (hs : Sl w ad len l) (hb : len ≤ 1099511627776) : Calls Try.prog 23 #[.slice ad len cap] w fun e w' => e = .returned (.string (strOfNums (hexL l))) ∧ Below w.heap.size w w' := by
  obtain ⟨i0, hi, hz0, hz1, hz2⟩ := info_parts info5
  have hlen := hs.len
  have HLEN := hid2 hlen
  have HLT := hid2 hs.lt
  have HS0 := hid2 hs
  clear hlen hs
  go_enter Try.func23, Try.ntmps23
  go_wp2_with fail
  go_loopw [3, 4] (fun ov iv wr => ∃ (i : Nat) (v : Value), i ≤ len ∧ iv = .int .i64 i ∧ ov = v ∧ wr.ownsRow w.heap.size 5 1 v (2 * i) (cells8 (hexL (l.take i))) ∧ Sl wr ad len l ∧ Below w.heap.size w wr) (fun _ iv _ => len - (intOf iv).toNat)
  case atStart => exact ⟨0, _, by omega, rfl, rfl, World.ownsRow_nil _ _ _ _, HS0.out, Below.refl _ _⟩
  case round =>
    rename World => wr
    obtain ⟨i, v, hi2, rfl, rfl, ho, hs, hb2⟩ := hrel
    have hlen := HLEN.out
    clear HS0
    by_cases hlt : i < len
    · obtain ⟨b, off, rfl, hbl, hc⟩ := hs.at (by omega)
      have hci := hc i hlt
      have hx := hs.byte.at i
      have HE := hid2 (take_snoc l i (by omega))
      have HS := hid2 hs
      have HB := hid2 hb2
      have HO := hid2 ho
      clear hs hb2 ho hc hlen
      generalize l.getD i 0 = c at *
      obtain ⟨hx0, hx1⟩ := hx
      have i1 := fun w => index_dtab w (c / 16) (by omega) (by omega)
      have i2 := fun w => index_dtab w (c % 16) (by omega) (by omega)
      have ht1 : c.tdiv 16 = c / 16 := Int.tdiv_eq_ediv_of_nonneg hx0
      have ht2 : c.tmod 16 = c % 16 := Int.tmod_eq_emod_of_nonneg hx0
      have hw1 : IntKind.u8.wrap (c / 16) = c / 16 := by rw [IntKind.wrap_u8]; omega
      have hw2 : IntKind.u8.wrap (c % 16) = c % 16 := by rw [IntKind.wrap_u8]; omega
      obtain ⟨p, hp⟩ : ∃ p, dig (c / 16).toNat = p := ⟨_, rfl⟩
      obtain ⟨q, hq⟩ : ∃ q, dig (c % 16).toNat = q := ⟨_, rfl⟩
      rw [hp] at i1
      rw [hq] at i2
      have HPQ : Hid (pairL c = [p, q]) := by
        show pairL c = [p, q]
        rw [← hp, ← hq]
        unfold pairL
        rw [show (c / 16).toNat = c.toNat / 16 by omega, show (c % 16).toNat = c.toNat % 16 by omega]
      have HPB : Hid (Byte [p, q]) := by
        have := pairL_byte c hx0 hx1
        rw [HPQ.out] at this
        exact this
      clear hp hq
      obtain ⟨al, cl, rfl⟩ := owns_form HO.out
      go_wp2_with fail
      go_region_law ((refine step_append_sl _ (by rfl) (.tmp 11) (.tmp 24) 22 (by rfl) w.heap.size 5 i0 (.int .u8 0) Try.underlying22 hi hz0 hz1 hz2 (by rfl) (.slice al (2 * i) cl) (2 * i) (hexL (l.take i)) (by rfl) (by exact (HO.out.alloc _).drew) ⟨wr.heap.size, 0, none⟩ 2 2 [p, q] (by rfl) (by exact (sl_lit wr [p, q] HPB.out 5 (0, 0) 2 rfl _ rfl _ rfl).drew) (by omega) (by have := HB.out.size; simp; omega) ?_; intro ad4 c4 w4 hown4 hgr4))
      all_goals
        have hl1 : Below wr.heap.size wr (wr.alloc (.cells #[.int .u8 p, .int .u8 q] 5)).drew := ((Below.refl _ _).alloc (Nat.le_refl _) _).drew
        have hbl4 := grown_below hgr4 (owns_later HO.out hl1) (Nat.le_trans HB.out.size hl1.size)
        have HS4 : Hid (Sl w4 (some ⟨b, off, none⟩) len l) := (HS.out.later hl1).below hbl4 HLT.out
        have HB4 : Hid (Below w.heap.size w w4) := (HB.out.trans (hl1.mono HB.out.size)).trans hbl4
        have HO4 := hid2 hown4
        clear hown4 hgr4 hl1 hbl4 i1 i2 ht1 ht2 hw1 hw2
        go_wp2_with fail
        refine ⟨⟨i + 1, _, by omega, rfl, rfl, ?_, HS4.out, HB4.out⟩, ?_⟩
        · rw [HE.out, hexL_snoc, HPQ.out, show 2 * (i + 1) = 2 * i + 2 by omega]
          exact HO4.out
        · simp only [intOf]; omega
    · have hge : (len : Int) ≤ i := by omega
      obtain ⟨a3, c3, rfl⟩ := owns_form ho
      have hsl := sl_of_owns ho (hexL_byte _ (hs.byte.take i))
      have k1 := run_string_of 22 5 9 Try.underlying22 Try.underlying5 Try.underlying9 (cap := c3) hsl
      have hl : l.take i = l := List.take_of_length_le (by omega)
      rw [hl] at k1
      have HB := hid2 hb2
      clear hsl hl ho hs hb2 hlen
      go_wp2_with fail
      go_ret
      exact ⟨rfl, HB.out⟩

end Go.Proofs.Ytfieglepljmmkaa
