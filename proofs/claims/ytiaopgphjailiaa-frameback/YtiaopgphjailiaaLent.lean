import Derived.Test.YtiaopgphjailiaaCrc
import Derived.Laws.CopyOwn
namespace Go.Proofs.Ytiaopgphjailiaa
open Go.RowKit
set_option linter.unusedVariables false

theorem info_parts {P : Program} {ty : TypeId} {z : Option Value} {s b : Nat} (h : (P.info? ty).map (fun i => (i.zero, i.size, i.bytes)) = some (z, s, b)) : ∃ i, P.info? ty = some i ∧ i.zero = z ∧ i.size = s ∧ i.bytes = b := by
  cases e : P.info? ty with
  | none => rw [e] at h; cases h
  | some i =>
    rw [e] at h
    simp at h
    exact ⟨i, rfl, h.1, h.2.1, h.2.2⟩
theorem info5 : (Try.prog.info? 5).map (fun i => (i.zero, i.size, i.bytes)) = some (some (.int .u8 0), 1, 1) := by kernel_rfl
theorem size5b : (Try.prog.info? 5).map (·.size) = some 1 := by kernel_rfl
/-- What is lent, as far as it is laid. -/
def lentTo (l : List Int) (i : Nat) : List Int := l ++ (List.replicate (i - l.length) 201 ++ List.replicate (l.length + 8 - i) 0)
theorem lentTo_len (l : List Int) (i : Nat) (h : l.length ≤ i) (h2 : i ≤ l.length + 8) : (lentTo l i).length = l.length + 8 := by
  simp [lentTo]
  omega
theorem lentTo_step (l : List Int) (i : Nat) (h : l.length ≤ i) (h2 : i < l.length + 8) : (cells8 (lentTo l i)).set i (.int .u8 201) = cells8 (lentTo l (i + 1)) := by
  unfold lentTo cells8
  rw [← List.map_set, List.set_append, if_neg (by omega), List.set_append, if_neg (by simp), List.length_replicate, show i - l.length - (i - l.length) = 0 by omega, show l.length + 8 - i = (l.length + 8 - (i + 1)) + 1 by omega, List.replicate_succ, List.set_cons_zero, show i + 1 - l.length = (i - l.length) + 1 by omega, List.replicate_succ']
  simp
theorem lentTo_full (l : List Int) : lentTo l (l.length + 8) = l ++ List.replicate 8 201 := by
  simp [lentTo, show l.length + 8 - l.length = 8 by omega]
theorem splice_zero (l : List Int) : splice (List.replicate (l.length + 8) (Value.int .u8 0)) 0 (cells8 l) = cells8 (lentTo l l.length) := by
  unfold splice lentTo
  simp [cells8]

theorem lent_min {l : List Int} {len : Nat} (h : l.length = len) : (cells8 l).length = Nat.min len (len + 8) := by
  rw [cells8_length, h]
  exact (Nat.min_eq_left (by omega)).symm
theorem lent_fit {l : List Int} {len : Nat} (h : l.length = len) : 0 + (cells8 l).length ≤ (List.replicate (len + 8) (Value.int .u8 0)).length := by
  rw [cells8_length, List.length_replicate]
  omega
theorem lent_src {w : World} {ad : Option Addr} {len : Nat} {l : List Int} (h : Sl w ad len l) (hp : 0 < (cells8 l).length) : ∃ a, ad = some a ∧ ∀ j v, (cells8 l)[j]? = some v → w.cell? (a.add j) = some v := by
  rw [cells8_length, h.len] at hp
  obtain ⟨b, off, rfl, _, _⟩ := h.at hp
  exact ⟨_, rfl, h.cells⟩

set_option maxRecDepth 100000 in
set_option maxHeartbeats 1000000 in
theorem lent_any (ad : Option Addr) (len cap : Nat) (l : List Int) (w : World) (hs : Sl w ad len l) (hb : len ≤ 140737488355328) : Calls Try.prog 9 #[.slice ad len cap] w fun e w' =>
    e = .returned (.slice (some ⟨w.heap.size, 0, none⟩) (len + 8) (len + 8)) ∧ Blk w' w.heap.size 5 (cells8 (l ++ List.replicate 8 201)) ∧ Below w.heap.size w w' := by
  obtain ⟨i0, hi, hz0, hz1, hz2⟩ := info_parts info5
  have hlen := hs.len
  have HS := hidden hs
  have HLEN := hidden hlen
  clear hs hlen
  obtain ⟨g, hg⟩ : ∃ g, w.heap.size = g := ⟨_, rfl⟩
  go_enter Try.func9, Try.ntmps9
  go_wp2_with (first
    | (refine wpList_make_room w rfl (.tmp 7) (.tmp 7) 22 rfl 5 i0 (.int .u8 0) Try.underlying22 hi hz0 hz1 hz2 rfl .i64 .i64 _ _ (len + 8) (len + 8) rfl rfl ?_ ?_ (Nat.le_refl _) (by omega) ?_; (omega); (omega); intro w1 B1 hsz1 bl1; have HB1 := hidden B1; have HBL1 := hidden bl1; clear B1 bl1)
    | (refine wpList_copy_splice rfl (.tmp 9) (.tmp 10) 22 22 rfl 5 Try.underlying22 size5b _ _ _ _ _ _ rfl rfl g 0 (List.replicate (len + 8) (Value.int .u8 0)) 5 (by rw [← hg]; exact HB1.out) (cells8 l) (lent_min HLEN.out) (fun hp => ⟨rfl, lent_src (HS.out.later HBL1.out) hp⟩) (lent_fit HLEN.out) (cells8_one l) g w (by rw [← hg]; exact HBL1.out) (Nat.le_refl _) ?_; intro w2 B2 bl2; have HBL2 := hidden bl2; clear bl2))
  have HB2 : Hid (Blk w2 g 5 (cells8 (lentTo l l.length))) := by
    have := B2.out
    rw [← HLEN.out, splice_zero] at this
    exact this
  have HG := hidden hg
  clear B2 HB1 HBL1 hg hsz1
  go_loopw [4] (fun iv wr => ∃ i : Nat, len ≤ i ∧ i ≤ len + 8 ∧ iv = .int .i64 i ∧ Blk wr g 5 (cells8 (lentTo l i)) ∧ Below g w wr) (fun iv _ => len + 8 - (intOf iv).toNat)
  case atStart => exact ⟨len, Nat.le_refl _, by omega, rfl, by rw [← HLEN.out]; exact HB2.out, HBL2.out⟩
  case round =>
    rename World => wr
    obtain ⟨i, hi1, hi2, rfl, hB, hbl⟩ := hrel
    clear HB2 HBL2
    have HB := hidden hB
    have HBL := hidden hbl
    clear hB hbl
    by_cases hlt : i < len + 8
    · have hc : ∃ v, wr.cell? ⟨g, i, none⟩ = some v := by
        rw [HB.out.cell]
        exact ⟨_, List.getElem?_eq_getElem (by rw [cells8_length, lentTo_len l i (by rw [HLEN.out]; exact hi1) (by rw [HLEN.out]; exact hi2), HLEN.out]; exact hlt)⟩
      obtain ⟨v, hc⟩ := hc
      have hf := HB.out.frozen i
      go_wp2_with fail
      refine ⟨⟨i + 1, by omega, by omega, rfl, ?_, HBL.out.setCell (Nat.le_refl g) _⟩, ?_⟩
      · rw [← lentTo_step l i (by rw [HLEN.out]; exact hi1) (by rw [HLEN.out]; exact hlt)]
        exact HB.out.set i _
      · simp only [intOf]; omega
    · have hge : (len : Int) + 8 ≤ i := by omega
      have hie : i = l.length + 8 := by rw [HLEN.out]; omega
      have HF : Hid (Blk wr g 5 (cells8 (l ++ List.replicate 8 201))) := by
        have := HB.out
        rw [hie, lentTo_full] at this
        exact this
      clear hie
      go_wp2_with fail
      go_ret
      rw [HG.out]
      exact ⟨rfl, HF.out, HBL.out⟩

end Go.Proofs.Ytiaopgphjailiaa
