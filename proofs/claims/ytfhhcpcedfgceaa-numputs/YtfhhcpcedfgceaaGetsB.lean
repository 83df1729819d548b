import Derived.Test.YtfhhcpcedfgceaaRefB
import Derived.Deep.QuietTactic
import Derived.BigQuiet
namespace Go.Proofs.Ytfhhcpcedfgceaa
open Go.RowKit
set_option linter.unusedVariables false

/-- The bytes that are lent, while the spare room is being marked. -/
def lentL (l : List Int) (k : Nat) : List Int := l ++ (List.replicate k 201 ++ List.replicate (8 - k) 0)
theorem lentL_length (l : List Int) (k : Nat) (hk : k ≤ 8) : (lentL l k).length = l.length + 8 := by simp [lentL]; omega
theorem lentL_set (l : List Int) (k : Nat) (hk : k < 8) : (cells8 (lentL l k)).set (l.length + k) (.int .u8 201) = cells8 (lentL l (k + 1)) := by
  unfold cells8
  rw [← List.map_set]
  congr 1
  unfold lentL
  rw [List.set_append, if_neg (by omega), List.set_append, if_neg (by simp)]
  simp only [Nat.add_sub_cancel_left, List.length_replicate, Nat.sub_self]
  congr 1
  obtain ⟨m, hm⟩ : ∃ m, 8 - k = m + 1 := ⟨8 - k - 1, by omega⟩
  rw [hm, show 8 - (k + 1) = m by omega, List.replicate_succ, List.set_cons_zero, List.replicate_succ']
  simp
theorem lent_byte {l : List Int} (h : Byte l) : Byte (l ++ List.replicate 8 201) := h.append (by intro n hn; have := List.eq_of_mem_replicate hn; omega)

theorem owns_splice8 {w : World} {g n : Nat} {l : List Int} (hl : l.length = n) (hm : n + 8 ≤ maxLen)
    (h : w.heap[g]? = some (.cells (splice (List.replicate (n + 8) (Value.int .u8 0)) 0 (cells8 l)).toArray 5 (0, 0))) :
    w.ownsRow g 5 1 (.slice (some ⟨g, 0, none⟩) (n + 8) (n + 8)) (n + 8) (cells8 (lentL l 0)) := by
  have e : splice (List.replicate (n + 8) (Value.int .u8 0)) 0 (cells8 l) = cells8 (lentL l 0) := by
    simp [splice, cells8, lentL, hl]
  rw [e] at h
  refine ⟨by rw [cells8_length, lentL_length _ _ (by omega), hl]; omega, .inr ⟨g, n + 8, _, rfl, Nat.le_refl _, h, Nat.le_refl _, hm, ?_, ?_⟩⟩
  · rw [List.size_toArray, cells8_length, lentL_length _ _ (by omega), hl]; omega
  · rw [List.take_of_length_le (by simp [cells8_length, lentL_length, hl])]

set_option maxHeartbeats 1000000 in
theorem lent_any (ad : Option Addr) (len cap : Nat) (l : List Int) (w : World) (hs : Sl w ad len l) (hb : len ≤ 140737488351232) :
    Calls Try.prog 7 #[.slice ad len cap] w fun e w' => e = .returned (.slice (some ⟨w.heap.size, 0, none⟩) (len + 8) (len + 8)) ∧
      w'.ownsRow w.heap.size 5 1 (.slice (some ⟨w.heap.size, 0, none⟩) (len + 8) (len + 8)) (len + 8) (cells8 (l ++ List.replicate 8 201)) ∧ Below w.heap.size w w' := by
  obtain ⟨i0, hi, hz0, hz1, hz2⟩ := info_parts info5
  have hlen := hs.len
  go_enter Try.func7, Try.ntmps7
  go_wp2_with (first
    | (at_make; refine wpList_make_room _ rfl _ _ 22 rfl 5 i0 (.int .u8 0) Try.underlying22 hi hz0 hz1 hz2 rfl _ _ _ _ (len + 8) (len + 8) rfl rfl (by omega) (by omega) (by omega) (by omega) ?_; intro w1 hr1 hs1 hb1)
    | (refine wpList_copy_splice rfl (.tmp 9) (.tmp 10) 22 22 rfl 5 Try.underlying22 size5 _ _ (len + 8) (len + 8) len cap rfl rfl w.heap.size 0 (List.replicate (len + 8) (.int .u8 0)) 5 hr1 (cells8 l) (by rw [cells8_length, hlen]; simp) (copy_src hs hb1 rfl) (by rw [cells8_length, hlen]; simp) (cells8_one l) w.heap.size w hb1 (Nat.le_refl _) ?_))
  intro w2 hr2 hb2
  have hown := hidden (owns_splice8 hlen (by unfold maxLen; omega) hr2.out)
  have HL := hidden hlen
  clear hr2 hlen
  go_wp2_with fail
  go_loopw [4] (fun i wr => ∃ k : Nat, k ≤ 8 ∧ i = .int .i64 ((len + k : Nat) : Int) ∧ wr.ownsRow w.heap.size 5 1 (.slice (some ⟨w.heap.size, 0, none⟩) (len + 8) (len + 8)) (len + 8) (cells8 (lentL l k)) ∧ Below w.heap.size w wr) (fun i _ => len + 8 - (intOf i).toNat)
  case atStart => exact ⟨0, by omega, rfl, hown.out, hb2⟩
  case round =>
    obtain ⟨k, hk, rfl, hownr, hbr⟩ := hrel
    by_cases hlt : k < 8
    · have hcell : ∃ old, wr.cell? ⟨w.heap.size, len + k, none⟩ = some old := ⟨_, (hownr.cellAt (len + k) (by omega)).trans (List.getElem?_eq_getElem (by rw [cells8_length, lentL_length _ _ (by omega), HL.out]; omega))⟩
      obtain ⟨old, hcell⟩ := hcell
      have hfr := hownr.frozenAt (len + k)
      have ho := hidden (hownr.stored (len + k) (.int .u8 201))
      go_wp2
      go_roundw
      case rel =>
        refine ⟨k + 1, by omega, by go_num, ?_, ?_⟩
        · have := ho.out.1
          rw [← HL.out, lentL_set l k hlt, HL.out] at this
          exact this
        · exact hbr.grown ho.out.2 hbr.size (by intro j hj; cases hj; exact Nat.le_refl _)
      case measure => simp [intOf]; omega
    · obtain rfl : k = 8 := by omega
      go_wp2
      go_ret
      exact ⟨rfl, by simpa [lentL] using hownr, hbr⟩

theorem getD_left (l : List Int) (j : Nat) (h : j < l.length) : (l ++ List.replicate 8 201).getD j 0 = l.getD j 0 := by
  simp [List.getD, List.getElem?_append_left h]
theorem getD_right (l : List Int) (j : Nat) (h : l.length ≤ j) (h2 : j < l.length + 8) : (l ++ List.replicate 8 201).getD j 0 = 201 := by
  rw [List.getD_eq_getElem?_getD, List.getElem?_append_right h, List.getElem?_replicate, if_pos (by omega)]
  rfl

set_option maxHeartbeats 1000000 in
theorem still_any (bx ox cx : Nat) (sa : Option Addr) (len cs : Nat) (l : List Int) (w : World) (hx : ∀ j, j < len + 8 → w.cell? ⟨bx, ox + j, none⟩ = some (.int .u8 ((l ++ List.replicate 8 201).getD j 0))) (hs : Sl w sa len l) (hb : len ≤ 140737488351232) :
    Calls Try.prog 14 #[.slice (some ⟨bx, ox, none⟩) (len + 8) cx, .slice sa len cs] w fun e w' => e = .returned (.bool true) ∧ ∃ n, w' = w.drewN n := by
  have HX := hidden hx
  have HS := hidden hs
  have HL := hidden hs.len
  clear hx hs
  go_enter Try.func14, Try.ntmps14
  go_wp2_with fail
  go_loopw [5] (fun i wr => ∃ k n : Nat, k ≤ len + 8 ∧ i = .int .i64 k ∧ wr = w.drewN n) (fun i _ => len + 8 - (intOf i).toNat)
  case atStart => exact ⟨0, 0, Nat.zero_le _, rfl, rfl⟩
  case round =>
    obtain ⟨k, n, hk, rfl, rfl⟩ := hrel
    by_cases hlt : k < len + 8
    · have hxk := HX.out k hlt
      by_cases hk2 : k < len
      · rw [getD_left l k (by rw [HL.out]; exact hk2)] at hxk
        obtain ⟨b, off, rfl, _, hc⟩ := HS.out.at (by omega)
        have hsk := hc k hk2
        clear hc
        generalize l.getD k 0 = c at *
        have hd : decide (len ≤ k) = false := by simp; omega
        have hki : (k : Int) < (len : Int) := by omega
        go_wp2_with fail
        go_quiet (fail)
        go_wp2
        exact ⟨⟨k + 1, n + nq, by omega, by go_num, rfl⟩, by simp [intOf]; omega⟩
      · rw [getD_right l k (by rw [HL.out]; omega) (by rw [HL.out]; omega)] at hxk
        have hd : decide ((k : Int) < (len : Int)) = false := by simp; omega
        have hki : (len : Int) ≤ (k : Int) := by omega
        go_wp2_with fail
        go_quiet (fail)
        go_wp2
        exact ⟨⟨k + 1, n + nq, by omega, by go_num, rfl⟩, by simp [intOf]; omega⟩
    · go_wp2
      go_ret
      exact ⟨rfl, n, rfl⟩

end Go.Proofs.Ytfhhcpcedfgceaa
