import Derived.Test.YtcgjmioncbihhaaDoorNumA
import Derived.Test.YtcgjmioncbihhaaDoorRow
namespace Go.Proofs.YtcgjmioncbihhaaDoor.Q
open Go.RowKit
set_option linter.unusedVariables false

theorem info5 : (Tryd.prog.info? 5).map (fun i => (i.zero, i.size, i.bytes)) = some (some (.int .u8 0), 1, 1) := by kernel_rfl
theorem size5 : (Tryd.prog.info? 5).map (·.size) = some 1 := by kernel_rfl

theorem owns_splice {w : World} {g n m : Nat} {l : List Int} (hl : l.length = n) (hm : m ≤ maxLen) (hnm : n ≤ m)
    (h : w.heap[g]? = some (.cells (splice (List.replicate m (Value.int .u8 0)) 0 (cells8 l)).toArray 5 (0, 0))) :
    w.ownsRow g 5 1 (.slice (some ⟨g, 0, none⟩) n m) n (cells8 l) := by
  refine ⟨by rw [cells8_length, hl]; omega, .inr ⟨g, m, _, rfl, Nat.le_refl _, h, hnm, hm, ?_, ?_⟩⟩
  · rw [List.size_toArray, length_splice _ _ _ (by rw [cells8_length, hl]; simp; omega)]
    simp
  · simp only [splice, List.take_zero, List.nil_append, Nat.mul_one]
    rw [List.take_append_of_le_length (by rw [cells8_length, hl]; omega), List.take_of_length_le (by rw [cells8_length, hl]; omega)]

/-- What a copy asks of its source, where a cell goes over at all. -/
theorem copy_src {w w1 : World} {ad : Option Addr} {len : Nat} {l : List Int} (hs : Sl w ad len l) (hb : Below w.heap.size w w1) {dp d : Option Addr} (hd : dp = d) :
    0 < (cells8 l).length → dp = d ∧ ∃ x, ad = some x ∧ ∀ j v, (cells8 l)[j]? = some v → w1.cell? (x.add j) = some v := by
  intro hp
  rw [cells8_length, hs.len] at hp
  have hs2 := hs.later hb
  obtain ⟨b, off, rfl, _⟩ := hs.at hp
  exact ⟨hd, _, rfl, hs2.cells⟩

set_option maxHeartbeats 400000 in
theorem copyWithRoom_any (ad : Option Addr) (len cap room : Nat) (l : List Int) (w : World) (hs : Sl w ad len l) (hb : len + room ≤ 281474976710656) :
    Calls Tryd.prog 57 #[.slice ad len cap, .int .i64 room] w fun e w' => e = .returned (.slice (some ⟨w.heap.size, 0, none⟩) len (len + room)) ∧
      w'.ownsRow w.heap.size 5 1 (.slice (some ⟨w.heap.size, 0, none⟩) len (len + room)) len (cells8 l) ∧ Below w.heap.size w w' := by
  obtain ⟨i0, hi, hz0, hz1, hz2⟩ := info_parts info5
  have hlen := hs.len
  go_enter Tryd.func57, Tryd.ntmps57
  go_wp2_with (first
    | (at_make; refine wpList_make_room _ rfl _ _ 38 rfl 5 i0 (.int .u8 0) Tryd.underlying38 hi hz0 hz1 hz2 rfl _ _ _ _ len (len + room) rfl rfl (by omega) (by omega) (by omega) (by omega) ?_; intro w1 hr1 hs1 hb1)
    | (refine wpList_copy_splice rfl (.tmp 13) (.tmp 14) 38 38 rfl 5 Tryd.underlying38 size5 _ _ len (len + room) len cap rfl rfl w.heap.size 0 (List.replicate (len + room) (.int .u8 0)) 5 hr1 (cells8 l) (by rw [cells8_length, hlen]; simp) (copy_src hs hb1 rfl) (by rw [cells8_length, hlen]; simp) (cells8_one l) w.heap.size w hb1 (Nat.le_refl _) ?_))
  intro w2 hr2 hb2
  go_wp2
  go_ret
  exact ⟨rfl, owns_splice hlen (by unfold maxLen; omega) (by omega) hr2.out, hb2⟩

end Go.Proofs.YtcgjmioncbihhaaDoor.Q
