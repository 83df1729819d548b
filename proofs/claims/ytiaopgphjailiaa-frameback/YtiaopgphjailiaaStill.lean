import Derived.Test.YtiaopgphjailiaaLent
namespace Go.Proofs.Ytiaopgphjailiaa
open Go.RowKit
set_option linter.unusedVariables false

theorem getD_left (l : List Int) (j : Nat) (h : j < l.length) : (l ++ List.replicate 8 201).getD j 0 = l.getD j 0 := by
  simp [List.getD, List.getElem?_append_left h]
theorem getD_right (l : List Int) (j : Nat) (h : l.length ≤ j) (h2 : j < l.length + 8) : (l ++ List.replicate 8 201).getD j 0 = 201 := by
  rw [List.getD_eq_getElem?_getD, List.getElem?_append_right h, List.getElem?_replicate, if_pos (by omega)]
  rfl

set_option maxHeartbeats 1000000 in
theorem still_any (bx ox cx : Nat) (sa : Option Addr) (len cs : Nat) (l : List Int) (w : World) (hx : ∀ j, j < len + 8 → w.cell? ⟨bx, ox + j, none⟩ = some (.int .u8 ((l ++ List.replicate 8 201).getD j 0))) (hs : Sl w sa len l) (hb : len ≤ 140737488355328) :
    Calls Try.prog 11 #[.slice (some ⟨bx, ox, none⟩) (len + 8) cx, .slice sa len cs] w fun e w' => e = .returned (.bool true) ∧ ∃ n, w' = w.drewN n := by
  have HX := hidden hx
  have HS := hidden hs
  have HL := hidden hs.len
  clear hx hs
  go_enter Try.func11, Try.ntmps11
  go_wp2_with fail
  go_loopw [5] (fun i wr => ∃ k n : Nat, k ≤ len + 8 ∧ i = .int .i64 k ∧ wr = w.drewN n) (fun i _ => len + 8 - (intOf i).toNat)
  case atStart => exact ⟨0, 0, Nat.zero_le _, rfl, rfl⟩
  case round =>
    obtain ⟨k, n, hk, rfl, rfl⟩ := hrel
    by_cases hlt : k < len + 8
    · have hxk := HX.out k hlt
      by_cases hk2 : k < len
      · rw [getD_left l k (by rw [HL.out]; exact hk2)] at hxk
        obtain ⟨b, off, rfl, _, hc⟩ := HS.out.at (by omega)
        have hsk := hc k hk2
        clear hc
        generalize l.getD k 0 = c at *
        have hd : decide (len ≤ k) = false := by simp; omega
        have hki : (k : Int) < (len : Int) := by omega
        go_wp2_with fail
        go_quiet (fail)
        go_wp2
        exact ⟨⟨k + 1, n + nq, by omega, by go_num, rfl⟩, by simp [intOf]; omega⟩
      · rw [getD_right l k (by rw [HL.out]; omega) (by rw [HL.out]; omega)] at hxk
        have hd : decide ((k : Int) < (len : Int)) = false := by simp; omega
        have hki : (len : Int) ≤ (k : Int) := by omega
        go_wp2_with fail
        go_quiet (fail)
        go_wp2
        exact ⟨⟨k + 1, n + nq, by omega, by go_num, rfl⟩, by simp [intOf]; omega⟩
    · go_wp2
      go_ret
      exact ⟨rfl, n, rfl⟩

/-- Bytes that were lent are as they were. -/
theorem lent_cell {w : World} {g len : Nat} {l : List Int} (h : Blk w g 5 (cells8 (l ++ List.replicate 8 201))) (hl : l.length = len) : ∀ j, j < len + 8 → w.cell? ⟨g, 0 + j, none⟩ = some (.int .u8 ((l ++ List.replicate 8 201).getD j 0)) := by
  intro j hj
  rw [Nat.zero_add, h.cell]
  have : j < (l ++ List.replicate 8 (201 : Int)).length := by simp; omega
  simp only [cells8, List.getElem?_map, List.getElem?_eq_getElem this, Option.map_some, List.getD, Option.getD_some]
theorem lent_sl {w : World} {g len : Nat} {l : List Int} (h : Blk w g 5 (cells8 (l ++ List.replicate 8 201))) (hl : l.length = len) (hb : Byte l) : Sl w (some ⟨g, 0, none⟩) len l := by
  refine ⟨hl, hb, fun j hj => ⟨_, rfl, ?_⟩⟩
  have := lent_cell h hl j (by omega)
  rw [getD_left l j (by omega)] at this
  rw [Addr.add_lit]
  exact this

end Go.Proofs.Ytiaopgphjailiaa
