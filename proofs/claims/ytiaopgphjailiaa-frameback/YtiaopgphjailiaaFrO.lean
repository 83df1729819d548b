/-
  Lists written full.
-/
import Derived.Test.YtiaopgphjailiaaFrN
namespace Go.Proofs.Ytiaopgphjailiaa
open Go Go.RowKit
set_option linter.unusedVariables false
set_option linter.unusedSimpArgs false

theorem owns_addr {w : World} {base : Nat} {e : TypeId} {ad : Option Addr} {n c : Nat} {xs : List Value} (h : w.ownsRow base e 1 (.slice ad n c) n xs) (hp : 0 < n) : ∃ g, ad = some ⟨g, 0, none⟩ := by
  rcases h.2 with ⟨_, h0⟩ | ⟨g, c', cur, hv, _⟩
  · omega
  · simp only [Value.slice.injEq] at hv
    exact ⟨g, hv.1⟩
theorem fill_set (xs : List Int) (i : Nat) (mark : Int) (h : i < xs.length) : (List.replicate i mark ++ xs.drop i).set i mark = List.replicate (i + 1) mark ++ xs.drop (i + 1) := by
  rw [List.set_append, if_neg (by simp), List.length_replicate, Nat.sub_self, List.drop_eq_getElem_cons h, List.set_cons_zero, List.replicate_succ']
  simp

set_option maxHeartbeats 1000000 in
theorem full_any (ad : Option Addr) (n c : Nat) (xs : List Int) (mark : Int) (w : World) (ho : w.ownsRow 0 5 1 (.slice ad n c) n (cells8 xs)) (hn : n ≤ 140737488350000) (hm : 0 ≤ mark ∧ mark ≤ 255) :
    Calls Try.prog 15 #[.slice ad n c, .int .u8 mark] w fun e w' => ∃ ad' c', e = .returned (.slice ad' (n + 64) c') ∧ w'.ownsRow 0 5 1 (.slice ad' (n + 64) c') (n + 64) (cells8 (List.replicate (n + 64) mark)) ∧
      Chg (fun i => (Value.slice ad n c).ownBlock = some i) w w' ∧ Moved w (Value.slice ad n c).ownBlock (Value.slice ad' (n + 64) c').ownBlock := by
  obtain ⟨i0, hi, hz0, hz1, hz2⟩ := info_parts info5
  have hl : Hid (xs.length = n) := by show _ = _; have := ho.1; rw [cells8_length] at this; simpa using this
  have HO := hidden ho
  have HM := hidden hm
  clear ho hm
  go_enter Try.func15, Try.ntmps15
  go_wp2_with fail
  go_loopw [5] (fun iv wr => ∃ i : Nat, i ≤ n ∧ iv = .int .i64 (i : Int) ∧ wr.ownsRow 0 5 1 (.slice ad n c) n (cells8 (List.replicate i mark ++ xs.drop i)) ∧ Chg (fun j => (Value.slice ad n c).ownBlock = some j) w wr) (fun iv _ => n - (intOf iv).toNat)
  case atStart => exact ⟨0, Nat.zero_le _, rfl, by simpa using HO.out, Chg.refl _ _⟩
  case round =>
    obtain ⟨i, hin, rfl, hrow, hch⟩ := hrel
    by_cases hlt : i < n
    · obtain ⟨g, rfl⟩ := owns_addr hrow (by omega)
      have hcell : ∃ old, wr.cell? ⟨g, i, none⟩ = some old := ⟨_, (hrow.cellAt i (by omega)).trans (List.getElem?_eq_getElem (by rw [cells8_length, List.length_append, List.length_replicate, List.length_drop, hl.out]; omega))⟩
      obtain ⟨old, hcell⟩ := hcell
      have hfr := hrow.frozenAt i
      have HR2 := hidden (owns_set hrow i mark (by rw [List.length_append, List.length_replicate, List.length_drop, hl.out]; omega))
      have HC2 := hidden (hch.trans (Chg.set ⟨g, i, none⟩ (.int .u8 mark) wr) (fun j _ h => by dsimp only at h; rw [h]; rfl))
      clear hrow hch
      go_wp2
      go_roundw
      case rel =>
        refine ⟨i + 1, by omega, by go_num, ?_, HC2.out⟩
        have := HR2.out
        rw [fill_set xs i mark (by rw [hl.out]; omega)] at this
        exact this
      case measure => simp [intOf]; omega
    · obtain rfl : i = n := by omega
      have hrow2 : wr.ownsRow 0 5 1 (.slice ad i c) i (cells8 (List.replicate (i + 0) mark)) := by
        rw [List.drop_eq_nil_of_le (by rw [hl.out]; exact Nat.le_refl _), List.append_nil] at hrow
        exact hrow
      have HR := hidden hrow2
      have HC := hidden hch
      clear hrow hrow2 hch
      go_wp2_with fail
      rename World => w1
      go_loopw [0, 6] (fun sv kv wr => ∃ (k : Nat) (a' : Option Addr) (c' : Nat), k ≤ 64 ∧ kv = .int .i64 (k : Int) ∧ sv = .slice a' (i + k) c' ∧ wr.ownsRow 0 5 1 (.slice a' (i + k) c') (i + k) (cells8 (List.replicate (i + k) mark)) ∧ Chg (fun j => (Value.slice ad i c).ownBlock = some j) w wr ∧ Moved w (Value.slice ad i c).ownBlock (Value.slice a' (i + k) c').ownBlock) (fun _ kv _ => 64 - (intOf kv).toNat)
      case atStart => exact ⟨0, ad, c, by omega, rfl, rfl, HR.out, HC.out, .inl rfl⟩
      case round =>
        obtain ⟨k, a', c', hk, rfl, rfl, hrow, hch, hmv⟩ := hrel
        have HR2 := hidden hrow
        have HC2 := hidden hch
        have HM2 := hidden hmv
        clear hrow hch hmv
        by_cases hlt2 : k < 64
        · go_wp2_with (first
            | (at_builtin; refine wpList_push _ rfl _ _ 22 rfl 5 i0 (.int .u8 0) 1 Try.underlying22 hi hz0 hz1 hz2 rfl 0 (.slice a' (i + k) c') (i + k) (cells8 (List.replicate (i + k) mark)) rfl (by exact HR2.out.alloc _) ⟨wr.heap.size, 0, none⟩ (.int .u8 mark) rfl (by simp) rfl (by unfold maxLen; omega) (by omega) (Nat.zero_le _) ?_; intro g3 c3 w5 ho3 hp3))
          go_roundw
          case rel =>
            obtain ⟨hc5, hm5⟩ := hp3.chg
            refine ⟨k + 1, some ⟨g3, 0, none⟩, c3, by omega, by go_num, rfl, ?_, HC2.out.trans hc5 (fun j hj h => ?_), HM2.out.trans hm5 HC2.out.size⟩
            · have e : cells8 (List.replicate (i + k) mark) ++ [Value.int .u8 mark] = cells8 (List.replicate (i + (k + 1)) mark) := by
                rw [show i + (k + 1) = i + k + 1 by omega, List.replicate_succ', cells8_append]; rfl
              rw [e] at ho3
              exact ho3
            · rcases HM2.out with e | ⟨g', e, hg'⟩
              · rw [← e]; exact h
              · rw [h] at e
                obtain rfl := Option.some.inj e
                omega
          case measure => simp [intOf]; omega
        · obtain rfl : k = 64 := by omega
          go_wp2_with fail
          go_ret
          exact ⟨_, _, rfl, HR2.out, HC2.out, HM2.out⟩

set_option maxHeartbeats 1000000 in
theorem all_any (ad : Option Addr) (n c : Nat) (mark : Int) (w : World) (hs : Sl w ad n (List.replicate n mark)) (hn : n ≤ 140737488355328) (hm : 0 ≤ mark ∧ mark ≤ 255) :
    Calls Try.prog 16 #[.slice ad n c, .int .u8 mark] w fun e w' => e = .returned (.bool true) ∧ w' = w := by
  have HS := hidden hs
  clear hs hm
  go_enter Try.func16, Try.ntmps16
  go_wp2_with fail
  go_loopw [5] (fun iv wr => ∃ i : Nat, i ≤ n ∧ iv = .int .i64 (i : Int) ∧ wr = w) (fun iv _ => n - (intOf iv).toNat)
  case atStart => exact ⟨0, Nat.zero_le _, rfl, rfl⟩
  case round =>
    obtain ⟨i, hin, rfl, rfl⟩ := hrel
    by_cases hlt : i < n
    · obtain ⟨g, off, rfl, _, hc⟩ := HS.out.at (by omega)
      have c0 : wr.cell? ⟨g, off + i, none⟩ = some (.int .u8 mark) := by
        have := hc i hlt
        rw [List.getD_eq_getElem?_getD, List.getElem?_replicate, if_pos hlt] at this
        exact this
      clear hc
      go_wp2
      go_roundw
      case rel => exact ⟨i + 1, by omega, by go_num, by first | rfl | trivial⟩
      case measure => simp [intOf]; omega
    · obtain rfl : i = n := by omega
      go_wp2
      go_ret
      exact ⟨rfl, rfl⟩

end Go.Proofs.Ytiaopgphjailiaa
