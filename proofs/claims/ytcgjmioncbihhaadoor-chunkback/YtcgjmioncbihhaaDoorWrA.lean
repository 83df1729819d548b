import Derived.Test.YtcgjmioncbihhaaDoorChecked
import Derived.Test.YtcgjmioncbihhaaDoorWld
import Derived.Deep.QuietTactic
import Derived.BigQuiet
namespace Go.Proofs.YtcgjmioncbihhaaDoor
open Go.RowKit
set_option linter.unusedVariables false

theorem info5 : (Tryd.prog.info? 5).map (fun i => (i.zero, i.size, i.bytes)) = some (some (.int .u8 0), 1, 1) := by kernel_rfl
theorem info_parts {P : Program} {ty : TypeId} {z : Option Value} {s b : Nat} (h : (P.info? ty).map (fun i => (i.zero, i.size, i.bytes)) = some (z, s, b)) : ∃ i, P.info? ty = some i ∧ i.zero = z ∧ i.size = s ∧ i.bytes = b := by
  cases e : P.info? ty with
  | none => rw [e] at h; cases h
  | some i =>
    rw [e] at h
    simp at h
    exact ⟨i, rfl, h.1, h.2.1, h.2.2⟩

/-- bytesOf. -/
theorem bytesOf_any (n : Nat) (w : World) (hn : n ≤ 1152921504606846976) : Calls Tryd.prog 43 #[.int .i64 (n : Int)] w fun e w' => e = .returned (.int .i64 (((n + 7) / 8 : Nat) : Int)) ∧ w' = w := by
  go_enter Tryd.func43, Tryd.ntmps43
  go_wp2_with fail
  go_ret
  refine ⟨?_, rfl⟩
  show Ending.returned (.int .i64 (((n : Int) + 8 - 1) / 8)) = _
  congr 2
  omega

theorem len_any (p : Nat) (rb : Option Nat) (L : List Bool) (w : World) (h : WS w p rb L) : Calls Tryd.prog 20 #[.pointer (some ⟨p, 0, none⟩)] w fun e w' => e = .returned (.int .i64 (L.length : Int)) ∧ w' = w := by
  obtain ⟨v, R, h⟩ := h
  have hB := h.blk
  clear h
  have c1 : w.cell? ⟨p, 1, none⟩ = some (.int .i64 (L.length : Int)) := hB.cell 1
  clear hB
  go_enter Tryd.func20, Tryd.ntmps20
  go_wp2_with fail
  go_ret
  exact ⟨rfl, rfl⟩

theorem built53 : Tryd.prog.built 81 [] = some #[.slice none 0 0, .int .i64 0] := by kernel_rfl

theorem newWriter_any (w : World) : Calls Tryd.prog 35 #[] w fun e w' => e = .returned (.pointer (some ⟨w.heap.size, 0, none⟩)) ∧ WS w' w.heap.size none [] ∧ Below w.heap.size w w' := by
  have hb := built53
  go_enter Tryd.func35, Tryd.ntmps35
  go_wp2_with (first
    | (refine wpList_build_to rfl 81 #[] rfl [] #[.slice none 0 0, .int .i64 0] ?_ hb ?_; kernel_rfl)
    | (refine wpList_box_blk rfl 81 (.tmp 1) rfl [.slice none 0 0, .int .i64 0] rfl ?_; intro w2 B2 bl2 hz2))
  go_ret
  exact ⟨rfl, ⟨.slice none 0 0, [], by simp, rfl, B2, World.ownsRow_nil _ _ _ _, fun n hn => by simp at hn, Rep.nil, by simp⟩, bl2⟩

def roomLen (p : Nat) (w : World) : Nat := match w.cell? ⟨p, 0, none⟩ with | some (.slice _ n _) => n | _ => 0
theorem roomLen_eq {w : World} {p : Nat} {ad : Option Addr} {n c : Nat} (h : w.cell? ⟨p, 0, none⟩ = some (.slice ad n c)) : roomLen p w = n := by
  unfold roomLen
  rw [h]

set_option maxHeartbeats 1000000 in
theorem grow_any (p : Nat) (rb : Option Nat) (L : List Bool) (v : Value) (R : List Int) (count : Nat) (w : World) (h : WR w p rb L v R) (hc : count ≤ 1099511627776) :
    Calls Tryd.prog 64 #[.pointer (some ⟨p, 0, none⟩), .int .i64 (count : Int)] w fun e w' => e = .returned (.tuple #[]) ∧ ∃ rb' v' R', WR w' p rb' L v' R' ∧ count ≤ R'.length ∧ Chg (fpt p rb) w w' ∧ Moved w rb rb' := by
  obtain ⟨i0, hi, hz0, hz1, hz2⟩ := info_parts info5
  have HH := hidden h
  clear h
  go_enter Tryd.func64, Tryd.ntmps64
  go_wp2_with fail
  go_loopw [] (fun wr => ∃ rb' v' R', WR wr p rb' L v' R' ∧ Chg (fpt p rb) w wr ∧ Moved w rb rb') (fun wr => count - roomLen p wr)
  case atStart => exact ⟨rb, v, R, HH.out, Chg.refl _ _, .inl rfl⟩
  case round =>
    rename World => wr
    obtain ⟨rb', v', R', hW, hC, hM⟩ := hrel
    obtain ⟨ad, c, rfl⟩ := owns_form hW.row
    have c0 : wr.cell? ⟨p, 0, none⟩ = some (.slice ad R'.length c) := hW.blk.cell 0
    have hrl := roomLen_eq c0
    have HRL := hidden hrl
    have HW := hidden hW
    have HC := hidden hC
    have HM := hidden hM
    clear hW hC hM hrl
    obtain ⟨n, hn⟩ : ∃ n, R'.length = n := ⟨_, rfl⟩
    rw [hn] at c0
    have HN := hidden hn
    clear hn
    by_cases hlt : n < count
    · go_wp2_with (first
        | (at_builtin; (refine wpList_push _ rfl _ _ 38 rfl 5 i0 (.int .u8 0) 1 Tryd.underlying38 hi hz0 hz1 hz2 rfl 0 (.slice ad n c) n (cells8 R') rfl (by rw [← HN.out]; exact (Chg.alloc (fun _ => False) wr _).owns HW.out.row (fun _ _ h => h)) ⟨wr.heap.size, 0, none⟩ (.int .u8 0) rfl (by first | (simp; done) | (simp; omega)) rfl (by unfold maxLen; omega) (by omega) (Nat.zero_le _) ?_); intro g6 c6 w6 ho6 hp6; rw [HN.out] at HW; obtain ⟨B6, W6, C6, M6⟩ := HW.out.push HN.out ho6 hp6; have d0 : w6.cell? ⟨p, 0, none⟩ = some (.slice ad n c) := B6.cell 0; have f0 := B6.frozen 0; have HW6 := hidden W6; have HC6 := hidden C6; have HM6 := hidden M6; clear W6 C6 M6 B6 ho6 hp6 c0))
      refine ⟨⟨_, _, _, HW6.out, HC.out.trans HC6.out (fun i hi hf => fpt_moved HM.out i hi hf), HM.out.trans HM6.out HC.out.size⟩, ?_⟩
      have e := roomLen_eq (HW6.out.blk.cell 0)
      rw [e, HRL.out, HN.out]
      omega
    · go_wp2_with fail
      go_end0
      exact ⟨rfl, _, _, _, HW.out, by rw [HN.out]; omega, HC.out, HM.out⟩

end Go.Proofs.YtcgjmioncbihhaaDoor
