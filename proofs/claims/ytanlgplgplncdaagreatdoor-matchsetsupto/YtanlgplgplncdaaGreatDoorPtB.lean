/-
  Signs; the first code point.
-/
import Derived.Test.YtanlgplgplncdaaGreatDoorPtR
import Derived.Test.YtanlgplgplncdaaGreatDoorAny
import Derived.Test.YtanlgplgplncdaaGreatDoorProg
import Derived.Laws.IdiomStrings
import Derived.BigQuiet
import Derived.Deep.CutRange
import Derived.Lib.Strings
import Derived.Laws.RangeAny
namespace Go.Proofs.YtanlgplgplncdaaGreatDoor
open Go.RowKit
set_option linter.unusedVariables false
set_option linter.unusedSimpArgs false

theorem beqc (c k : Nat) : (((c : Nat) : Int) == ((k : Nat) : Int)) = (c == k) := by
  rw [Bool.eq_iff_iff]
  simp
  omega

set_option maxRecDepth 100000 in
set_option maxHeartbeats 4000000 in
theorem isSignP (c : Nat) (w : World) : Calls Tryz.prog 125 #[.int .i32 (c : Int)] w fun e w' => e = .returned (.bool (isSg c)) ∧ w' = w := by
  have e1 : ((c : Int) == 92) = (c == 92) := beqc c 92
  have e2 : ((c : Int) == 46) = (c == 46) := beqc c 46
  have e3 : ((c : Int) == 91) = (c == 91) := beqc c 91
  have e4 : ((c : Int) == 93) = (c == 93) := beqc c 93
  have e5 : ((c : Int) == 40) = (c == 40) := beqc c 40
  have e6 : ((c : Int) == 41) = (c == 41) := beqc c 41
  have e7 : ((c : Int) == 124) = (c == 124) := beqc c 124
  have e8 : ((c : Int) == 42) = (c == 42) := beqc c 42
  have e9 : ((c : Int) == 43) = (c == 43) := beqc c 43
  have e10 : ((c : Int) == 63) = (c == 63) := beqc c 63
  have e11 : ((c : Int) == 94) = (c == 94) := beqc c 94
  have e12 : ((c : Int) == 45) = (c == 45) := beqc c 45
  unfold isSg
  generalize (c == 92) = b1 at *
  generalize (c == 46) = b2 at *
  generalize (c == 91) = b3 at *
  generalize (c == 93) = b4 at *
  generalize (c == 40) = b5 at *
  generalize (c == 41) = b6 at *
  generalize (c == 124) = b7 at *
  generalize (c == 42) = b8 at *
  generalize (c == 43) = b9 at *
  generalize (c == 63) = b10 at *
  generalize (c == 94) = b11 at *
  generalize (c == 45) = b12 at *
  go_enter Tryz.func125, Tryz.ntmps125
  cases b1
  case true => go_wp2; go_ret; exact ⟨rfl, rfl⟩
  cases b2
  case true => go_wp2; go_ret; exact ⟨rfl, rfl⟩
  cases b3
  case true => go_wp2; go_ret; exact ⟨rfl, rfl⟩
  cases b4
  case true => go_wp2; go_ret; exact ⟨rfl, rfl⟩
  cases b5
  case true => go_wp2; go_ret; exact ⟨rfl, rfl⟩
  cases b6
  case true => go_wp2; go_ret; exact ⟨rfl, rfl⟩
  cases b7
  case true => go_wp2; go_ret; exact ⟨rfl, rfl⟩
  cases b8
  case true => go_wp2; go_ret; exact ⟨rfl, rfl⟩
  cases b9
  case true => go_wp2; go_ret; exact ⟨rfl, rfl⟩
  cases b10
  case true => go_wp2; go_ret; exact ⟨rfl, rfl⟩
  cases b11
  case true => go_wp2; go_ret; exact ⟨rfl, rfl⟩
  cases b12
  case true => go_wp2; go_ret; exact ⟨rfl, rfl⟩
  go_wp2
  go_ret
  exact ⟨rfl, rfl⟩

theorem size_bts (s : ByteArray) : s.size = (bts s).length := by rw [bts, Array.length_toList]; rfl
theorem bts_inj {a b : ByteArray} (h : bts a = bts b) : a = b := by
  obtain ⟨⟨a⟩⟩ := a
  obtain ⟨⟨b⟩⟩ := b
  simpa [bts] using h
theorem bts_extract (s : ByteArray) (i j : Nat) : bts (s.extract i j) = ((bts s).drop i).take (j - i) := by
  simp [bts, ByteArray.data_extract, List.extract_eq_take_drop]
theorem dc_bts (s : ByteArray) : dc (bts s) = (Utf8.decode s 0).1 := by
  have e : (⟨(bts s).toArray⟩ : ByteArray) = s := bts_inj (by simp [bts])
  rw [dc, e]
/-- What firstPoint compares. -/
theorem fp_cases (s : ByteArray) (c : Nat) (hc : (Utf8.decode s 0).1 = c) (E : ByteArray) (hE : Utf8.encode (c : Int) = E) :
    (s.size = 0 → fp (bts s) = none) ∧ (s.size < E.size → fp (bts s) = none) ∧ (0 < s.size → E.size ≤ s.size → s.extract 0 E.size = E → fp (bts s) = some (c, E.size)) ∧ (E.size ≤ s.size → s.extract 0 E.size ≠ E → fp (bts s) = none) := by
  have hd : dc (bts s) = c := by rw [dc_bts]; exact hc
  have he : enc c = bts E := by rw [enc, hE]
  have hx : s.extract 0 E.size = E ↔ bts E <+: bts s := by
    constructor
    · intro h
      have := congrArg bts h
      rw [bts_extract, List.drop_zero, Nat.sub_zero] at this
      rw [← this]
      exact List.take_prefix _ _
    · rintro ⟨t, ht⟩
      apply bts_inj
      rw [bts_extract, List.drop_zero, Nat.sub_zero, ← ht, size_bts, List.take_left]
  have hno : ¬ bts E <+: bts s → fp (bts s) = none := fun h => by
    cases hf : fp (bts s) with
    | none => rfl
    | some r =>
      obtain ⟨x, k⟩ := r
      rw [fp, fpG_some, hd, he] at hf
      exact absurd hf.2.1 h
  refine ⟨fun h0 => ?_, fun hlt => hno (fun hp => ?_), fun h0 hle h => ?_, fun hle h => hno (fun hp => h (hx.2 hp))⟩
  · cases hf : fp (bts s) with
    | none => rfl
    | some r =>
      obtain ⟨x, k⟩ := r
      rw [fp, fpG_some] at hf
      exact absurd (List.eq_nil_of_length_eq_zero (by rw [← size_bts]; exact h0)) hf.1
  · have := hp.length_le
    rw [← size_bts, ← size_bts] at this
    omega
  · rw [fp, fpG_some, hd, he]
    refine ⟨fun e => ?_, hx.1 h, rfl, (size_bts E).symm⟩
    rw [size_bts, e] at h0
    exact absurd h0 (by simp)

set_option maxRecDepth 100000 in
set_option maxHeartbeats 4000000 in
theorem firstPointP (s : ByteArray) (w : World) (hs : s.size ≤ 140737488355328) : Calls Tryz.prog 99 #[.string s] w fun e w' => e = .returned (.tuple #[.int .i32 ((((fp (bts s)).getD (0, 0)).1 : Nat) : Int), .int .i64 ((((fp (bts s)).getD (0, 0)).2 : Nat) : Int)]) ∧ Below w.heap.size w w' := by
  obtain ⟨c, hc⟩ : ∃ c, (Utf8.decode s 0).1 = c := ⟨_, rfl⟩
  obtain ⟨E, hE⟩ : ∃ E, Utf8.encode (c : Int) = E := ⟨_, rfl⟩
  obtain ⟨p1, p2, p3, p4⟩ := fp_cases s c hc E hE
  have hB : ∀ k, Below w.heap.size w (w.iter s k) := fun k => (Below.refl _ _).alloc (Nat.le_refl _) _
  have HB := hidden hB
  have hlen : E.size ≤ 4 := by
    have := (enc_len (c := c) (by rw [← hc]; exact decode_vc s 0)).2
    rw [enc, hE, ← size_bts] at this
    exact this
  have hcv : ∀ w : World, (convert 21 9 (.int .i32 (c : Int))).run Tryz.prog w = .ok (.string E) w := fun w => by
    rw [convert]
    simp [Tryz.underlying21, Tryz.underlying9, go_sem, Conv.intToString, hE]
  clear hB
  by_cases h0 : 0 < s.size
  · have hnx : ∀ ty, (Instr.next (.pointer (some ⟨w.heap.size, 0, none⟩)) true ty).run Tryz.prog (w.iter s 0) = .ok (.tuple #[.bool true, .int .i64 0, .int .i32 (c : Int)]) (w.iter s (0 + (Utf8.decode s 0).2)) := fun ty => by
      have := run_next_any (P := Tryz.prog) w s 0 ty h0
      rw [hc] at this
      exact this
    obtain ⟨k, hk⟩ : ∃ k, 0 + (Utf8.decode s 0).2 = k := ⟨_, rfl⟩
    rw [hk] at hnx
    by_cases hlt : s.size < E.size
    · have hltz : (s.size : Int) < (E.size : Int) := by omega
      have HP := hidden (p2 hlt)
      clear p1 p2 p3 p4 hk hc hE
      go_enter Tryz.func99, Tryz.ntmps99
      go_wp2
      go_loopw [] (fun wr => wr = w.iter s 0) (fun _ => 0)
      case atStart => rfl
      case round =>
        subst hrel
        go_wp2
        go_ret2
        rw [HP.out]
        exact ⟨rfl, HB.out _⟩
    · have hltz : ¬ (s.size : Int) < (E.size : Int) := by omega
      have hltz' : decide ((s.size : Int) < (E.size : Int)) = false := decide_eq_false hltz
      have hle : (E.size : Int) ≤ (s.size : Int) := by omega
      by_cases he : s.extract 0 E.size = E
      · have HP := hidden (p3 h0 (by omega) he)
        clear p1 p2 p3 p4 hk hc hE
        go_enter Tryz.func99, Tryz.ntmps99
        go_wp2
        go_loopw [] (fun wr => wr = w.iter s 0) (fun _ => 0)
        case atStart => rfl
        case round =>
          subst hrel
          go_wp2
          go_ret2
          rw [HP.out]
          exact ⟨rfl, HB.out _⟩
      · have HP := hidden (p4 (by omega) he)
        have hne : ((s.extract 0 E.size).toList == E.toList) = false := by
          rw [beq_eq_false_iff_ne]
          intro e
          rw [Lib.toList_data, Lib.toList_data] at e
          exact he (bts_inj e)
        clear p1 p2 p3 p4 hk hc hE
        go_enter Tryz.func99, Tryz.ntmps99
        go_wp2
        go_loopw [] (fun wr => wr = w.iter s 0) (fun _ => 0)
        case atStart => rfl
        case round =>
          subst hrel
          go_wp2
          go_ret2
          rw [HP.out]
          exact ⟨rfl, HB.out _⟩
  · have hnx : ∀ ty, (Instr.next (.pointer (some ⟨w.heap.size, 0, none⟩)) true ty).run Tryz.prog (w.iter s 0) = .ok (.tuple #[.bool false]) (w.iter s 0) := fun ty => run_next_end (P := Tryz.prog) w s 0 ty h0
    have HP := hidden (p1 (by omega))
    clear p1 p2 p3 p4 hc hE
    go_enter Tryz.func99, Tryz.ntmps99
    go_wp2
    go_loopw [] (fun wr => wr = w.iter s 0) (fun _ => 0)
    case atStart => rfl
    case round =>
      subst hrel
      go_wp2
      go_ret2
      rw [HP.out]
      exact ⟨rfl, HB.out _⟩

end Go.Proofs.YtanlgplgplncdaaGreatDoor
