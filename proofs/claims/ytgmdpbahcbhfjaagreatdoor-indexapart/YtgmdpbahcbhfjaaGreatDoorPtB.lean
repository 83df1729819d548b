import Derived.Test.YtgmdpbahcbhfjaaGreatDoorPtU
import Derived.Test.YtgmdpbahcbhfjaaGreatDoorAny
import Derived.Test.YtgmdpbahcbhfjaaGreatDoorProg
import Derived.Laws.IdiomStrings
import Derived.BigQuiet
import Derived.Deep.CutRange
import Derived.Lib.Strings
import Derived.Laws.RangeAny
set_option linter.unusedSimpArgs false
set_option linter.unusedVariables false
set_option maxHeartbeats 40000000
set_option maxRecDepth 100000
/-
  Signs; the first code point.
-/
namespace Go.Proofs.YtgmdpbahcbhfjaaGreatDoor
open Go.RowKit

theorem beqc (c k : Nat) : (((c : Nat) : Int) == ((k : Nat) : Int)) = (c == k) := by
  rw [Bool.eq_iff_iff]
  simp
  omega

set_option maxRecDepth 100000 in
set_option maxHeartbeats 4000000 in
theorem isSignP (c : Nat) (w : World) : Calls Tryz.prog 188 #[.int .i32 (c : Int)] w fun e w' => e = .returned (.bool (isSg c)) ∧ w' = w := by
  have e1 : ((c : Int) == 92) = (c == 92) := beqc c 92
  have e2 : ((c : Int) == 46) = (c == 46) := beqc c 46
  have e3 : ((c : Int) == 91) = (c == 91) := beqc c 91
  have e4 : ((c : Int) == 93) = (c == 93) := beqc c 93
  have e5 : ((c : Int) == 40) = (c == 40) := beqc c 40
  have e6 : ((c : Int) == 41) = (c == 41) := beqc c 41
  have e7 : ((c : Int) == 124) = (c == 124) := beqc c 124
  have e8 : ((c : Int) == 42) = (c == 42) := beqc c 42
  have e9 : ((c : Int) == 43) = (c == 43) := beqc c 43
  have e10 : ((c : Int) == 63) = (c == 63) := beqc c 63
  have e11 : ((c : Int) == 94) = (c == 94) := beqc c 94
  have e12 : ((c : Int) == 45) = (c == 45) := beqc c 45
  unfold isSg
  generalize (c == 92) = b1 at *
  generalize (c == 46) = b2 at *
  generalize (c == 91) = b3 at *
  generalize (c == 93) = b4 at *
  generalize (c == 40) = b5 at *
  generalize (c == 41) = b6 at *
  generalize (c == 124) = b7 at *
  generalize (c == 42) = b8 at *
  generalize (c == 43) = b9 at *
  generalize (c == 63) = b10 at *
  generalize (c == 94) = b11 at *
  generalize (c == 45) = b12 at *
  go_enter Tryz.func188, Tryz.ntmps188
  cases b1
  case true => go_wp2; go_ret; exact ⟨rfl, rfl⟩
  cases b2
  case true => go_wp2; go_ret; exact ⟨rfl, rfl⟩
  cases b3
  case true => go_wp2; go_ret; exact ⟨rfl, rfl⟩
  cases b4
  case true => go_wp2; go_ret; exact ⟨rfl, rfl⟩
  cases b5
  case true => go_wp2; go_ret; exact ⟨rfl, rfl⟩
  cases b6
  case true => go_wp2; go_ret; exact ⟨rfl, rfl⟩
  cases b7
  case true => go_wp2; go_ret; exact ⟨rfl, rfl⟩
  cases b8
  case true => go_wp2; go_ret; exact ⟨rfl, rfl⟩
  cases b9
  case true => go_wp2; go_ret; exact ⟨rfl, rfl⟩
  cases b10
  case true => go_wp2; go_ret; exact ⟨rfl, rfl⟩
  cases b11
  case true => go_wp2; go_ret; exact ⟨rfl, rfl⟩
  cases b12
  case true => go_wp2; go_ret; exact ⟨rfl, rfl⟩
  go_wp2
  go_ret
  exact ⟨rfl, rfl⟩

theorem size_bts (s : ByteArray) : s.size = (bts s).length := by rw [bts, Array.length_toList]; rfl
theorem bts_inj {a b : ByteArray} (h : bts a = bts b) : a = b := by
  obtain ⟨⟨a⟩⟩ := a
  obtain ⟨⟨b⟩⟩ := b
  simpa [bts] using h
theorem bts_extract (s : ByteArray) (i j : Nat) : bts (s.extract i j) = ((bts s).drop i).take (j - i) := by
  simp [bts, ByteArray.data_extract, List.extract_eq_take_drop]
theorem dc_bts (s : ByteArray) : dc (bts s) = (Utf8.decode s 0).1 := by
  have e : (⟨(bts s).toArray⟩ : ByteArray) = s := bts_inj (by simp [bts])
  rw [dc, e]
/-- What firstPoint compares. -/
theorem fp_cases (s : ByteArray) (c : Nat) (hc : (Utf8.decode s 0).1 = c) (E : ByteArray) (hE : Utf8.encode (c : Int) = E) :
    (s.size = 0 → fp (bts s) = none) ∧ (s.size < E.size → fp (bts s) = none) ∧ (0 < s.size → E.size ≤ s.size → s.extract 0 E.size = E → fp (bts s) = some (c, E.size)) ∧ (E.size ≤ s.size → s.extract 0 E.size ≠ E → fp (bts s) = none) := by
  have hd : dc (bts s) = c := by rw [dc_bts]; exact hc
  have he : enc c = bts E := by rw [enc, hE]
  have hx : s.extract 0 E.size = E ↔ bts E <+: bts s := by
    constructor
    · intro h
      have := congrArg bts h
      rw [bts_extract, List.drop_zero, Nat.sub_zero] at this
      rw [← this]
      exact List.take_prefix _ _
    · rintro ⟨t, ht⟩
      apply bts_inj
      rw [bts_extract, List.drop_zero, Nat.sub_zero, ← ht, size_bts, List.take_left]
  have hno : ¬ bts E <+: bts s → fp (bts s) = none := fun h => by
    cases hf : fp (bts s) with
    | none => rfl
    | some r =>
      obtain ⟨x, k⟩ := r
      rw [fp, fpG_some, hd, he] at hf
      exact absurd hf.2.1 h
  refine ⟨fun h0 => ?_, fun hlt => hno (fun hp => ?_), fun h0 hle h => ?_, fun hle h => hno (fun hp => h (hx.2 hp))⟩
  · cases hf : fp (bts s) with
    | none => rfl
    | some r =>
      obtain ⟨x, k⟩ := r
      rw [fp, fpG_some] at hf
      exact absurd (List.eq_nil_of_length_eq_zero (by rw [← size_bts]; exact h0)) hf.1
  · have := hp.length_le
    rw [← size_bts, ← size_bts] at this
    omega
  · rw [fp, fpG_some, hd, he]
    refine ⟨fun e => ?_, hx.1 h, rfl, (size_bts E).symm⟩
    rw [size_bts, e] at h0
    exact absurd h0 (by simp)

set_option maxRecDepth 100000 in
set_option maxHeartbeats 4000000 in
theorem firstPointP (s : ByteArray) (w : World) (hs : s.size ≤ 140737488355328) : Calls Tryz.prog 152 #[.string s] w fun e w' => e = .returned (.tuple #[.int .i32 ((((fp (bts s)).getD (0, 0)).1 : Nat) : Int), .int .i64 ((((fp (bts s)).getD (0, 0)).2 : Nat) : Int)]) ∧ Below w.heap.size w w' := by
  obtain ⟨c, hc⟩ : ∃ c, (Utf8.decode s 0).1 = c := ⟨_, rfl⟩
  obtain ⟨E, hE⟩ : ∃ E, Utf8.encode (c : Int) = E := ⟨_, rfl⟩
  obtain ⟨p1, p2, p3, p4⟩ := fp_cases s c hc E hE
  have hB : ∀ k, Below w.heap.size w (w.iter s k) := fun k => (Below.refl _ _).alloc (Nat.le_refl _) _
  have HB := hidden hB
  have hlen : E.size ≤ 4 := by
    have := (enc_len (c := c) (by rw [← hc]; exact decode_vc s 0)).2
    rw [enc, hE, ← size_bts] at this
    exact this
  have hcv : ∀ w : World, (convert 21 9 (.int .i32 (c : Int))).run Tryz.prog w = .ok (.string E) w := fun w => by
    rw [convert]
    simp [Tryz.underlying21, Tryz.underlying9, go_sem, Conv.intToString, hE]
  clear hB
  by_cases h0 : 0 < s.size
  · have hnx : ∀ ty, (Instr.next (.pointer (some ⟨w.heap.size, 0, none⟩)) true ty).run Tryz.prog (w.iter s 0) = .ok (.tuple #[.bool true, .int .i64 0, .int .i32 (c : Int)]) (w.iter s (0 + (Utf8.decode s 0).2)) := fun ty => by
      have := run_next_any (P := Tryz.prog) w s 0 ty h0
      rw [hc] at this
      exact this
    obtain ⟨k, hk⟩ : ∃ k, 0 + (Utf8.decode s 0).2 = k := ⟨_, rfl⟩
    rw [hk] at hnx
    by_cases hlt : s.size < E.size
    · have hltz : (s.size : Int) < (E.size : Int) := by omega
      have HP := hidden (p2 hlt)
      clear p1 p2 p3 p4 hk hc hE
      go_enter Tryz.func152, Tryz.ntmps152
      go_wp2
      go_loopw [] (fun wr => wr = w.iter s 0) (fun _ => 0)
      case atStart => rfl
      case round =>
        subst hrel
        go_wp2
        go_ret2
        rw [HP.out]
        exact ⟨rfl, HB.out _⟩
    · have hltz : ¬ (s.size : Int) < (E.size : Int) := by omega
      have hltz' : decide ((s.size : Int) < (E.size : Int)) = false := decide_eq_false hltz
      have hle : (E.size : Int) ≤ (s.size : Int) := by omega
      by_cases he : s.extract 0 E.size = E
      · have HP := hidden (p3 h0 (by omega) he)
        clear p1 p2 p3 p4 hk hc hE
        go_enter Tryz.func152, Tryz.ntmps152
        go_wp2
        go_loopw [] (fun wr => wr = w.iter s 0) (fun _ => 0)
        case atStart => rfl
        case round =>
          subst hrel
          go_wp2
          go_ret2
          rw [HP.out]
          exact ⟨rfl, HB.out _⟩
      · have HP := hidden (p4 (by omega) he)
        have hne : ((s.extract 0 E.size).toList == E.toList) = false := by
          rw [beq_eq_false_iff_ne]
          intro e
          rw [Lib.toList_data, Lib.toList_data] at e
          exact he (bts_inj e)
        clear p1 p2 p3 p4 hk hc hE
        go_enter Tryz.func152, Tryz.ntmps152
        go_wp2
        go_loopw [] (fun wr => wr = w.iter s 0) (fun _ => 0)
        case atStart => rfl
        case round =>
          subst hrel
          go_wp2
          go_ret2
          rw [HP.out]
          exact ⟨rfl, HB.out _⟩
  · have hnx : ∀ ty, (Instr.next (.pointer (some ⟨w.heap.size, 0, none⟩)) true ty).run Tryz.prog (w.iter s 0) = .ok (.tuple #[.bool false]) (w.iter s 0) := fun ty => run_next_end (P := Tryz.prog) w s 0 ty h0
    have HP := hidden (p1 (by omega))
    clear p1 p2 p3 p4 hc hE
    go_enter Tryz.func152, Tryz.ntmps152
    go_wp2
    go_loopw [] (fun wr => wr = w.iter s 0) (fun _ => 0)
    case atStart => rfl
    case round =>
      subst hrel
      go_wp2
      go_ret2
      rw [HP.out]
      exact ⟨rfl, HB.out _⟩

end Go.Proofs.YtgmdpbahcbhfjaaGreatDoor
/-
  character: its region that draws its order.
-/
namespace Go.Proofs.YtgmdpbahcbhfjaaGreatDoor
open Go Go.RowKit

set_option maxRecDepth 100000 in
set_option maxHeartbeats 2000000 in
theorem char_r2 (r a9 c k : Nat) (s : ByteArray) (w : World) (a0 : Act) (Q : Exit → Act → World → Prop) (hsz : a0.tmps.size = 39)
    (s0 : a0.tmps.getD 0 undef = .pointer (some ⟨r, 0, none⟩))
    (hle : (a9 : Int) ≤ (s.size : Int)) (hle2 : a9 ≤ s.size)
    (c0 : ∀ w1, Lat w w1 → w1.cell? ⟨r, 0, none⟩ = some (.string s)) (c1 : ∀ w1, Lat w w1 → w1.cell? ⟨r, 1, none⟩ = some (.int .i64 (a9 : Int)))
    (hcall : ∀ w1, Lat w w1 → Calls Tryz.prog 152 #[.string (s.extract a9 s.size)] w1 fun e w' => e = .returned (.tuple #[.int .i32 (c : Int), .int .i64 (k : Int)]) ∧ Below w1.heap.size w1 w')
    (hQ : ∀ (v10 v11 v12 v13 v14 v15 v16 v17 v18 v19 v9 v20 v21 : Value) (w1 : World), Lat w w1 → Q .normal (((((((((((((((a0.put (some 10) v10).put (some 11) v11).put (some 12) v12).put (some 13) v13).put (some 14) v14).put (some 15) v15).put (some 16) v16).put (some 17) v17).put (some 18) v18).put (some 19) v19).put (some 9) v9).put (some 20) v20).put (some 21) v21).put (some 5) (.int .i32 (c : Int))).put (some 6) (.int .i64 (k : Int))) w1) :
    Code.wp Tryz.prog ((Tryz.f185.body.bind (findRegion 2)).getD .skip) Q a0 w := by
  conv => arg 2; whnf
  refine wp_region_inv Lat (TV [.pointer (some ⟨r, 0, none⟩), .pointer (some ⟨r, 0, none⟩), .pointer (some ⟨r, 0, none⟩), .string s, .pointer (some ⟨r, 0, none⟩), .pointer (some ⟨r, 0, none⟩), .pointer (some ⟨r, 1, none⟩), .int .i64 (a9 : Int), .string (s.extract a9 s.size), .tuple #[.int .i32 (c : Int), .int .i64 (k : Int)], .tuple #[.int .i32 (c : Int), .int .i64 (k : Int)], .int .i32 (c : Int), .int .i64 (k : Int), .int .i32 (c : Int), .int .i64 (k : Int)]) (by kernel_rfl) (by kernel_rfl) (by kernel_rfl) (by rw [hsz]; kernel_rfl) (by kernel_rfl) Lat.refl Lat.trans (TV.stable _) (Lat.draw w) ?hop ?hdone
  case hdone =>
    intro a w1 hL hS hT
    have k5 : a.tmps.getD 5 undef = .int .i32 (c : Int) := hT 13 _ rfl _ rfl
    have k6 : a.tmps.getD 6 undef = .int .i64 (k : Int) := hT 14 _ rfl _ rfl
    have he := same_puts hS
    have hQ2 := hQ (a.tmps.getD 10 undef) (a.tmps.getD 11 undef) (a.tmps.getD 12 undef) (a.tmps.getD 13 undef) (a.tmps.getD 14 undef) (a.tmps.getD 15 undef) (a.tmps.getD 16 undef) (a.tmps.getD 17 undef) (a.tmps.getD 18 undef) (a.tmps.getD 19 undef) (a.tmps.getD 9 undef) (a.tmps.getD 20 undef) (a.tmps.getD 21 undef) w1 hL
    rw [← k5, ← k6] at hQ2
    rw [he]
    exact hQ2
  case hop =>
    intro i o hi
    have hlt : i < 15 := (Array.getElem?_eq_some_iff.1 hi).1
    rcases (show i = 0 ∨ i = 1 ∨ i = 2 ∨ i = 3 ∨ i = 4 ∨ i = 5 ∨ i = 6 ∨ i = 7 ∨ i = 8 ∨ i = 9 ∨ i = 10 ∨ i = 11 ∨ i = 12 ∨ i = 13 ∨ i = 14 by omega) with rfl | rfl | rfl | rfl | rfl | rfl | rfl | rfl | rfl | rfl | rfl | rfl | rfl | rfl | rfl
    · obtain rfl := Option.some.inj hi
      clear hi hlt
      intro a w1 hL hS hD
      have e0 : a.tmps.getD 0 undef = .pointer (some ⟨r, 0, none⟩) := (hS.slot 0 (by kernel_rfl)).trans s0
      refine step_yes rfl ?_
      exact ok_value Lat.refl (.pointer (some ⟨r, 0, none⟩)) (by simp [execOp, Act.eval, e0, go_sem]) (TV.mk rfl)
    · obtain rfl := Option.some.inj hi
      clear hi hlt
      intro a w1 hL hS hD
      have d0 : a.tmps.getD 10 undef = .pointer (some ⟨r, 0, none⟩) := hD ⟨0, .data⟩ (by simp) rfl _ rfl _ rfl
      refine step_yes rfl ?_
      exact ok_value Lat.refl (.pointer (some ⟨r, 0, none⟩)) (by simp [execOp, Act.eval, d0, go_sem]) (TV.mk rfl)
    · obtain rfl := Option.some.inj hi
      clear hi hlt
      intro a w1 hL hS hD
      have d1 : a.tmps.getD 11 undef = .pointer (some ⟨r, 0, none⟩) := hD ⟨1, .data⟩ (by simp) rfl _ rfl _ rfl
      refine step_yes rfl ?_
      exact ok_value Lat.refl (.pointer (some ⟨r, 0, none⟩)) (by simp [execOp, Act.eval, d1, go_sem]) (TV.mk rfl)
    · obtain rfl := Option.some.inj hi
      clear hi hlt
      intro a w1 hL hS hD
      have d2 : a.tmps.getD 12 undef = .pointer (some ⟨r, 0, none⟩) := hD ⟨2, .data⟩ (by simp) rfl _ rfl _ rfl
      refine step_yes rfl ?_
      exact ok_value Lat.refl (.string s) (by simp [execOp, Act.eval, d2, c0 w1 hL, go_sem]) (TV.mk rfl)
    · obtain rfl := Option.some.inj hi
      clear hi hlt
      intro a w1 hL hS hD
      have e0 : a.tmps.getD 0 undef = .pointer (some ⟨r, 0, none⟩) := (hS.slot 0 (by kernel_rfl)).trans s0
      refine step_yes rfl ?_
      exact ok_value Lat.refl (.pointer (some ⟨r, 0, none⟩)) (by simp [execOp, Act.eval, e0, go_sem]) (TV.mk rfl)
    · obtain rfl := Option.some.inj hi
      clear hi hlt
      intro a w1 hL hS hD
      have d4 : a.tmps.getD 14 undef = .pointer (some ⟨r, 0, none⟩) := hD ⟨4, .data⟩ (by simp) rfl _ rfl _ rfl
      refine step_yes rfl ?_
      exact ok_value Lat.refl (.pointer (some ⟨r, 0, none⟩)) (by simp [execOp, Act.eval, d4, go_sem]) (TV.mk rfl)
    · obtain rfl := Option.some.inj hi
      clear hi hlt
      intro a w1 hL hS hD
      have d5 : a.tmps.getD 15 undef = .pointer (some ⟨r, 0, none⟩) := hD ⟨5, .data⟩ (by simp) rfl _ rfl _ rfl
      refine step_yes rfl ?_
      exact ok_value Lat.refl (.pointer (some ⟨r, 1, none⟩)) (by simp [execOp, Act.eval, d5, go_sem]) (TV.mk rfl)
    · obtain rfl := Option.some.inj hi
      clear hi hlt
      intro a w1 hL hS hD
      have d6 : a.tmps.getD 16 undef = .pointer (some ⟨r, 1, none⟩) := hD ⟨6, .data⟩ (by simp) rfl _ rfl _ rfl
      refine step_yes rfl ?_
      exact ok_value Lat.refl (.int .i64 (a9 : Int)) (by simp [execOp, Act.eval, d6, c1 w1 hL, go_sem]) (TV.mk rfl)
    · obtain rfl := Option.some.inj hi
      clear hi hlt
      intro a w1 hL hS hD
      have d3 : a.tmps.getD 13 undef = .string s := hD ⟨3, .data⟩ (by simp) rfl _ rfl _ rfl
      have d7 : a.tmps.getD 17 undef = .int .i64 (a9 : Int) := hD ⟨7, .data⟩ (by simp) rfl _ rfl _ rfl
      refine step_yes rfl ?_
      exact ok_value Lat.refl (.string (s.extract a9 s.size)) (by simp [execOp, Act.eval, d3, d7, hle, hle2, go_sem]) (TV.mk rfl)
    · obtain rfl := Option.some.inj hi
      clear hi hlt
      intro a w1 hL hS hD
      have d8 : a.tmps.getD 18 undef = .string (s.extract a9 s.size) := hD ⟨8, .data⟩ (by simp) rfl _ rfl _ rfl
      refine step_yes rfl ?_
      refine ok_call (f := 152) (args := #[.string (s.extract a9 s.size)]) (by simp [execOp, resolve, Act.eval, d8, go_sem]) ?_
      refine (hcall w1 hL).mono ?_
      rintro e w' ⟨rfl, hb⟩
      exact ⟨_, rfl, hb, TV.mk rfl⟩
    · obtain rfl := Option.some.inj hi
      clear hi hlt
      intro a w1 hL hS hD
      have d9 : a.tmps.getD 19 undef = .tuple #[.int .i32 (c : Int), .int .i64 (k : Int)] := hD ⟨9, .data⟩ (by simp) rfl _ rfl _ rfl
      refine step_yes rfl ?_
      exact ok_value Lat.refl (.tuple #[.int .i32 (c : Int), .int .i64 (k : Int)]) (by simp [execOp, Act.eval, d9, go_sem]) (TV.mk rfl)
    · obtain rfl := Option.some.inj hi
      clear hi hlt
      intro a w1 hL hS hD
      have d10 : a.tmps.getD 9 undef = .tuple #[.int .i32 (c : Int), .int .i64 (k : Int)] := hD ⟨10, .data⟩ (by simp) rfl _ rfl _ rfl
      refine step_yes rfl ?_
      exact ok_value Lat.refl (.int .i32 (c : Int)) (by simp [execOp, Act.eval, d10, go_sem]) (TV.mk rfl)
    · obtain rfl := Option.some.inj hi
      clear hi hlt
      intro a w1 hL hS hD
      have d10 : a.tmps.getD 9 undef = .tuple #[.int .i32 (c : Int), .int .i64 (k : Int)] := hD ⟨10, .data⟩ (by simp) rfl _ rfl _ rfl
      refine step_yes rfl ?_
      exact ok_value Lat.refl (.int .i64 (k : Int)) (by simp [execOp, Act.eval, d10, go_sem]) (TV.mk rfl)
    · obtain rfl := Option.some.inj hi
      clear hi hlt
      intro a w1 hL hS hD
      have d11 : a.tmps.getD 20 undef = .int .i32 (c : Int) := hD ⟨11, .data⟩ (by simp) rfl _ rfl _ rfl
      refine step_yes rfl ?_
      exact ok_value Lat.refl (.int .i32 (c : Int)) (by simp [execOp, Act.eval, d11, go_sem]) (TV.mk rfl)
    · obtain rfl := Option.some.inj hi
      clear hi hlt
      intro a w1 hL hS hD
      have d12 : a.tmps.getD 21 undef = .int .i64 (k : Int) := hD ⟨12, .data⟩ (by simp) rfl _ rfl _ rfl
      refine step_yes rfl ?_
      exact ok_value Lat.refl (.int .i64 (k : Int)) (by simp [execOp, Act.eval, d12, go_sem]) (TV.mk rfl)

end Go.Proofs.YtgmdpbahcbhfjaaGreatDoor
/-
  The reader: take, character.
-/
namespace Go.Proofs.YtgmdpbahcbhfjaaGreatDoor
open Go.RowKit

/-- The reader: a text, where it stands, how deep. -/
def Rd (w : World) (r : Nat) (s : ByteArray) (a d : Nat) : Prop := Blk w r 215 [.string s, .int .i64 (a : Int), .int .i64 (d : Int)]
theorem Rd.set {w : World} {r : Nat} {s : ByteArray} {a d : Nat} (h : Rd w r s a d) (b : Nat) : Rd (w.setCell ⟨r, 1, none⟩ (.int .i64 (b : Int))) r s b d := Blk.set h 1 _
theorem Rd.drewN {w : World} {r : Nat} {s : ByteArray} {a d : Nat} (h : Rd w r s a d) (n : Nat) : Rd (w.drewN n) r s a d := Blk.drewN h n
theorem Rd.chg {F : Nat → Prop} {w w' : World} {r : Nat} {s : ByteArray} {a d : Nat} (h : Rd w r s a d) (hc : Chg F w w') (hF : ¬ F r) : Rd w' r s a d := hc.blk h hF
theorem byte_at (s : ByteArray) {i : Nat} (h : i < s.size) : ∃ x, s[i] = x ∧ (bts s)[i]? = some x := by
  refine ⟨s[i], rfl, ?_⟩
  have hl : i < (bts s).length := by rw [← size_bts]; exact h
  rw [List.getElem?_eq_getElem hl]
  rfl
def tkN (S : List UInt8) (a : Nat) (c : UInt8) : Nat := if S[a]? = some c then a + 1 else a

set_option maxRecDepth 100000 in
set_option maxHeartbeats 4000000 in
theorem takeP (r : Nat) (s : ByteArray) (a d : Nat) (c : UInt8) (w : World) (h : Rd w r s a d) (ha : a ≤ s.size) (hs : s.size ≤ 140737488355328) :
    Calls Tryz.prog 150 #[.pointer (some ⟨r, 0, none⟩), .int .u8 (c.toNat : Int)] w fun e w' => e = .returned (.bool (decide ((bts s)[a]? = some c))) ∧ Rd w' r s (tkN (bts s) a c) d ∧ Chg (fun i => i = r) w w' := by
  have c0 : w.cell? ⟨r, 0, none⟩ = some (.string s) := h.cell 0
  have c1 : w.cell? ⟨r, 1, none⟩ = some (.int .i64 (a : Int)) := h.cell 1
  have f1 := h.frozen 1
  have HH := hidden h
  clear h
  unfold tkN
  by_cases hlt : a < s.size
  · obtain ⟨x, hx, hx2⟩ := byte_at s hlt
    have hltz : (a : Int) < (s.size : Int) := by omega
    have hne : ((a : Int) == (s.size : Int)) = false := by simp; omega
    have hne2 : (a == s.size) = false := by simp; omega
    rw [hx2]
    by_cases hc : x = c
    · subst hc
      rw [if_pos rfl, decide_eq_true rfl]
      have k1 : ∀ n, (w.drewN n).cell? ⟨r, 1, none⟩ = some (.int .i64 (a : Int)) := fun n => c1
      have g1 : ∀ n, (w.drewN n).frozen? ⟨r, 1, none⟩ = false := fun n => f1
      have HR : Hid (∀ n, Rd ((w.drewN n).setCell ⟨r, 1, none⟩ (.int .i64 ((a : Int) + 1))) r s (a + 1) d) := hidden (fun n => by have := (HH.out.drewN n).set (a + 1); simpa using this)
      clear hx2
      go_enter Tryz.func150, Tryz.ntmps150
      go_wp2
      go_quiet (fail)
      have d1 := k1 nq
      have e1 := g1 nq
      clear k1 g1
      go_wp2
      go_ret
      exact ⟨rfl, HR.out _, (Chg.drewN (fun i => i = r) w _).trans (Chg.set ⟨r, 1, none⟩ _ _) (fun _ _ e => e)⟩
    · have hb : (((x.toNat : Nat) : Int) == ((c.toNat : Nat) : Int)) = false := by
        rw [beq_eq_false_iff_ne]
        intro e
        exact hc (UInt8.toNat_inj.1 (by omega))
      rw [if_neg (by simpa using hc), decide_eq_false (by simpa using hc)]
      clear hx2 hc
      go_enter Tryz.func150, Tryz.ntmps150
      go_wp2
      go_quiet (fail)
      go_wp2
      go_ret
      exact ⟨rfl, HH.out.drewN _, Chg.drewN (fun i => i = r) w _⟩
  · obtain rfl : a = s.size := by omega
    have hn : (bts s)[s.size]? = none := List.getElem?_eq_none (by rw [← size_bts]; exact Nat.le_refl _)
    rw [hn, if_neg (by simp), decide_eq_false (by simp)]
    clear hn
    go_enter Tryz.func150, Tryz.ntmps150
    go_wp2
    go_quiet (fail)
    go_wp2
    go_ret
    exact ⟨rfl, HH.out.drewN _, Chg.drewN (fun i => i = r) w _⟩

/-- What character answers. -/
def ChR (S : List UInt8) (a : Nat) (c b : Nat) (ok : Bool) : Prop := a ≤ b ∧ b ≤ S.length ∧ (ok = true → charF S a = .ok c b ∧ Vc c) ∧ (ok = false → charF S a = .bad b ∧ c = 0)
theorem char_pure (S : List UInt8) (a : Nat) (ha : a ≤ S.length) : a ≤ tkN S a 92 ∧ tkN S a 92 ≤ S.length ∧ (∀ r, fp (S.drop (tkN S a 92)) = some r → tkN S a 92 + r.2 ≤ S.length ∧ Vc r.1 ∧ 1 ≤ r.2 ∧ (isSg r.1 = decide (S[a]? = some 92) → ChR S a r.1 (tkN S a 92 + r.2) true) ∧ (isSg r.1 ≠ decide (S[a]? = some 92) → ChR S a 0 (tkN S a 92) false)) ∧ (fp (S.drop (tkN S a 92)) = none → ChR S a 0 (tkN S a 92) false) := by
  have hb : (if decide (S[a]? = some 92) = true then a + 1 else a) = tkN S a 92 := by unfold tkN; by_cases h : S[a]? = some 92 <;> simp [h]
  have hl : tkN S a 92 ≤ S.length := by
    unfold tkN
    split
    · rename_i h; exact (List.getElem?_eq_some_iff.1 h).1
    · exact ha
  have hg : a ≤ tkN S a 92 := by unfold tkN; split <;> omega
  have hcf : charF S a = match fp (S.drop (tkN S a 92)) with
      | none => .bad (tkN S a 92)
      | some (c, k) => if isSg c = decide (S[a]? = some 92) then .ok c (tkN S a 92 + k) else .bad (tkN S a 92) := by
    unfold charF
    simp only [hb]
    generalize fp (List.drop (tkN S a 92) S) = o
    cases o <;> rfl
  refine ⟨hg, hl, fun r hr => ?_, fun hr => ⟨hg, hl, (fun h => by cases h), fun _ => ⟨by rw [hcf, hr], rfl⟩⟩⟩
  obtain ⟨c, k⟩ := r
  have h1 := fp_len hr
  rw [List.length_drop] at h1
  have hv := (fp_some.1 hr).1
  rw [hr] at hcf
  simp only at hcf
  refine ⟨by show tkN S a 92 + k ≤ _; omega, hv, h1.1, fun hs => ⟨by show a ≤ tkN S a 92 + k; omega, by show tkN S a 92 + k ≤ _; omega, fun _ => ⟨by rw [hcf, if_pos hs], hv⟩, (fun h => by cases h)⟩, fun hs => ⟨hg, hl, (fun h => by cases h), fun _ => ⟨by rw [hcf, if_neg hs], rfl⟩⟩⟩

set_option maxRecDepth 100000 in
set_option maxHeartbeats 4000000 in
theorem characterP (r : Nat) (s : ByteArray) (a d : Nat) (w : World) (h : Rd w r s a d) (ha : a ≤ s.size) (hs : s.size ≤ 140737488355328) :
    Calls Tryz.prog 185 #[.pointer (some ⟨r, 0, none⟩)] w fun e w' => ∃ c b ok, e = .returned (.tuple #[.int .i32 ((c : Nat) : Int), .bool ok]) ∧ ChR (bts s) a c b ok ∧ Rd w' r s b d ∧ Chg (fun i => i = r) w w' := by
  have kT := takeP r s a d 92 w h ha hs
  have HH := hidden h
  obtain ⟨p1, p2, p3, p4⟩ := char_pure (bts s) a (by rw [← size_bts]; exact ha)
  obtain ⟨esc, hesc⟩ : ∃ esc, decide ((bts s)[a]? = some 92) = esc := ⟨_, rfl⟩
  obtain ⟨b, hb⟩ : ∃ b, tkN (bts s) a 92 = b := ⟨_, rfl⟩
  rw [hesc, hb] at kT p3
  rw [hb] at p1 p2 p4
  have hbs : b ≤ s.size := by rw [size_bts]; exact p2
  have hex : bts (s.extract b s.size) = (bts s).drop b := by
    rw [bts_extract, List.take_of_length_le]
    rw [List.length_drop, ← size_bts]; exact Nat.le_refl _
  have kF := fun w1 => firstPointP (s.extract b s.size) w1 (by rw [size_bts, hex, List.length_drop, ← size_bts]; omega)
  rw [hex] at kF
  clear hex hesc hb h
  have hbz : (b : Int) ≤ (s.size : Int) := by omega
  cases hf : fp ((bts s).drop b) with
  | none =>
    rw [hf] at kF
    have HR := hidden (p4 hf)
    clear p1 p2 p3 p4 hf
    go_enter Tryz.func185, Tryz.ntmps185
    go_upto_region 2 with (go_at_call 150; refine kT.mono ?_; rintro e w1 ⟨rfl, h1, hc1⟩; clear kT)
    refine char_r2 r b 0 0 s w1 _ _ ?z0 ?z1 hbz hbs (fun w2 hl => (hl.cell (p := ⟨r, 0, none⟩) h1.lt).trans (h1.cell 0)) (fun w2 hl => (hl.cell (p := ⟨r, 1, none⟩) h1.lt).trans (h1.cell 1)) (fun w2 _ => kF w2) ?_
    case z0 => rfl
    case z1 => rfl
    intros
    rename_i w2 hl2
    simp only [Act.put, List.setIfInBounds_toArray, List.set_cons_succ, List.set_cons_zero]
    have P2 := hidden (show Rd w2 r s b d from h1.later hl2)
    have C2 := hidden (hc1.trans (Chg.of_below (F := fun i => i = r) hl2) (fun _ _ e => e))
    clear h1 hc1 hl2 kF
    go_wp2
    go_ret2
    exact ⟨0, b, false, rfl, HR.out, P2.out, C2.out⟩
  | some q =>
    rw [hf] at kF
    obtain ⟨q1, q2, q3, q4, q5⟩ := p3 q hf
    obtain ⟨c, k⟩ := q
    simp only [Option.getD_some] at kF q1 q2 q3 q4 q5
    have hk0 : ((k : Int) == 0) = false := by simp; omega
    have kS := fun w1 => isSignP c w1
    have HQ1 := hidden q1
    clear p1 p2 p3 p4 hf
    by_cases hsg : isSg c = esc
    · have HR := hidden (q4 hsg)
      have hbk : b + k ≤ 140737488355328 := by rw [← size_bts] at q1; omega
      rw [hsg] at kS
      have hes : (esc == esc) = true := by simp
      clear q4 q5 hsg q1 q2
      go_enter Tryz.func185, Tryz.ntmps185
      go_upto_region 2 with (go_at_call 150; refine kT.mono ?_; rintro e w1 ⟨rfl, h1, hc1⟩; clear kT)
      refine char_r2 r b c k s w1 _ _ ?y0 ?y1 hbz hbs (fun w2 hl => (hl.cell (p := ⟨r, 0, none⟩) h1.lt).trans (h1.cell 0)) (fun w2 hl => (hl.cell (p := ⟨r, 1, none⟩) h1.lt).trans (h1.cell 1)) (fun w2 _ => kF w2) ?_
      case y0 => rfl
      case y1 => rfl
      intros
      rename_i w2 hl2
      simp only [Act.put, List.setIfInBounds_toArray, List.set_cons_succ, List.set_cons_zero]
      have P2 := hidden (show Rd w2 r s b d from h1.later hl2)
      have C2 := hidden (hc1.trans (Chg.of_below (F := fun i => i = r) hl2) (fun _ _ e => e))
      clear h1 hc1 hl2 kF
      have d1 : w2.cell? ⟨r, 1, none⟩ = some (.int .i64 (b : Int)) := P2.out.cell 1
      have f1 := P2.out.frozen 1
      have HR3 : Hid (Rd (w2.setCell ⟨r, 1, none⟩ (.int .i64 ((b : Int) + (k : Int)))) r s (b + k) d) := hidden (by have := P2.out.set (b + k); simpa using this)
      have k2 := kS w2
      clear kS
      go_wp2_with (go_at_call 188; refine k2.mono ?_; rintro e w3 ⟨rfl, hw3⟩; obtain rfl := hw3.symm; clear k2 hw3)
      go_ret2
      exact ⟨c, b + k, true, rfl, HR.out, HR3.out, C2.out.trans (Chg.set ⟨r, 1, none⟩ _ _) (fun _ _ e => e)⟩
    · have HR := hidden (q5 hsg)
      have hes : (isSg c == esc) = false := by simpa using hsg
      obtain ⟨sg, hsg'⟩ : ∃ sg, isSg c = sg := ⟨_, rfl⟩
      rw [hsg'] at kS hes
      clear q4 q5 hsg q1 q2 hsg'
      go_enter Tryz.func185, Tryz.ntmps185
      go_upto_region 2 with (go_at_call 150; refine kT.mono ?_; rintro e w1 ⟨rfl, h1, hc1⟩; clear kT)
      refine char_r2 r b c k s w1 _ _ ?x0 ?x1 hbz hbs (fun w2 hl => (hl.cell (p := ⟨r, 0, none⟩) h1.lt).trans (h1.cell 0)) (fun w2 hl => (hl.cell (p := ⟨r, 1, none⟩) h1.lt).trans (h1.cell 1)) (fun w2 _ => kF w2) ?_
      case x0 => rfl
      case x1 => rfl
      intros
      rename_i w2 hl2
      simp only [Act.put, List.setIfInBounds_toArray, List.set_cons_succ, List.set_cons_zero]
      have P2 := hidden (show Rd w2 r s b d from h1.later hl2)
      have C2 := hidden (hc1.trans (Chg.of_below (F := fun i => i = r) hl2) (fun _ _ e => e))
      clear h1 hc1 hl2 kF
      have k2 := kS w2
      clear kS
      go_wp2_with (go_at_call 188; refine k2.mono ?_; rintro e w3 ⟨rfl, hw3⟩; obtain rfl := hw3.symm; clear k2 hw3)
      go_ret2
      exact ⟨0, b, false, rfl, HR.out, P2.out, C2.out⟩

end Go.Proofs.YtgmdpbahcbhfjaaGreatDoor
/-
  The reader: span.
-/
namespace Go.Proofs.YtgmdpbahcbhfjaaGreatDoor
open Go.RowKit

/-- What span answers. -/
def SpR (S : List UInt8) (a lo hi b : Nat) (ok : Bool) : Prop := a ≤ b ∧ b ≤ S.length ∧ (ok = true → spanF S a = .ok (lo, hi) b ∧ lo ≤ hi ∧ hi ≤ 1114111) ∧ (ok = false → spanF S a = .bad b)
theorem res_span (tmps : Array Value) (w : World) (g : Nat) (lo hi : Int) (ok : Bool) (hp : tmps.getD 2 undef = .pointer (some ⟨g, 0, none⟩)) (hq : tmps.getD 3 undef = .bool ok) (h0 : w.cell? ⟨g, 0, none⟩ = some (.int .i32 lo)) (h1 : w.cell? ⟨g, 1, none⟩ = some (.int .i32 hi)) :
    (results Tryz.f186 tmps).run Tryz.prog w = .ok (.tuple #[.agg #[.int .i32 lo, .int .i32 hi], .bool ok]) w := by
  have h : Tryz.f186.results = #[.cell 2 289, .tmp 3] := by kernel_rfl
  have hp' : tmps[2]?.getD undef = .pointer (some ⟨g, 0, none⟩) := by simpa using hp
  have hq' : tmps[3]?.getD undef = .bool ok := by simpa using hq
  simp [results, h, hp', hq', asAddr, loadVar, h0, h1, go_sem]
theorem lab_chg {r : Nat} {w w0 w1 w2 : World} (h0 : Below w.heap.size w w0) (h1 : Chg (fun i => i = r) w0 w1) (h2 : Chg (fun i => i = w.heap.size) w1 w2) : Chg (fun i => i = r) w w2 := by
  have k1 : Chg (fun i => i = r ∨ i = w.heap.size) w w1 := (Chg.of_below h0).trans h1 (fun i _ e => Or.inl e)
  have k2 : Chg (fun i => i = r ∨ i = w.heap.size) w w2 := k1.trans h2 (fun i _ e => Or.inr e)
  exact k2.mono (fun i hi e => by rcases e with e | e; exact e; omega)
theorem vc_le {c : Nat} (h : Vc c) : c ≤ 1114111 := by unfold Vc at h; omega

set_option maxRecDepth 100000 in
set_option maxHeartbeats 8000000 in
theorem spanP (r : Nat) (s : ByteArray) (a d : Nat) (w : World) (h : Rd w r s a d) (ha : a ≤ s.size) (hs : s.size ≤ 140737488355328) :
    Calls Tryz.prog 186 #[.pointer (some ⟨r, 0, none⟩)] w fun e w' => ∃ (lo hi b : Nat) (ok : Bool), e = .returned (.tuple #[.agg #[.int .i32 ((lo : Nat) : Int), .int .i32 ((hi : Nat) : Int)], .bool ok]) ∧ SpR (bts s) a lo hi b ok ∧ Rd w' r s b d ∧ Chg (fun i => i = r) w w' := by
  have hal : Below w.heap.size w (w.alloc (.cells #[.int .i32 0, .int .i32 0] 289)) := (Below.refl _ _).alloc (Nat.le_refl _) _
  have hrw : r < w.heap.size := Blk.lt h
  have hne : Hid (w.heap.size ≠ r) := hidden (by omega)
  have hB0 : Hid (Blk (w.alloc (.cells #[.int .i32 0, .int .i32 0] 289)) w.heap.size 289 [.int .i32 0, .int .i32 0]) := Blk.new w 289 _
  have k1 := characterP r s a d (w.alloc (.cells #[.int .i32 0, .int .i32 0] 289)) (h.chg (Chg.of_below (F := fun _ => False) hal) (fun h => h)) ha hs
  have HAL := hidden hal
  clear hal h
  go_enter Tryz.func186, Tryz.ntmps186
  go_upto_region 2 with (go_at_call 185; refine k1.mono ?_; rintro e w1 ⟨lo, b, ok, rfl, hc, h1, hc1⟩; clear k1)
  have H1 := hidden h1
  have HC1 := hidden hc1
  have HB1 := hidden (hc1.blk hB0.out hne.out)
  have HC := hidden hc
  have hbs : b ≤ s.size := by rw [size_bts]; exact hc.2.1
  clear h1 hc1 hc hB0
  cases ok with
  | false =>
    have HR : Hid (SpR (bts s) a lo lo b false) := hidden ⟨HC.out.1, HC.out.2.1, (fun h => by cases h), fun _ => by rw [spanF, (HC.out.2.2.2 rfl).1]⟩
    have B1 := HB1.out
    have c0 : w1.cell? ⟨w.heap.size, 0, none⟩ = some (.int .i32 0) := B1.cell 0
    have c1 : w1.cell? ⟨w.heap.size, 1, none⟩ = some (.int .i32 0) := B1.cell 1
    have f0 := B1.frozen 0
    have f1 := B1.frozen 1
    clear B1
    go_wp2
    have hcs : Chg (fun i => i = w.heap.size) w1 ((w1.setCell ⟨w.heap.size, 0, none⟩ (.int .i32 (lo : Int))).setCell ⟨w.heap.size, 1, none⟩ (.int .i32 (lo : Int))) := (Chg.set ⟨w.heap.size, 0, none⟩ _ w1).trans (Chg.set ⟨w.heap.size, 1, none⟩ _ _) (fun _ _ e => e)
    have hB2 := (HB1.out.set 0 (.int .i32 (lo : Int))).set 1 (.int .i32 (lo : Int))
    refine bodyPost_ret (res_span _ _ w.heap.size lo lo false rfl rfl (hB2.cell 0) (hB2.cell 1)) rfl ?_
    exact ⟨lo, lo, b, false, rfl, HR.out, H1.out.chg hcs (fun e => hne.out e.symm), lab_chg HAL.out HC1.out hcs⟩
  | true =>
    obtain ⟨hcf, hv⟩ := HC.out.2.2.1 rfl
    have kT := takeP r s b d 45 w1 H1.out hbs hs
    by_cases h45 : (bts s)[b]? = some 45
    · rw [decide_eq_true h45, tkN, if_pos h45] at kT
      have kT' : Calls Tryz.prog 150 #[.pointer (some ⟨r, 0, none⟩), .int .u8 45] w1 fun e w' => e = .returned (.bool true) ∧ Rd w' r s (b + 1) d ∧ Chg (fun i => i = r) w1 w' := kT
      have hb1 : b + 1 ≤ s.size := by rw [size_bts]; exact (List.getElem?_eq_some_iff.1 h45).1
      have HSF : Hid (spanF (bts s) a = match charF (bts s) (b + 1) with
          | .ok hi c => if hi < lo then .bad (b + 1) else .ok (lo, hi) c
          | .bad k => .bad k
          | .out => .out) := hidden (by rw [spanF, hcf]; simp only; rw [if_pos h45]; cases charF (bts s) (b + 1) <;> rfl)
      have k2 : Hid (∀ w2, Rd w2 r s (b + 1) d → Calls Tryz.prog 185 #[.pointer (some ⟨r, 0, none⟩)] w2 fun e w' => ∃ c b' ok, e = .returned (.tuple #[.int .i32 ((c : Nat) : Int), .bool ok]) ∧ ChR (bts s) (b + 1) c b' ok ∧ Rd w' r s b' d ∧ Chg (fun i => i = r) w2 w') := hidden (fun w2 h2 => characterP r s (b + 1) d w2 h2 hb1 hs)
      have hab : a ≤ b := HC.out.1
      clear kT hcf h45 HC
      go_wp2_with (go_at_call 150; refine kT'.mono ?_; rintro e w2 ⟨rfl, h2, hc2⟩; have d1 : w2.cell? ⟨r, 1, none⟩ = some (.int .i64 ((b : Int) + 1)) := by { have := h2.cell 1; simpa using this }; clear kT')
      have H2 := hidden h2
      have HC2 := hidden (HC1.out.trans hc2 (fun _ _ e => e))
      have HB2 := hidden (hc2.blk HB1.out hne.out)
      clear h2 hc2 HC1 HB1 H1
      have k3 := k2.out _ H2.out
      clear k2 d1
      go_upto_region 6 with (go_at_call 185; refine k3.mono ?_; rintro e w3 ⟨hi, b3, ok, rfl, hc, h3, hc3⟩; clear k3)
      have H3 := hidden h3
      have HC3 := hidden (HC2.out.trans hc3 (fun _ _ e => e))
      have HB3 := hidden (hc3.blk HB2.out hne.out)
      have HC := hidden hc
      clear h3 hc3 hc HC2 HB2 H2
      have B1 := HB3.out
      have c0 : w3.cell? ⟨w.heap.size, 0, none⟩ = some (.int .i32 0) := B1.cell 0
      have c1 : w3.cell? ⟨w.heap.size, 1, none⟩ = some (.int .i32 0) := B1.cell 1
      have f0 := B1.frozen 0
      have f1 := B1.frozen 1
      clear B1
      cases ok with
      | false =>
        have HR : Hid (SpR (bts s) a lo hi b3 false) := hidden ⟨by have := HC.out.1; omega, HC.out.2.1, (fun h => by cases h), fun _ => by rw [HSF.out, (HC.out.2.2.2 rfl).1]⟩
        go_wp2
        have hcs : Chg (fun i => i = w.heap.size) w3 ((w3.setCell ⟨w.heap.size, 0, none⟩ (.int .i32 (lo : Int))).setCell ⟨w.heap.size, 1, none⟩ (.int .i32 (hi : Int))) := (Chg.set ⟨w.heap.size, 0, none⟩ _ w3).trans (Chg.set ⟨w.heap.size, 1, none⟩ _ _) (fun _ _ e => e)
        have hB2 := (HB3.out.set 0 (.int .i32 (lo : Int))).set 1 (.int .i32 (hi : Int))
        refine bodyPost_ret (res_span _ _ w.heap.size lo hi false rfl rfl (hB2.cell 0) (hB2.cell 1)) rfl ?_
        exact ⟨lo, hi, b3, false, rfl, HR.out, H3.out.chg hcs (fun e => hne.out e.symm), lab_chg HAL.out HC3.out hcs⟩
      | true =>
        obtain ⟨hcf2, hv2⟩ := HC.out.2.2.1 rfl
        by_cases hlt : hi < lo
        · have hltz : (hi : Int) < (lo : Int) := by omega
          have HR : Hid (SpR (bts s) a 0 0 (b + 1) false) := hidden ⟨by omega, by rw [← size_bts]; exact hb1, (fun h => by cases h), fun _ => by rw [HSF.out, hcf2]; simp only; rw [if_pos hlt]⟩
          have r1 : w3.cell? ⟨r, 1, none⟩ = some (.int .i64 (b3 : Int)) := H3.out.cell 1
          have rf := H3.out.frozen 1
          have HR4 : Hid (Rd (w3.setCell ⟨r, 1, none⟩ (.int .i64 ((b : Int) + 1))) r s (b + 1) d) := hidden (by have := H3.out.set (b + 1); simpa using this)
          have hcr : Hid (Chg (fun i => i = r) w3 (w3.setCell ⟨r, 1, none⟩ (.int .i64 ((b : Int) + 1)))) := hidden (Chg.set ⟨r, 1, none⟩ _ _)
          have HB4 := hidden (hcr.out.blk HB3.out hne.out)
          have c0' : (w3.setCell ⟨r, 1, none⟩ (.int .i64 ((b : Int) + 1))).cell? ⟨w.heap.size, 0, none⟩ = some (.int .i32 0) := HB4.out.cell 0
          have c1' : (w3.setCell ⟨r, 1, none⟩ (.int .i64 ((b : Int) + 1))).cell? ⟨w.heap.size, 1, none⟩ = some (.int .i32 0) := HB4.out.cell 1
          have f0' := HB4.out.frozen 0
          have f1' := HB4.out.frozen 1
          clear hcf2 hv2 hlt
          go_wp2
          have hcs : Chg (fun i => i = w.heap.size) (w3.setCell ⟨r, 1, none⟩ (.int .i64 ((b : Int) + 1))) (((w3.setCell ⟨r, 1, none⟩ (.int .i64 ((b : Int) + 1))).setCell ⟨w.heap.size, 0, none⟩ (.int .i32 0)).setCell ⟨w.heap.size, 1, none⟩ (.int .i32 0)) := (Chg.set ⟨w.heap.size, 0, none⟩ _ _).trans (Chg.set ⟨w.heap.size, 1, none⟩ _ _) (fun _ _ e => e)
          have hB2 := (HB4.out.set 0 (.int .i32 0)).set 1 (.int .i32 0)
          refine bodyPost_ret (res_span _ _ w.heap.size 0 0 false rfl rfl (hB2.cell 0) (hB2.cell 1)) rfl ?_
          exact ⟨0, 0, b + 1, false, rfl, HR.out, HR4.out.chg hcs (fun e => hne.out e.symm), lab_chg HAL.out (HC3.out.trans hcr.out (fun _ _ e => e)) hcs⟩
        · have hltz : ¬ (hi : Int) < (lo : Int) := by omega
          have hltz' : decide ((hi : Int) < (lo : Int)) = false := decide_eq_false hltz
          have HR : Hid (SpR (bts s) a lo hi b3 true) := hidden ⟨by have := HC.out.1; omega, HC.out.2.1, fun _ => ⟨by rw [HSF.out, hcf2]; simp only; rw [if_neg hlt], by omega, vc_le hv2⟩, (fun h => by cases h)⟩
          clear hcf2 hv2 hlt
          go_wp2
          have hcs : Chg (fun i => i = w.heap.size) w3 ((w3.setCell ⟨w.heap.size, 0, none⟩ (.int .i32 (lo : Int))).setCell ⟨w.heap.size, 1, none⟩ (.int .i32 (hi : Int))) := (Chg.set ⟨w.heap.size, 0, none⟩ _ w3).trans (Chg.set ⟨w.heap.size, 1, none⟩ _ _) (fun _ _ e => e)
          have hB2 := (HB3.out.set 0 (.int .i32 (lo : Int))).set 1 (.int .i32 (hi : Int))
          refine bodyPost_ret (res_span _ _ w.heap.size lo hi true rfl rfl (hB2.cell 0) (hB2.cell 1)) rfl ?_
          first
            | exact ⟨lo, hi, b3, true, rfl, HR.out, H3.out.chg hcs (fun e => hne.out e.symm), lab_chg HAL.out HC3.out hcs⟩
            | exact ⟨lo, hi, b3, Or.inr ⟨rfl, HR.out, H3.out.chg hcs (fun e => hne.out e.symm), lab_chg HAL.out HC3.out hcs⟩⟩
    · rw [decide_eq_false h45, tkN, if_neg h45] at kT
      have kT' : Calls Tryz.prog 150 #[.pointer (some ⟨r, 0, none⟩), .int .u8 45] w1 fun e w' => e = .returned (.bool false) ∧ Rd w' r s b d ∧ Chg (fun i => i = r) w1 w' := kT
      have HR : Hid (SpR (bts s) a lo lo b true) := hidden ⟨HC.out.1, HC.out.2.1, fun _ => ⟨by rw [spanF, hcf]; simp only; rw [if_neg h45], Nat.le_refl _, vc_le hv⟩, (fun h => by cases h)⟩
      clear kT hcf h45
      go_wp2_with (go_at_call 150; refine kT'.mono ?_; rintro e w2 ⟨rfl, h2, hc2⟩; have HB2 := hidden (hc2.blk HB1.out hne.out); have c0 : w2.cell? ⟨w.heap.size, 0, none⟩ = some (.int .i32 0) := HB2.out.cell 0; have c1 : w2.cell? ⟨w.heap.size, 1, none⟩ = some (.int .i32 0) := HB2.out.cell 1; have f0 := HB2.out.frozen 0; have f1 := HB2.out.frozen 1; clear kT')
      have hcs : Chg (fun i => i = w.heap.size) w2 ((w2.setCell ⟨w.heap.size, 0, none⟩ (.int .i32 (lo : Int))).setCell ⟨w.heap.size, 1, none⟩ (.int .i32 (lo : Int))) := (Chg.set ⟨w.heap.size, 0, none⟩ _ w2).trans (Chg.set ⟨w.heap.size, 1, none⟩ _ _) (fun _ _ e => e)
      have hB2 := (HB2.out.set 0 (.int .i32 (lo : Int))).set 1 (.int .i32 (lo : Int))
      refine bodyPost_ret (res_span _ _ w.heap.size lo lo true rfl rfl (hB2.cell 0) (hB2.cell 1)) rfl ?_
      exact ⟨lo, lo, b, true, rfl, HR.out, h2.chg hcs (fun e => hne.out e.symm), lab_chg HAL.out (HC1.out.trans hc2 (fun _ _ e => e)) hcs⟩

end Go.Proofs.YtgmdpbahcbhfjaaGreatDoor
/-
  Spans in memory: rows of two cells each. (After the labels' texts.)
-/
namespace Go.Proofs.YtgmdpbahcbhfjaaGreatDoor
open Go.RowKit

theorem info93 : (Tryz.prog.info? 289).map (fun i => (i.zero, i.size, i.bytes)) = some (some (.agg #[.int .i32 0, .int .i32 0]), 2, 8) := by kernel_rfl

/-- A slice's labels: where they lie. -/
structure Ss (w : World) (ad : Option Addr) (l : List (Nat × Nat)) : Prop where
  sz : ∀ x ∈ l, x.1 ≤ 1114111 ∧ x.2 ≤ 1114111
  at' : l ≠ [] → ∃ b off, ad = some ⟨b, off, none⟩ ∧ b < w.heap.size ∧ ∀ i x, l[i]? = some x → w.cell? ⟨b, off + i * 2, none⟩ = some (.int .i32 (x.1 : Int)) ∧ w.cell? ⟨b, off + i * 2 + 1, none⟩ = some (.int .i32 (x.2 : Int))
theorem Ss.later {w w' : World} {ad : Option Addr} {l : Sn} (h : Ss w ad l) (hb : Below w.heap.size w w') : Ss w' ad l := by
  refine ⟨h.sz, fun h0 => ?_⟩
  obtain ⟨b, off, e, hlt, hc⟩ := h.at' h0
  refine ⟨b, off, e, Nat.lt_of_lt_of_le hlt hb.size, fun i x hx => ?_⟩
  rw [hb.cell (p := ⟨b, off + i * 2, none⟩) hlt, hb.cell (p := ⟨b, off + i * 2 + 1, none⟩) hlt]
  exact hc i x hx
theorem Ss.nil (w : World) (ad : Option Addr) : Ss w ad [] := ⟨by simp, fun h => absurd rfl h⟩
theorem Ss.get {w : World} {ad : Option Addr} {l : Sn} (h : Ss w ad l) {i : Nat} (hi : i < l.length) : ∃ b off x, ad = some ⟨b, off, none⟩ ∧ b < w.heap.size ∧ l[i]? = some x ∧ l[i] = x ∧ w.cell? ⟨b, off + i * 2, none⟩ = some (.int .i32 (x.1 : Int)) ∧ w.cell? ⟨b, off + i * 2 + 1, none⟩ = some (.int .i32 (x.2 : Int)) ∧ x.1 ≤ 1114111 ∧ x.2 ≤ 1114111 := by
  obtain ⟨b, off, e, hlt, hc⟩ := h.at' (by intro h0; rw [h0] at hi; simp at hi)
  have hx : l[i]? = some l[i] := by simp [hi]
  exact ⟨b, off, l[i], e, hlt, hx, rfl, (hc i _ hx).1, (hc i _ hx).2, h.sz _ (by simp)⟩

def encS (x : (Nat × Nat)) : List Value := [.int .i32 (x.1 : Int), .int .i32 (x.2 : Int)]
def cS (l : List (Nat × Nat)) : List Value := l.flatMap encS
theorem cS_cons (x : (Nat × Nat)) (l : List (Nat × Nat)) : cS (x :: l) = .int .i32 (x.1 : Int) :: .int .i32 (x.2 : Int) :: cS l := by simp [cS, encS]
theorem cS_length : ∀ l : Sn, (cS l).length = l.length * 2
  | [] => rfl
  | x :: t => by rw [cS_cons]; simp only [List.length_cons]; rw [cS_length t]; omega
theorem cS_append (l m : List (Nat × Nat)) : cS (l ++ m) = cS l ++ cS m := by simp [cS]
theorem cS_get : ∀ (l : List (Nat × Nat)) (i : Nat) (x : (Nat × Nat)), l[i]? = some x → (cS l)[i * 2]? = some (.int .i32 (x.1 : Int)) ∧ (cS l)[i * 2 + 1]? = some (.int .i32 (x.2 : Int))
  | [], i, x, h => by simp at h
  | y :: t, 0, x, h => by simp at h; subst h; rw [cS_cons]; exact ⟨rfl, rfl⟩
  | y :: t, i + 1, x, h => by
    rw [cS_cons, show (i + 1) * 2 = i * 2 + 1 + 1 by omega, show i * 2 + 1 + 1 + 1 = (i * 2 + 1) + 1 + 1 by omega]
    simp only [List.getElem?_cons_succ] at h ⊢
    exact cS_get t i x h
theorem cS_one (l : List (Nat × Nat)) : ∀ u ∈ cS l, u.oneCell' = true := by
  intro u hu
  obtain ⟨x, _, hx⟩ := List.mem_flatMap.1 hu
  simp [encS] at hx
  rcases hx with rfl | rfl <;> rfl
def Bd (l : List (Nat × Nat)) : Prop := ∀ x ∈ l, x.1 ≤ 1114111 ∧ x.2 ≤ 1114111
theorem owns_lenS {w : World} {base : Nat} {v : Value} {n : Nat} {l : Sn} (h : w.ownsRow base 289 2 v n (cS l)) : l.length = n := by
  have := h.1; rw [cS_length] at this; omega
theorem owns_formS {w : World} {base : Nat} {e s : Nat} {v : Value} {n : Nat} {xs : List Value} (h : w.ownsRow base e s v n xs) : ∃ ad c, v = .slice ad n c ∧ (ad = none → n = 0 ∧ c = 0) ∧ (∀ x, ad = some x → x.off = 0 ∧ x.spot = none) ∧ n ≤ c ∧ c ≤ maxLen := by
  rcases h.2 with ⟨rfl, rfl⟩ | ⟨g, cap, cur, rfl, _, _, h1, h2, _⟩
  · exact ⟨none, 0, rfl, fun _ => ⟨rfl, rfl⟩, (fun x e => by cases e), Nat.le_refl _, by unfold maxLen; omega⟩
  · exact ⟨_, cap, rfl, (fun e => by cases e), (fun x e => by cases e; exact ⟨rfl, rfl⟩), h1, h2⟩
theorem ss_of_owns {w : World} {base : Nat} {ad : Option Addr} {n m c : Nat} {l : Sn} (h : w.ownsRow base 289 2 (.slice ad n c) m (cS l)) (hz : Bd l) : Ss w ad l := by
  refine ⟨hz, fun h0 => ?_⟩
  have hl := owns_lenS h
  rcases h.2 with ⟨_, h1⟩ | ⟨g, cap, cur, e, _, hg, _⟩
  · rw [h1] at hl; exact absurd (List.eq_nil_of_length_eq_zero hl) h0
  · injection e with e1 e2 e3
    subst e1
    refine ⟨g, 0, rfl, (Array.getElem?_eq_some_iff.1 hg).1, fun i x hx => ?_⟩
    have hc := cS_get l i x hx
    have k0 := h.cells (g := g) rfl _ _ hc.1
    have k1 := h.cells (g := g) rfl _ _ hc.2
    rw [Addr.add_lit] at k0 k1
    simp only [Nat.zero_add] at k0 k1 ⊢
    exact ⟨k0, k1⟩
theorem Ss.cells {w : World} {b off : Nat} {l : Sn} (h : Ss w (some ⟨b, off, none⟩) l) : ∀ j u, (cS l)[j]? = some u → w.cell? ((⟨b, off, none⟩ : Addr).add j) = some u := by
  intro j u hu
  have hj : j < l.length * 2 := by rw [← cS_length]; exact (List.getElem?_eq_some_iff.1 hu).1
  obtain ⟨b', off', e, _, hc⟩ := h.at' (by intro e; rw [e] at hj; simp at hj)
  injection e with e; injection e with e1 e2; subst e1; subst e2
  have hx : l[j / 2]? = some (l[j / 2]'(by omega)) := by simp
  have k := hc _ _ hx
  have g := cS_get l _ _ hx
  rw [Addr.add_lit]
  rcases Nat.mod_two_eq_zero_or_one j with hm | hm
  · have e : j = j / 2 * 2 := by omega
    rw [← e] at k g
    rw [hu] at g
    rw [k.1]; exact g.1.symm
  · have e : j = j / 2 * 2 + 1 := by omega
    have e2 : off + j / 2 * 2 + 1 = off + j := by omega
    rw [e2] at k
    rw [← e, hu] at g
    rw [k.2]; exact g.2.symm

theorem Ss.cells' {w : World} {x : Addr} {l : Sn} (h : Ss w (some x) l) : ∀ j u, (cS l)[j]? = some u → w.cell? (x.add j) = some u := by
  intro j u hu
  by_cases h0 : l = []
  · rw [h0] at hu; simp [cS] at hu
  · obtain ⟨b, off, e, _⟩ := h.at' h0
    injection e with e
    subst e
    exact h.cells j u hu

/-! ### one label behind a row -/
theorem run_push2 {P : Program} (w : World) (t ty e : TypeId) (i : TypeInfo) (z : Value) (bytes : Nat) (ht : P.underlying t = some (.slice e)) (hi : P.info? e = some i) (hz : i.zero = some z)
    (hsize : i.size = 2) (hby : i.bytes = bytes) (hzs : z.cells.size = 2) (base : Nat) (v : Value) (n : Nat) (xs : List Value) (hown : w.ownsRow base e 2 v n xs)
    (ad : Addr) (news : List Value) (hl : news.length = 2) (hnews : ∀ j u, news[j]? = some u → w.cell? (ad.add j) = some u) (hone : ∀ x ∈ news, x.oneCell' = true) (h63 : n + 1 ≤ maxLen) (hbytes : (n + 1) * bytes ≤ 140737488355328) (hbase : base ≤ w.heap.size) :
    ∃ g' c' w', (Builtin.append_ #[t, t] ty #[v, .slice (some ad) 1 1]).run P w = .ok (.slice (some ⟨g', 0, none⟩) (n + 1) c') w' ∧
      w'.ownsRow base e 2 (.slice (some ⟨g', 0, none⟩) (n + 1) c') (n + 1) (xs ++ news) ∧ Pushed w w' v g' := by
  rcases hown.2 with ⟨rfl, rfl⟩ | ⟨g, cap, cur, rfl, hbg, hg, hnc, hcm, hcs, htake⟩
  · have hxs : xs = [] := List.eq_nil_of_length_eq_zero (by simpa using hown.1)
    subst hxs
    obtain ⟨v', w', hr, ho, hgr, hiff⟩ := run_append_own (P := P) w w.heap.size t ty e i z 2 bytes ht hi hz hsize hby hzs (by omega) (.slice none 0 0) 0 [] (World.ownsRow_nil _ _ _ _) ad 1 1 news (by omega) hnews hone h63 hbytes (Nat.le_refl _)
    rcases ho.2 with ⟨_, h0⟩ | ⟨g', c', cur', rfl, hb', hh, hrest⟩
    · omega
    · exact ⟨g', c', w', by simpa using hr, ⟨by simp [hl], .inr ⟨g', c', cur', rfl, by omega, hh, by simpa using hrest⟩⟩, .inr ⟨hb', by simpa [Value.ownBlock] using hgr⟩⟩
  · by_cases hroom : n + 1 ≤ cap
    · obtain ⟨w', hr, ho, hgr⟩ := run_append_fits (P := P) w base t ty e i 2 ht hi hsize g n cap xs hown ad 1 1 news (by omega) hnews hone hroom
      exact ⟨g, cap, w', hr, ho, .inl ⟨rfl, hgr⟩⟩
    · obtain ⟨v', w', hr, ho, hgr⟩ := run_append_arg_grows (P := P) w t ty e i z 2 bytes ht hi hz hsize hby hzs (by omega) ⟨g, 0, none⟩ n cap xs hown.1 (hown.cells rfl) ad 1 1 news (by omega) hnews (by omega) h63 hbytes
      rcases ho.2 with ⟨_, h0⟩ | ⟨g', c', cur', rfl, hb', hh, hrest⟩
      · omega
      · exact ⟨g', c', w', hr, ⟨by simp [hown.1, hl]; omega, .inr ⟨g', c', cur', rfl, by omega, hh, hrest⟩⟩, .inr ⟨hb', hgr⟩⟩
theorem wp_push2 {P : Program} (w : World) {o : Oper} {a : Act} {K : Act → World → Prop} {Q : Exit → Act → World → Prop} (s x : Operand) (t : TypeId)
    (ho : o.op = .call { callee := .builtin .append, args := #[s, x], argTypes := #[t, t] }) (e : TypeId) (i : TypeInfo) (z : Value) (bytes : Nat) (ht : P.underlying t = some (.slice e)) (hi : P.info? e = some i) (hz : i.zero = some z)
    (hsize : i.size = 2) (hby : i.bytes = bytes) (hzs : z.cells.size = 2) (base : Nat) (v : Value) (n : Nat) (xs : List Value) (hs : a.eval s = v) (hown : w.ownsRow base e 2 v n xs)
    (ad : Addr) (news : List Value) (hx : a.eval x = .slice (some ad) 1 1) (hl : news.length = 2) (hnews : ∀ j u, news[j]? = some u → w.cell? (ad.add j) = some u) (hone : ∀ x ∈ news, x.oneCell' = true) (h63 : n + 1 ≤ maxLen) (hbytes : (n + 1) * bytes ≤ 140737488355328) (hbase : base ≤ w.heap.size)
    (h : ∀ g' c' w', w'.ownsRow base e 2 (.slice (some ⟨g', 0, none⟩) (n + 1) c') (n + 1) (xs ++ news) → Pushed w w' v g' → K (a.put o.dst (.slice (some ⟨g', 0, none⟩) (n + 1) c')) w') : o.wp P a w K Q := by
  obtain ⟨g', c', w', hr, h2, h3⟩ := run_push2 (P := P) w t o.type e i z bytes ht hi hz hsize hby hzs base v n xs hown ad news hl hnews hone h63 hbytes hbase
  unfold Oper.wp
  simp [execOp, ho, resolve, invoke, builtin, hs, hx, hr, Result.andThen]
  exact h g' c' w' h2 h3
theorem wpList_push2 {P : Program} (w : World) {ops : Array Oper} {rest : List Oper} {o : Oper} {a : Act} {Q : Exit → Act → World → Prop} (hgd : o.guard = none) (s x : Operand) (t : TypeId)
    (ho : o.op = .call { callee := .builtin .append, args := #[s, x], argTypes := #[t, t] }) (e : TypeId) (i : TypeInfo) (z : Value) (bytes : Nat) (ht : P.underlying t = some (.slice e)) (hi : P.info? e = some i) (hz : i.zero = some z)
    (hsize : i.size = 2) (hby : i.bytes = bytes) (hzs : z.cells.size = 2) (base : Nat) (v : Value) (n : Nat) (xs : List Value) (hs : a.eval s = v) (hown : w.ownsRow base e 2 v n xs)
    (ad : Addr) (news : List Value) (hx : a.eval x = .slice (some ad) 1 1) (hl : news.length = 2) (hnews : ∀ j u, news[j]? = some u → w.cell? (ad.add j) = some u) (hone : ∀ x ∈ news, x.oneCell' = true) (h63 : n + 1 ≤ maxLen) (hbytes : (n + 1) * bytes ≤ 140737488355328) (hbase : base ≤ w.heap.size)
    (h : ∀ g' c' w', w'.ownsRow base e 2 (.slice (some ⟨g', 0, none⟩) (n + 1) c') (n + 1) (xs ++ news) → Pushed w w' v g' → wpList P ops Q rest (a.put o.dst (.slice (some ⟨g', 0, none⟩) (n + 1) c')) w') : wpList P ops Q (o :: rest) a w :=
  wpList_plain hgd fun _ hK => wp_push2 w s x t ho e i z bytes ht hi hz hsize hby hzs base v n xs hs hown ad news hx hl hnews hone h63 hbytes hbase fun g' c' w' h2 h3 => hK _ _ (h g' c' w' h2 h3)
theorem ss_blk {w : World} {g : Nat} {l : Sn} (h : Blk w g 289 (cS l)) (hz : Bd l) : Ss w (some ⟨g, 0, none⟩) l := by
  refine ⟨hz, fun h0 => ⟨g, 0, rfl, h.lt, fun i x hx => ?_⟩⟩
  have hc := cS_get l i x hx
  rw [Nat.zero_add, h.cell, h.cell]
  exact hc
theorem owl {w w' : World} {b e s : Nat} {v : Value} {n : Nat} {xs : List Value} (h : w.ownsRow b e s v n xs) (hb : Below w.heap.size w w') : w'.ownsRow b e s v n xs := (Chg.of_below (F := fun _ => False) hb).owns h (fun _ _ h => h)
theorem owns_base {w : World} {b b' : Nat} {e sz : Nat} {v : Value} {n : Nat} {xs : List Value} (h : w.ownsRow b e sz v n xs) (hb : ∀ g, v.ownBlock = some g → b' ≤ g) : w.ownsRow b' e sz v n xs := by
  refine ⟨h.1, ?_⟩
  rcases h.2 with h0 | ⟨g, cap, cur, rfl, _, r⟩
  · exact .inl h0
  · exact .inr ⟨g, cap, cur, rfl, hb g rfl, r⟩
theorem wpList_appS (w : World) {ops : Array Oper} {rest : List Oper} {o : Oper} {a : Act} {Q : Exit → Act → World → Prop} (hgd : o.guard = none) (s x : Operand)
    (ho : o.op = .call { callee := .builtin .append, args := #[s, x], argTypes := #[279, 279] }) (base : Nat) (v : Value) (n : Nat) (xs : List (Nat × Nat)) (hs : a.eval s = v) (hown : w.ownsRow base 289 2 v n (cS xs))
    (ad : Option Addr) (m c : Nat) (l : List (Nat × Nat)) (hx : a.eval x = .slice ad m c) (hL : Ss w ad l) (hm : l.length = m) (hno : ad = none → l = [] ∧ c = 0) (k : Nat) (hk : n + m = k) (hb : k * 8 ≤ 140737488355328) (hbase : base ≤ w.heap.size)
    (h : ∀ a' c' w', w'.ownsRow base 289 2 (.slice a' k c') k (cS (xs ++ l)) → Below base w w' → wpList Tryz.prog ops Q rest (a.put o.dst (.slice a' k c')) w') : wpList Tryz.prog ops Q (o :: rest) a w := by
  subst hk
  obtain ⟨i0, hi0, hz0, hz1, hz2⟩ := info_parts info93
  cases ad with
  | none =>
    obtain ⟨rfl, rfl⟩ := hno rfl
    obtain rfl : m = 0 := hm.symm
    refine wpList_append_own_none hgd s x 279 ho base 289 i0 2 Tryz.underlying279 hi0 v n _ hs hown hx ?_
    obtain ⟨a', c', rfl, _⟩ := owns_formS hown
    exact h a' c' w (by simpa using hown) (Below.refl _ _)
  | some ad =>
    refine wpList_append_own w hgd s x 279 ho base 289 i0 (.agg #[.int .i32 0, .int .i32 0]) 2 8 Tryz.underlying279 hi0 hz0 hz1 hz2 rfl (by decide) v n (cS xs) hs hown ad m c (cS l) hx (by rw [cS_length, hm]) hL.cells' (cS_one l) (by unfold maxLen; omega) hb hbase ?_
    intro v' w' h1 h2 h3
    obtain ⟨a', c', rfl, _⟩ := owns_formS h1
    exact h a' c' w' (by rw [cS_append]; exact h1) ((Below.refl _ _).grown h2 hbase (fun k hk => (hown.lt k hk).1))

end Go.Proofs.YtgmdpbahcbhfjaaGreatDoor
/-
  with: a span more.
-/
namespace Go.Proofs.YtgmdpbahcbhfjaaGreatDoor
open Go.RowKit

/-- What is held while a span is put in: it itself, what lies ahead, what lies behind. -/
structure WI (w wx : World) (x : Nat × Nat) (a5 : Option Addr) (c5 : Nat) (ah : Sn) (a6 : Option Addr) (c6 : Nat) (be : Sn) : Prop where
  blk : Blk wx w.heap.size 289 [.int .i32 (x.1 : Int), .int .i32 (x.2 : Int)]
  r5 : wx.ownsRow (w.heap.size + 1) 289 2 (.slice a5 ah.length c5) ah.length (cS ah)
  r6 : wx.ownsRow (w.heap.size + 1) 289 2 (.slice a6 be.length c6) be.length (cS be)
  dis : ∀ g, (Value.slice a5 ah.length c5).ownBlock = some g → (Value.slice a6 be.length c6).ownBlock ≠ some g
  b5 : Bd ah
  b6 : Bd be
  bx : x.1 ≤ 1114111 ∧ x.2 ≤ 1114111
  bel : Below w.heap.size w wx
theorem WI.lat {w wx w' : World} {x : Nat × Nat} {a5 a6 : Option Addr} {c5 c6 : Nat} {ah be : Sn} (h : WI w wx x a5 c5 ah a6 c6 be) (hl : Lat wx w') : WI w w' x a5 c5 ah a6 c6 be :=
  ⟨h.blk.later hl, owl h.r5 hl, owl h.r6 hl, h.dis, h.b5, h.b6, h.bx, h.bel.trans (hl.mono h.bel.size)⟩
theorem Bd.snoc {l : Sn} (h : Bd l) {o : Nat × Nat} (ho : o.1 ≤ 1114111 ∧ o.2 ≤ 1114111) : Bd (l ++ [o]) := fun x hx => by
  rcases List.mem_append.1 hx with hx | hx
  · exact h x hx
  · rw [List.mem_singleton.1 hx]; exact ho
theorem WI.push5 {w wx w' : World} {x o : Nat × Nat} {a5 a6 : Option Addr} {c5 c6 g c' : Nat} {ah be : Sn} {ob : Obj} (h : WI w wx x a5 c5 ah a6 c6 be) (ho : o.1 ≤ 1114111 ∧ o.2 ≤ 1114111)
    (hO : w'.ownsRow (w.heap.size + 1) 289 2 (.slice (some ⟨g, 0, none⟩) (ah.length + 1) c') (ah.length + 1) (cS ah ++ [.int .i32 (o.1 : Int), .int .i32 (o.2 : Int)])) (hp : Pushed (wx.alloc ob) w' (.slice a5 ah.length c5) g) :
    WI w w' x (some ⟨g, 0, none⟩) c' (ah ++ [o]) a6 c6 be := by
  have hch := hp.chg
  have hF : ∀ b, (Value.slice a5 ah.length c5).ownBlock = some b → w.heap.size + 1 ≤ b := fun b hb => (h.r5.lt b hb).1
  refine ⟨hch.1.blk h.blk (fun e => by have := hF _ e; omega), ?_, hch.1.owns h.r6 (fun b hb e => h.dis b e hb), fun b hb => ?_, h.b5.snoc ho, h.b6, h.bx, h.bel.trans (hch.1.below h.bel.size (fun b e => by have := hF _ e; omega))⟩
  · rw [List.length_append, cS_append]
    exact hO
  · have e : g = b := by simpa [Value.ownBlock] using hb
    subst e
    intro hb6
    rcases hch.2 with e | ⟨g', e, hg⟩
    · exact h.dis g e.symm hb6
    · injection e with e
      subst e
      have := owns_lt h.r6 g hb6
      omega
theorem WI.push6 {w wx w' : World} {x o : Nat × Nat} {a5 a6 : Option Addr} {c5 c6 g c' : Nat} {ah be : Sn} {ob : Obj} (h : WI w wx x a5 c5 ah a6 c6 be) (ho : o.1 ≤ 1114111 ∧ o.2 ≤ 1114111)
    (hO : w'.ownsRow (w.heap.size + 1) 289 2 (.slice (some ⟨g, 0, none⟩) (be.length + 1) c') (be.length + 1) (cS be ++ [.int .i32 (o.1 : Int), .int .i32 (o.2 : Int)])) (hp : Pushed (wx.alloc ob) w' (.slice a6 be.length c6) g) :
    WI w w' x a5 c5 ah (some ⟨g, 0, none⟩) c' (be ++ [o]) := by
  have hch := hp.chg
  have hF : ∀ b, (Value.slice a6 be.length c6).ownBlock = some b → w.heap.size + 1 ≤ b := fun b hb => (h.r6.lt b hb).1
  refine ⟨hch.1.blk h.blk (fun e => by have := hF _ e; omega), hch.1.owns h.r5 (fun b hb e => h.dis b hb e), ?_, fun b hb hb' => ?_, h.b5, h.b6.snoc ho, h.bx, h.bel.trans (hch.1.below h.bel.size (fun b e => by have := hF _ e; omega))⟩
  · rw [List.length_append, cS_append]
    exact hO
  · have e : g = b := by simpa [Value.ownBlock] using hb'
    subst e
    rcases hch.2 with e | ⟨g', e, hg⟩
    · exact h.dis g hb e.symm
    · injection e with e
      subst e
      have := owns_lt h.r5 g hb
      omega
theorem WI.set {w wx : World} {x y : Nat × Nat} {a5 a6 : Option Addr} {c5 c6 : Nat} {ah be : Sn} (h : WI w wx x a5 c5 ah a6 c6 be) (hy : y.1 ≤ 1114111 ∧ y.2 ≤ 1114111) :
    WI w ((wx.setCell ⟨w.heap.size, 0, none⟩ (.int .i32 (y.1 : Int))).setCell ⟨w.heap.size, 1, none⟩ (.int .i32 (y.2 : Int))) y a5 c5 ah a6 c6 be := by
  have hc : Chg (fun i => i = w.heap.size) wx ((wx.setCell ⟨w.heap.size, 0, none⟩ (.int .i32 (y.1 : Int))).setCell ⟨w.heap.size, 1, none⟩ (.int .i32 (y.2 : Int))) := (Chg.set ⟨w.heap.size, 0, none⟩ _ wx).trans (Chg.set ⟨w.heap.size, 1, none⟩ _ _) (fun _ _ e => e)
  refine ⟨(h.blk.set 0 _).set 1 _, hc.owns h.r5 (fun g hg e => ?_), hc.owns h.r6 (fun g hg e => ?_), h.dis, h.b5, h.b6, hy, h.bel.trans (hc.below h.bel.size (fun i e => by have e' : i = w.heap.size := e; omega))⟩
  · have := (h.r5.lt g hg).1
    have e' : g = w.heap.size := e
    omega
  · have := (h.r6.lt g hg).1
    have e' : g = w.heap.size := e
    omega

theorem withF_step {l : Sn} {i : Nat} {o : Nat × Nat} (h : l[i]? = some o) (x : Nat × Nat) (ah be : Sn) :
    withF (l.drop i) x ah be = if o.2 + 1 < x.1 then withF (l.drop (i + 1)) x (ah ++ [o]) be else if x.2 + 1 < o.1 then withF (l.drop (i + 1)) x ah (be ++ [o]) else withF (l.drop (i + 1)) (min o.1 x.1, max o.2 x.2) ah be := by
  have hl := (List.getElem?_eq_some_iff.1 h).1
  rw [List.drop_eq_getElem_cons hl]
  rw [List.getElem?_eq_getElem hl] at h
  injection h with h
  rw [h, withF]

set_option maxRecDepth 100000 in
set_option maxHeartbeats 8000000 in
theorem withP (ad : Option Addr) (c : Nat) (l : Sn) (x : Nat × Nat) (w : World) (hL : Ss w ad l) (hlen : l.length ≤ 1000) (hx : x.1 ≤ 1114111 ∧ x.2 ≤ 1114111) :
    Calls Tryz.prog 187 #[.slice ad l.length c, .agg #[.int .i32 (x.1 : Int), .int .i32 (x.2 : Int)]] w fun e w' => ∃ a' c', e = .returned (.slice a' (withS l x).length c') ∧ w'.ownsRow w.heap.size 289 2 (.slice a' (withS l x).length c') (withS l x).length (cS (withS l x)) ∧ Bd (withS l x) ∧ Below w.heap.size w w' := by
  obtain ⟨i0, hi0, hz0, hz1, hz2⟩ := info_parts info93
  have HI := hidden hi0
  obtain ⟨n, hn⟩ : ∃ n, l.length = n := ⟨_, rfl⟩
  rw [hn] at hlen ⊢
  have HN := hidden hn
  have HL := hidden hL
  obtain ⟨R, hR⟩ : ∃ R, withS l x = R := ⟨_, rfl⟩
  have HR : Hid (withF (l.drop 0) x [] [] = R) := hidden (by rw [List.drop_zero]; exact hR)
  rw [hR]
  have W0 : Hid (WI w (w.alloc (.cells #[.int .i32 (x.1 : Int), .int .i32 (x.2 : Int)] 289)) x none 0 [] none 0 []) := hidden ⟨Blk.new w 289 _, World.ownsRow_nil _ _ _ _, World.ownsRow_nil _ _ _ _, (fun g h => by cases h), (fun y hy => by cases hy), (fun y hy => by cases hy), hx, (Below.refl _ _).alloc (Nat.le_refl _) _⟩
  clear hi0 hn hL hR hx
  go_enter Tryz.func187, Tryz.ntmps187
  go_wp2
  go_loopw [5, 6, 11] (fun s5 s6 s11 wx => ∃ (i : Nat) (x : Nat × Nat) (a5 a6 : Option Addr) (c5 c6 n5 n6 : Nat) (ah be : Sn), s5 = .slice a5 n5 c5 ∧ s6 = .slice a6 n6 c6 ∧ s11 = .int .i64 (i : Int) ∧ i ≤ n ∧ n5 + n6 ≤ i ∧ Hid (ah.length = n5 ∧ be.length = n6) ∧ Hid (withF (l.drop i) x ah be = R) ∧ Hid (WI w wx x a5 c5 ah a6 c6 be)) (fun _ _ s11 _ => n - (intOf s11).toNat)
  case atStart => exact ⟨0, x, none, none, 0, 0, 0, 0, [], [], rfl, rfl, rfl, by omega, by omega, hidden ⟨rfl, rfl⟩, HR, W0⟩
  case round =>
    rename World => wr
    obtain ⟨i, x, a5, a6, c5, c6, n5, n6, ah, be, rfl, rfl, rfl, hi, h56, hlen2, hrel, hW⟩ := hrel
    clear HR W0
    by_cases hlt : i < n
    · have hltz : (i : Int) < (n : Int) := by omega
      obtain ⟨b, off, o, rfl, hb, ho, ho', d0, d1, y1, y2⟩ := (HL.out.later hW.out.bel).get (i := i) (by rw [HN.out]; exact hlt)
      have hal : Below wr.heap.size wr (wr.alloc (.cells #[.int .i32 (o.1 : Int), .int .i32 (o.2 : Int)] 289)) := (Below.refl _ _).alloc (Nat.le_refl _) _
      have WY := hidden (hW.out.lat hal)
      have B8 := Blk.new wr 289 [.int .i32 (o.1 : Int), .int .i32 (o.2 : Int)]
      have e0 : (wr.alloc (.cells #[.int .i32 (o.1 : Int), .int .i32 (o.2 : Int)] 289)).cell? ⟨wr.heap.size, 0, none⟩ = some (.int .i32 (o.1 : Int)) := B8.cell 0
      have e1 : (wr.alloc (.cells #[.int .i32 (o.1 : Int), .int .i32 (o.2 : Int)] 289)).cell? ⟨wr.heap.size, 1, none⟩ = some (.int .i32 (o.2 : Int)) := B8.cell 1
      have x0 : (wr.alloc (.cells #[.int .i32 (o.1 : Int), .int .i32 (o.2 : Int)] 289)).cell? ⟨w.heap.size, 0, none⟩ = some (.int .i32 (x.1 : Int)) := WY.out.blk.cell 0
      have x1 : (wr.alloc (.cells #[.int .i32 (o.1 : Int), .int .i32 (o.2 : Int)] 289)).cell? ⟨w.heap.size, 1, none⟩ = some (.int .i32 (x.2 : Int)) := WY.out.blk.cell 1
      have fx0 := WY.out.blk.frozen 0
      have fx1 := WY.out.blk.frozen 1
      have HST := hidden (withF_step ho x ah be)
      obtain ⟨bx1, bx2⟩ := hW.out.bx
      have cellN : Hid (∀ jj u, [Value.int .i32 (o.1 : Int), Value.int .i32 (o.2 : Int)][jj]? = some u → ((wr.alloc (.cells #[.int .i32 (o.1 : Int), .int .i32 (o.2 : Int)] 289)).alloc (.cells #[.int .i32 (o.1 : Int), .int .i32 (o.2 : Int)] 289)).cell? ((⟨wr.heap.size + 1, 0, none⟩ : Addr).add jj) = some u) := hidden (fun jj u hu => by
        rw [Addr.add_lit, Nat.zero_add]
        have := (Blk.new (wr.alloc (.cells #[.int .i32 (o.1 : Int), .int .i32 (o.2 : Int)] 289)) 289 [.int .i32 (o.1 : Int), .int .i32 (o.2 : Int)]).cell jj
        rw [hu, show (wr.alloc (.cells #[.int .i32 (o.1 : Int), .int .i32 (o.2 : Int)] 289)).heap.size = wr.heap.size + 1 by simp] at this
        exact this)
      have HBS : Hid (w.heap.size + 1 ≤ wr.heap.size) := hidden (by have := hW.out.blk.lt; omega)
      have own5 : Hid ((wr.alloc (.cells #[.int .i32 (o.1 : Int), .int .i32 (o.2 : Int)] 289)).ownsRow (w.heap.size + 1) 289 2 (.slice a5 n5 c5) n5 (cS ah)) := hidden (by have := WY.out.r5; rw [hlen2.out.1] at this; exact this)
      have own6 : Hid ((wr.alloc (.cells #[.int .i32 (o.1 : Int), .int .i32 (o.2 : Int)] 289)).ownsRow (w.heap.size + 1) 289 2 (.slice a6 n6 c6) n6 (cS be)) := hidden (by have := WY.out.r6; rw [hlen2.out.2] at this; exact this)
      have hP5 : Hid (∀ w9 g c' ob, w9.ownsRow (w.heap.size + 1) 289 2 (.slice (some ⟨g, 0, none⟩) (n5 + 1) c') (n5 + 1) (cS ah ++ [.int .i32 (o.1 : Int), .int .i32 (o.2 : Int)]) → Pushed ((wr.alloc (.cells #[.int .i32 (o.1 : Int), .int .i32 (o.2 : Int)] 289)).alloc ob) w9 (.slice a5 n5 c5) g → WI w w9 x (some ⟨g, 0, none⟩) c' (ah ++ [o]) a6 c6 be) := hidden (fun w9 g c' ob h1 h2 => by
        rw [← hlen2.out.1] at h1 h2
        exact WY.out.push5 ⟨y1, y2⟩ h1 h2)
      have hP6 : Hid (∀ w9 g c' ob, w9.ownsRow (w.heap.size + 1) 289 2 (.slice (some ⟨g, 0, none⟩) (n6 + 1) c') (n6 + 1) (cS be ++ [.int .i32 (o.1 : Int), .int .i32 (o.2 : Int)]) → Pushed ((wr.alloc (.cells #[.int .i32 (o.1 : Int), .int .i32 (o.2 : Int)] 289)).alloc ob) w9 (.slice a6 n6 c6) g → WI w w9 x a5 c5 ah (some ⟨g, 0, none⟩) c' (be ++ [o])) := hidden (fun w9 g c' ob h1 h2 => by
        rw [← hlen2.out.2] at h1 h2
        exact WY.out.push6 ⟨y1, y2⟩ h1 h2)
      clear ho ho' hal B8
      by_cases hA : o.2 + 1 < x.1
      · have hAz : (o.2 : Int) + 1 < (x.1 : Int) := by omega
        have HRS : Hid (withF (l.drop (i + 1)) x (ah ++ [o]) be = R) := hidden (by rw [← hrel.out, HST.out, if_pos hA])
        clear HST hA hrel own6 hP6
        go_wp2_with (refine wpList_push2 _ rfl (.tmp 33) (.tmp 35) 279 rfl 289 i0 (.agg #[.int .i32 0, .int .i32 0]) 8 Tryz.underlying279 HI.out hz0 hz1 hz2 rfl (w.heap.size + 1) (.slice a5 n5 c5) n5 (cS ah) rfl (own5.out.alloc _) ⟨wr.heap.size + 1, 0, none⟩ [.int .i32 (o.1 : Int), .int .i32 (o.2 : Int)] rfl rfl cellN.out (by intro u hu; simp at hu; rcases hu with rfl | rfl <;> rfl) (by unfold maxLen; omega) (by omega) (by have := HBS.out; simp; omega) ?_; intro g9 c9 w9 ho9 hp9)
        have H9 := hidden (hP5.out _ _ _ _ ho9 hp9)
        refine ⟨⟨i + 1, x, some ⟨g9, 0, none⟩, a6, c9, c6, n5 + 1, n6, ah ++ [o], be, by first | rfl | simp, by first | rfl | simp, by first | rfl | simp, by omega, by omega, hidden ⟨by simp [hlen2.out.1], hlen2.out.2⟩, HRS, H9⟩, ?_⟩
        simp [intOf]
        omega
      · have hAz : ¬ (o.2 : Int) + 1 < (x.1 : Int) := by omega
        by_cases hB : x.2 + 1 < o.1
        · have hBz : (x.2 : Int) + 1 < (o.1 : Int) := by omega
          have HRS : Hid (withF (l.drop (i + 1)) x ah (be ++ [o]) = R) := hidden (by rw [← hrel.out, HST.out, if_neg hA, if_pos hB])
          clear HST hA hB hrel own5 hP5
          go_wp2_with (refine wpList_push2 _ rfl (.tmp 44) (.tmp 46) 279 rfl 289 i0 (.agg #[.int .i32 0, .int .i32 0]) 8 Tryz.underlying279 HI.out hz0 hz1 hz2 rfl (w.heap.size + 1) (.slice a6 n6 c6) n6 (cS be) rfl (own6.out.alloc _) ⟨wr.heap.size + 1, 0, none⟩ [.int .i32 (o.1 : Int), .int .i32 (o.2 : Int)] rfl rfl cellN.out (by intro u hu; simp at hu; rcases hu with rfl | rfl <;> rfl) (by unfold maxLen; omega) (by omega) (by have := HBS.out; simp; omega) ?_; intro g9 c9 w9 ho9 hp9)
          have H9 := hidden (hP6.out _ _ _ _ ho9 hp9)
          refine ⟨⟨i + 1, x, a5, some ⟨g9, 0, none⟩, c5, c9, n5, n6 + 1, ah, be ++ [o], by first | rfl | simp, by first | rfl | simp, by first | rfl | simp, by omega, by omega, hidden ⟨hlen2.out.1, by simp [hlen2.out.2]⟩, HRS, H9⟩, ?_⟩
          simp [intOf]
          omega
        · have hBz : ¬ (x.2 : Int) + 1 < (o.1 : Int) := by omega
          have HRS : Hid (∀ p q : Nat, min o.1 x.1 = p → max o.2 x.2 = q → withF (l.drop (i + 1)) (p, q) ah be = R) := hidden (fun p q hp hq => by rw [← hrel.out, HST.out, if_neg hA, if_neg hB, hp, hq])
          have HSE : Hid (∀ p q : Nat, p ≤ 1114111 → q ≤ 1114111 → WI w (((wr.alloc (.cells #[.int .i32 (o.1 : Int), .int .i32 (o.2 : Int)] 289)).setCell ⟨w.heap.size, 0, none⟩ (.int .i32 (p : Int))).setCell ⟨w.heap.size, 1, none⟩ (.int .i32 (q : Int))) (p, q) a5 c5 ah a6 c6 be) := hidden (fun p q hp hq => WY.out.set (y := (p, q)) ⟨hp, hq⟩)
          clear HST hA hB hrel own5 hP5 own6 hP6
          by_cases h1 : x.1 < o.1
          · have h1z : (x.1 : Int) < (o.1 : Int) := by omega
            by_cases h2 : x.2 < o.2
            · have h2z : (x.2 : Int) < (o.2 : Int) := by omega
              have h2y : ¬ (o.2 : Int) < (x.2 : Int) := by omega
              go_wp2
              refine ⟨⟨i + 1, (x.1, o.2), a5, a6, c5, c6, n5, n6, ah, be, by first | rfl | simp, by first | rfl | simp, by first | rfl | simp, by omega, by omega, hlen2, hidden (HRS.out _ _ (by omega) (by omega)), hidden (HSE.out _ _ bx1 y2)⟩, ?_⟩
              simp [intOf]
              omega
            · have h2z : ¬ (x.2 : Int) < (o.2 : Int) := by omega
              by_cases h3 : o.2 < x.2
              · have h2y : (o.2 : Int) < (x.2 : Int) := by omega
                go_wp2
                refine ⟨⟨i + 1, (x.1, x.2), a5, a6, c5, c6, n5, n6, ah, be, by first | rfl | simp, by first | rfl | simp, by first | rfl | simp, by omega, by omega, hlen2, hidden (HRS.out _ _ (by omega) (by omega)), hidden (HSE.out _ _ bx1 bx2)⟩, ?_⟩
                simp [intOf]
                omega
              · have h2y : ¬ (o.2 : Int) < (x.2 : Int) := by omega
                go_wp2
                refine ⟨⟨i + 1, (x.1, o.2), a5, a6, c5, c6, n5, n6, ah, be, by first | rfl | simp, by first | rfl | simp, by first | rfl | simp, by omega, by omega, hlen2, hidden (HRS.out _ _ (by omega) (by omega)), hidden (HSE.out _ _ bx1 y2)⟩, ?_⟩
                simp [intOf]
                omega
          · have h1z : ¬ (x.1 : Int) < (o.1 : Int) := by omega
            by_cases h3 : o.2 < x.2
            · have h2y : (o.2 : Int) < (x.2 : Int) := by omega
              go_wp2
              refine ⟨⟨i + 1, (o.1, x.2), a5, a6, c5, c6, n5, n6, ah, be, by first | rfl | simp, by first | rfl | simp, by first | rfl | simp, by omega, by omega, hlen2, hidden (HRS.out _ _ (by omega) (by omega)), hidden (HSE.out _ _ y1 bx2)⟩, ?_⟩
              simp [intOf]
              omega
            · have h2y : ¬ (o.2 : Int) < (x.2 : Int) := by omega
              go_wp2
              refine ⟨⟨i + 1, (o.1, o.2), a5, a6, c5, c6, n5, n6, ah, be, by first | rfl | simp, by first | rfl | simp, by first | rfl | simp, by omega, by omega, hlen2, hidden (HRS.out _ _ (by omega) (by omega)), hidden (HSE.out _ _ y1 y2)⟩, ?_⟩
              simp [intOf]
              omega
    · have hltz : ¬ (i : Int) < (n : Int) := by omega
      have x0 : wr.cell? ⟨w.heap.size, 0, none⟩ = some (.int .i32 (x.1 : Int)) := hW.out.blk.cell 0
      have x1 : wr.cell? ⟨w.heap.size, 1, none⟩ = some (.int .i32 (x.2 : Int)) := hW.out.blk.cell 1
      have HRE : Hid (ah ++ [x] ++ be = R) := hidden (by
        have := hrel.out
        rw [List.drop_of_length_le (by rw [HN.out]; omega), withF] at this
        exact this)
      have cellN : Hid (∀ jj u, [Value.int .i32 (x.1 : Int), Value.int .i32 (x.2 : Int)][jj]? = some u → (wr.alloc (.cells #[.int .i32 (x.1 : Int), .int .i32 (x.2 : Int)] 289)).cell? ((⟨wr.heap.size, 0, none⟩ : Addr).add jj) = some u) := hidden (fun jj u hu => by
        rw [Addr.add_lit, Nat.zero_add]
        have := (Blk.new wr 289 [.int .i32 (x.1 : Int), .int .i32 (x.2 : Int)]).cell jj
        rw [hu] at this
        exact this)
      have own5 : Hid (wr.ownsRow (w.heap.size + 1) 289 2 (.slice a5 n5 c5) n5 (cS ah)) := hidden (by have := hW.out.r5; rw [hlen2.out.1] at this; exact this)
      have HBS : Hid (w.heap.size + 1 ≤ wr.heap.size) := hidden (by have := hW.out.blk.lt; omega)
      have hP5 : Hid (∀ w9 g c' ob, w9.ownsRow (w.heap.size + 1) 289 2 (.slice (some ⟨g, 0, none⟩) (n5 + 1) c') (n5 + 1) (cS ah ++ [.int .i32 (x.1 : Int), .int .i32 (x.2 : Int)]) → Pushed (wr.alloc ob) w9 (.slice a5 n5 c5) g → WI w w9 x (some ⟨g, 0, none⟩) c' (ah ++ [x]) a6 c6 be) := hidden (fun w9 g c' ob h1 h2 => by
        rw [← hlen2.out.1] at h1 h2
        exact hW.out.push5 hW.out.bx h1 h2)
      clear hrel
      go_wp2_with (first
        | (refine wpList_push2 _ rfl (.tmp 49) (.tmp 51) 279 rfl 289 i0 (.agg #[.int .i32 0, .int .i32 0]) 8 Tryz.underlying279 HI.out hz0 hz1 hz2 rfl (w.heap.size + 1) (.slice a5 n5 c5) n5 (cS ah) rfl (own5.out.alloc _) ⟨wr.heap.size, 0, none⟩ [.int .i32 (x.1 : Int), .int .i32 (x.2 : Int)] rfl rfl cellN.out (by intro u hu; simp at hu; rcases hu with rfl | rfl <;> rfl) (by unfold maxLen; omega) (by omega) (by have := HBS.out; simp; omega) ?_; intro g9 c9 w9 ho9 hp9; have H9 := hidden (hP5.out _ _ _ _ ho9 hp9); have HO9 := hidden ho9; have HB9 : Hid (w.heap.size + 1 ≤ w9.heap.size) := hidden (by have := H9.out.blk.lt; omega); clear hP5 ho9 hp9)
        | (refine wpList_appS _ rfl (.tmp 52) (.tmp 53) rfl (w.heap.size + 1) (.slice (some ⟨g9, 0, none⟩) (n5 + 1) c9) (n5 + 1) (ah ++ [x]) rfl (by rw [cS_append]; exact HO9.out) a6 n6 c6 be rfl (ss_of_owns H9.out.r6 H9.out.b6) hlen2.out.2 ?no6 (n5 + 1 + n6) rfl ?by6 HB9.out ?_))
      case no6 =>
        intro e
        obtain ⟨ad', c', e2, hno, _⟩ := owns_formS H9.out.r6
        injection e2 with e3 e4 e5
        subst e3 e5
        exact ⟨List.eq_nil_of_length_eq_zero (hno e).1, (hno e).2⟩
      case by6 => omega
      intro a10 c10 w10 ho10 hb10
      have HLR : Hid (R.length = n5 + 1 + n6) := hidden (by rw [← HRE.out]; simp [hlen2.out.1, hlen2.out.2]; omega)
      go_wp2
      go_ret
      refine ⟨a10, c10, by rw [HLR.out]; rfl, ?_, ?_, H9.out.bel.trans (hb10.mono (by omega))⟩
      · rw [HLR.out, ← HRE.out]
        have ho11 : w10.ownsRow (w.heap.size + 1) 289 2 (.slice a10 (n5 + 1 + n6) c10) (n5 + 1 + n6) (cS (ah ++ [x] ++ be)) := by simpa using ho10
        exact owns_base ho11 (fun g hg => by have := (ho11.lt g hg).1; omega)
      · rw [← HRE.out]
        intro y hy
        rcases List.mem_append.1 hy with hy | hy
        · exact H9.out.b5 y hy
        · exact H9.out.b6 y hy

end Go.Proofs.YtgmdpbahcbhfjaaGreatDoor
/-
  The reader: class.
-/
namespace Go.Proofs.YtgmdpbahcbhfjaaGreatDoor
open Go.RowKit

theorem withF_len : ∀ (l : Sn) (x : Nat × Nat) (ah be : Sn), (withF l x ah be).length ≤ l.length + ah.length + be.length + 1
  | [], x, ah, be => by simp [withF]; omega
  | o :: t, x, ah, be => by
    rw [withF]
    split
    · have := withF_len t x (ah ++ [o]) be; simp at this ⊢; omega
    · split
      · have := withF_len t x ah (be ++ [o]); simp at this ⊢; omega
      · have := withF_len t (min o.1 x.1, max o.2 x.2) ah be; simp at this ⊢; omega
theorem withS_len (l : Sn) (x : Nat × Nat) : (withS l x).length ≤ l.length + 1 := by
  have := withF_len l x [] []
  simpa [withS] using this
def rdAt (r : Nat) (w : World) : Nat := ((w.cell? ⟨r, 1, none⟩).map (fun v => (intOf v).toNat)).getD 0
theorem Rd.at' {w : World} {r : Nat} {s : ByteArray} {a d : Nat} (h : Rd w r s a d) : rdAt r w = a := by
  have c1 : w.cell? ⟨r, 1, none⟩ = some (.int .i64 (a : Int)) := h.cell 1
  rw [rdAt, c1]
  simp [intOf]
theorem span_pos {S : List UInt8} {a : Nat} {x : Nat × Nat} {b : Nat} (h : spanF S a = .ok x b) : a < b := by
  unfold spanF at h
  have key : ∀ {a c b : Nat}, charF S a = .ok c b → a < b := fun {a c b} h => by
    unfold charF at h
    simp only at h
    split at h
    · cases h
    · rename_i c' k hf
      split at h
      · injection h with e1 e2
        have := (fp_len hf).1
        subst e2
        by_cases hd : decide (S[a]? = some 92) = true
        · rw [if_pos hd]; omega
        · rw [if_neg hd]; omega
      · cases h
  cases h1 : charF S a with
  | bad k => rw [h1] at h; cases h
  | out => rw [h1] at h; cases h
  | ok lo b1 =>
    have k1 := key h1
    rw [h1] at h
    simp only at h
    split at h
    · cases h2 : charF S (b1 + 1) with
      | bad k => rw [h2] at h; cases h
      | out => rw [h2] at h; cases h
      | ok hi b2 =>
        have k2 := key h2
        rw [h2] at h
        simp only at h
        split at h
        · cases h
        · injection h with e1 e2; omega
    · injection h with e1 e2; omega

/-- What class answers. -/
def ClR (S : List UInt8) (a : Nat) (neg : Bool) (l : Sn) (b : Nat) (ok : Bool) : Prop := a ≤ b ∧ b ≤ S.length ∧ neg = decide (S[a]? = some 94) ∧ (ok = true → clsF S (S.length + 2) (tkN S a 94) [] = .ok l b) ∧ (ok = false → clsF S (S.length + 2) (tkN S a 94) [] = .bad b)
/-- A class, as a value: its spans lie in blocks of F. -/
def ClV (F : Nat → Prop) (w : World) (v : Value) (neg : Bool) (l : Sn) : Prop := ∃ ad c, v = .iface 293 (.agg #[.bool neg, .slice ad l.length c]) ∧ Ss w ad l ∧ Bd l ∧ ∀ y, l ≠ [] → ad = some y → F y.block

/-- What is held in a round of class. -/
structure CI (w wx : World) (r g : Nat) (s : ByteArray) (d i : Nat) (neg : Bool) (ad : Option Addr) (c n : Nat) (acc : Sn) : Prop where
  rd : Rd wx r s i d
  blk : Blk wx g 293 [.bool neg, .slice ad n c]
  len : acc.length = n
  ss : Ss wx ad acc
  bd : Bd acc
  le : i ≤ (bts s).length
  ni : n ≤ i
  ch : Chg (fun k => k = r) w wx
  own : ∀ y, acc ≠ [] → ad = some y → w.heap.size ≤ y.block ∧ y.block ≠ g
theorem CI.moved {w wx w' : World} {r g : Nat} {s : ByteArray} {d i j : Nat} {neg : Bool} {ad : Option Addr} {c n : Nat} {acc : Sn} (h : CI w wx r g s d i neg ad c n acc) (hr : r < w.heap.size) (hg : w.heap.size ≤ g) (hrd : Rd w' r s j d) (hc : Chg (fun k => k = r) wx w') (hj : j ≤ (bts s).length) (hij : i ≤ j) : CI w w' r g s d j neg ad c n acc := by
  refine ⟨hrd, hc.blk h.blk (fun e => by have e' : g = r := e; omega), h.len, ⟨h.ss.sz, fun h0 => ?_⟩, h.bd, hj, by have := h.ni; omega, h.ch.trans hc (fun _ _ e => e), h.own⟩
  obtain ⟨b, off, e, hb, hcell⟩ := h.ss.at' h0
  have ho := (h.own _ h0 e).1
  have hbk := hc.block b hb (fun e' => by have e'' : b = r := e'; simp only at ho; omega)
  refine ⟨b, off, e, Nat.lt_of_lt_of_le hb hc.size, fun k x hx => ?_⟩
  rw [show w'.cell? ⟨b, off + k * 2, none⟩ = wx.cell? ⟨b, off + k * 2, none⟩ from World.cell?_of_block hbk, show w'.cell? ⟨b, off + k * 2 + 1, none⟩ = wx.cell? ⟨b, off + k * 2 + 1, none⟩ from World.cell?_of_block hbk]
  exact hcell k x hx

theorem CI.next {w w5 w6 : World} {r g : Nat} {s : ByteArray} {d i : Nat} {neg : Bool} {ad a' : Option Addr} {c n c' n' : Nat} {acc l' : Sn} {ob : Obj} (h : CI w w5 r g s d i neg ad c n acc) (hr : r < w.heap.size) (hg : w.heap.size ≤ g) (hb : Below (w5.alloc ob).heap.size (w5.alloc ob) w6)
    (ho : w6.ownsRow (w5.alloc ob).heap.size 289 2 (.slice a' n' c') n' (cS l')) (hbd : Bd l') (hl : l'.length = n') (hn : n' ≤ i) : CI w (w6.setCell ⟨g, 1, none⟩ (.slice a' n' c')) r g s d i neg a' c' n' l' := by
  have hal : Below w5.heap.size w5 w6 := ((Below.refl _ _).alloc (Nat.le_refl _) ob).trans (hb.mono (by simp))
  have hgl := h.blk.lt
  have hcs : Chg (fun k => k = g) w6 (w6.setCell ⟨g, 1, none⟩ (.slice a' n' c')) := Chg.set ⟨g, 1, none⟩ _ _
  have hbase : ∀ b, (Value.slice a' n' c').ownBlock = some b → w5.heap.size + 1 ≤ b := fun b hb' => by have := (ho.lt b hb').1; simpa using this
  have hoS : (w6.setCell ⟨g, 1, none⟩ (.slice a' n' c')).ownsRow (w5.alloc ob).heap.size 289 2 (.slice a' n' c') n' (cS l') := hcs.owns ho (fun b hb' e => by have := hbase b hb'; have e' : b = g := e; omega)
  refine ⟨hcs.blk (h.rd.later hal) (fun e => by have e' : r = g := e; omega), (h.blk.later hal).set 1 _, hl, ss_of_owns hoS hbd, hbd, h.le, hn, (h.ch.trans (Chg.of_below (F := fun _ => False) hal) (fun _ _ e => e.elim)).trans hcs (fun k hk e => by have e' : k = g := e; omega), fun y h0 e => ?_⟩
  subst e
  obtain ⟨a2, c2, e2, _, hsp, _⟩ := owns_formS ho
  injection e2 with e3 _ _
  obtain ⟨z0, z1⟩ := hsp y e3.symm
  obtain ⟨b, off, sp⟩ := y
  simp only at z0 z1
  subst z0 z1
  have := hbase b (by simp [Value.ownBlock])
  have hs5 := h.ch.size
  simp only
  omega

end Go.Proofs.YtgmdpbahcbhfjaaGreatDoor
