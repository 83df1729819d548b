import Derived.Test.YtanlgplgplncdaaGreatDoorMtD
import Derived.Test.YtanlgplgplncdaaGreatDoorLbW
import Derived.Laws.StructEq
import Derived.BigQuiet
import Derived.Test.YtanlgplgplncdaaGreatDoorTxF
/-
  The document's Quote; the statements' own 'same'.
-/
namespace Go.Proofs.YtanlgplgplncdaaGreatDoor.L
open Go.RowKit
set_option linter.unusedVariables false
set_option linter.unusedSimpArgs false

theorem btsx (s : ByteArray) (i j : Nat) : bts (s.extract i j) = ((bts s).drop i).take (j - i) := bts_extract s i j
theorem dropM {l : List Mt} {i : Nat} {x : Mt} (h : l[i]? = some x) : l.drop i = x :: l.drop (i + 1) := by
  obtain ⟨hi, he⟩ := List.getElem?_eq_some_iff.1 h
  rw [← he]
  exact List.drop_eq_getElem_cons _
theorem bts_app (a b : ByteArray) : bts (a ++ b) = bts a ++ bts b := by simp [bts]
theorem size_app (a b : ByteArray) : (a ++ b).size = a.size + b.size := by rw [size_bts, bts_app, List.length_append, ← size_bts, ← size_bts]
theorem qtL_snoc (l : List UInt8) (x : UInt8) : qtL (l ++ [x]) = qtL l ++ qt1 x := by simp [qtL]
theorem takeB {l : List UInt8} {i : Nat} {x : UInt8} (h : l[i]? = some x) : l.take (i + 1) = l.take i ++ [x] := by
  rw [List.take_add_one, h]; rfl

set_option maxRecDepth 100000 in
set_option maxHeartbeats 4000000 in
theorem rquoteP (s : ByteArray) (w : World) (hs : s.size ≤ 1000) : Calls Tryz.prog 41 #[.string s] w fun e w' => e = .returned (.string (oft (34 :: (qtL (bts s) ++ [34])))) ∧ w' = w := by
  obtain ⟨R, hR⟩ : ∃ R, oft (34 :: (qtL (bts s) ++ [34])) = R := ⟨_, rfl⟩
  have HR := hidden hR
  rw [hR]
  clear hR
  go_enter Tryz.func41, Tryz.ntmps41
  go_wp2
  go_loopw [3, 4] (fun s0 s1 wx => ∃ (i : Nat) (acc : ByteArray), s0 = .string acc ∧ s1 = .int .i64 (i : Int) ∧ i ≤ s.size ∧ acc.size ≤ 1 + 2 * i ∧ Hid (bts acc = 34 :: qtL ((bts s).take i)) ∧ wx = w) (fun _ s1 _ => s.size - (intOf s1).toNat)
  case atStart => exact ⟨0, ⟨#[34]⟩, rfl, rfl, by omega, by decide, hidden (by simp [qtL, bts]), rfl⟩
  case round =>
    obtain ⟨i, acc, rfl, rfl, hi, hsz, hrel, rfl⟩ := hrel
    by_cases hlt : i < s.size
    · have hltz : (i : Int) < (s.size : Int) := by omega
      obtain ⟨x, hx, hx2, hdr⟩ := byte_at s hlt
      have e92 := beq92 x
      have e34 := beq34 x
      have e10 := beq10 x
      have hq : Hid (∀ p, qt1 x = bts p → bts (acc ++ p) = 34 :: qtL ((bts s).take (i + 1))) := hidden (fun p hp => by rw [takeB hx2, qtL_snoc, bts_app, hrel.out, hp, List.cons_append])
      have HDR := hidden hdr
      clear hdr hrel hx2
      by_cases h92 : x = 92
      · subst h92
        have hsz2 : acc.size + 2 ≤ 9223372036854775807 := by omega
        have HN := hidden (hq.out ⟨#[92, 92]⟩ (by decide))
        have HZ : Hid ((acc ++ ⟨#[92, 92]⟩ : ByteArray).size ≤ 1 + 2 * (i + 1)) := hidden (by rw [size_app, show (⟨#[92, 92]⟩ : ByteArray).size = 2 from rfl]; omega)
        have f1 : ((92 : UInt8).toNat : Int) = 92 := rfl
        clear hq e92 e34 e10
        go_wp2
        refine ⟨⟨i + 1, _, rfl, by first | rfl | simp, by omega, HZ.out, HN, by first | rfl | trivial⟩, ?_⟩
        simp [intOf]
        omega
      · rw [decide_eq_false h92] at e92
        by_cases h34 : x = 34
        · subst h34
          have hsz2 : acc.size + 2 ≤ 9223372036854775807 := by omega
          have HN := hidden (hq.out ⟨#[92, 34]⟩ (by decide))
          have HZ : Hid ((acc ++ ⟨#[92, 34]⟩ : ByteArray).size ≤ 1 + 2 * (i + 1)) := hidden (by rw [size_app, show (⟨#[92, 34]⟩ : ByteArray).size = 2 from rfl]; omega)
          have f1 : ((34 : UInt8).toNat : Int) = 34 := rfl
          clear hq e92 e34 e10
          go_wp2
          refine ⟨⟨i + 1, _, rfl, by first | rfl | simp, by omega, HZ.out, HN, by first | rfl | trivial⟩, ?_⟩
          simp [intOf]
          omega
        · rw [decide_eq_false h34] at e34
          by_cases h10 : x = 10
          · subst h10
            have hsz2 : acc.size + 2 ≤ 9223372036854775807 := by omega
            have HN := hidden (hq.out ⟨#[92, 110]⟩ (by decide))
            have HZ : Hid ((acc ++ ⟨#[92, 110]⟩ : ByteArray).size ≤ 1 + 2 * (i + 1)) := hidden (by rw [size_app, show (⟨#[92, 110]⟩ : ByteArray).size = 2 from rfl]; omega)
            have f1 : ((10 : UInt8).toNat : Int) = 10 := rfl
            clear hq e92 e34 e10
            go_wp2
            refine ⟨⟨i + 1, _, rfl, by first | rfl | simp, by omega, HZ.out, HN, by first | rfl | trivial⟩, ?_⟩
            simp [intOf]
            omega
          · rw [decide_eq_false h10] at e10
            have hex : bts (s.extract i (i + 1)) = [x] := by
              rw [btsx, HDR.out, show i + 1 - i = 1 by omega]
              rfl
            have hes : (s.extract i (i + 1)).size = 1 := by rw [size_bts, hex]; rfl
            have hsz2 : acc.size + (s.extract i (i + 1)).size ≤ 9223372036854775807 := by omega
            have hz3 : (i : Int) + 1 ≤ (s.size : Int) := by omega
            have HN := hidden (hq.out (s.extract i (i + 1)) (by rw [hex, qt1, if_neg h92, if_neg h34, if_neg h10]))
            have HZ : Hid ((acc ++ s.extract i (i + 1) : ByteArray).size ≤ 1 + 2 * (i + 1)) := hidden (by rw [size_app, hes]; omega)
            clear hq hex hes h92 h34 h10
            go_wp2
            refine ⟨⟨i + 1, _, rfl, by first | rfl | simp, by omega, HZ.out, HN, by first | rfl | trivial⟩, ?_⟩
            simp [intOf]
            omega
    · have hltz : ¬ (i : Int) < (s.size : Int) := by omega
      have hsz2 : acc.size + 1 ≤ 9223372036854775807 := by omega
      have HE : Hid (acc ++ ⟨#[34]⟩ = R) := hidden (bts_inj (by rw [← HR.out, bts_oft, bts_app, hrel.out, List.take_of_length_le (by rw [← size_bts]; omega)]; rfl))
      clear hrel
      go_wp2
      go_ret
      exact ⟨by rw [← HE.out]; rfl, rfl⟩


set_option maxRecDepth 100000 in
theorem neq31 (x y : Mt) (w : World) : (binOp .neq 58 (.agg #[.string x.n, .int .i64 x.op, .string x.t]) (.agg #[.string y.n, .int .i64 y.op, .string y.t])).run Tryz.prog w = .ok (.bool !(decide (x = y))) w := by
  have h : (Op.equalIn 10000 58 (.agg #[.string x.n, .int .i64 x.op, .string x.t]) (.agg #[.string y.n, .int .i64 y.op, .string y.t])).run Tryz.prog w = .ok (x.n.toList == y.n.toList && (x.op == y.op && x.t.toList == y.t.toList)) w := by
    rw [run_equalIn_struct w 9999 58 _ _ (by kernel_rfl) (by kernel_rfl)]
    simp [Op.eqFields, Program.fieldsOf, go_sem, part]
    by_cases h1 : x.n.toList = y.n.toList <;> by_cases h2 : x.op = y.op <;> by_cases h3 : x.t.toList = y.t.toList <;> simp [h1, h2, h3]
  rw [run_neq_struct, h]
  simp only [Result.andThen]
  congr 3
  rw [Bool.eq_iff_iff]
  simp only [Bool.and_eq_true, beq_iff_eq, decide_eq_true_eq, toList_bts]
  refine ⟨fun h => ?_, fun h => by rw [h]; exact ⟨rfl, rfl, rfl⟩⟩
  obtain ⟨a, b, c⟩ := x
  obtain ⟨a', b', c'⟩ := y
  simp only at h
  rw [bts_inj h.1, h.2.1, bts_inj h.2.2]

set_option maxRecDepth 100000 in
set_option maxHeartbeats 4000000 in
theorem sameMP (ad bd : Option Addr) (c d : Nat) (l m : List Mt) (w : World) (hL : Ms w ad l) (hM : Ms w bd m) (hl : l.length ≤ 9223372036854775807) (hm : m.length ≤ 9223372036854775807) :
    Calls Tryz.prog 11 #[.slice ad l.length c, .slice bd m.length d] w fun e w' => e = .returned (.bool (decide (l = m))) ∧ Below w.heap.size w w' := by
  obtain ⟨n, hn⟩ : ∃ n, l.length = n := ⟨_, rfl⟩
  obtain ⟨k, hk⟩ : ∃ k, m.length = k := ⟨_, rfl⟩
  rw [hn] at hl ⊢
  rw [hk] at hm ⊢
  by_cases hnk : n = k
  · subst hnk
    obtain ⟨R, hR⟩ : ∃ R, decide (l = m) = R := ⟨_, rfl⟩
    have HR := hidden hR
    have HL := hidden hL
    have HM := hidden hM
    have HN := hidden hn
    have HK := hidden hk
    rw [hR]
    clear hR hL hM hn hk
    go_enter Tryz.func11, Tryz.ntmps11
    go_wp2
    go_loopw [5] (fun s0 wx => ∃ i : Nat, s0 = .int .i64 (i : Int) ∧ i ≤ n ∧ Hid (decide (l.drop i = m.drop i) = R) ∧ Hid (Below w.heap.size w wx)) (fun s0 _ => n - (intOf s0).toNat)
    case atStart => exact ⟨0, rfl, by omega, hidden (by simpa using HR.out), hidden (Below.refl _ _)⟩
    case round =>
      rename World => wr
      obtain ⟨i, rfl, hi, hrel, hbel⟩ := hrel
      by_cases hlt : i < n
      · have hltz : (i : Int) < (n : Int) := by omega
        obtain ⟨b, off, x, rfl, hb, hx, c0, c1, c2, hox⟩ := (HL.out.later hbel.out).get (i := i) (by rw [HN.out]; exact hlt)
        obtain ⟨b', off', y, rfl, hb', hy, d0, d1, d2, hoy⟩ := (HM.out.later hbel.out).get (i := i) (by rw [HK.out]; exact hlt)
        have hdx : l.drop i = x :: l.drop (i + 1) := dropM hx
        have hdy : m.drop i = y :: m.drop (i + 1) := dropM hy
        have hR1 : Hid (decide (x = y ∧ l.drop (i + 1) = m.drop (i + 1)) = R) := hidden (by have := hrel.out; rw [hdx, hdy] at this; rw [← this]; congr 1; simp)
        have hq := fun w => neq31 x y w
        clear hx hy hdx hdy hrel hox hoy
        by_cases hxy : x = y
        · have hd : decide (x = y) = true := decide_eq_true hxy
          rw [hd] at hq
          have hR2 : Hid (decide (l.drop (i + 1) = m.drop (i + 1)) = R) := hidden (by have := hR1.out; rw [← this]; congr 1; simp [hxy])
          clear hxy hd hR1
          go_wp2
          go_quiet (fail)
          go_wp2
          refine ⟨⟨i + 1, by first | rfl | simp, by omega, hR2, hidden (below_drewN hbel.out _)⟩, ?_⟩
          simp [intOf]
          omega
        · have hd : decide (x = y) = false := decide_eq_false hxy
          rw [hd] at hq
          have hR2 : Hid (R = false) := hidden (by have := hR1.out; rw [← this]; exact decide_eq_false (fun h => hxy h.1))
          clear hxy hd hR1
          go_wp2
          go_quiet (fail)
          go_wp2
          go_ret
          exact ⟨by rw [hR2.out]; rfl, below_drewN hbel.out _⟩
      · have hltz : ¬ (i : Int) < (n : Int) := by omega
        have hR2 : Hid (R = true) := hidden (by have := hrel.out; rw [← this, List.drop_of_length_le (by rw [HN.out]; omega), List.drop_of_length_le (by rw [HK.out]; omega)]; simp)
        go_wp2
        go_ret
        exact ⟨by rw [hR2.out]; rfl, hbel.out⟩
  · have hR : decide (l = m) = false := decide_eq_false (fun e => hnk (by rw [← hn, ← hk, e]))
    rw [hR]
    have z : ((n : Int) == (k : Int)) = false := by simp; omega
    clear hL hM hn hk hR
    go_enter Tryz.func11, Tryz.ntmps11
    go_wp2
    go_ret
    exact ⟨rfl, Below.refl _ _⟩


end Go.Proofs.YtanlgplgplncdaaGreatDoor.L

/-
  The document's Print.
-/
namespace Go.Proofs.YtanlgplgplncdaaGreatDoor
open Go.RowKit
set_option linter.unusedVariables false
set_option linter.unusedSimpArgs false

theorem btsA (a b : ByteArray) : bts (a ++ b) = bts a ++ bts b := by simp [bts]
theorem sizeA (a b : ByteArray) : (a ++ b).size = a.size + b.size := by rw [size_bts, btsA, List.length_append, ← size_bts, ← size_bts]
theorem op_size (o : Int) : (L.oft (opT o)).size ≤ 2 := by rw [size_bts, bts_oftM]; exact opT_len o

set_option maxRecDepth 100000 in
set_option maxHeartbeats 8000000 in
theorem rprintP (B : Nat) (ad : Option Addr) (c : Nat) (l : List Mt) (w : World) (hL : Ms w ad l) (hlen : l.length ≤ 9223372036854775807) (hz : Tz l) (hT : L.Tb B w) :
    Calls Tryz.prog 20 #[.slice ad l.length c] w fun e w' => e = .returned (.string (L.oft (printM l))) ∧ Below w.heap.size w w' := by
  have hR := rnewP B ad c l w hL hlen hz hT
  obtain ⟨n, hn⟩ : ∃ n, l.length = n := ⟨_, rfl⟩
  have HN := hidden hn
  have HL := hidden hL
  rw [hn] at hlen hR ⊢
  clear hn hL hT hz
  unfold NewN at hR
  obtain ⟨PM, hPM⟩ : ∃ PM, printM l = PM := ⟨_, rfl⟩
  rw [hPM]
  have HPM := hidden hPM
  clear hPM
  go_enter Tryz.func20, Tryz.ntmps20
  go_wp2_with fail
  refine hR.mono ?_
  rintro e w1 ⟨b1, ⟨ho, s, F, rfl, -, -⟩ | ⟨ho, rfl⟩⟩
  · have HB1 := hidden b1
    have HALL : Hid (n ≤ 8 ∧ l.all Mt.may = true) := hidden (by
      unfold newOk at ho
      rw [Bool.and_eq_true] at ho
      exact ⟨by rw [← HN.out]; exact of_decide_eq_true ho.1, ho.2⟩)
    have hn8 := HALL.out.1
    have HPR : Hid (PM = 123 :: prM true l) := hidden (by rw [← HPM.out]; unfold printM; rw [ho]; rfl)
    have HS : Hid (PM.length ≤ 2000) := hidden (by
      rw [HPR.out, List.length_cons]
      have := prM_len l true HALL.out.2
      rw [HN.out] at this
      omega)
    have HV : Hid (∀ x ∈ l, x.t.size ≤ 64) := hidden (fun x hx => by
      have := List.all_eq_true.1 HALL.out.2 x hx
      unfold Mt.may at this
      rw [Bool.and_eq_true] at this
      have := txt_short this.1
      rw [size_bts]
      exact this)
    clear b1 hR ho
    go_wp2_with fail
    go_loopw [5, 6] (fun s5 s6 wx => ∃ (i : Nat) (acc : ByteArray), s5 = .string acc ∧ s6 = .int .i64 (i : Int) ∧ i ≤ n ∧ Hid (bts acc ++ prM (i == 0) (l.drop i) = PM) ∧ Hid (Below w1.heap.size w1 wx)) (fun _ s6 _ => n - (intOf s6).toNat)
    case atStart => exact ⟨0, ⟨#[123]⟩, rfl, rfl, by omega, hidden (by rw [HPR.out]; rfl), hidden (Below.refl _ _)⟩
    case round =>
      rename World => wr
      obtain ⟨i, acc, rfl, rfl, hi, hrel, hbel⟩ := hrel
      by_cases hlt : i < n
      · have hltz : (i : Int) < (n : Int) := by omega
        obtain ⟨b, off, x, rfl, hb, hx, c0, c1, c2, hok⟩ := ((HL.out.later HB1.out).below (Nat.le_refl _) hbel.out).get (i := i) (by rw [HN.out]; exact hlt)
        have hdrop : Hid (l.drop i = x :: l.drop (i + 1)) := hidden (L.dropM hx)
        have kQ := fun w => L.rquoteP x.t w (by have := HV.out x (List.mem_of_getElem? hx); omega)
        have kO := fun w => ropsP x.op w ⟨hok.2.2.1, hok.2.2.2⟩
        obtain ⟨q, hq⟩ : ∃ q, L.oft (34 :: (L.qtL (L.bts x.t) ++ [34])) = q := ⟨_, rfl⟩
        rw [hq] at kQ
        have HQ : Hid (bts q = 34 :: (L.qtL (bts x.t) ++ [34])) := hidden (by rw [← hq]; exact bts_oftM _)
        have HPO := hidden (op_size x.op)
        have HPB := hidden (bts_oftM (opT x.op))
        obtain ⟨po, hpo⟩ : ∃ po, L.oft (opT x.op) = po := ⟨_, rfl⟩
        rw [hpo] at kO HPO HPB
        clear hx hq hok hpo
        by_cases h0 : i = 0
        · have z0 : ¬ (0 : Int) < (i : Int) := by omega
          have HRR : Hid (bts (acc ++ x.n ++ po ++ q) ++ prM false (l.drop (i + 1)) = PM) := hidden (by
            have h1 := hrel.out
            rw [hdrop.out, show (i == 0) = true by simpa using h0] at h1
            rw [← h1, btsA, btsA, btsA, HQ.out, HPB.out]
            simp [prM, Mt.text])
          have HLN : Hid (acc.size + x.n.size + po.size + q.size ≤ 2000) := hidden (by
            have h1 := HS.out
            rw [← HRR.out] at h1
            simp only [List.length_append, ← size_bts, sizeA] at h1
            omega)
          have s1 : acc.size + x.n.size ≤ 9223372036854775807 := by have := HLN.out; omega
          have s2 : (acc ++ x.n).size + po.size ≤ 9223372036854775807 := by rw [sizeA]; have := HLN.out; omega
          have s3 : (acc ++ x.n ++ po : ByteArray).size + q.size ≤ 9223372036854775807 := by rw [sizeA, sizeA]; have := HLN.out; omega
          have n1 : ¬ 9223372036854775807 < acc.size + x.n.size := by have := HLN.out; omega
          have n2 : ¬ 9223372036854775807 < acc.size + x.n.size + po.size := by have := HLN.out; omega
          have n3 : ¬ 9223372036854775807 < acc.size + x.n.size + po.size + q.size := by have := HLN.out; omega
          have t1 := fun w => run_string_add_sum (P := Tryz.prog) w acc x.n s1
          have t2 := fun w => run_string_add_sum (P := Tryz.prog) w (acc ++ x.n) po s2
          have t3 := fun w => run_string_add_sum (P := Tryz.prog) w (acc ++ x.n ++ po) q s3
          clear hrel hdrop HLN h0
          go_wp2
          go_quiet (first | (go_at_call 40; exact Calls.quiet_of_same (kO _)) | (go_at_call 41; exact Calls.quiet_of_same (kQ _)))
          go_wp2
          refine ⟨⟨i + 1, _, rfl, by first | rfl | simp, by omega, hidden (by rw [show (i + 1 == 0) = false by simp]; exact HRR.out), hidden (below_drewN hbel.out _)⟩, ?_⟩
          simp [intOf]
          omega
        · have z0 : (0 : Int) < (i : Int) := by omega
          have HRR : Hid (bts (acc ++ ⟨#[44, 32]⟩ ++ x.n ++ po ++ q) ++ prM false (l.drop (i + 1)) = PM) := hidden (by
            have h1 := hrel.out
            rw [hdrop.out, show (i == 0) = false by simpa using h0] at h1
            rw [← h1, btsA, btsA, btsA, btsA, HQ.out, HPB.out]
            simp [prM, Mt.text, lbs2])
          have HLN : Hid (acc.size + 2 + x.n.size + po.size + q.size ≤ 2000) := hidden (by
            have h1 := HS.out
            rw [← HRR.out] at h1
            simp only [List.length_append, ← size_bts, sizeA] at h1
            have : (⟨#[44, 32]⟩ : ByteArray).size = 2 := rfl
            omega)
          have s0 : acc.size + 2 ≤ 9223372036854775807 := by have := HLN.out; omega
          have s1 : (acc ++ ⟨#[44, 32]⟩ : ByteArray).size + x.n.size ≤ 9223372036854775807 := by rw [sizeA, show (⟨#[44, 32]⟩ : ByteArray).size = 2 from rfl]; have := HLN.out; omega
          have s2 : (acc ++ ⟨#[44, 32]⟩ ++ x.n : ByteArray).size + po.size ≤ 9223372036854775807 := by rw [sizeA, sizeA, show (⟨#[44, 32]⟩ : ByteArray).size = 2 from rfl]; have := HLN.out; omega
          have s3 : (acc ++ ⟨#[44, 32]⟩ ++ x.n ++ po : ByteArray).size + q.size ≤ 9223372036854775807 := by rw [sizeA, sizeA, sizeA, show (⟨#[44, 32]⟩ : ByteArray).size = 2 from rfl]; have := HLN.out; omega
          have n1 : ¬ 9223372036854775807 < acc.size + 2 + x.n.size := by have := HLN.out; omega
          have n2 : ¬ 9223372036854775807 < acc.size + 2 + x.n.size + po.size := by have := HLN.out; omega
          have n3 : ¬ 9223372036854775807 < acc.size + 2 + x.n.size + po.size + q.size := by have := HLN.out; omega
          have t1 := fun w => run_string_add_sum (P := Tryz.prog) w (acc ++ ⟨#[44, 32]⟩) x.n s1
          have t2 := fun w => run_string_add_sum (P := Tryz.prog) w (acc ++ ⟨#[44, 32]⟩ ++ x.n) po s2
          have t3 := fun w => run_string_add_sum (P := Tryz.prog) w (acc ++ ⟨#[44, 32]⟩ ++ x.n ++ po) q s3
          clear hrel hdrop HLN h0
          go_wp2
          go_quiet (first | (go_at_call 40; exact Calls.quiet_of_same (kO _)) | (go_at_call 41; exact Calls.quiet_of_same (kQ _)))
          go_wp2
          refine ⟨⟨i + 1, _, rfl, by first | rfl | simp, by omega, hidden (by rw [show (i + 1 == 0) = false by simp]; exact HRR.out), hidden (below_drewN hbel.out _)⟩, ?_⟩
          simp [intOf]
          omega
      · have hltz : ¬ (i : Int) < (n : Int) := by omega
        have HE : Hid (acc ++ ⟨#[125]⟩ = L.oft PM) := hidden (L.bts_inj (by
          have h1 := hrel.out
          rw [List.drop_of_length_le (by rw [HN.out]; omega), show prM (i == 0) [] = [125] from by cases (i == 0) <;> rfl] at h1
          rw [L.bts_oft, ← h1]
          exact btsA _ _))
        have hsz : acc.size + 1 ≤ 9223372036854775807 := by
          have h1 := HS.out
          have h2 := hrel.out
          rw [← h2, List.length_append, ← size_bts] at h1
          omega
        clear hrel
        go_wp2
        go_ret
        exact ⟨by rw [← HE.out]; rfl, HB1.out.trans (hbel.out.mono HB1.out.size)⟩
  · have HB1 := hidden b1
    have hp : Hid (PM = []) := hidden (by rw [← HPM.out]; unfold printM; rw [ho]; rfl)
    clear b1 hR ho
    go_wp2
    go_ret
    exact ⟨by rw [hp.out]; rfl, HB1.out⟩

end Go.Proofs.YtanlgplgplncdaaGreatDoor

/-
  The statement's own: lent, still.
-/
namespace Go.Proofs.YtanlgplgplncdaaGreatDoor
open Go.RowKit
set_option linter.unusedVariables false
set_option linter.unusedSimpArgs false

theorem ms_cells {w : World} {x : Addr} {l : List Mt} (h : Ms w (some x) l) : ∀ j u, (L.cM l)[j]? = some u → w.cell? (x.add j) = some u := by
  intro j u hu
  have hlt : j < (L.cM l).length := (List.getElem?_eq_some_iff.1 hu).1
  rw [L.cM_length] at hlt
  have hi : j / 3 < l.length := by omega
  obtain ⟨b, off, y, e, -, hy, c0, c1, c2, -⟩ := h.get hi
  injection e with e
  subst e
  have hc := L.cM_get l (j / 3) y hy
  rw [Addr.add_lit]
  rcases (show j = j / 3 * 3 ∨ j = j / 3 * 3 + 1 ∨ j = j / 3 * 3 + 2 by omega) with e | e | e
  · rw [e, hc.1] at hu
    injection hu with hu
    rw [← hu, e]
    exact c0
  · rw [e, hc.2.1] at hu
    injection hu with hu
    rw [← hu, e, ← Nat.add_assoc]
    exact c1
  · rw [e, hc.2.2] at hu
    injection hu with hu
    rw [← hu, e, ← Nat.add_assoc]
    exact c2
theorem one_cM (l : List Mt) : ∀ u ∈ L.cM l, u.oneCell' = true := by
  intro u hu
  simp only [L.cM, List.mem_flatMap] at hu
  obtain ⟨x, _, hx⟩ := hu
  exact one_mC x u hx
/-- A list of matchers behind a row of one's own. -/
theorem wpList_appM (w : World) {ops : Array Oper} {rest : List Oper} {o : Oper} {a : Act} {Q : Exit → Act → World → Prop} (hgd : o.guard = none) (s x : Operand)
    (ho : o.op = .call { callee := .builtin .append, args := #[s, x], argTypes := #[22, 22] }) (base : Nat) (v : Value) (n : Nat) (A : List Mt) (hs : a.eval s = v) (hown : w.ownsRow base 58 3 v n (L.cM A)) (ad : Option Addr) (m c : Nat) (l : List Mt)
    (hx : a.eval x = .slice ad m c) (hm : l.length = m) (hL : Ms w ad l) (hno : ad = none → m = 0 ∧ c = 0) (hn : n + m ≤ 1000000) (hbase : base ≤ w.heap.size)
    (h : ∀ v' w', w'.ownsRow base 58 3 v' (n + m) (L.cM (A ++ l)) → Below base w w' → wpList Tryz.prog ops Q rest (a.put o.dst v') w') :
    wpList Tryz.prog ops Q (o :: rest) a w := by
  obtain ⟨i0, hi0, hz0, hz1, hz2⟩ := info_parts L.info31
  cases ad with
  | none =>
    obtain ⟨h1, h2⟩ := hno rfl
    subst h1 h2
    have hl : l = [] := List.eq_nil_of_length_eq_zero hm
    subst hl
    refine wpList_append_own_none hgd s x 22 ho base 58 i0 3 Tryz.underlying22 hi0 v n _ hs hown hx ?_
    exact h v w (by simpa using hown) (Below.refl _ _)
  | some ad =>
    refine wpList_append_own w hgd s x 22 ho base 58 i0 _ 3 40 Tryz.underlying22 hi0 hz0 hz1 hz2 rfl (by decide) v n (L.cM A) hs hown ad m c (L.cM l) hx (by rw [L.cM_length, hm]) (ms_cells hL) (one_cM l) (by unfold maxLen; omega) (by omega) hbase ?_
    intro v' w' h1 h2 h3
    exact h v' w' (by rw [L.cM_append]; exact h1) ((Below.refl _ _).grown h2 hbase (fun k hk => (hown.lt k hk).1))

theorem owns_some {w : World} {base e sz : Nat} {v : Value} {n : Nat} {xs : List Value} (h : w.ownsRow base e sz v n xs) (h0 : 0 < n) : ∃ g cap, v = .slice (some ⟨g, 0, none⟩) n cap ∧ n ≤ cap ∧ cap ≤ 9223372036854775807 := by
  rcases h.2 with ⟨_, h1⟩ | ⟨g, cap, cur, rfl, _, _, h2, h3, _⟩
  · omega
  · exact ⟨g, cap, rfl, h2, by unfold maxLen at h3; omega⟩

def bhd : Mt := ⟨⟨#[98, 101, 104, 105, 110, 100]⟩, 0, ⟨#[]⟩⟩
theorem bhd_ok : OkM bhd := ⟨by decide, by decide, by decide, by decide⟩
theorem built58b : Tryz.prog.built 58 [(0, .string ⟨#[98, 101, 104, 105, 110, 100]⟩)] = some (mC bhd).toArray := by kernel_rfl

set_option maxRecDepth 100000 in
set_option maxHeartbeats 4000000 in
theorem lentP (ad : Option Addr) (n c : Nat) (l : List Mt) (w : World) (hL : Ms w ad l) (hn : l.length = n) (h30 : n ≤ 30) (hno : ad = none → n = 0 ∧ c = 0) :
    Calls Tryz.prog 15 #[.slice ad n c] w fun e w' => ∃ g c', e = .returned (.slice (some ⟨g, 0, none⟩) n c') ∧ w'.ownsRow w.heap.size 58 3 (.slice (some ⟨g, 0, none⟩) (n + 2) c') (n + 2) (L.cM (l ++ [bhd, bhd])) ∧ Below w.heap.size w w' := by
  obtain ⟨i0, hi0, hz0, hz1, hz2⟩ := info_parts L.info31
  have HI := hidden hi0
  have HL := hidden hL
  have HNO := hidden hno
  have HN := hidden hn
  clear hi0 hL hno hn
  go_enter Tryz.func15, Tryz.ntmps15
  go_upto_region 3 with (refine wpList_appM w rfl (.tmp 4) (.tmp 5) rfl w.heap.size (.slice none 0 0) 0 [] rfl (World.ownsRow_nil _ _ _ _) ad n c l rfl HN.out HL.out HNO.out (by omega) (Nat.le_refl _) ?_; intro v1 w1 ho1 hb1; have O1 := hidden ho1; have HB1 := hidden hb1; clear ho1 hb1)
  have O1' : Hid (w1.ownsRow w.heap.size 58 3 v1 n (L.cM l)) := hidden (by have := O1.out; rw [Nat.zero_add, List.nil_append] at this; exact this)
  clear O1
  have HNEW : Hid (∀ j u, (mC bhd ++ mC bhd)[j]? = some u → (w1.alloc (.cells (mC bhd ++ mC bhd).toArray 58)).cell? ((⟨w1.heap.size, 0, none⟩ : Addr).add j) = some u) := hidden (fun j u hu => by
    have := (Blk.new w1 58 (mC bhd ++ mC bhd)).cell (0 + j)
    rw [Addr.add_lit]
    refine this.trans ?_
    rw [Nat.zero_add]
    exact hu)
  have hsz1 := HB1.out.size
  have HONE : Hid (∀ u ∈ mC bhd ++ mC bhd, u.oneCell' = true) := hidden (fun u hu => by
    rcases List.mem_append.1 hu with h | h
    · exact one_mC bhd u h
    · exact one_mC bhd u h)
  have HGR : Hid (∀ w2, (w1.alloc (.cells (mC bhd ++ mC bhd).toArray 58)).grownBy w2 v1.ownBlock → Below w.heap.size w w2) := hidden (fun w2 hg2 => by
    refine (HB1.out.alloc hsz1 (.cells (mC bhd ++ mC bhd).toArray 58)).grown hg2 ?_ (fun k hk => ((O1'.out.alloc (.cells (mC bhd ++ mC bhd).toArray 58)).lt k hk).1)
    simp
    omega)
  have hle : w.heap.size ≤ (w1.alloc (.cells (mC bhd ++ mC bhd).toArray 58)).heap.size := by simp; omega
  have HLE := hidden hle
  clear hle
  go_wp2_with (refine wpList_append_own _ rfl (.tmp 7) (.tmp 10) 22 rfl w.heap.size 58 i0 _ 3 40 Tryz.underlying22 HI.out hz0 hz1 hz2 rfl (by decide) v1 n (L.cM l) rfl (O1'.out.alloc _) ⟨w1.heap.size, 0, none⟩ 2 2 (mC bhd ++ mC bhd) rfl rfl HNEW.out HONE.out (by unfold maxLen; omega) (by omega) HLE.out ?_; intro v2 w2 ho2 hg2 _; have O2 := hidden ho2; have HB2 := hidden (HGR.out _ hg2); obtain ⟨g, cap, rfl, hnc, hcap⟩ := owns_some ho2 (by omega); have hncz : (n : Int) ≤ (cap : Int) := by omega
               clear ho2 hg2)
  go_ret
  refine ⟨g, cap, by first | rfl | simp, ?_, HB2.out⟩
  have := O2.out
  rw [L.cM_append]
  exact this

/-- A row of matchers of one's own, whatever they are. -/
def RV (base : Nat) (w : World) (g n c : Nat) : Prop := ∃ xs, w.ownsRow base 58 3 (.slice (some ⟨g, 0, none⟩) n c) n xs
theorem RV.spot {base : Nat} {w : World} {g n c : Nat} (h : RV base w g n c) {k : Nat} (hk : k < n) : g < w.heap.size ∧ base ≤ g ∧ (∃ u, w.cell? ⟨g, k * 3, none⟩ = some u) ∧ (∃ u, w.cell? ⟨g, k * 3 + 1, none⟩ = some u) ∧ (∃ u, w.cell? ⟨g, k * 3 + 2, none⟩ = some u) ∧ ∀ j, w.frozen? ⟨g, j, none⟩ = false := by
  obtain ⟨xs, h⟩ := h
  have hlt := h.lt g (by simp [Value.ownBlock])
  have hc : ∀ j, j < n * 3 → ∃ u, w.cell? ⟨g, j, none⟩ = some u := fun j hj => by
    have := h.cells (g := g) (by simp [Value.ownBlock]) j (xs[j]'(by rw [h.1]; exact hj)) (by simp)
    rw [Addr.add_lit, Nat.zero_add] at this
    exact ⟨_, this⟩
  refine ⟨owns_lt h g (by simp [Value.ownBlock]), hlt.1, hc _ (by omega), hc _ (by omega), hc _ (by omega), fun j => ?_⟩
  rcases h.2 with ⟨h0, _⟩ | ⟨g', cp, cur, hv, _, hh, _⟩
  · cases h0
  · simp only [Value.slice.injEq, Option.some.injEq, Addr.mk.injEq] at hv
    obtain ⟨⟨rfl, _⟩, _⟩ := hv
    exact frozen_of_row w g _ _ 58 hh
theorem RV.store {base : Nat} {w : World} {g n c : Nat} (h : RV base w g n c) (k : Nat) (a b d : Value) : RV base (((w.setCell ⟨g, k, none⟩ a).setCell ⟨g, k + 1, none⟩ b).setCell ⟨g, k + 2, none⟩ d) g n c := by
  obtain ⟨xs, h⟩ := h
  exact ⟨_, owns_setV (owns_setV (owns_setV h k a) (k + 1) b) (k + 2) d⟩
theorem set3_chg (w : World) (g k : Nat) (a b d : Value) : Chg (fun i => i = g) w (((w.setCell ⟨g, k, none⟩ a).setCell ⟨g, k + 1, none⟩ b).setCell ⟨g, k + 2, none⟩ d) :=
  ((Chg.set ⟨g, k, none⟩ a w).trans (Chg.set ⟨g, k + 1, none⟩ b _) (fun _ _ e => e)).trans (Chg.set ⟨g, k + 2, none⟩ d _) (fun _ _ e => e)

set_option maxRecDepth 100000 in
set_option maxHeartbeats 4000000 in
theorem stillP (base g n c d : Nat) (ad : Option Addr) (l : List Mt) (w : World) (hO : w.ownsRow base 58 3 (.slice (some ⟨g, 0, none⟩) (n + 2) c) (n + 2) (L.cM (l ++ [bhd, bhd]))) (hL : Ms w ad l) (hn : l.length = n) (h30 : n ≤ 30) :
    Calls Tryz.prog 17 #[.slice (some ⟨g, 0, none⟩) n c, .slice ad n d] w fun e w' => e = .returned (.bool true) ∧ Chg (fun i => i = g) w w' := by
  have hcap : n + 2 ≤ c ∧ c ≤ 9223372036854775807 := by
    rcases hO.2 with ⟨h0, _⟩ | ⟨g', cp, cur, hv, _, hh, h1, h2, _⟩
    · cases h0
    · simp only [Value.slice.injEq, Option.some.injEq, Addr.mk.injEq] at hv
      obtain ⟨_, _, rfl⟩ := hv
      unfold maxLen at h2
      omega
  have hcz : (n : Int) + 2 ≤ (c : Int) := by omega
  have HM : Hid (Ms w (some ⟨g, 0, none⟩) (l ++ [bhd, bhd])) := hidden (L.ms_of_owns hO (fun x hx => by
    rcases List.mem_append.1 hx with h | h
    · exact hL.sz x h
    · simp at h; rw [h]; exact bhd_ok))
  have HM1 : Hid (Ms w (some ⟨g, 0, none⟩) l) := hidden ⟨hL.sz, fun h0 => by
    obtain ⟨b, off, e, hb, hc⟩ := HM.out.at' (by simp)
    exact ⟨b, off, e, hb, fun i x hx => hc i x (by rw [List.getElem?_append_left (List.getElem?_eq_some_iff.1 hx).1]; exact hx)⟩⟩
  have kS := L.sameMP (some ⟨g, 0, none⟩) ad c d l l w HM1.out hL (by omega) (by omega)
  rw [decide_eq_true rfl, hn] at kS
  have HB : Hid (∀ w', Below w.heap.size w w' → w'.cell? ⟨g, n * 3, none⟩ = some (.string ⟨#[98, 101, 104, 105, 110, 100]⟩) ∧ w'.cell? ⟨g, (n + 1) * 3, none⟩ = some (.string ⟨#[98, 101, 104, 105, 110, 100]⟩)) := hidden (fun w' hb => by
    have hM := HM.out.later hb
    constructor
    · obtain ⟨b, off, x, e, _, hx, c0, _⟩ := hM.get (i := n) (by simp; omega)
      injection e with e
      injection e with e1 e2
      subst e1 e2
      rw [List.getElem?_append_right (by omega), hn, Nat.sub_self] at hx
      injection hx with hx
      rw [Nat.zero_add] at c0
      rw [c0, ← hx]
      rfl
    · obtain ⟨b, off, x, e, _, hx, c0, _⟩ := hM.get (i := n + 1) (by simp; omega)
      injection e with e
      injection e with e1 e2
      subst e1 e2
      rw [List.getElem?_append_right (by omega), hn, show n + 1 - n = 1 by omega] at hx
      injection hx with hx
      rw [Nat.zero_add] at c0
      rw [c0, ← hx]
      rfl)
  have HV0 : Hid (RV base w g (n + 2) c) := hidden ⟨_, hO⟩
  clear hO hL HM HM1 hn
  go_enter Tryz.func17, Tryz.ntmps17
  go_wp2_with (go_at_call 11; refine kS.mono ?_; rintro e w1 ⟨rfl, hb1⟩; obtain ⟨x1, x2⟩ := HB.out _ hb1; have HB1 := hidden hb1; have HV1 : Hid (RV base w1 g (n + 2) c) := hidden (by obtain ⟨xs, h⟩ := HV0.out; exact ⟨xs, owl h hb1⟩); clear kS hb1)
  clear x1 x2
  go_loopw [7] (fun s7 wx => ∃ i : Nat, s7 = .int .i64 (i : Int) ∧ i ≤ n + 2 ∧ Hid (RV base wx g (n + 2) c) ∧ Hid (Chg (fun i => i = g) w wx)) (fun s7 _ => n + 2 - (intOf s7).toNat)
  case atStart => exact ⟨0, rfl, by omega, HV1, hidden (Chg.of_below HB1.out)⟩
  case round =>
    rename World => wr
    obtain ⟨i, rfl, hi, hV, hC⟩ := hrel
    clear HV1 HB1
    by_cases hlt : i < n + 2
    · have hltz : (i : Int) < (n : Int) + 2 := by omega
      obtain ⟨hg, -, ⟨u0, d0⟩, ⟨u1, d1⟩, ⟨u2, d2⟩, hf⟩ := hV.out.spot hlt
      have f0 := hf (i * 3)
      have f1 := hf (i * 3 + 1)
      have f2 := hf (i * 3 + 2)
      clear hf
      go_wp2
      refine ⟨⟨i + 1, by first | rfl | simp, by omega, hidden (hV.out.store (i * 3) _ _ _), hidden (hC.out.trans (set3_chg wr g (i * 3) _ _ _) (fun _ _ e => e))⟩, ?_⟩
      simp [intOf]
      omega
    · have hltz : ¬ (i : Int) < (n : Int) + 2 := by omega
      go_wp2
      go_ret
      exact ⟨rfl, hC.out⟩

end Go.Proofs.YtanlgplgplncdaaGreatDoor
