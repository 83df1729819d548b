/-
  Print.
-/
import Derived.Test.YtpdffdoogobhfaaDoorLbV
import Derived.Test.YtpdffdoogobhfaaDoorLbW
namespace Go.Proofs.YtpdffdoogobhfaaDoor
open Go.RowKit
set_option linter.unusedVariables false
set_option linter.unusedSimpArgs false

theorem beq8 (x : UInt8) (k : Nat) (hk : k < 256) : (((x.toNat : Nat) : Int) == (k : Int)) = decide (x = UInt8.ofNat k) := by
  rw [Bool.eq_iff_iff]
  simp only [beq_iff_eq, decide_eq_true_eq]
  constructor
  · intro h
    have : x.toNat = k := by omega
    rw [← this]; simp
  · intro h
    rw [h]; simp; omega
theorem beq92 (x : UInt8) : (((x.toNat : Nat) : Int) == 92) = decide (x = 92) := beq8 x 92 (by omega)
theorem beq34 (x : UInt8) : (((x.toNat : Nat) : Int) == 34) = decide (x = 34) := beq8 x 34 (by omega)
theorem beq10 (x : UInt8) : (((x.toNat : Nat) : Int) == 10) = decide (x = 10) := beq8 x 10 (by omega)
theorem beq110 (x : UInt8) : (((x.toNat : Nat) : Int) == 110) = decide (x = 110) := beq8 x 110 (by omega)
theorem beq32 (x : UInt8) : (((x.toNat : Nat) : Int) == 32) = decide (x = 32) := beq8 x 32 (by omega)
theorem beq123 (x : UInt8) : (((x.toNat : Nat) : Int) == 123) = decide (x = 123) := beq8 x 123 (by omega)
theorem beq125 (x : UInt8) : (((x.toNat : Nat) : Int) == 125) = decide (x = 125) := beq8 x 125 (by omega)
theorem beq61 (x : UInt8) : (((x.toNat : Nat) : Int) == 61) = decide (x = 61) := beq8 x 61 (by omega)
theorem beq44 (x : UInt8) : (((x.toNat : Nat) : Int) == 44) = decide (x = 44) := beq8 x 44 (by omega)
theorem qt1_len (c : UInt8) : (qt1 c).length ≤ 2 := by
  unfold qt1
  repeat' split
  all_goals simp
theorem qtL_cons (c : UInt8) (t : List UInt8) : qtL (c :: t) = qt1 c ++ qtL t := by simp [qtL]
theorem qtL_len : ∀ l : List UInt8, (qtL l).length ≤ 2 * l.length
  | [] => by simp [qtL]
  | c :: t => by rw [qtL_cons, List.length_append]; have := qt1_len c; have := qtL_len t; simp; omega
theorem isName_len {n : List UInt8} (h : isName n = true) : n.length ≤ 32 := by
  simp only [isName, Bool.and_eq_true, decide_eq_true_eq] at h; exact h.1.1
theorem isVal_len {n : List UInt8} (h : isVal n = true) : n.length ≤ 64 := by
  simp only [isVal, Bool.and_eq_true, decide_eq_true_eq] at h; exact h.1.2
theorem text_len {x : Lb} (h : x.fits = true) : x.text.length ≤ 200 := by
  simp only [Lb.fits, Bool.and_eq_true] at h
  have h1 := isName_len h.1
  have h2 := isVal_len h.2
  have h3 := qtL_len (bts x.v)
  simp only [Lb.text, List.length_append, List.length_cons, List.length_nil]
  omega
theorem prF_len : ∀ (l : List Lb) (f : Bool), (∀ x ∈ l, x.fits = true) → (prF f l).length ≤ 202 * l.length + 1
  | [], f, _ => by simp [prF]
  | x :: t, f, h => by
    have h1 := text_len (h x (by simp))
    have h2 := prF_len t false (fun y hy => h y (by simp [hy]))
    cases f <;> simp [prF] <;> omega
theorem prF_short {l : List Lb} (h : right l = true) : (prF true l).length ≤ 2000 := by
  obtain ⟨h1, h2, h3, _⟩ := (right_iff l).1 h
  have := prF_len l true h3
  omega

set_option maxRecDepth 100000 in
set_option maxHeartbeats 2000000 in
theorem writeQuotedP (B b : Nat) (l : List UInt8) (s : ByteArray) (w : World) (h : Lib.IsBuilder 58 5 B b (Lib.byteCells l) w) (hs : s.size ≤ 9223372036854775807) (hlen : l.length + (qtL (bts s)).length ≤ 140737488355328) (hBw : B ≤ w.heap.size) :
    Calls Tryd.prog 37 #[.pointer (some ⟨b, 0, none⟩), .string s] w fun e w' => e = .returned (.tuple #[]) ∧ Lib.IsBuilder 58 5 B b (Lib.byteCells (l ++ qtL (bts s))) w' ∧ Below B w w' ∧ Wr b w w' := by
  obtain ⟨R, hR⟩ : ∃ R, l ++ qtL (bts s) = R := ⟨_, rfl⟩
  have HR := hidden hR
  have HLEN : Hid (R.length ≤ 140737488355328) := by show _ ≤ _; rw [← hR, List.length_append]; exact hlen
  rw [hR]
  have HH := hidden h
  clear hR h hlen
  go_enter Tryd.func37, Tryd.ntmps37
  go_wp2
  go_loopw [8] (fun s0 wx => ∃ (i : Nat) (l' : List UInt8), s0 = .int .i64 (i : Int) ∧ i ≤ s.size ∧ Hid (l' ++ qtL ((bts s).drop i) = R) ∧ Hid (Lib.IsBuilder 58 5 B b (Lib.byteCells l') wx) ∧ Hid (Below B w wx ∧ Wr b w wx)) (fun s0 _ => s.size - (intOf s0).toNat)
  case atStart => exact ⟨0, l, rfl, by omega, hidden (by simpa using HR.out), HH, hidden ⟨Below.refl _ _, Wr.refl _ _⟩⟩
  case round =>
    rename World => wr
    obtain ⟨i, l', rfl, hi, hrel, hbd, hbel⟩ := hrel
    by_cases hlt : i < s.size
    · have hltz : (i : Int) < (s.size : Int) := by omega
      obtain ⟨x, hx, _, hdr⟩ := byte_at s hlt
      have hR1 : Hid (l' ++ (qt1 x ++ qtL ((bts s).drop (i + 1))) = R) := by
        have := hrel.out; rw [hdr, qtL_cons] at this; exact this
      have hl2 : Hid (l'.length + (qt1 x).length ≤ 140737488355328) := by
        show _ ≤ _
        have := HLEN.out; rw [← hR1.out] at this; simp only [List.length_append] at this; omega
      have hsz : Hid (B ≤ wr.heap.size) := hidden (Nat.le_trans hBw hbel.out.1.size)
      clear hrel hdr
      have e92 := beq92 x
      have e34 := beq34 x
      have e10 := beq10 x
      have fin : ∀ (p : List UInt8) (w3 : World), qt1 x = p → Lib.IsBuilder 58 5 B b (Lib.byteCells (l' ++ p)) w3 → Below B wr w3 → Wr b wr w3 → ∃ (i' : Nat) (l2 : List UInt8), Value.int .i64 ((i : Int) + 1) = .int .i64 (i' : Int) ∧ i' ≤ s.size ∧ Hid (l2 ++ qtL ((bts s).drop i') = R) ∧ Hid (Lib.IsBuilder 58 5 B b (Lib.byteCells l2) w3) ∧ Hid (Below B w w3 ∧ Wr b w w3) := by
        intro p w3 hp h3 h4 h5
        refine ⟨i + 1, l' ++ p, by simp, by omega, hidden ?_, h3, hidden ⟨hbel.out.1.trans h4, hbel.out.2.trans h5⟩⟩
        have := hR1.out; rw [hp] at this; simpa using this
      by_cases h1 : x = 92 ∨ x = 34
      · have hq : qt1 x = [92] ++ [x] := by rcases h1 with rfl | rfl <;> rfl
        have hl3 : l'.length + 2 ≤ 140737488355328 := by have := hl2.out; rw [hq] at this; simp at this; omega
        have k1 : Calls Tryd.prog 59 #[.pointer (some ⟨b, 0, none⟩), .int .u8 92] wr fun e w' => e = .returned .nilIface ∧ Lib.IsBuilder 58 5 B b (Lib.byteCells (l' ++ [92])) w' ∧ Below B wr w' ∧ Wr b wr w' := wbP B b l' 92 wr hbd.out (by omega) hsz.out
        have k2 : ∀ w2, Lib.IsBuilder 58 5 B b (Lib.byteCells (l' ++ [92])) w2 → B ≤ w2.heap.size → Calls Tryd.prog 59 #[.pointer (some ⟨b, 0, none⟩), .int .u8 (x.toNat : Int)] w2 fun e w' => e = .returned .nilIface ∧ Lib.IsBuilder 58 5 B b (Lib.byteCells (l' ++ [92] ++ [x])) w' ∧ Below B w2 w' ∧ Wr b w2 w' := fun w2 h2 hz => wbP B b (l' ++ [92]) x w2 h2 (by simp; omega) hz
        have K2 := hidden k2
        have FIN := hidden (fin _ · hq)
        clear hq hl2 k2 fin
        rcases h1 with rfl | rfl
        · have f1 : ((92 : UInt8).toNat : Int) = 92 := rfl
          go_wp2_with (go_at_call 59; refine k1.mono ?_)
          first | rintro e w2 rfl h2 hb2 hc2 | rintro e w2 ⟨rfl, h2, hb2, hc2⟩
          have k3 := K2.out w2 h2 (Nat.le_trans hsz.out hb2.size)
          clear k1
          go_wp2_with (go_at_call 59; refine k3.mono ?_)
          first | rintro e w3 rfl h3 hb3 hc3 | rintro e w3 ⟨rfl, h3, hb3, hc3⟩
          have F := hidden (FIN.out w3 (by simpa using h3) (hb2.trans hb3) (hc2.trans hc3))
          clear h3 hb3 hc3 h2 hb2 hc2 k3
          go_wp2
          refine ⟨F.out, ?_⟩
          simp [intOf]
          omega
        · have f1 : ((34 : UInt8).toNat : Int) = 34 := rfl
          go_wp2_with (go_at_call 59; refine k1.mono ?_)
          first | rintro e w2 rfl h2 hb2 hc2 | rintro e w2 ⟨rfl, h2, hb2, hc2⟩
          have k3 := K2.out w2 h2 (Nat.le_trans hsz.out hb2.size)
          clear k1
          go_wp2_with (go_at_call 59; refine k3.mono ?_)
          first | rintro e w3 rfl h3 hb3 hc3 | rintro e w3 ⟨rfl, h3, hb3, hc3⟩
          have F := hidden (FIN.out w3 (by simpa using h3) (hb2.trans hb3) (hc2.trans hc3))
          clear h3 hb3 hc3 h2 hb2 hc2 k3
          go_wp2
          refine ⟨F.out, ?_⟩
          simp [intOf]
          omega
      · obtain ⟨n1, n2⟩ := not_or.1 h1
        rw [decide_eq_false n1] at e92
        rw [decide_eq_false n2] at e34
        by_cases h3 : x = 10
        · rw [decide_eq_true h3] at e10
          have hq : qt1 x = [92, 110] := by rw [h3]; rfl
          have k1 := wsP B b l' ⟨#[92, 110]⟩ wr hbd.out (by have := hl2.out; rw [hq] at this; exact this) hsz.out
          have FIN := hidden (fin _ · hq)
          clear h1 n1 n2 h3 hq hl2 fin
          go_wp2_with (go_at_call 36; refine k1.mono ?_)
          first | rintro e w3 rfl h3 hb3 hc3 | rintro e w3 ⟨rfl, h3, hb3, hc3⟩
          have F := hidden (FIN.out w3 h3 hb3 hc3)
          clear h3 hb3 hc3 k1
          go_wp2
          refine ⟨F.out, ?_⟩
          simp [intOf]
          omega
        · rw [decide_eq_false h3] at e10
          have hq : qt1 x = [x] := by simp [qt1, n1, n2, h3]
          have k1 := wbP B b l' x wr hbd.out (by have := hl2.out; rw [hq] at this; exact this) hsz.out
          have FIN := hidden (fin _ · hq)
          clear h1 n1 n2 h3 hq hl2 fin
          go_wp2_with (go_at_call 59; refine k1.mono ?_)
          first | rintro e w3 rfl h3 hb3 hc3 | rintro e w3 ⟨rfl, h3, hb3, hc3⟩
          have F := hidden (FIN.out w3 h3 hb3 hc3)
          clear h3 hb3 hc3 k1
          go_wp2
          refine ⟨F.out, ?_⟩
          simp [intOf]
          omega
    · have hltz : ¬ (i : Int) < (s.size : Int) := by omega
      go_wp2
      go_end0
      have := hrel.out
      rw [List.drop_of_length_le (by rw [← size_bts]; omega)] at this
      have e : l' = R := by simpa [qtL] using this
      exact ⟨rfl, by rw [← e]; exact hbd.out, hbel.out.1, hbel.out.2⟩

theorem lb1 : (bts ⟨#[123]⟩).length = 1 := rfl
theorem lb2 : (bts ⟨#[44, 32]⟩).length = 2 := rfl
theorem lb3 : (bts ⟨#[61, 34]⟩).length = 2 := rfl
theorem lb4 : (bts ⟨#[34]⟩).length = 1 := rfl
set_option maxRecDepth 100000 in
set_option maxHeartbeats 4000000 in
theorem printP (B : Nat) (ad : Option Addr) (c : Nat) (l : List Lb) (w : World) (hL : Ls w ad l) (hlen : l.length ≤ 9223372036854775807) (hT : Tb B w) :
    Calls Tryd.prog 20 #[.slice ad l.length c] w fun e w' => e = .returned (.string (oft (printL l))) ∧ Below w.heap.size w w' := by
  have hR := rightP B ad c l w hL hlen hT
  obtain ⟨n, hn⟩ : ∃ n, l.length = n := ⟨_, rfl⟩
  have HN := hidden hn
  have HL := hidden hL
  rw [hn] at hlen hR ⊢
  clear hn hL hT
  unfold printL
  cases hr : right l with
  | false =>
    rw [hr] at hR
    clear hr
    go_enter Tryd.func20, Tryd.ntmps20
    go_wp2_with (go_at_call 14; refine hR.mono ?_; rintro e w2 ⟨rfl, hb2⟩)
    go_ret
    exact ⟨rfl, hb2⟩
  | true =>
    rw [hr, show errL true = 0 from rfl] at hR
    obtain ⟨R, hRR⟩ : ∃ R, prF true l = R := ⟨_, rfl⟩
    have HR := hidden hRR
    have HS := hidden (prF_short hr)
    rw [if_pos rfl, hRR]
    rw [hRR] at HS
    clear hRR hr
    go_enter Tryd.func20, Tryd.ntmps20
    go_wp2_with (go_at_call 14; refine hR.mono ?_; rintro e w2 ⟨rfl, hb2⟩)
    have HB2 := hidden hb2
    clear hR hb2
    go_wp2
    go_loopw [11] (fun s0 wx => ∃ (i : Nat) (l' : List UInt8), s0 = .int .i64 (i : Int) ∧ i ≤ n ∧ Hid (l' ++ prF (i == 0) (l.drop i) = R) ∧ Hid (Lib.IsBuilder 58 5 w2.heap.size w2.heap.size (Lib.byteCells l') wx) ∧ Hid (Below w2.heap.size w2 wx)) (fun s0 _ => n - (intOf s0).toNat)
    case atStart => exact ⟨0, [], rfl, by omega, hidden (by simpa using HR.out), hidden (bd_new w2), hidden ((Below.refl _ _).alloc (Nat.le_refl _) _)⟩
    case round =>
      rename World => wr
      obtain ⟨i, l', rfl, hi, hrel, hbd, hbel⟩ := hrel
      by_cases hlt : i < n
      · have hltz : (i : Int) < (n : Int) := by omega
        obtain ⟨b, off, x, rfl, hb, hx, hx', c0, c1, y0, y1⟩ := ((HL.out.later HB2.out).later hbel.out).get (i := i) (by rw [HN.out]; exact hlt)
        have hdrop : l.drop i = x :: l.drop (i + 1) := by rw [← hx']; exact List.drop_eq_getElem_cons _
        clear hx hx'
        obtain ⟨wa, hwa⟩ : ∃ wa, wr.alloc (.cells #[.string x.n, .string x.v] 35) = wa := ⟨_, rfl⟩
        have hal : Below wr.heap.size wr wa := by rw [← hwa]; exact (Below.refl _ _).alloc (Nat.le_refl _) _
        have HOB : Hid (Blk wa wr.heap.size 35 [.string x.n, .string x.v]) := by show Blk _ _ _ _; rw [← hwa]; exact Blk.new wr 35 _
        have HBD : Hid (Lib.IsBuilder 58 5 w2.heap.size w2.heap.size (Lib.byteCells l') wa) := bd_keep hbd.out (Chg.of_below hal)
        have hza : Hid (w2.heap.size ≤ wa.heap.size) := hidden (Nat.le_trans hbel.out.size hal.size)
        have hba : Hid (Below w2.heap.size w2 wa) := hidden (hbel.out.trans (hal.mono hbel.out.size))
        have hob : Hid (wr.heap.size ≠ w2.heap.size) := by
          have h1 : w2.heap.size < wr.heap.size := by
            rcases hbd.out with h | h
            · exact h.lt
            · exact h.lt
          exact hidden (by omega)
        clear hal
        have a0 : wa.cell? ⟨wr.heap.size, 0, none⟩ = some (.string x.n) := HOB.out.cell 0
        by_cases h0 : i = 0
        · have z0 : ((i : Int) == 0) = true := by simp; omega
          have hR1 : Hid (l' ++ ([123] ++ (bts x.n ++ ([61, 34] ++ (qtL (bts x.v) ++ [34]))) ++ prF false (l.drop (i + 1))) = R) := by
            have := hrel.out; rw [hdrop, show (i == 0) = true by simpa using h0] at this; show _ = _; rw [← this]; simp [prF, Lb.text]
          have hlen5 : Hid ((l' ++ ([123] ++ (bts x.n ++ ([61, 34] ++ (qtL (bts x.v) ++ [34]))))).length ≤ 2000) := by
            show _ ≤ _
            have := HS.out; rw [← hR1.out] at this; simp only [List.length_append] at this ⊢; omega
          have fin : ∀ w9, Lib.IsBuilder 58 5 w2.heap.size w2.heap.size (Lib.byteCells (l' ++ ([123] ++ (bts x.n ++ ([61, 34] ++ (qtL (bts x.v) ++ [34])))))) w9 → Below w2.heap.size w2 w9 → ∃ (i' : Nat) (l2 : List UInt8), Value.int .i64 ((i : Int) + 1) = .int .i64 (i' : Int) ∧ i' ≤ n ∧ Hid (l2 ++ prF (i' == 0) (l.drop i') = R) ∧ Hid (Lib.IsBuilder 58 5 w2.heap.size w2.heap.size (Lib.byteCells l2) w9) ∧ Hid (Below w2.heap.size w2 w9) := fun w9 h9 hb9 =>
            ⟨i + 1, _, by simp, by omega, hidden (by have := hR1.out; rw [List.append_assoc]; simpa using this), h9, hb9⟩
          clear hrel hdrop hR1 h0
          have k0 := wsP w2.heap.size w2.heap.size l' ⟨#[123]⟩ wa HBD.out (by have := hlen5.out; simp only [List.length_append, List.length_cons, List.length_nil, lb1, lb2, lb3, lb4] at this ⊢; omega) hza.out
          go_wp2_with (go_at_call 36; refine k0.mono ?_)
          first | rintro e w5 rfl h5 hb5 hc5 | rintro e w5 ⟨rfl, h5, hb5, hc5⟩
          have o5 := hc5.blk HOB.out hob.out (by decide)
          have x5 : w5.cell? ⟨wr.heap.size, 0, none⟩ = some (.string x.n) := o5.cell 0
          have k1 := wsP w2.heap.size w2.heap.size _ x.n w5 h5 (by have := hlen5.out; simp only [List.length_append, List.length_cons, List.length_nil, lb1, lb2, lb3, lb4] at this ⊢; omega) (Nat.le_trans hza.out hb5.size)
          have O5 := hidden o5
          clear k0 o5 h5
          go_wp2_with (go_at_call 36; refine k1.mono ?_)
          first | rintro e w6 rfl h6 hb6 hc6 | rintro e w6 ⟨rfl, h6, hb6, hc6⟩
          have hz6 := Nat.le_trans (Nat.le_trans hza.out hb5.size) hb6.size
          have k2 := wsP w2.heap.size w2.heap.size _ ⟨#[61, 34]⟩ w6 h6 (by have := hlen5.out; simp only [List.length_append, List.length_cons, List.length_nil, lb1, lb2, lb3, lb4] at this ⊢; omega) hz6
          have O6 := hidden (hc6.blk O5.out hob.out (by decide))
          clear k1 h6 x5
          go_wp2_with (go_at_call 36; refine k2.mono ?_)
          first | rintro e w7 rfl h7 hb7 hc7 | rintro e w7 ⟨rfl, h7, hb7, hc7⟩
          have o7 := hc7.blk O6.out hob.out (by decide)
          have x7 : w7.cell? ⟨wr.heap.size, 1, none⟩ = some (.string x.v) := o7.cell 1
          have hz7 := Nat.le_trans hz6 hb7.size
          have k3 := writeQuotedP w2.heap.size w2.heap.size _ x.v w7 h7 y1 (by have := hlen5.out; simp only [List.length_append, List.length_cons, List.length_nil, lb1, lb2, lb3, lb4] at this ⊢; omega) hz7
          clear k2 h7 o7
          go_wp2_with (go_at_call 37; refine k3.mono ?_)
          first | rintro e w8 rfl h8 hb8 hc8 | rintro e w8 ⟨rfl, h8, hb8, hc8⟩
          have hz8 := Nat.le_trans hz7 hb8.size
          have k4 := wsP w2.heap.size w2.heap.size _ ⟨#[34]⟩ w8 h8 (by have := hlen5.out; simp only [List.length_append, List.length_cons, List.length_nil, lb1, lb2, lb3, lb4] at this ⊢; omega) hz8
          clear k3 h8 x7
          go_wp2_with (go_at_call 36; refine k4.mono ?_)
          first | rintro e w9 rfl h9 hb9 hc9 | rintro e w9 ⟨rfl, h9, hb9, hc9⟩
          have F := hidden (fin w9 (by have h9' := h9; simp only [List.append_assoc] at h9' ⊢; exact h9') (((((hba.out.trans hb5).trans hb6).trans hb7).trans hb8).trans hb9))
          clear k4 h9 hb5 hb6 hb7 hb8 hb9 hc5 hc6 hc7 hc8 hc9 fin
          go_wp2
          refine ⟨F.out, ?_⟩
          simp [intOf]
          omega
        · have z0 : ((i : Int) == 0) = false := by simp; omega
          have hR1 : Hid (l' ++ ([44, 32] ++ (bts x.n ++ ([61, 34] ++ (qtL (bts x.v) ++ [34]))) ++ prF false (l.drop (i + 1))) = R) := by
            have := hrel.out; rw [hdrop, show (i == 0) = false by simpa using h0] at this; show _ = _; rw [← this]; simp [prF, Lb.text]
          have hlen5 : Hid ((l' ++ ([44, 32] ++ (bts x.n ++ ([61, 34] ++ (qtL (bts x.v) ++ [34]))))).length ≤ 2000) := by
            show _ ≤ _
            have := HS.out; rw [← hR1.out] at this; simp only [List.length_append] at this ⊢; omega
          have fin : ∀ w9, Lib.IsBuilder 58 5 w2.heap.size w2.heap.size (Lib.byteCells (l' ++ ([44, 32] ++ (bts x.n ++ ([61, 34] ++ (qtL (bts x.v) ++ [34])))))) w9 → Below w2.heap.size w2 w9 → ∃ (i' : Nat) (l2 : List UInt8), Value.int .i64 ((i : Int) + 1) = .int .i64 (i' : Int) ∧ i' ≤ n ∧ Hid (l2 ++ prF (i' == 0) (l.drop i') = R) ∧ Hid (Lib.IsBuilder 58 5 w2.heap.size w2.heap.size (Lib.byteCells l2) w9) ∧ Hid (Below w2.heap.size w2 w9) := fun w9 h9 hb9 =>
            ⟨i + 1, _, by simp, by omega, hidden (by have := hR1.out; rw [List.append_assoc]; simpa using this), h9, hb9⟩
          clear hrel hdrop hR1 h0
          have k0 := wsP w2.heap.size w2.heap.size l' ⟨#[44, 32]⟩ wa HBD.out (by have := hlen5.out; simp only [List.length_append, List.length_cons, List.length_nil, lb1, lb2, lb3, lb4] at this ⊢; omega) hza.out
          go_wp2_with (go_at_call 36; refine k0.mono ?_)
          first | rintro e w5 rfl h5 hb5 hc5 | rintro e w5 ⟨rfl, h5, hb5, hc5⟩
          have o5 := hc5.blk HOB.out hob.out (by decide)
          have x5 : w5.cell? ⟨wr.heap.size, 0, none⟩ = some (.string x.n) := o5.cell 0
          have k1 := wsP w2.heap.size w2.heap.size _ x.n w5 h5 (by have := hlen5.out; simp only [List.length_append, List.length_cons, List.length_nil, lb1, lb2, lb3, lb4] at this ⊢; omega) (Nat.le_trans hza.out hb5.size)
          have O5 := hidden o5
          clear k0 o5 h5
          go_wp2_with (go_at_call 36; refine k1.mono ?_)
          first | rintro e w6 rfl h6 hb6 hc6 | rintro e w6 ⟨rfl, h6, hb6, hc6⟩
          have hz6 := Nat.le_trans (Nat.le_trans hza.out hb5.size) hb6.size
          have k2 := wsP w2.heap.size w2.heap.size _ ⟨#[61, 34]⟩ w6 h6 (by have := hlen5.out; simp only [List.length_append, List.length_cons, List.length_nil, lb1, lb2, lb3, lb4] at this ⊢; omega) hz6
          have O6 := hidden (hc6.blk O5.out hob.out (by decide))
          clear k1 h6 x5
          go_wp2_with (go_at_call 36; refine k2.mono ?_)
          first | rintro e w7 rfl h7 hb7 hc7 | rintro e w7 ⟨rfl, h7, hb7, hc7⟩
          have o7 := hc7.blk O6.out hob.out (by decide)
          have x7 : w7.cell? ⟨wr.heap.size, 1, none⟩ = some (.string x.v) := o7.cell 1
          have hz7 := Nat.le_trans hz6 hb7.size
          have k3 := writeQuotedP w2.heap.size w2.heap.size _ x.v w7 h7 y1 (by have := hlen5.out; simp only [List.length_append, List.length_cons, List.length_nil, lb1, lb2, lb3, lb4] at this ⊢; omega) hz7
          clear k2 h7 o7
          go_wp2_with (go_at_call 37; refine k3.mono ?_)
          first | rintro e w8 rfl h8 hb8 hc8 | rintro e w8 ⟨rfl, h8, hb8, hc8⟩
          have hz8 := Nat.le_trans hz7 hb8.size
          have k4 := wsP w2.heap.size w2.heap.size _ ⟨#[34]⟩ w8 h8 (by have := hlen5.out; simp only [List.length_append, List.length_cons, List.length_nil, lb1, lb2, lb3, lb4] at this ⊢; omega) hz8
          clear k3 h8 x7
          go_wp2_with (go_at_call 36; refine k4.mono ?_)
          first | rintro e w9 rfl h9 hb9 hc9 | rintro e w9 ⟨rfl, h9, hb9, hc9⟩
          have F := hidden (fin w9 (by have h9' := h9; simp only [List.append_assoc] at h9' ⊢; exact h9') (((((hba.out.trans hb5).trans hb6).trans hb7).trans hb8).trans hb9))
          clear k4 h9 hb5 hb6 hb7 hb8 hb9 hc5 hc6 hc7 hc8 hc9 fin
          go_wp2
          refine ⟨F.out, ?_⟩
          simp [intOf]
          omega
      · have hltz : ¬ (i : Int) < (n : Int) := by omega
        have hR1 : Hid (l' ++ [125] = R) := by
          have := hrel.out; rw [List.drop_of_length_le (by rw [HN.out]; omega)] at this
          rw [show prF (i == 0) [] = [125] from by cases (i == 0) <;> rfl] at this; exact this
        have k0 := wsP w2.heap.size w2.heap.size l' ⟨#[125]⟩ wr hbd.out (by have := HS.out; rw [← hR1.out] at this; simp at this; simp [bts]; omega) hbel.out.size
        go_wp2_with (go_at_call 36; refine k0.mono ?_)
        first | rintro e w5 rfl h5 hb5 hc5 | rintro e w5 ⟨rfl, h5, hb5, hc5⟩
        have k1 := stringP w2.heap.size w2.heap.size (l' ++ [125]) w5 h5 (Nat.le_trans hbel.out.size hb5.size)
        rw [hR1.out] at k1
        clear k0 h5 hc5
        go_wp2_with (go_at_call 38; refine k1.mono ?_)
        first | rintro e w6 rfl hb6 | rintro e w6 ⟨rfl, hb6⟩
        go_wp2
        go_ret
        exact ⟨rfl, HB2.out.trans (((hbel.out.trans hb5).trans hb6).mono HB2.out.size)⟩

end Go.Proofs.YtpdffdoogobhfaaDoor
