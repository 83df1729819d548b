import Derived.Test.YtanlgplgplncdaaDoorLbV
import Derived.Test.YtanlgplgplncdaaDoorLbW
import Derived.Test.YtanlgplgplncdaaDoorMtM
/-
  Print.
-/
namespace Go.Proofs.YtanlgplgplncdaaDoor.L
open Go.RowKit
set_option linter.unusedVariables false
set_option linter.unusedSimpArgs false

theorem beq8 (x : UInt8) (k : Nat) (hk : k < 256) : (((x.toNat : Nat) : Int) == (k : Int)) = decide (x = UInt8.ofNat k) := by
  rw [Bool.eq_iff_iff]
  simp only [beq_iff_eq, decide_eq_true_eq]
  constructor
  · intro h
    have : x.toNat = k := by omega
    rw [← this]; simp
  · intro h
    rw [h]; simp; omega
theorem beq92 (x : UInt8) : (((x.toNat : Nat) : Int) == 92) = decide (x = 92) := beq8 x 92 (by omega)
theorem beq34 (x : UInt8) : (((x.toNat : Nat) : Int) == 34) = decide (x = 34) := beq8 x 34 (by omega)
theorem beq10 (x : UInt8) : (((x.toNat : Nat) : Int) == 10) = decide (x = 10) := beq8 x 10 (by omega)
theorem beq110 (x : UInt8) : (((x.toNat : Nat) : Int) == 110) = decide (x = 110) := beq8 x 110 (by omega)
theorem beq32 (x : UInt8) : (((x.toNat : Nat) : Int) == 32) = decide (x = 32) := beq8 x 32 (by omega)
theorem beq123 (x : UInt8) : (((x.toNat : Nat) : Int) == 123) = decide (x = 123) := beq8 x 123 (by omega)
theorem beq125 (x : UInt8) : (((x.toNat : Nat) : Int) == 125) = decide (x = 125) := beq8 x 125 (by omega)
theorem beq61 (x : UInt8) : (((x.toNat : Nat) : Int) == 61) = decide (x = 61) := beq8 x 61 (by omega)
theorem beq44 (x : UInt8) : (((x.toNat : Nat) : Int) == 44) = decide (x = 44) := beq8 x 44 (by omega)
theorem qt1_len (c : UInt8) : (qt1 c).length ≤ 2 := by
  unfold qt1
  repeat' split
  all_goals simp
theorem qtL_cons (c : UInt8) (t : List UInt8) : qtL (c :: t) = qt1 c ++ qtL t := by simp [qtL]
theorem qtL_len : ∀ l : List UInt8, (qtL l).length ≤ 2 * l.length
  | [] => by simp [qtL]
  | c :: t => by rw [qtL_cons, List.length_append]; have := qt1_len c; have := qtL_len t; simp; omega
theorem isName_len {n : List UInt8} (h : isName n = true) : n.length ≤ 32 := by
  simp only [isName, Bool.and_eq_true, decide_eq_true_eq] at h; exact h.1.1
theorem isVal_len {n : List UInt8} (h : isVal n = true) : n.length ≤ 64 := by
  simp only [isVal, Bool.and_eq_true, decide_eq_true_eq] at h; exact h.1.2
theorem text_len {x : Lb} (h : x.fits = true) : x.text.length ≤ 200 := by
  simp only [Lb.fits, Bool.and_eq_true] at h
  have h1 := isName_len h.1
  have h2 := isVal_len h.2
  have h3 := qtL_len (bts x.v)
  simp only [Lb.text, List.length_append, List.length_cons, List.length_nil]
  omega
theorem prF_len : ∀ (l : List Lb) (f : Bool), (∀ x ∈ l, x.fits = true) → (prF f l).length ≤ 202 * l.length + 1
  | [], f, _ => by simp [prF]
  | x :: t, f, h => by
    have h1 := text_len (h x (by simp))
    have h2 := prF_len t false (fun y hy => h y (by simp [hy]))
    cases f <;> simp [prF] <;> omega
theorem prF_short {l : List Lb} (h : right l = true) : (prF true l).length ≤ 2000 := by
  obtain ⟨h1, h2, h3, _⟩ := (right_iff l).1 h
  have := prF_len l true h3
  omega

set_option maxRecDepth 100000 in
set_option maxHeartbeats 2000000 in
theorem writeQuotedP (B b : Nat) (l : List UInt8) (s : ByteArray) (w : World) (h : Lib.IsBuilder 64 5 B b (Lib.byteCells l) w) (hs : s.size ≤ 9223372036854775807) (hlen : l.length + (qtL (bts s)).length ≤ 140737488355328) (hBw : B ≤ w.heap.size) :
    Calls Tryd.prog 19 #[.pointer (some ⟨b, 0, none⟩), .string s] w fun e w' => e = .returned (.tuple #[]) ∧ Lib.IsBuilder 64 5 B b (Lib.byteCells (l ++ qtL (bts s))) w' ∧ Below B w w' ∧ Wr b w w' := by
  obtain ⟨R, hR⟩ : ∃ R, l ++ qtL (bts s) = R := ⟨_, rfl⟩
  have HR := hidden hR
  have HLEN : Hid (R.length ≤ 140737488355328) := by show _ ≤ _; rw [← hR, List.length_append]; exact hlen
  rw [hR]
  have HH := hidden h
  clear hR h hlen
  go_enter Tryd.func19, Tryd.ntmps19
  go_wp2
  go_loopw [8] (fun s0 wx => ∃ (i : Nat) (l' : List UInt8), s0 = .int .i64 (i : Int) ∧ i ≤ s.size ∧ Hid (l' ++ qtL ((bts s).drop i) = R) ∧ Hid (Lib.IsBuilder 64 5 B b (Lib.byteCells l') wx) ∧ Hid (Below B w wx ∧ Wr b w wx)) (fun s0 _ => s.size - (intOf s0).toNat)
  case atStart => exact ⟨0, l, rfl, by omega, hidden (by simpa using HR.out), HH, hidden ⟨Below.refl _ _, Wr.refl _ _⟩⟩
  case round =>
    rename World => wr
    obtain ⟨i, l', rfl, hi, hrel, hbd, hbel⟩ := hrel
    by_cases hlt : i < s.size
    · have hltz : (i : Int) < (s.size : Int) := by omega
      obtain ⟨x, hx, _, hdr⟩ := byte_at s hlt
      have hR1 : Hid (l' ++ (qt1 x ++ qtL ((bts s).drop (i + 1))) = R) := by
        have := hrel.out; rw [hdr, qtL_cons] at this; exact this
      have hl2 : Hid (l'.length + (qt1 x).length ≤ 140737488355328) := by
        show _ ≤ _
        have := HLEN.out; rw [← hR1.out] at this; simp only [List.length_append] at this; omega
      have hsz : Hid (B ≤ wr.heap.size) := hidden (Nat.le_trans hBw hbel.out.1.size)
      clear hrel hdr
      have e92 := beq92 x
      have e34 := beq34 x
      have e10 := beq10 x
      have fin : ∀ (p : List UInt8) (w3 : World), qt1 x = p → Lib.IsBuilder 64 5 B b (Lib.byteCells (l' ++ p)) w3 → Below B wr w3 → Wr b wr w3 → ∃ (i' : Nat) (l2 : List UInt8), Value.int .i64 ((i : Int) + 1) = .int .i64 (i' : Int) ∧ i' ≤ s.size ∧ Hid (l2 ++ qtL ((bts s).drop i') = R) ∧ Hid (Lib.IsBuilder 64 5 B b (Lib.byteCells l2) w3) ∧ Hid (Below B w w3 ∧ Wr b w w3) := by
        intro p w3 hp h3 h4 h5
        refine ⟨i + 1, l' ++ p, by simp, by omega, hidden ?_, h3, hidden ⟨hbel.out.1.trans h4, hbel.out.2.trans h5⟩⟩
        have := hR1.out; rw [hp] at this; simpa using this
      by_cases h1 : x = 92 ∨ x = 34
      · have hq : qt1 x = [92] ++ [x] := by rcases h1 with rfl | rfl <;> rfl
        have hl3 : l'.length + 2 ≤ 140737488355328 := by have := hl2.out; rw [hq] at this; simp at this; omega
        have k1 : Calls Tryd.prog 26 #[.pointer (some ⟨b, 0, none⟩), .int .u8 92] wr fun e w' => e = .returned .nilIface ∧ Lib.IsBuilder 64 5 B b (Lib.byteCells (l' ++ [92])) w' ∧ Below B wr w' ∧ Wr b wr w' := wbP B b l' 92 wr hbd.out (by omega) hsz.out
        have k2 : ∀ w2, Lib.IsBuilder 64 5 B b (Lib.byteCells (l' ++ [92])) w2 → B ≤ w2.heap.size → Calls Tryd.prog 26 #[.pointer (some ⟨b, 0, none⟩), .int .u8 (x.toNat : Int)] w2 fun e w' => e = .returned .nilIface ∧ Lib.IsBuilder 64 5 B b (Lib.byteCells (l' ++ [92] ++ [x])) w' ∧ Below B w2 w' ∧ Wr b w2 w' := fun w2 h2 hz => wbP B b (l' ++ [92]) x w2 h2 (by simp; omega) hz
        have K2 := hidden k2
        have FIN := hidden (fin _ · hq)
        clear hq hl2 k2 fin
        rcases h1 with rfl | rfl
        · have f1 : ((92 : UInt8).toNat : Int) = 92 := rfl
          go_wp2_with (go_at_call 26; refine k1.mono ?_)
          first | rintro e w2 rfl h2 hb2 hc2 | rintro e w2 ⟨rfl, h2, hb2, hc2⟩
          have k3 := K2.out w2 h2 (Nat.le_trans hsz.out hb2.size)
          clear k1
          go_wp2_with (go_at_call 26; refine k3.mono ?_)
          first | rintro e w3 rfl h3 hb3 hc3 | rintro e w3 ⟨rfl, h3, hb3, hc3⟩
          have F := hidden (FIN.out w3 (by simpa using h3) (hb2.trans hb3) (hc2.trans hc3))
          clear h3 hb3 hc3 h2 hb2 hc2 k3
          go_wp2
          refine ⟨F.out, ?_⟩
          simp [intOf]
          omega
        · have f1 : ((34 : UInt8).toNat : Int) = 34 := rfl
          go_wp2_with (go_at_call 26; refine k1.mono ?_)
          first | rintro e w2 rfl h2 hb2 hc2 | rintro e w2 ⟨rfl, h2, hb2, hc2⟩
          have k3 := K2.out w2 h2 (Nat.le_trans hsz.out hb2.size)
          clear k1
          go_wp2_with (go_at_call 26; refine k3.mono ?_)
          first | rintro e w3 rfl h3 hb3 hc3 | rintro e w3 ⟨rfl, h3, hb3, hc3⟩
          have F := hidden (FIN.out w3 (by simpa using h3) (hb2.trans hb3) (hc2.trans hc3))
          clear h3 hb3 hc3 h2 hb2 hc2 k3
          go_wp2
          refine ⟨F.out, ?_⟩
          simp [intOf]
          omega
      · obtain ⟨n1, n2⟩ := not_or.1 h1
        rw [decide_eq_false n1] at e92
        rw [decide_eq_false n2] at e34
        by_cases h3 : x = 10
        · rw [decide_eq_true h3] at e10
          have hq : qt1 x = [92, 110] := by rw [h3]; rfl
          have k1 := wsP B b l' ⟨#[92, 110]⟩ wr hbd.out (by have := hl2.out; rw [hq] at this; exact this) hsz.out
          have FIN := hidden (fin _ · hq)
          clear h1 n1 n2 h3 hq hl2 fin
          go_wp2_with (go_at_call 17; refine k1.mono ?_)
          first | rintro e w3 rfl h3 hb3 hc3 | rintro e w3 ⟨rfl, h3, hb3, hc3⟩
          have F := hidden (FIN.out w3 h3 hb3 hc3)
          clear h3 hb3 hc3 k1
          go_wp2
          refine ⟨F.out, ?_⟩
          simp [intOf]
          omega
        · rw [decide_eq_false h3] at e10
          have hq : qt1 x = [x] := by simp [qt1, n1, n2, h3]
          have k1 := wbP B b l' x wr hbd.out (by have := hl2.out; rw [hq] at this; exact this) hsz.out
          have FIN := hidden (fin _ · hq)
          clear h1 n1 n2 h3 hq hl2 fin
          go_wp2_with (go_at_call 26; refine k1.mono ?_)
          first | rintro e w3 rfl h3 hb3 hc3 | rintro e w3 ⟨rfl, h3, hb3, hc3⟩
          have F := hidden (FIN.out w3 h3 hb3 hc3)
          clear h3 hb3 hc3 k1
          go_wp2
          refine ⟨F.out, ?_⟩
          simp [intOf]
          omega
    · have hltz : ¬ (i : Int) < (s.size : Int) := by omega
      go_wp2
      go_end0
      have := hrel.out
      rw [List.drop_of_length_le (by rw [← size_bts]; omega)] at this
      have e : l' = R := by simpa [qtL] using this
      exact ⟨rfl, by rw [← e]; exact hbd.out, hbel.out.1, hbel.out.2⟩

theorem lb1 : (bts ⟨#[123]⟩).length = 1 := rfl
theorem lb2 : (bts ⟨#[44, 32]⟩).length = 2 := rfl
theorem lb3 : (bts ⟨#[61, 34]⟩).length = 2 := rfl
theorem lb4 : (bts ⟨#[34]⟩).length = 1 := rfl
end Go.Proofs.YtanlgplgplncdaaDoor.L

/-
  The program's reader: blanks, a byte, a word.
-/
namespace Go.Proofs.YtanlgplgplncdaaDoor.L
open Go.RowKit
set_option linter.unusedVariables false
set_option linter.unusedSimpArgs false

/-- How many blanks stand ahead. -/
def skp : List UInt8 → Nat
  | [] => 0
  | c :: t => if c = 32 then skp t + 1 else 0
theorem skp_le : ∀ l : List UInt8, skp l ≤ l.length
  | [] => Nat.le_refl _
  | c :: t => by unfold skp; have := skp_le t; split <;> simp <;> omega
theorem skp_next : ∀ l : List UInt8, (l.drop (skp l))[0]? ≠ some 32
  | [] => by simp
  | c :: t => by
    unfold skp
    split
    · simpa using skp_next t
    · simpa
/-- A state in which blanks count for nothing. -/
def Bl (st : Sm) : Prop := ∀ i, stepM i 32 st = some st
theorem run_skp {st : Sm} (h : Bl st) : ∀ (l : List UInt8) (i : Nat), runM l i st = runM (l.drop (skp l)) (i + skp l) st
  | [], i => by simp [skp]
  | c :: t, i => by
    unfold skp
    split
    · rename_i hc
      subst hc
      rw [runM_some (h i), run_skp h t (i + 1)]
      simp only [List.drop_succ_cons]
      congr 1; omega
    · simp
/-- Where a reader stands behind blanks. -/
def sk (S : List UInt8) (a : Nat) : Nat := a + skp (S.drop a)
theorem sk_le {S : List UInt8} {a : Nat} (h : a ≤ S.length) : sk S a ≤ S.length := by
  have := skp_le (S.drop a); rw [List.length_drop] at this; unfold sk; omega
theorem sk_ge (S : List UInt8) (a : Nat) : a ≤ sk S a := by unfold sk; omega
theorem run_sk {st : Sm} (h : Bl st) (S : List UInt8) (a : Nat) : runM (S.drop a) a st = runM (S.drop (sk S a)) (sk S a) st := by
  rw [run_skp h, List.drop_drop]; rfl
theorem sk_next (S : List UInt8) (a : Nat) : S[sk S a]? ≠ some 32 := by
  have := skp_next (S.drop a)
  rw [List.drop_drop, List.getElem?_drop] at this
  exact this
theorem sk_step {S : List UInt8} {a : Nat} (h : S[a]? = some 32) : sk S a = sk S (a + 1) := by
  have hl : a < S.length := (List.getElem?_eq_some_iff.1 h).1
  have e : S.drop a = 32 :: S.drop (a + 1) := by
    rw [List.drop_eq_getElem_cons hl]
    rw [List.getElem?_eq_getElem hl] at h
    injection h with h; rw [h]
  unfold sk; rw [e, skp, if_pos rfl]; omega
theorem sk_stop {S : List UInt8} {a : Nat} (h : S[a]? ≠ some 32) : sk S a = a := by
  unfold sk
  cases hd : S.drop a with
  | nil => rfl
  | cons c t =>
    have : S[a]? = some c := by rw [← Nat.add_zero a, ← List.getElem?_drop, hd]; rfl
    rw [skp, if_neg (fun e => h (by rw [this, e]))]; rfl

/-- A reader at a place. -/
def Rd (w : World) (r : Nat) (s : ByteArray) (a : Nat) : Prop := Blk w r 71 [.string s, .int .i64 (a : Int)]
theorem Rd.set {w : World} {r : Nat} {s : ByteArray} {a : Nat} (h : Rd w r s a) (b : Nat) : Rd (w.setCell ⟨r, 1, none⟩ (.int .i64 (b : Int))) r s b := Blk.set h 1 _
theorem at_bts {s : ByteArray} {a : Nat} (h : a < s.size) {x : UInt8} (hx : s[a] = x) : (bts s)[a]? = some x := by
  have hl : a < (bts s).length := by rw [← size_bts]; exact h
  rw [List.getElem?_eq_getElem hl, ← hx]; rfl

def rdAt (r : Nat) (w : World) : Nat := ((w.cell? ⟨r, 1, none⟩).map (fun v => (intOf v).toNat)).getD 0
theorem Rd.at' {w : World} {r : Nat} {s : ByteArray} {a : Nat} (h : Rd w r s a) : rdAt r w = a := by
  have c1 : w.cell? ⟨r, 1, none⟩ = some (.int .i64 (a : Int)) := h.cell 1
  simp [rdAt, c1, intOf]
theorem Rd.drewN {w : World} {r : Nat} {s : ByteArray} {a : Nat} (h : Rd w r s a) (n : Nat) : Rd (w.drewN n) r s a := Blk.drewN h n
theorem Rd.chg {F : Nat → Prop} {w w' : World} {r : Nat} {s : ByteArray} {a : Nat} (h : Rd w r s a) (hc : Chg F w w') (hF : ¬ F r) : Rd w' r s a := hc.blk h hF
theorem chg_step {w wx : World} {r b : Nat} {n : Nat} (h : Chg (fun i => i = r) w wx) : Chg (fun i => i = r) w ((wx.drewN n).setCell ⟨r, 1, none⟩ (.int .i64 (b : Int))) :=
  (h.trans (Chg.drewN (fun i => i = r) wx n) (fun _ _ e => e)).trans (Chg.set ⟨r, 1, none⟩ _ _) (fun _ _ e => e)

set_option maxRecDepth 100000 in
set_option maxHeartbeats 2000000 in
theorem skipBlanksP (r : Nat) (s : ByteArray) (a : Nat) (w : World) (h : Rd w r s a) (ha : a ≤ s.size) (hs : s.size ≤ 140737488355328) :
    Calls Tryd.prog 29 #[.pointer (some ⟨r, 0, none⟩)] w fun e w' => e = .returned (.tuple #[]) ∧ Rd w' r s (sk (bts s) a) ∧ Chg (fun i => i = r) w w' := by
  obtain ⟨R, hR⟩ : ∃ R, sk (bts s) a = R := ⟨_, rfl⟩
  have HR := hidden hR
  have HH := hidden h
  rw [hR]
  clear hR h
  go_enter Tryd.func29, Tryd.ntmps29
  go_wp2
  go_loopw [] (fun wx => ∃ i : Nat, i ≤ s.size ∧ Hid (sk (bts s) i = R) ∧ Hid (Rd wx r s i) ∧ Hid (Chg (fun i => i = r) w wx)) (fun wx => s.size - rdAt r wx)
  case atStart => exact ⟨a, ha, HR, HH, hidden (Chg.refl _ _)⟩
  case round =>
    rename World => wr
    obtain ⟨i, hi, hrel, hrd, hch⟩ := hrel
    have c0 : wr.cell? ⟨r, 0, none⟩ = some (.string s) := hrd.out.cell 0
    have c1 : wr.cell? ⟨r, 1, none⟩ = some (.int .i64 (i : Int)) := hrd.out.cell 1
    have f1 := hrd.out.frozen 1
    by_cases hlt : i < s.size
    · have hltz : (i : Int) < (s.size : Int) := by omega
      have hd1 : decide ((i : Int) < (s.size : Int)) = true := decide_eq_true hltz
      obtain ⟨x, hx, hx2, hdr⟩ := byte_at s hlt
      have e32 := beq32 x
      by_cases h32 : x = 32
      · rw [decide_eq_true h32] at e32
        have hR1 : Hid (sk (bts s) (i + 1) = R) := hidden (by rw [← sk_step (by rw [hx2, h32]), hrel.out])
        clear hdr hx2 h32
        go_wp2
        go_quiet (fail)
        go_wp2
        have hr2 : Rd ((wr.drewN nq).setCell ⟨r, 1, none⟩ (.int .i64 ((i : Int) + 1))) r s (i + 1) := by have := (hrd.out.drewN nq).set (i + 1); simpa using this
        refine ⟨⟨i + 1, by omega, hR1, hr2, hidden (by have := chg_step (b := i + 1) (n := nq) hch.out; simpa using this)⟩, ?_⟩
        rw [hr2.at', hrd.out.at']
        omega
      · rw [decide_eq_false h32] at e32
        have hR1 : Hid (i = R) := hidden (by rw [← hrel.out, sk_stop (by rw [hx2]; intro e; exact h32 (Option.some.inj e))])
        clear hdr hx2 h32
        go_wp2
        go_quiet (fail)
        go_wp2
        go_end0
        exact ⟨rfl, by rw [← hR1.out]; exact hrd.out.drewN _, hch.out.trans (Chg.drewN (fun i => i = r) wr _) (fun _ _ e => e)⟩
    · have hltz : ¬ (i : Int) < (s.size : Int) := by omega
      have hd1 : decide ((i : Int) < (s.size : Int)) = false := decide_eq_false hltz
      have hR1 : Hid (i = R) := hidden (by rw [← hrel.out, sk_stop (by rw [List.getElem?_eq_none (by rw [← size_bts]; omega)]; simp)])
      go_wp2
      go_quiet (fail)
      go_wp2
      go_end0
      exact ⟨rfl, by rw [← hR1.out]; exact hrd.out.drewN _, hch.out.trans (Chg.drewN (fun i => i = r) wr _) (fun _ _ e => e)⟩

set_option maxRecDepth 100000 in
set_option maxHeartbeats 2000000 in
theorem atEndP (r : Nat) (s : ByteArray) (a : Nat) (w : World) (h : Rd w r s a) (ha : a ≤ s.size) (hs : s.size ≤ 140737488355328) :
    Calls Tryd.prog 28 #[.pointer (some ⟨r, 0, none⟩)] w fun e w' => e = .returned (.bool (decide (sk (bts s) a = s.size))) ∧ Rd w' r s (sk (bts s) a) ∧ Chg (fun i => i = r) w w' := by
  have k := skipBlanksP r s a w h ha hs
  have hle : sk (bts s) a ≤ s.size := by rw [size_bts] at ha ⊢; exact sk_le ha
  obtain ⟨b, hb⟩ : ∃ b, sk (bts s) a = b := ⟨_, rfl⟩
  rw [hb] at k hle ⊢
  clear hb h
  go_enter Tryd.func28, Tryd.ntmps28
  go_wp2_with (go_at_call 29; refine k.mono ?_)
  first | rintro e w1 rfl h1 hc1 | rintro e w1 ⟨rfl, h1, hc1⟩
  have c0 : w1.cell? ⟨r, 0, none⟩ = some (.string s) := h1.cell 0
  have c1 : w1.cell? ⟨r, 1, none⟩ = some (.int .i64 (b : Int)) := h1.cell 1
  have H1 := hidden h1
  have HC := hidden hc1
  clear h1 hc1 k
  have z : ((b : Int) == (s.size : Int)) = decide (b = s.size) := by rw [Bool.eq_iff_iff]; simp; omega
  go_wp2
  go_quiet (fail)
  go_wp2
  go_ret
  refine ⟨?_, H1.out.drewN _, HC.out.trans (Chg.drewN (fun i => i = r) w1 _) (fun _ _ e => e)⟩
  rw [← z]; rfl

/-- Does the byte c stand next, but for blanks? -/
def tk (S : List UInt8) (a : Nat) (c : UInt8) : Bool := decide (S[sk S a]? = some c)
def tkAt (S : List UInt8) (a : Nat) (c : UInt8) : Nat := if tk S a c then sk S a + 1 else sk S a
theorem tkAt_le {S : List UInt8} {a : Nat} {c : UInt8} (h : a ≤ S.length) : tkAt S a c ≤ S.length := by
  unfold tkAt
  split
  · rename_i ht
    have := (List.getElem?_eq_some_iff.1 (of_decide_eq_true ht)).1
    omega
  · exact sk_le h

end Go.Proofs.YtanlgplgplncdaaDoor.L
