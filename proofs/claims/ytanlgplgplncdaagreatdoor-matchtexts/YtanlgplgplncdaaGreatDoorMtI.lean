import Derived.Test.YtanlgplgplncdaaGreatDoorMtD
import Derived.Test.YtanlgplgplncdaaGreatDoorLbW
import Derived.Test.YtanlgplgplncdaaGreatDoorMrB
/-
  Print.
-/
namespace Go.Proofs.YtanlgplgplncdaaGreatDoor
open Go.RowKit
set_option linter.unusedVariables false
set_option linter.unusedSimpArgs false

theorem bts_oftM (l : List UInt8) : bts (L.oft l) = l := L.bts_oft l
theorem lb2 : (bts ⟨#[44, 32]⟩).length = 2 := rfl
theorem lb4 : (bts ⟨#[34]⟩).length = 1 := rfl
theorem lbs1 : bts ⟨#[123]⟩ = [123] := rfl
theorem lbs2 : bts ⟨#[44, 32]⟩ = [44, 32] := rfl
theorem lbs4 : bts ⟨#[34]⟩ = [34] := rfl
theorem lbs5 : bts ⟨#[125]⟩ = [125] := rfl
theorem prs_short {s : List UInt8} (h : prsOk s = true) : s.length ≤ 64 := by
  obtain ⟨b, hb⟩ := prsOk_iff.1 h
  unfold prs at hb
  split at hb
  · cases hb
  · omega
theorem txt_short {op : Int} {s : List UInt8} (h : txtOk op s = true) : s.length ≤ 64 := by
  unfold txtOk at h
  have key : (decide (s = []) || L.isVal s) = true → s.length ≤ 64 := by
    intro h
    rcases Bool.or_eq_true _ _ ▸ h with h | h
    · rw [of_decide_eq_true h]; simp
    · exact L.isVal_len h
  split at h
  · exact key h
  · split at h
    · exact key h
    · split at h
      · exact prs_short h
      · split at h
        · exact prs_short h
        · cases h
theorem opT_len (o : Int) : (opT o).length ≤ 2 := by
  unfold opT
  repeat' split
  all_goals simp
theorem text_lenM {x : Mt} (h : x.may = true) : x.text.length ≤ 200 := by
  unfold Mt.may at h
  rw [Bool.and_eq_true] at h
  have h1 := txt_short h.1
  have h2 := L.isName_len h.2
  have h3 := opT_len x.op
  have h4 := L.qtL_len (bts x.t)
  simp only [Mt.text, List.length_append, List.length_cons, List.length_nil]
  omega
theorem prM_len : ∀ (l : List Mt) (f : Bool), l.all Mt.may = true → (prM f l).length ≤ 202 * l.length + 1
  | [], f, _ => by cases f <;> simp [prM]
  | x :: t, f, h => by
    rw [List.all_cons, Bool.and_eq_true] at h
    have h1 := text_lenM h.1
    have h2 := prM_len t false h.2
    cases f <;> simp only [prM, List.length_append, List.length_cons, List.length_nil] <;> omega

/-- A builder of one's own, beside a matcher's variable. -/
structure BS (w2 : World) (q : Nat) (x : Mt) (wx : World) (l : List UInt8) : Prop where
  bd : Lib.IsBuilder 75 5 w2.heap.size w2.heap.size (Lib.byteCells l) wx
  bel : Below w2.heap.size w2 wx
  var : Blk wx q 58 (mC x)
  ne : q ≠ w2.heap.size
theorem bs_ws {w2 wx : World} {q : Nat} {x : Mt} {l : List UInt8} {s : ByteArray} (h : BS w2 q x wx l) (hl : l.length + (bts s).length ≤ 140737488355328) :
    Calls Tryz.prog 27 #[.pointer (some ⟨w2.heap.size, 0, none⟩), .string s] wx fun e w' => ∃ r, e = .returned r ∧ BS w2 q x w' (l ++ bts s) := by
  refine (L.wsP w2.heap.size w2.heap.size l s wx h.bd hl h.bel.size).mono ?_
  rintro e w' ⟨rfl, h1, h2, h3⟩
  exact ⟨_, rfl, h1, h.bel.trans h2, h3.blk h.var h.ne (by decide), h.ne⟩
theorem bs_wq {w2 wx : World} {q : Nat} {x : Mt} {l : List UInt8} {s : ByteArray} (h : BS w2 q x wx l) (hs : s.size ≤ 9223372036854775807) (hl : l.length + (L.qtL (bts s)).length ≤ 140737488355328) :
    Calls Tryz.prog 29 #[.pointer (some ⟨w2.heap.size, 0, none⟩), .string s] wx fun e w' => e = .returned (.tuple #[]) ∧ BS w2 q x w' (l ++ L.qtL (bts s)) := by
  refine (L.writeQuotedP w2.heap.size w2.heap.size l s wx h.bd hs hl h.bel.size).mono ?_
  rintro e w' ⟨rfl, h1, h2, h3⟩
  exact ⟨rfl, h1, h.bel.trans h2, h3.blk h.var h.ne (by decide), h.ne⟩
theorem opTextP (o : Int) (w : World) (ho : -9223372036854775808 ≤ o ∧ o ≤ 9223372036854775807) : Calls Tryz.prog 28 #[.int .i64 o] w fun e w' => e = .returned (.string (L.oft (opT o))) ∧ w' = w := by
  unfold opT
  by_cases h1 : o = 1
  · have e1 : (o == 1) = true := by simpa using h1
    rw [if_pos h1]
    clear h1
    go_enter Tryz.func28, Tryz.ntmps28
    go_wp2
    go_ret
    exact ⟨rfl, rfl⟩
  · have e1 : (o == 1) = false := by simpa using h1
    rw [if_neg h1]
    by_cases h2 : o = 2
    · have e2 : (o == 2) = true := by simpa using h2
      rw [if_pos h2]
      clear h1 h2
      go_enter Tryz.func28, Tryz.ntmps28
      go_wp2
      go_ret
      exact ⟨rfl, rfl⟩
    · have e2 : (o == 2) = false := by simpa using h2
      rw [if_neg h2]
      by_cases h3 : o = 3
      · have e3 : (o == 3) = true := by simpa using h3
        rw [if_pos h3]
        clear h1 h2 h3
        go_enter Tryz.func28, Tryz.ntmps28
        go_wp2
        go_ret
        exact ⟨rfl, rfl⟩
      · have e3 : (o == 3) = false := by simpa using h3
        rw [if_neg h3]
        clear h1 h2 h3
        go_enter Tryz.func28, Tryz.ntmps28
        go_wp2
        go_ret
        exact ⟨rfl, rfl⟩
theorem isb_lt {B b : Nat} {bs : List Value} {w : World} (h : Lib.IsBuilder 75 5 B b bs w) : b < w.heap.size := by
  rcases h with h | h
  · exact h.lt
  · exact h.lt
theorem info31n : (Tryz.prog.info? 58).map (fun i => (i.zero.map (·.cells.size), i.size)) = some (some 3, 3) := by kernel_rfl
theorem one_mC (x : Mt) : ∀ v ∈ mC x, v.oneCell' = true := by
  intro v hv
  simp [mC] at hv
  rcases hv with rfl | rfl | rfl <;> rfl

set_option maxRecDepth 100000 in
set_option maxHeartbeats 4000000 in
theorem printMP (B : Nat) (ad : Option Addr) (c : Nat) (l : List Mt) (w : World) (hL : Ms w ad l) (hlen : l.length ≤ 9223372036854775807) (hT : L.Tb B w) :
    Calls Tryz.prog 16 #[.slice ad l.length c] w fun e w' => e = .returned (.string (L.oft (printM l))) ∧ Below w.heap.size w w' := by
  have hR := newP B ad c l w hL hlen hT
  obtain ⟨n, hn⟩ : ∃ n, l.length = n := ⟨_, rfl⟩
  have HN := hidden hn
  have HL := hidden hL
  rw [hn] at hlen hR ⊢
  clear hn hL hT
  unfold NewR at hR
  obtain ⟨PM, hPM⟩ : ∃ PM, printM l = PM := ⟨_, rfl⟩
  rw [hPM]
  have HPM := hidden hPM
  clear hPM
  go_enter Tryz.func16, Tryz.ntmps16
  go_wp2_with fail
  refine hR.mono ?_
  rintro e w1 ⟨b1, ⟨ho, s, F, rfl, -, -⟩ | ⟨ho, rfl⟩⟩
  · have HB1 := hidden b1
    have HALL : Hid (n ≤ 8 ∧ l.all Mt.may = true) := hidden (by
      unfold newOk at ho
      rw [Bool.and_eq_true] at ho
      exact ⟨by rw [← HN.out]; exact of_decide_eq_true ho.1, ho.2⟩)
    have HO := hidden ho
    have hn8 := HALL.out.1
    obtain ⟨R, hRR⟩ : ∃ R, 123 :: prM true l = R := ⟨_, rfl⟩
    have HR := hidden hRR
    have HPR : Hid (PM = R) := hidden (by rw [← HPM.out, ← hRR]; unfold printM; rw [ho]; rfl)
    have HS : Hid (R.length ≤ 2000) := hidden (by
      rw [← hRR, List.length_cons]
      have := prM_len l true HALL.out.2
      rw [HN.out] at this
      omega)
    clear b1 hR ho hRR
    go_wp2_with fail
    have k0 := L.wsP w1.heap.size w1.heap.size [] ⟨#[123]⟩ _ (L.bd_new w1) (by show 0 + 1 ≤ _; omega) (by simp)
    refine k0.mono ?_
    rintro e w2 ⟨rfl, h2, b2, -⟩
    have BD2 := hidden h2
    have BB2 : Hid (Below w1.heap.size w1 w2) := hidden (((Below.refl _ _).alloc (Nat.le_refl _) _).trans b2)
    clear h2 b2 k0
    go_wp2_with fail
    go_loopw [6, 7, 18] (fun v6 v7 v18 wx => ∃ (i : Nat) (l' : List UInt8), v18 = .int .i64 (i : Int) ∧ i ≤ n ∧ Hid (l' ++ prM (i == 0) (l.drop i) = R) ∧ Hid (Lib.IsBuilder 75 5 w1.heap.size w1.heap.size (Lib.byteCells l') wx) ∧ Hid (Below w1.heap.size w1 wx)) (fun _ _ v18 _ => n - (intOf v18).toNat)
    case atStart => exact ⟨0, [123], rfl, by omega, hidden (by simpa using HR.out), BD2, BB2⟩
    case round =>
      rename World => wr
      obtain ⟨i, l', rfl, hi, hrel, hbd, hbel⟩ := hrel
      clear BD2 BB2
      by_cases hlt : i < n
      · have hltz : (i : Int) < (n : Int) := by omega
        obtain ⟨bb, off, x, rfl, hbb, hx, c0, c1, c2, hok⟩ := ((HL.out.later HB1.out).below (Nat.le_refl _) hbel.out).get (i := i) (by rw [HN.out]; exact hlt)
        have hdrop : l.drop i = x :: l.drop (i + 1) := by
          rw [List.drop_eq_getElem_cons (by rw [HN.out]; exact hlt)]
          congr 1
          rw [List.getElem?_eq_getElem (by rw [HN.out]; exact hlt)] at hx
          exact Option.some.inj hx
        obtain ⟨-, hxt, hxo1, hxo2⟩ := hok
        have hxo : -9223372036854775808 ≤ x.op ∧ x.op ≤ 9223372036854775807 := ⟨hxo1, hxo2⟩
        have HXO := hidden hxo
        clear hx hxo1 hxo2 hxo
        have hxo := HXO.out
        have hlb := isb_lt hbd.out
        have HBa : Hid (Blk (wr.alloc (.cells #[.string x.n, .int .i64 x.op, .string x.t] 58)) wr.heap.size 58 (mC x)) := hidden (Blk.new wr 58 _)
        have BLa : Hid (Below wr.heap.size wr (wr.alloc (.cells #[.string x.n, .int .i64 x.op, .string x.t] 58))) := hidden ((Below.refl _ _).alloc (Nat.le_refl _) _)
        go_upto_region 9 with fail
        generalize wr.alloc (.cells #[.string x.n, .int .i64 x.op, .string x.t] 58) = wa at *
        have B0 : Hid (BS w1 wr.heap.size x wa l') := hidden ⟨L.bd_keep hbd.out (Chg.of_below BLa.out), hbel.out.trans (BLa.out.mono hbel.out.size), HBa.out, by omega⟩
        have a0 : wa.cell? ⟨wr.heap.size, 0, none⟩ = some (.string x.n) := HBa.out.cell 0
        clear HBa BLa hbd hbel c0 c1 c2 hlb
        generalize wr.heap.size = q at *
        by_cases h0 : i = 0
        · have z0 : ¬ (0 : Int) < (i : Int) := by omega
          have hR1 : Hid (l' ++ ((bts x.n ++ (opT x.op ++ ([34] ++ (L.qtL (bts x.t) ++ [34]))))) ++ prM false (l.drop (i + 1)) = R) := hidden (by
            have := hrel.out; rw [hdrop, show (i == 0) = true by simpa using h0] at this; rw [← this]; simp [prM, Mt.text])
          have hlen5 : Hid ((l' ++ ((bts x.n ++ (opT x.op ++ ([34] ++ (L.qtL (bts x.t) ++ [34])))))).length ≤ 2000) := hidden (by
            have := HS.out; rw [← hR1.out] at this; simp only [List.length_append] at this ⊢; omega)
          clear hrel hdrop h0
          have k1 := bs_ws (s := x.n) B0.out (by have := hlen5.out; simp only [List.length_append, List.length_cons, List.length_nil, lb2] at this ⊢; omega)
          go_wp2_with fail
          refine k1.mono ?_
          rintro e w6 ⟨r6, rfl, h6⟩
          have B6 := hidden h6
          have c6 : w6.cell? ⟨q, 1, none⟩ = some (.int .i64 x.op) := h6.var.cell 1
          clear h6 k1 a0
          go_wp2_with fail
          refine (opTextP x.op w6 hxo).mono ?_
          rintro e w7 ⟨rfl, rfl⟩
          have k2 := bs_ws (s := L.oft (opT x.op)) B6.out (by have := hlen5.out; rw [bts_oftM]; simp only [List.length_append, List.length_cons, List.length_nil, lb2] at this ⊢; omega)
          clear c6
          go_wp2_with fail
          refine k2.mono ?_
          rintro e w8 ⟨r8, rfl, h8⟩
          rw [bts_oftM] at h8
          have B8 := hidden h8
          clear h8 k2
          have k3 := bs_ws (s := ⟨#[34]⟩) B8.out (by have := hlen5.out; simp only [List.length_append, List.length_cons, List.length_nil, lb2, lb4] at this ⊢; omega)
          go_wp2_with fail
          refine k3.mono ?_
          rintro e w9 ⟨r9, rfl, h9⟩
          have B9 := hidden h9
          have c9 : w9.cell? ⟨q, 2, none⟩ = some (.string x.t) := h9.var.cell 2
          clear h9 k3
          have k4 := bs_wq (s := x.t) B9.out hxt (by have := hlen5.out; simp only [List.length_append, List.length_cons, List.length_nil, lb2, lb4] at this ⊢; omega)
          go_wp2_with fail
          refine k4.mono ?_
          rintro e w10 ⟨rfl, h10⟩
          have B10 := hidden h10
          clear h10 k4 c9
          have k5 := bs_ws (s := ⟨#[34]⟩) B10.out (by have := hlen5.out; simp only [List.length_append, List.length_cons, List.length_nil, lb2, lb4] at this ⊢; omega)
          go_wp2_with fail
          refine k5.mono ?_
          rintro e w11 ⟨r11, rfl, h11⟩
          have B11 := hidden h11
          clear h11 k5
          go_wp2_with fail
          refine ⟨⟨i + 1, _, by rw [Int.natCast_add]; rfl, by omega, hidden ?_, hidden B11.out.bd, hidden B11.out.bel⟩, by simp [intOf]; omega⟩
          have hR2 := hR1.out
          rw [← hR2, show (i + 1 == 0) = false by simp]
          simp [lbs2, lbs4]
        · have z0 : (0 : Int) < (i : Int) := by omega
          have hR1 : Hid (l' ++ ([44, 32] ++ (bts x.n ++ (opT x.op ++ ([34] ++ (L.qtL (bts x.t) ++ [34]))))) ++ prM false (l.drop (i + 1)) = R) := hidden (by
            have := hrel.out; rw [hdrop, show (i == 0) = false by simpa using h0] at this; rw [← this]; simp [prM, Mt.text])
          have hlen5 : Hid ((l' ++ ([44, 32] ++ (bts x.n ++ (opT x.op ++ ([34] ++ (L.qtL (bts x.t) ++ [34])))))).length ≤ 2000) := hidden (by
            have := HS.out; rw [← hR1.out] at this; simp only [List.length_append] at this ⊢; omega)
          clear hrel hdrop h0
          have k0 := bs_ws (s := ⟨#[44, 32]⟩) B0.out (by have := hlen5.out; simp only [List.length_append, List.length_cons, List.length_nil, lb2] at this ⊢; omega)
          go_wp2_with fail
          refine k0.mono ?_
          rintro e w5 ⟨r5, rfl, h5⟩
          have B5 := hidden h5
          have c5 : w5.cell? ⟨q, 0, none⟩ = some (.string x.n) := h5.var.cell 0
          clear h5 k0 a0
          have k1 := bs_ws (s := x.n) B5.out (by have := hlen5.out; simp only [List.length_append, List.length_cons, List.length_nil, lb2] at this ⊢; omega)
          go_wp2_with fail
          refine k1.mono ?_
          rintro e w6 ⟨r6, rfl, h6⟩
          have B6 := hidden h6
          have c6 : w6.cell? ⟨q, 1, none⟩ = some (.int .i64 x.op) := h6.var.cell 1
          clear h6 k1 c5
          go_wp2_with fail
          refine (opTextP x.op w6 hxo).mono ?_
          rintro e w7 ⟨rfl, rfl⟩
          have k2 := bs_ws (s := L.oft (opT x.op)) B6.out (by have := hlen5.out; rw [bts_oftM]; simp only [List.length_append, List.length_cons, List.length_nil, lb2] at this ⊢; omega)
          clear c6
          go_wp2_with fail
          refine k2.mono ?_
          rintro e w8 ⟨r8, rfl, h8⟩
          rw [bts_oftM] at h8
          have B8 := hidden h8
          clear h8 k2
          have k3 := bs_ws (s := ⟨#[34]⟩) B8.out (by have := hlen5.out; simp only [List.length_append, List.length_cons, List.length_nil, lb2, lb4] at this ⊢; omega)
          go_wp2_with fail
          refine k3.mono ?_
          rintro e w9 ⟨r9, rfl, h9⟩
          have B9 := hidden h9
          have c9 : w9.cell? ⟨q, 2, none⟩ = some (.string x.t) := h9.var.cell 2
          clear h9 k3
          have k4 := bs_wq (s := x.t) B9.out hxt (by have := hlen5.out; simp only [List.length_append, List.length_cons, List.length_nil, lb2, lb4] at this ⊢; omega)
          go_wp2_with fail
          refine k4.mono ?_
          rintro e w10 ⟨rfl, h10⟩
          have B10 := hidden h10
          clear h10 k4 c9
          have k5 := bs_ws (s := ⟨#[34]⟩) B10.out (by have := hlen5.out; simp only [List.length_append, List.length_cons, List.length_nil, lb2, lb4] at this ⊢; omega)
          go_wp2_with fail
          refine k5.mono ?_
          rintro e w11 ⟨r11, rfl, h11⟩
          have B11 := hidden h11
          clear h11 k5
          go_wp2_with fail
          refine ⟨⟨i + 1, _, by rw [Int.natCast_add]; rfl, by omega, hidden ?_, hidden B11.out.bd, hidden B11.out.bel⟩, by simp [intOf]; omega⟩
          have hR2 := hR1.out
          rw [← hR2, show (i + 1 == 0) = false by simp]
          simp [lbs2, lbs4]
      · have hltz : ¬ (i : Int) < (n : Int) := by omega
        have hR1 : Hid (l' ++ [125] = R) := hidden (by
          have := hrel.out; rw [List.drop_of_length_le (by rw [HN.out]; omega)] at this
          rw [show prM (i == 0) [] = [125] from by cases (i == 0) <;> rfl] at this; exact this)
        have k0 := L.wsP w1.heap.size w1.heap.size l' ⟨#[125]⟩ wr hbd.out (by have := HS.out; rw [← hR1.out] at this; simp at this; show l'.length + 1 ≤ _; omega) hbel.out.size
        go_wp2_with fail
        refine k0.mono ?_
        rintro e w5 ⟨rfl, h5, b5, -⟩
        have k1 := L.stringP w1.heap.size w1.heap.size (l' ++ [125]) w5 h5 (Nat.le_trans hbel.out.size b5.size)
        rw [hR1.out] at k1
        have B5 := hidden b5
        clear k0 h5 b5
        go_wp2_with fail
        refine k1.mono ?_
        rintro e w6 ⟨rfl, b6⟩
        have B6 := hidden b6
        clear k1 b6
        go_wp2
        go_ret
        exact ⟨by rw [HPR.out]; rfl, HB1.out.trans (((hbel.out.trans B5.out).trans B6.out).mono HB1.out.size)⟩
  · have HO := hidden ho
    have HB1 := hidden b1
    clear b1 hR ho
    go_wp2
    go_ret
    have hp : PM = [] := by rw [← HPM.out]; unfold printM; rw [HO.out]; rfl
    exact ⟨by rw [hp]; rfl, HB1.out⟩

end Go.Proofs.YtanlgplgplncdaaGreatDoor

/-
  The program's reader: a matcher.
-/
namespace Go.Proofs.YtanlgplgplncdaaGreatDoor.L
open Go.RowKit
set_option linter.unusedVariables false
set_option linter.unusedSimpArgs false

theorem run_wd (J : Jm) (p : Nat) : ∀ (l : List UInt8) (i : Nat) (nm : List UInt8), runM l i (.wd J p nm) = runM (l.drop (wsz false l)) (i + wsz false l) (.s3 J p (nm ++ l.take (wsz false l)))
  | [], i, nm => by simp [wsz, runM_nil]; rfl
  | c :: t, i, nm => by
    unfold wsz
    by_cases hl : lead false c = true
    · rw [if_pos hl, runM_some (st' := .wd J p (nm ++ [c])) (by simp [stepM, hl]), run_wd J p t (i + 1) (nm ++ [c])]
      simp only [List.drop_succ_cons, List.take_succ_cons, List.append_assoc, List.singleton_append]
      congr 1
      omega
    · rw [if_neg hl]
      have hlf : lead false c = false := by simpa using hl
      simp only [List.drop_zero, List.take_zero, List.append_nil, Nat.add_zero]
      by_cases h1 : c = 32
      · subst h1
        rw [runM_some (st' := .s3 J p nm) (by simp [stepM, hlf]), runM_some (st' := .s3 J p nm) (by simp [stepM])]
      · by_cases h2 : c = 61
        · subst h2
          rw [runM_some (st' := .eq J p nm) (by simp [stepM, hlf]), runM_some (st' := .eq J p nm) (by simp [stepM])]
        · by_cases h3 : c = 33
          · subst h3
            rw [runM_some (st' := .ba J p nm) (by simp [stepM, hlf]), runM_some (st' := .ba J p nm) (by simp [stepM])]
          · rw [runM_none (by simp [stepM, hlf, h1, h2, h3]), runM_none (by simp [stepM, h1, h2, h3])]
theorem run_word {S : List UInt8} {a : Nat} (h0 : 0 < wsz true (S.drop a)) (J : Jm) : runM (S.drop a) a (.s2 J) = runM (S.drop (wAt S a)) (wAt S a) (.s3 J a ((S.drop a).take (wsz true (S.drop a)))) := by
  unfold wAt
  rw [← List.drop_drop]
  cases hd : S.drop a with
  | nil => rw [hd] at h0; simp [wsz] at h0
  | cons c t =>
    rw [hd] at h0
    unfold wsz at h0 ⊢
    by_cases hl : lead true c = true
    · rw [if_pos hl]
      have hlt : lett c = true := by simpa [lead] using hl
      have n32 : c ≠ 32 := by rintro rfl; revert hlt; decide
      rw [runM_some (st' := .wd J a [c]) (by simp [stepM, n32, hlt]), run_wd J a t (a + 1) [c]]
      simp only [List.drop_succ_cons, List.take_succ_cons, List.singleton_append]
      congr 1
      omega
    · rw [if_neg hl] at h0; omega
theorem run_noword {S : List UInt8} {a : Nat} (h0 : wsz true (S.drop a) = 0) (h32 : S[a]? ≠ some 32) (J : Jm) : runM (S.drop a) a (.s2 J) = .fault a := by
  refine run_none_of (fun x hx => ?_) (fun _ => rfl)
  have n32 : x ≠ 32 := fun e => h32 (by rw [hx, e])
  rw [drop_at hx] at h0
  unfold wsz at h0
  have hlt : lett x = false := by
    cases hl : lett x with
    | false => rfl
    | true => rw [if_pos (by unfold lead; rw [hl]; rfl)] at h0; omega
  simp [stepM, n32, hlt]

def MaD (S : List UInt8) (a : Nat) (m : Mt) (a' : Nat) (ok : Bool) : Prop :=
  a ≤ a' ∧ a' ≤ S.length ∧ OkM m ∧ (ok = true → ∀ J, runM (S.drop a) a (.s2 J) = runM (S.drop a') a' (.s5 (J.add m a))) ∧ (ok = false → ∀ J, runM (S.drop a) a (.s2 J) = .fault a')
theorem info31z : (Tryz.prog.info? 58).map (fun i => i.zero.map (·.cells)) = some (some (mC zM).toArray) := by kernel_rfl
theorem built31z : Tryz.prog.built 58 [] = some (mC zM).toArray := by kernel_rfl
theorem built31 (x y : ByteArray) (o : Int) : Tryz.prog.built 58 [(0, .string x), (1, .int .i64 o), (2, .string y)] = some (mC ⟨x, o, y⟩).toArray := by kernel_rfl
theorem okM_z : OkM zM := ⟨by show 0 ≤ _; omega, by show 0 ≤ _; omega, by show (-9223372036854775808 : Int) ≤ 0; omega, by show (0 : Int) ≤ _; omega⟩
theorem res_matcher (tmps : Array Value) (w : World) (g : Nat) (x : Mt) (c : Value) (hp : tmps.getD 2 undef = .pointer (some ⟨g, 0, none⟩)) (h : Blk w g 58 (mC x)) (h3 : tmps.getD 3 undef = c) :
    (results Tryz.f52 tmps).run Tryz.prog w = .ok (.tuple #[.agg (mC x).toArray, c]) w := by
  have hr : Tryz.f52.results = #[.cell 2 58, .tmp 3] := by kernel_rfl
  have hp' : tmps[2]?.getD undef = .pointer (some ⟨g, 0, none⟩) := by simpa using hp
  have h3' : tmps[3]?.getD undef = c := by simpa using h3
  have c0 := h.cell 0
  have c1 := h.cell 1
  have c2 := h.cell 2
  simp [mC] at c0 c1 c2
  simp [results, hr, hp', h3', asAddr, loadVar, c0, c1, c2, mC, go_sem]
theorem size_oft (l : List UInt8) : (oft l).size = l.length := by rw [size_bts, bts_oft]

set_option maxRecDepth 100000 in
set_option maxHeartbeats 4000000 in
theorem matcherP (r : Nat) (s : ByteArray) (a : Nat) (w : World) (h : Rd w r s a) (ha : a ≤ s.size) (hs : s.size ≤ 140737488355328) (h32 : (bts s)[a]? ≠ some 32) :
    Calls Tryz.prog 52 #[.pointer (some ⟨r, 0, none⟩)] w fun e w' => ∃ (m : Mt) (a' : Nat) (ok : Bool), e = .returned (.tuple #[.agg (mC m).toArray, .bool ok]) ∧ MaD (bts s) a m a' ok ∧ Rd w' r s a' ∧ Chg (fun i => i = r) w w' := by
  have hsz := size_bts s
  have HSZ := hidden hsz
  have haS : a ≤ (bts s).length := by omega
  have hwl := wAt_le haS
  have hwg := wAt_ge (bts s) a
  have WOR : Hid (∀ w1, Rd w1 r s a → Calls Tryz.prog 66 #[.pointer (some ⟨r, 0, none⟩)] w1 fun e w' => e = .returned (.tuple #[.string (oft (((bts s).drop a).take (wsz true ((bts s).drop a)))), .bool (decide (0 < wsz true ((bts s).drop a)))]) ∧ Rd w' r s (wAt (bts s) a) ∧ Chg (fun i => i = r) w1 w') := hidden (fun w1 h1 => wordP r s a w1 h1 ha hs)
  have OPP : Hid (∀ w1 b, b ≤ s.size → Rd w1 r s b → Calls Tryz.prog 67 #[.pointer (some ⟨r, 0, none⟩)] w1 fun e w' => ∃ o a' ok, e = .returned (.tuple #[.int .i64 o, .bool ok]) ∧ OpD (bts s) b o a' ok ∧ Rd w' r s a' ∧ Chg (fun i => i = r) w1 w') := hidden (fun w1 b hb h1 => opP r s b w1 h1 hb hs)
  have QUO : Hid (∀ w1 b, b ≤ s.size → Rd w1 r s b → Calls Tryz.prog 68 #[.pointer (some ⟨r, 0, none⟩)] w1 fun e w' => ∃ v a' ok, e = .returned (.tuple #[.string v, .bool ok]) ∧ Qd (bts s) b v a' ok ∧ Rd w' r s a' ∧ Chg (fun i => i = r) w1 w') := hidden (fun w1 b hb h1 => quoteP r s b w1 h1 hb hs)
  have RW : Hid (0 < wsz true ((bts s).drop a) → ∀ J, runM ((bts s).drop a) a (.s2 J) = runM ((bts s).drop (wAt (bts s) a)) (wAt (bts s) a) (.s3 J a (((bts s).drop a).take (wsz true ((bts s).drop a))))) := hidden (fun h0 J => run_word h0 J)
  have RN : Hid (wsz true ((bts s).drop a) = 0 → ∀ J, runM ((bts s).drop a) a (.s2 J) = .fault a) := hidden (fun h0 J => run_noword h0 h32 J)
  have HNM : Hid ((((bts s).drop a).take (wsz true ((bts s).drop a))).length ≤ s.size) := hidden (by rw [List.length_take, List.length_drop]; omega)
  have HWZ : Hid (wAt (bts s) a = a + wsz true ((bts s).drop a)) := hidden rfl
  have HH := hidden h
  have hrw : Hid (r < w.heap.size) := hidden (Blk.lt h)
  generalize ((bts s).drop a).take (wsz true ((bts s).drop a)) = nm at *
  generalize wAt (bts s) a = b at *
  generalize hzz : wsz true ((bts s).drop a) = z at *
  clear hzz h h32 hsz
  go_enter Tryz.func52, Tryz.ntmps52
  go_wp2_with (refine wpList_alloc_blk rfl 58 rfl 2 rfl (mC zM) info31z ?_; intro w1 B1 bl1 hz1; have HB1 := hidden B1; have BL1 := hidden bl1; clear B1 bl1 hz1)
  have HR1 := hidden (HH.out.chg (Chg.of_below (F := fun _ => False) BL1.out) (fun h => h))
  have C1 : Hid (Chg (fun i => i = r) w w1) := hidden (Chg.of_below BL1.out)
  refine (WOR.out w1 HR1.out).mono ?_
  rintro e w2 ⟨rfl, h2, hc2⟩
  have HR2 := hidden h2
  have C2 := hidden (C1.out.trans hc2 (fun _ _ e => e))
  have HB2 := hidden (hc2.blk HB1.out (by have := hrw.out; omega))
  clear h2 hc2 HR1
  by_cases hz0 : 0 < z
  · have hzt : decide (0 < z) = true := decide_eq_true hz0
    have RW2 := hidden (RW.out hz0)
    rw [hzt]
    clear hz0 hzt RN RW
    go_wp2_with fail
    refine (OPP.out w2 b (by have := HSZ.out; omega) HR2.out).mono ?_
    rintro e w3 ⟨o, a3, ok3, rfl, hD3, h3, hc3⟩
    have D3 := hidden hD3
    have HR3 := hidden h3
    have C3 := hidden (C2.out.trans hc3 (fun _ _ e => e))
    have HB3 := hidden (hc3.blk HB2.out (by have := hrw.out; omega))
    clear h3 hc3 hD3 HR2 HB2
    have hbz : b ≤ s.size := by have := HSZ.out; omega
    have ha3 : a3 ≤ s.size := by have := D3.out.2.1; have := HSZ.out; omega
    have hb3 := D3.out.1
    have ho3 := D3.out.2.2.1
    cases ok3 with
    | false =>
      go_wp2_with (first
        | (refine wpList_build_to rfl 58 #[] rfl [] (mC zM).toArray rfl built31z ?_)
        | (refine wpList_store_blk rfl 58 (.tmp 2) (.tmp 23) rfl rfl w.heap.size (l := mC zM) HB3.out rfl rfl rfl size31 (one_mC zM) ?_))
      have hN := blk_stored (l := mC zM) HB3.out rfl
      have hcs := Chg.sets w.heap.size (mC zM) 0 w3
      refine bodyPost_ret (res_matcher _ _ w.heap.size _ _ rfl hN rfl) rfl ?_
      refine ⟨zM, a3, false, rfl, ⟨by omega, D3.out.2.1, okM_z, (fun h => by cases h), fun _ J => by rw [RW2.out J]; exact D3.out.2.2.2.2 rfl J a nm⟩, HR3.out.chg hcs (by have := hrw.out; omega), ?_⟩
      exact (C3.out.trans hcs (fun i hi e => by have e' : i = w.heap.size := e; omega))
    | true =>
      go_wp2_with fail
      refine (QUO.out w3 a3 ha3 HR3.out).mono ?_
      rintro e w4 ⟨v, a4, ok4, rfl, hD4, h4, hc4⟩
      have D4 := hidden hD4
      have HR4 := hidden h4
      have C4 := hidden (C3.out.trans hc4 (fun _ _ e => e))
      have HB4 := hidden (hc4.blk HB3.out (by have := hrw.out; omega))
      clear h4 hc4 hD4 HR3 HB3
      have ha4 := D4.out.1
      have hv4 : v.size ≤ s.size := by have := D4.out.2.2.1; have := HSZ.out; omega
      go_wp2_with (first
        | (refine wpList_build_to rfl 58 #[(0, .tmp 29), (1, .tmp 30), (2, .tmp 31)] rfl [(0, .string (oft nm)), (1, .int .i64 o), (2, .string v)] (mC ⟨oft nm, o, v⟩).toArray rfl (built31 _ _ _) ?_)
        | (refine wpList_store_blk rfl 58 (.tmp 2) (.tmp 32) rfl rfl w.heap.size (l := mC ⟨oft nm, o, v⟩) HB4.out rfl rfl rfl size31 (one_mC _) ?_))
      have hN := blk_stored (l := mC ⟨oft nm, o, v⟩) HB4.out rfl
      have hcs := Chg.sets w.heap.size (mC ⟨oft nm, o, v⟩) 0 w4
      refine bodyPost_ret (res_matcher _ _ w.heap.size _ _ rfl hN rfl) rfl ?_
      refine ⟨⟨oft nm, o, v⟩, a4, ok4, rfl, ⟨by omega, D4.out.2.1, ⟨by show (oft nm).size ≤ _; rw [size_oft]; have := HNM.out; omega, by show v.size ≤ _; omega, by show (-9223372036854775808 : Int) ≤ o; omega, by show o ≤ _; omega⟩, fun hk J => ?_, fun hk J => ?_⟩, HR4.out.chg hcs (by have := hrw.out; omega), ?_⟩
      · rw [RW2.out J, D3.out.2.2.2.1 rfl J a nm]
        exact D4.out.2.2.2.1 hk J a nm o
      · rw [RW2.out J, D3.out.2.2.2.1 rfl J a nm]
        exact D4.out.2.2.2.2 hk J a nm o
      · exact (C4.out.trans hcs (fun i hi e => by have e' : i = w.heap.size := e; omega))
  · have hzf : decide (0 < z) = false := decide_eq_false hz0
    have RN2 := hidden (RN.out (by omega))
    have HBA : Hid (b = a) := hidden (by have := HWZ.out; omega)
    rw [hzf]
    clear hz0 hzf RN RW
    go_wp2_with (first
      | (refine wpList_build_to rfl 58 #[] rfl [] (mC zM).toArray rfl built31z ?_)
      | (refine wpList_store_blk rfl 58 (.tmp 2) (.tmp 15) rfl rfl w.heap.size (l := mC zM) HB2.out rfl rfl rfl size31 (one_mC zM) ?_))
    have hN := blk_stored (l := mC zM) HB2.out rfl
    have hcs := Chg.sets w.heap.size (mC zM) 0 w2
    refine bodyPost_ret (res_matcher _ _ w.heap.size _ _ rfl hN rfl) rfl ?_
    refine ⟨zM, b, false, rfl, ⟨hwg, hwl, okM_z, (fun h => by cases h), fun _ J => by rw [RN2.out J, HBA.out]⟩, HR2.out.chg hcs (by have := hrw.out; omega), ?_⟩
    exact (C2.out.trans hcs (fun i hi e => by have e' : i = w.heap.size := e; omega))

end Go.Proofs.YtanlgplgplncdaaGreatDoor.L
