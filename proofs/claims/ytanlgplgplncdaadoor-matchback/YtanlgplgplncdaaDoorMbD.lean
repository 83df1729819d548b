/-
  MatchBack: the sizes of texts; the walk.
-/
import Derived.Test.YtanlgplgplncdaaDoorMtJ
import Derived.Test.YtanlgplgplncdaaDoorMbA
namespace Go.Proofs.YtanlgplgplncdaaDoor
open Go.RowKit
set_option linter.unusedVariables false
set_option linter.unusedSimpArgs false

theorem ms_take2 {w : World} {ad : Option Addr} {l : List Mt} (h : Ms w ad l) (k : Nat) : Ms w ad (l.take k) := by
  refine ⟨fun x hx => h.sz x (List.mem_of_mem_take hx), fun h0 => ?_⟩
  obtain ⟨b, off, e, hlt, hc⟩ := h.at' (fun e => h0 (by rw [e]; simp))
  refine ⟨b, off, e, hlt, fun i x hx => hc i x ?_⟩
  rw [List.getElem?_take] at hx
  split at hx
  · exact hx
  · cases hx
theorem ms_own2 {w : World} {b n c : Nat} {ad : Option Addr} {l : List Mt} (h : w.ownsRow b 31 3 (.slice ad n c) l.length (L.cM l)) (hz : ∀ x ∈ l, OkM x) : Ms w ad l := by
  refine ⟨hz, fun h0 => ?_⟩
  rcases h.2 with ⟨_, h1⟩ | ⟨g, cap, cur, e, _, hg, _⟩
  · exact absurd (List.eq_nil_of_length_eq_zero h1) h0
  · injection e with e
    subst e
    refine ⟨g, 0, rfl, (Array.getElem?_eq_some_iff.1 hg).1, fun i x hx => ?_⟩
    have hc := L.cM_get l i x hx
    have k0 := h.cells rfl _ _ hc.1
    have k1 := h.cells rfl _ _ hc.2.1
    have k2 := h.cells rfl _ _ hc.2.2
    rw [Addr.add_lit] at k0 k1 k2
    exact ⟨k0, k1, k2⟩
theorem qtL_len : ∀ v : List UInt8, (L.qtL v).length ≤ 2 * v.length
  | [] => by simp [L.qtL]
  | c :: t => by
    have e : L.qtL (c :: t) = L.qt1 c ++ L.qtL t := by simp [L.qtL]
    have := qtL_len t
    have h1 : (L.qt1 c).length ≤ 2 := by unfold L.qt1; repeat' split
                                         all_goals simp
    rw [e, List.length_append, List.length_cons]
    omega
theorem may_len {x : Mt} (h : x.may = true) : (bts x.n).length ≤ 32 ∧ (bts x.t).length ≤ 64 := by
  have ho := mayM_op h
  unfold Mt.may at h
  rw [Bool.and_eq_true] at h
  constructor
  · have := h.2
    simp only [L.isName, Bool.and_eq_true, decide_eq_true_eq] at this
    exact this.1.1
  · have ht := h.1
    have v : (decide (bts x.t = []) || L.isVal (bts x.t)) = true → (bts x.t).length ≤ 64 := fun hh => by
      rw [Bool.or_eq_true, decide_eq_true_eq] at hh
      rcases hh with hh | hh
      · rw [hh]; simp
      · simp only [L.isVal, Bool.and_eq_true, decide_eq_true_eq] at hh
        exact hh.1.2
    have p : prsOk (bts x.t) = true → (bts x.t).length ≤ 64 := fun hh => by
      rcases Nat.lt_or_ge 64 (bts x.t).length with hl | hl
      · unfold prsOk prs at hh
        rw [if_pos hl] at hh
        cases hh
      · exact hl
    unfold txtOk at ht
    rcases ho with ho | ho | ho | ho
    · rw [if_pos ho] at ht; exact v ht
    · rw [if_neg (by omega), if_pos ho] at ht; exact v ht
    · rw [if_neg (by omega), if_neg (by omega), if_pos ho] at ht; exact p ht
    · rw [if_neg (by omega), if_neg (by omega), if_neg (by omega), if_pos ho] at ht; exact p ht
theorem textB_len {x : Mt} (h : x.may = true) (a b : Nat) : (x.textB a b).length ≤ 170 + a + b := by
  have h1 := may_len h
  have h2 := qtL_len (bts x.t)
  have h3 := opT_len x.op
  simp only [Mt.textB, List.length_append, sp_length, List.length_singleton]
  omega
theorem prB_len (a b c d e : Nat) : ∀ (l : List Mt) (f : Bool), (∀ x ∈ l, x.may = true) → (prB a b c d e f l).length ≤ e + 1 + l.length * (171 + a + b + c + d)
  | [], f, _ => by cases f <;> simp [prB, sp_length]
  | x :: t, f, h => by
    have h1 := textB_len (h x (by simp)) a b
    have h2 := prB_len a b c d e t false (fun y hy => h y (by simp [hy]))
    have h3 : (x :: t).length * (171 + a + b + c + d) = t.length * (171 + a + b + c + d) + (171 + a + b + c + d) := by rw [List.length_cons, Nat.succ_mul]
    cases f <;> simp only [prB, List.length_append, List.length_cons, sp_length] <;> (rw [List.length_cons] at h3) <;> omega
theorem printM_len (l : List Mt) : (printM l).length ≤ 3000 := by
  unfold printM
  split
  · rename_i h
    have h8 : l.length ≤ 8 := by unfold newOk at h; rw [Bool.and_eq_true] at h; exact of_decide_eq_true h.1
    have := prB_len 0 0 0 1 0 l true (fun x hx => newOk_may h hx)
    rw [prB_zero] at this
    rw [List.length_cons]
    have : l.length * (171 + 0 + 0 + 0 + 1) ≤ 8 * 172 := Nat.mul_le_mul h8 (by omega)
    omega
  · simp
/-- The text with blanks. -/
def bigT (l : List Mt) : List UInt8 := sp 2 ++ (123 :: (sp 2 ++ (prB 2 3 3 2 2 true l ++ sp 1)))
theorem bigT_len {l : List Mt} (h : newOk l = true) : (bigT l).length ≤ 3000 := by
  have h8 : l.length ≤ 8 := by unfold newOk at h; rw [Bool.and_eq_true] at h; exact of_decide_eq_true h.1
  have h1 := prB_len 2 3 3 2 2 l true (fun x hx => newOk_may h hx)
  have : l.length * (171 + 2 + 3 + 3 + 2) ≤ 8 * 181 := Nat.mul_le_mul h8 (by omega)
  simp only [bigT, List.length_append, List.length_cons, sp_length]
  omega
theorem bigT_parse {l : List Mt} (h : newOk l = true) : parseM (bigT l) = .inr l := parse_printB 2 2 2 3 3 2 2 1 l h

theorem addS (a b : ByteArray) (h : a.size + b.size ≤ 9223372036854775807) (w1 : World) : (binOp .add 9 (.string a) (.string b)).run Tryd.prog w1 = .ok (.string (a ++ b)) w1 := by
  have := run_string_add_sum (P := Tryd.prog) (w := w1) a b h
  simp [binOp, this, go_sem]
theorem op_nat {x : Mt} (h : x.may = true) : ∃ (o : Nat) (ot : ByteArray), x.op = (o : Int) ∧ o < 5 ∧ opsL[o]? = some (.string ot) ∧ bts ot = opT x.op := by
  rcases mayM_op h with h | h | h | h
  · exact ⟨1, ⟨#[61]⟩, h, by omega, rfl, by rw [h]; rfl⟩
  · exact ⟨2, ⟨#[33, 61]⟩, h, by omega, rfl, by rw [h]; rfl⟩
  · exact ⟨3, ⟨#[61, 126]⟩, h, by omega, rfl, by rw [h]; rfl⟩
  · exact ⟨4, ⟨#[33, 126]⟩, h, by omega, rfl, by rw [h]; rfl⟩
set_option maxRecDepth 100000 in
theorem assert44 (g : Nat) (w : World) : (Instr.typeAssert (.iface 44 (.pointer (some ⟨g, 0, none⟩))) 38 44 true).run Tryd.prog w = .ok (.tuple #[.pointer (some ⟨g, 0, none⟩), .bool true]) w := by
  rfl
theorem btA (a b : ByteArray) : bts (a ++ b) = bts a ++ bts b := by simp [bts]
theorem szA (a b : ByteArray) : (a ++ b).size = a.size + b.size := by rw [size_bts, btA, List.length_append, ← size_bts, ← size_bts]
theorem step_bl {x : Mt} {acc ot q : ByteArray} {r : List UInt8} (ho : bts ot = opT x.op) (hq : bts q = 34 :: (L.qtL (bts x.t) ++ [34])) : bts (acc ++ x.n ++ ⟨#[32, 32]⟩ ++ ot ++ ⟨#[32, 32, 32]⟩ ++ q) ++ r = bts acc ++ (x.textB 2 3 ++ r) := by
  rw [btA, btA, btA, btA, btA, ho, hq]
  simp [Mt.textB, sp, bts]

set_option maxRecDepth 100000 in
set_option maxHeartbeats 0 in
theorem back_any (B : Nat) (w : World) (hT : L.Tb B w) (a0 : Option Addr) (n0 c0 : Nat) (l0 : List Mt) (hl0 : l0.length = n0) (hM0 : Ms w a0 l0) (hc0 : n0 ≤ c0) (hm0 : c0 ≤ 9223372036854775807) (hno0 : a0 = none → n0 = 0 ∧ c0 = 0) (v1 : Int) (hv1 : -9223372036854775808 ≤ v1) (hv2 : v1 ≤ 9223372036854775807) :
    Calls Tryd.prog 4 #[.slice a0 n0 c0, .int .i64 v1] w fun e w' => e = .returned (.bool true) ∧ Below w.heap.size w w' := by
  obtain ⟨n, hn⟩ : ∃ n, min n0 30 = n := ⟨_, rfl⟩
  obtain ⟨l, hl⟩ : ∃ l, l0.take n = l := ⟨_, rfl⟩
  have HL : Hid (Ms w a0 l) := hidden (by rw [← hl]; exact ms_take2 hM0 n)
  have HLN : Hid (l.length = n) := hidden (by rw [← hl, List.length_take]; omega)
  have hn30 : n ≤ 30 := by omega
  have FE0 := hidden (fun wx => fewP a0 n0 c0 wx hc0 hm0 hno0)
  rw [hn] at FE0
  have HT := hidden hT
  clear hn hl hM0 hT hl0 hc0 hm0 hno0
  obtain ⟨P, hP⟩ : ∃ P, L.oft (printM l) = P := ⟨_, rfl⟩
  have HP : Hid (bts P = printM l) := hidden (by rw [← hP]; exact L.bts_oft _)
  have hPs : P.size ≤ 3000 := by rw [size_bts, HP.out]; exact printM_len l
  go_enter Tryd.func4, Tryd.ntmps4
  go_wp2_with fail
  refine (shownP B w HT.out).mono ?_
  rintro e w1 ⟨rfl, b1⟩
  have BB1 := hidden b1
  clear b1
  go_wp2_with fail
  refine (FE0.out w1).mono ?_
  rintro e w1' ⟨rfl, rfl⟩
  go_wp2_with fail
  have N1 := hidden (newP B a0 c0 l w1' (HL.out.later BB1.out) (by rw [HLN.out]; omega) (HT.out.later BB1.out))
  rw [HLN.out] at N1
  refine N1.out.mono ?_
  rintro e w2 ⟨b2, hR2⟩
  have BB2 : Hid (Below w.heap.size w w2) := hidden (BB1.out.trans (b2.mono BB1.out.size))
  clear b2 N1 FE0
  have P2 := hidden (printMP B a0 c0 l w2 (HL.out.later BB2.out) (by rw [HLN.out]; omega) (HT.out.later BB2.out))
  rw [HLN.out, hP] at P2
  clear hP
  rcases hR2 with ⟨hok, sa, Fa, rfl, -, -⟩ | ⟨hno, rfl⟩
  · have HOK := hidden hok
    have hPne : (P.toList == ([] : List UInt8)) = false := by
      rw [show P.toList = bts P from L.toList_bts P, HP.out, printM, if_pos hok]; rfl
    have hPpos : 0 < P.size := by rw [size_bts, HP.out, printM, if_pos hok]; simp
    clear hok
    go_wp2_with fail
    refine P2.out.mono ?_
    rintro e w3 ⟨rfl, b3⟩
    have BB3 : Hid (Below w.heap.size w w3) := hidden (BB2.out.trans (b3.mono BB2.out.size))
    clear b3 P2
    go_wp2_with fail
    refine (L.parseMP B P w3 (by omega) (HT.out.later BB3.out)).mono ?_
    rintro e w4 ⟨b4, ⟨l', ad4, c4, hp4, rfl, ho4, hok4, h84⟩ | ⟨k4, g4, hp4, rfl, hB4⟩⟩
    rotate_left 1
    · exfalso
      have := (show parseM (bts P) = .inl k4 from hp4)
      rw [HP.out, parse_printM HOK.out] at this
      cases this
    obtain rfl : l' = l := by
      have := (show parseM (bts P) = .inr l' from hp4)
      rw [HP.out, parse_printM HOK.out] at this
      injection this with this
      exact this.symm
    have BB4 : Hid (Below w.heap.size w w4) := hidden (BB3.out.trans (b4.mono BB3.out.size))
    have M4 : Hid (Ms w4 ad4 l') := hidden (ms_own2 ho4 hok4)
    clear b4 hp4 ho4 hok4 h84
    rw [HLN.out]
    have A0 : Hid (bts ⟨#[32, 32, 123, 32, 32]⟩ ++ (prB 2 3 3 2 2 (decide (0 = 0)) (l'.drop 0) ++ sp 1) = bigT l') := hidden (by simp [bigT, sp, bts])
    go_wp2_with fail
    go_loopw [11, 12] (fun v11 v12 wx => ∃ (i : Nat) (acc : ByteArray), v11 = .string acc ∧ v12 = .int .i64 (i : Int) ∧ i ≤ n ∧ Hid (bts acc ++ (prB 2 3 3 2 2 (decide (i = 0)) (l'.drop i) ++ sp 1) = bigT l') ∧ Hid (Below w4.heap.size w4 wx)) (fun _ v12 _ => n - (intOf v12).toNat)
    case atStart => exact ⟨0, _, rfl, rfl, Nat.zero_le _, A0, hidden (Below.refl _ _)⟩
    case round =>
      rename World => wx
      obtain ⟨i, acc, rfl, rfl, hi, hA, hB⟩ := hrel
      clear A0
      have BBx : Hid (Below w.heap.size w wx) := hidden (BB4.out.trans (hB.out.mono BB4.out.size))
      by_cases hlt : i < n
      · have hltz : (i : Int) < (n : Int) := by omega
        obtain ⟨bb, off, x, rfl, hbb, hx, p0, p1, p2, hok⟩ := HL.out.get (i := i) (by rw [HLN.out]; omega)
        have CE : Hid (∀ wy, Below w.heap.size w wy → wy.cell? ⟨bb, off + i * 3, none⟩ = some (.string x.n) ∧ wy.cell? ⟨bb, off + i * 3 + 1, none⟩ = some (.int .i64 x.op) ∧ wy.cell? ⟨bb, off + i * 3 + 2, none⟩ = some (.string x.t)) := hidden (fun wy hy => by
          rw [hy.cell (p := ⟨bb, off + i * 3, none⟩) hbb, hy.cell (p := ⟨bb, off + i * 3 + 1, none⟩) hbb, hy.cell (p := ⟨bb, off + i * 3 + 2, none⟩) hbb]
          exact ⟨p0, p1, p2⟩)
        have hmay := newOk_may HOK.out (List.mem_of_getElem? hx)
        obtain ⟨o, ot, ho, ho5, hot, hbt⟩ := op_nat hmay
        have hml := may_len hmay
        have kQ := hidden (fun w => L.rquoteP x.t w (by rw [size_bts]; omega))
        obtain ⟨q, hq⟩ : ∃ q, L.oft (34 :: (L.qtL (L.bts x.t) ++ [34])) = q := ⟨_, rfl⟩
        rw [hq] at kQ
        have hbq : bts q = 34 :: (L.qtL (bts x.t) ++ [34]) := by rw [← hq]; exact L.bts_oft _
        have hdrop := L.dropM hx
        have hbig := bigT_len HOK.out
        have key : ∀ acc' : ByteArray, bts acc' ++ (x.textB 2 3 ++ (prB 2 3 3 2 2 false (l'.drop (i + 1)) ++ sp 1)) = bigT l' → bts (acc' ++ x.n ++ ⟨#[32, 32]⟩ ++ ot ++ ⟨#[32, 32, 32]⟩ ++ q) ++ (prB 2 3 3 2 2 (decide (i + 1 = 0)) (l'.drop (i + 1)) ++ sp 1) = bigT l' ∧ (acc' ++ x.n ++ ⟨#[32, 32]⟩ ++ ot ++ ⟨#[32, 32, 32]⟩ ++ q).size ≤ 3000 := fun acc' h' => by
          have h1 : bts (acc' ++ x.n ++ ⟨#[32, 32]⟩ ++ ot ++ ⟨#[32, 32, 32]⟩ ++ q) ++ (prB 2 3 3 2 2 false (l'.drop (i + 1)) ++ sp 1) = bigT l' := by rw [step_bl hbt hbq]; exact h'
          refine ⟨by rw [show decide (i + 1 = 0) = false from decide_eq_false (by omega)]; exact h1, ?_⟩
          rw [← h1, List.length_append, ← size_bts] at hbig
          omega
        have KEY := hidden key
        have HA2 : Hid (if i = 0 then bts acc ++ (x.textB 2 3 ++ (prB 2 3 3 2 2 false (l'.drop (i + 1)) ++ sp 1)) = bigT l' else bts (acc ++ ⟨#[32, 32, 32, 44, 32, 32]⟩) ++ (x.textB 2 3 ++ (prB 2 3 3 2 2 false (l'.drop (i + 1)) ++ sp 1)) = bigT l') := hidden (by
          have h1 := hA.out
          rw [hdrop] at h1
          by_cases h0 : i = 0
          · rw [if_pos h0]
            rw [show decide (i = 0) = true from decide_eq_true h0, prB, List.append_assoc] at h1
            exact h1
          · rw [if_neg h0]
            rw [show decide (i = 0) = false from decide_eq_false h0, prB] at h1
            rw [btA, ← h1]
            simp [sp, bts])
        have HOT := hidden hot
        have HO := hidden ho
        clear key hdrop hbig hbq hq hml hmay hot hbt hx p0 p1 p2 hok hbb hA ho
        have ho5z : (o : Int) < 5 := by omega
        by_cases h0 : i = 0
        · subst h0
          obtain ⟨hN, hS⟩ := KEY.out acc (by have := HA2.out; rwa [if_pos rfl] at this)
          have HNN := hidden hN
          have HSS := hidden hS
          clear hN hS HA2 KEY
          go_upto_region 16 with fail
          have hS := HSS.out
          rw [szA, szA, szA, szA, szA] at hS
          refine back_r16 bb off n c0 0 o x.n x.t ot acc _ _ _ _ q _ wx _ _ (by rfl) (by rfl) (by rfl) (by rfl) hltz hlt ho5z ho5 HOT.out (fun w5 h5 => (CE.out w5 (BBx.out.trans (h5.mono BBx.out.size))).1) (fun w5 h5 => by rw [← HO.out]; exact (CE.out w5 (BBx.out.trans (h5.mono BBx.out.size))).2.1) (fun w5 h5 => (CE.out w5 (BBx.out.trans (h5.mono BBx.out.size))).2.2) (addS acc x.n (by omega)) (addS _ _ (by rw [szA]; omega)) (addS _ _ (by rw [szA, szA]; omega)) (addS _ _ (by rw [szA, szA, szA]; omega)) (addS _ _ (by rw [szA, szA, szA, szA]; omega)) kQ.out ?_
          intro v56 v57 v58 v59 v60 v61 v62 v63 v64 v65 v66 v67 v68 v69 v70 v71 v72 v73 v74 v75 v76 v77 v78 v79 v80 w5 h5
          have B5 : Hid (Below w4.heap.size w4 w5) := hidden (hB.out.trans (h5.mono hB.out.size))
          clear h5 hS
          simp only [Act.put, List.setIfInBounds_toArray, List.set_cons_succ, List.set_cons_zero]
          go_wp2_with fail
          exact ⟨⟨1, _, rfl, rfl, by omega, HNN, B5⟩, by simp [intOf]; omega⟩
        · have h0z : (0 : Int) < (i : Int) := by omega
          obtain ⟨acc2, hacc2⟩ : ∃ acc2, acc ++ ⟨#[32, 32, 32, 44, 32, 32]⟩ = acc2 := ⟨_, rfl⟩
          obtain ⟨hN, hS⟩ := KEY.out acc2 (by have := HA2.out; rw [if_neg h0, hacc2] at this; exact this)
          have HNN := hidden hN
          have HSS := hidden hS
          have hs0 : acc.size + 6 ≤ 9223372036854775807 := by
            rw [szA, szA, szA, szA, szA, ← hacc2, szA, show (⟨#[32, 32, 32, 44, 32, 32]⟩ : ByteArray).size = 6 from rfl] at hS
            omega
          clear hN hS HA2 KEY
          have HACC := hidden hacc2
          clear hacc2
          go_upto_region 16 with fail
          rw [HACC.out]
          have hS := HSS.out
          rw [szA, szA, szA, szA, szA] at hS
          refine back_r16 bb off n c0 i o x.n x.t ot acc2 _ _ _ _ q _ wx _ _ (by rfl) (by rfl) (by rfl) (by rfl) hltz hlt ho5z ho5 HOT.out (fun w5 h5 => (CE.out w5 (BBx.out.trans (h5.mono BBx.out.size))).1) (fun w5 h5 => by rw [← HO.out]; exact (CE.out w5 (BBx.out.trans (h5.mono BBx.out.size))).2.1) (fun w5 h5 => (CE.out w5 (BBx.out.trans (h5.mono BBx.out.size))).2.2) (addS acc2 x.n (by omega)) (addS _ _ (by rw [szA]; omega)) (addS _ _ (by rw [szA, szA]; omega)) (addS _ _ (by rw [szA, szA, szA]; omega)) (addS _ _ (by rw [szA, szA, szA, szA]; omega)) kQ.out ?_
          intro v56 v57 v58 v59 v60 v61 v62 v63 v64 v65 v66 v67 v68 v69 v70 v71 v72 v73 v74 v75 v76 v77 v78 v79 v80 w5 h5
          have B5 : Hid (Below w4.heap.size w4 w5) := hidden (hB.out.trans (h5.mono hB.out.size))
          clear h5 hS
          simp only [Act.put, List.setIfInBounds_toArray, List.set_cons_succ, List.set_cons_zero]
          go_wp2_with fail
          exact ⟨⟨i + 1, _, rfl, by rw [Int.natCast_add]; rfl, by omega, HNN, B5⟩, by simp [intOf]; omega⟩
      · have hltz : ¬ (i : Int) < (n : Int) := by omega
        have HE : Hid (bts (acc ++ ⟨#[32, 32, 125, 32]⟩) = bigT l') := hidden (by
          have h1 := hA.out
          rw [List.drop_of_length_le (by rw [HLN.out]; omega)] at h1
          rw [btA, ← h1]
          cases decide (i = 0) <;> simp [prB, sp, bts])
        have hEs : (acc ++ ⟨#[32, 32, 125, 32]⟩ : ByteArray).size ≤ 3000 := by rw [size_bts, HE.out]; exact bigT_len HOK.out
        have haS : acc.size + 4 ≤ 9223372036854775807 := by
          rw [szA, show (⟨#[32, 32, 125, 32]⟩ : ByteArray).size = 4 from rfl] at hEs
          omega
        have PE := hidden (L.parseMP B (acc ++ ⟨#[32, 32, 125, 32]⟩) wx (by omega) (HT.out.later BBx.out))
        have M4x := hidden (M4.out.later hB.out)
        clear hEs hA M4
        go_wp2_with fail
        refine PE.out.mono ?_
        rintro e w5 ⟨b5, ⟨l5, ad5, c5, hp5, rfl, ho5, hok5, h85⟩ | ⟨k5, g5, hp5, rfl, hB5⟩⟩
        rotate_left 1
        · exfalso
          have := (show parseM (bts (acc ++ ⟨#[32, 32, 125, 32]⟩)) = .inl k5 from hp5)
          rw [HE.out, bigT_parse HOK.out] at this
          cases this
        obtain rfl : l5 = l' := by
          have := (show parseM (bts (acc ++ ⟨#[32, 32, 125, 32]⟩)) = .inr l5 from hp5)
          rw [HE.out, bigT_parse HOK.out] at this
          injection this with this
          exact this.symm
        have B5 : Hid (Below w.heap.size w w5) := hidden (BBx.out.trans (b5.mono BBx.out.size))
        have M5 : Hid (Ms w5 ad5 l5) := hidden (ms_own2 ho5 hok5)
        have M45 := hidden (M4x.out.later b5)
        clear b5 hp5 ho5 hok5 h85 PE HE M4x
        rw [HLN.out]
        have S5 := hidden (L.sameMP ad4 a0 c4 c0 l5 l5 w5 M45.out (HL.out.later B5.out) (by rw [HLN.out]; omega) (by rw [HLN.out]; omega))
        rw [HLN.out, decide_eq_true rfl] at S5
        go_wp2_with fail
        refine S5.out.mono ?_
        rintro e w6 ⟨rfl, b6⟩
        have B6 : Hid (Below w.heap.size w w6) := hidden (B5.out.trans (b6.mono B5.out.size))
        have S6 := hidden (L.sameMP ad5 a0 c5 c0 l5 l5 w6 (M5.out.later b6) (HL.out.later B6.out) (by rw [HLN.out]; omega) (by rw [HLN.out]; omega))
        rw [HLN.out, decide_eq_true rfl] at S6
        clear b6 S5 M45 M5
        go_wp2_with fail
        refine S6.out.mono ?_
        rintro e w7 ⟨rfl, b7⟩
        have B7 : Hid (Below w.heap.size w w7) := hidden (B6.out.trans (b7.mono B6.out.size))
        clear b7 S6
        have PAR : Hid (∀ r : Nat, r < P.size → Calls Tryd.prog 11 #[.string (P.extract 0 r)] w7 fun e w' => ∃ g, e = .returned (.tuple #[.slice none 0 0, .iface 44 (.pointer (some ⟨g, 0, none⟩))]) ∧ Blk w' g 47 [.int .i64 (r : Int), .int .i64 90] ∧ Below w7.heap.size w7 w') := hidden (fun r hr => by
          have hbe : bts (P.extract 0 r) = (printM l5).take r := by rw [bts_extract, List.drop_zero, Nat.sub_zero, HP.out]
          refine (L.parseMP B (P.extract 0 r) w7 (by rw [size_bts, hbe, List.length_take]; have := printM_len l5; omega) (HT.out.later B7.out)).mono ?_
          rintro e w8 ⟨b8, ⟨l8, ad8, c8, hp8, rfl, -⟩ | ⟨k8, g8, hp8, rfl, hB8⟩⟩
          all_goals
            have h1 := hp8
            rw [show L.bts (P.extract 0 r) = (printM l5).take r from hbe, parse_cutM HOK.out r (by rw [← HP.out, ← size_bts]; exact hr)] at h1
          · cases h1
          · injection h1 with h1
            subst h1
            exact ⟨g8, rfl, hB8, b8⟩)
        have hPz : ((P.size : Nat) : Int) ≠ 0 := by omega
        have hPz2 : ¬ ((P.size : Nat) : Int) = 0 := hPz
        by_cases hv : v1 < 0
        · obtain ⟨K, hK⟩ : ∃ K : Nat, -(v1 + 1) = (K : Int) := ⟨(-(v1 + 1)).toNat, by omega⟩
          obtain ⟨r, hr⟩ : ∃ r : Nat, r = K % P.size := ⟨_, rfl⟩
          have hrP : r < P.size := by rw [hr]; exact Nat.mod_lt _ hPpos
          have hrm : Int.tmod (K : Int) ((P.size : Nat) : Int) = (r : Int) := by rw [hr]; exact (Int.ofNat_tmod K P.size).symm
          clear hr
          go_wp2_with fail
          refine (PAR.out r hrP).mono ?_
          rintro e w8 ⟨g, rfl, hB8, b8⟩
          have B8 : Hid (Below w.heap.size w w8) := hidden (B7.out.trans (b8.mono B7.out.size))
          have c0' : w8.cell? ⟨g, 0, none⟩ = some (.int .i64 (r : Int)) := hB8.cell 0
          have c1' : w8.cell? ⟨g, 1, none⟩ = some (.int .i64 90) := hB8.cell 1
          have ha := fun w => assert44 g w
          clear hB8 b8 PAR
          go_wp2_with fail
          go_ret
          exact ⟨by first | rfl | simp, B8.out⟩
        · obtain ⟨K, hK⟩ : ∃ K : Nat, v1 = (K : Int) := ⟨v1.toNat, by omega⟩
          subst hK
          obtain ⟨r, hr⟩ : ∃ r : Nat, r = K % P.size := ⟨_, rfl⟩
          have hrP : r < P.size := by rw [hr]; exact Nat.mod_lt _ hPpos
          have hrm : Int.tmod (K : Int) ((P.size : Nat) : Int) = (r : Int) := by rw [hr]; exact (Int.ofNat_tmod K P.size).symm
          clear hr
          go_wp2_with fail
          refine (PAR.out r hrP).mono ?_
          rintro e w8 ⟨g, rfl, hB8, b8⟩
          have B8 : Hid (Below w.heap.size w w8) := hidden (B7.out.trans (b8.mono B7.out.size))
          have c0' : w8.cell? ⟨g, 0, none⟩ = some (.int .i64 (r : Int)) := hB8.cell 0
          have c1' : w8.cell? ⟨g, 1, none⟩ = some (.int .i64 90) := hB8.cell 1
          have ha := fun w => assert44 g w
          clear hB8 b8 PAR
          go_wp2_with fail
          go_ret
          exact ⟨by first | rfl | simp, B8.out⟩
  · have hPe : P = ⟨#[]⟩ := L.bts_inj (by show bts P = _; rw [HP.out, printM_ne.2 hno]; rfl)
    subst hPe
    clear hPs HP
    go_wp2_with fail
    refine P2.out.mono ?_
    rintro e w3 ⟨rfl, b3⟩
    have BB3 : Hid (Below w.heap.size w w3) := hidden (BB2.out.trans (b3.mono BB2.out.size))
    clear b3 P2
    go_wp2_with fail
    go_ret
    exact ⟨by first | rfl | trivial, BB3.out⟩

end Go.Proofs.YtanlgplgplncdaaDoor
