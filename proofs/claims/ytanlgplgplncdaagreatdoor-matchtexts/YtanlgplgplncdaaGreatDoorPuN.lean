import Derived.Test.YtanlgplgplncdaaGreatDoorPuK
import Derived.Test.YtanlgplgplncdaaGreatDoorLbM
import Derived.Test.YtanlgplgplncdaaGreatDoorLbW
/-
  The machine: takes; Match.
-/
namespace Go.Proofs.YtanlgplgplncdaaGreatDoor
open Go.RowKit
set_option linter.unusedVariables false
set_option linter.unusedSimpArgs false

/-- Bytes that are the UTF-8 of t. -/
def Rs (L : List UInt8) (t : Tx) : Prop := (∀ c ∈ t, Vc c) ∧ L = t.flatMap enc
/-- What a pattern means, of bytes. -/
def Means (l : List (List Pt)) (L : List UInt8) : Prop := ∃ t, Rs L t ∧ rowsHas l t
theorem Rs.nil : Rs [] [] := ⟨by simp, rfl⟩
theorem rs_nil {t : Tx} (h : Rs [] t) : t = [] := by
  cases t with
  | nil => rfl
  | cons c t =>
    have := h.2
    simp only [List.flatMap_cons] at this
    exact absurd this.symm (enc_ne (h.1 c (by simp)) _)
theorem rs_cons {L : List UInt8} {c : Nat} {t : Tx} (h : Rs L (c :: t)) : fp L = some (c, (enc c).length) ∧ Rs (L.drop (enc c).length) t := by
  have h2 := h.2
  simp only [List.flatMap_cons] at h2
  refine ⟨fp_some.2 ⟨h.1 c (by simp), rfl, _, h2⟩, fun x hx => h.1 x (by simp [hx]), ?_⟩
  rw [h2, List.drop_left]
theorem cons_rs {L : List UInt8} {c k : Nat} {t : Tx} (h : fp L = some (c, k)) (ht : Rs (L.drop k) t) : Rs L (c :: t) := by
  obtain ⟨hv, hk, u, hu⟩ := fp_some.1 h
  refine ⟨fun x hx => ?_, ?_⟩
  · rcases List.mem_cons.1 hx with rfl | hx
    · exact hv
    · exact ht.1 x hx
  · simp only [List.flatMap_cons]
    rw [← ht.2, hk, hu, List.drop_left]
theorem rs_step {L : List UInt8} {c k : Nat} (h : fp L = some (c, k)) (P : Tx → Prop) : (∃ t, Rs L t ∧ P t) ↔ ∃ t, Rs (L.drop k) t ∧ P (c :: t) := by
  constructor
  · rintro ⟨t, h1, h2⟩
    cases t with
    | nil =>
      have := h1.2
      simp at this
      rw [this] at h
      have := fp_len h
      simp at this
      omega
    | cons d t =>
      obtain ⟨k1, k2⟩ := rs_cons h1
      obtain ⟨e1, e2⟩ := Prod.mk.inj (Option.some.inj (h.symm.trans k1))
      exact ⟨t, by rw [e2]; exact k2, by rw [e1]; exact h2⟩
  · rintro ⟨t, h1, h2⟩
    exact ⟨c :: t, cons_rs h h1, h2⟩
theorem rs_none {L : List UInt8} (h0 : L ≠ []) (h : fp L = none) (P : Tx → Prop) : ¬ ∃ t, Rs L t ∧ P t := by
  rintro ⟨t, h1, _⟩
  cases t with
  | nil => exact h0 (by simpa using h1.2)
  | cons d t =>
    have := (rs_cons h1).1
    rw [h] at this
    cases this

theorem opens_congr {fol lab : Nat → Nat → Prop} {last : Nat → Prop} {op op' : Nat → Prop} {d d' : Prop} (h1 : ∀ q, op q ↔ op' q) (h2 : d ↔ d') (t : Tx) : opens fol lab last op d t ↔ opens fol lab last op' d' t := by
  have e1 : op = op' := funext fun q => propext (h1 q)
  have e2 : d = d' := propext h2
  rw [e1, e2]
/-- Is what is open here to take the bytes? -/
def OpB (E : Es) (M : List Sp) (op : Nat) (en : Bool) (L : List UInt8) : Prop := ∃ t, Rs L t ∧ opens (folM M) (labM M) E.en.last (fun q => op.testBit q = true) (en = true) t
theorem opb_step {E : Es} {M : List Sp} {op : Nat} {en : Bool} {L : List UInt8} {c k : Nat} (h : fp L = some (c, k)) : OpB E M op en L ↔ OpB E M (stF E.last op c 0 M 0 false).1 (stF E.last op c 0 M 0 false).2 (L.drop k) := by
  unfold OpB
  rw [rs_step h]
  have key : ∀ t, opens (folM M) (labM M) E.en.last (fun q => op.testBit q = true) (en = true) (c :: t) ↔ opens (folM M) (labM M) E.en.last (fun q => (stF E.last op c 0 M 0 false).1.testBit q = true) ((stF E.last op c 0 M 0 false).2 = true) t := fun t => by
    rw [opens]
    refine opens_congr (fun q => ?_) ?_ t
    · rw [stF_1]
      simp only [Nat.zero_testBit, Bool.false_eq_true, false_or, Nat.zero_add]
      unfold stepS folM labM
      constructor
      · rintro ⟨p, h1, ⟨s, h2, h3⟩, s', h4, h5⟩
        rw [h2] at h4
        injection h4 with h4
        subst h4
        exact ⟨p, s, h2, h1, h3, h5⟩
      · rintro ⟨p, s, h2, h1, h3, h5⟩
        exact ⟨p, h1, ⟨s, h2, h3⟩, s, h2, h5⟩
    · rw [stF_2]
      simp only [Bool.false_eq_true, false_or, Nat.zero_add]
      unfold endS labM
      constructor
      · rintro ⟨p, h1, ⟨s, h2, h3⟩, h5⟩
        exact ⟨p, s, h2, h1, h3, h5⟩
      · rintro ⟨p, s, h2, h1, h3, h5⟩
        exact ⟨p, h1, ⟨s, h2, h3⟩, h5⟩
  exact ⟨fun ⟨t, h1, h2⟩ => ⟨t, h1, (key t).1 h2⟩, fun ⟨t, h1, h2⟩ => ⟨t, h1, (key t).2 h2⟩⟩
theorem opb_nil {E : Es} {M : List Sp} {op : Nat} {en : Bool} : OpB E M op en [] ↔ en = true := by
  constructor
  · rintro ⟨t, h1, h2⟩
    rw [rs_nil h1] at h2
    exact h2
  · exact fun h => ⟨[], Rs.nil, h⟩
theorem opb_none {E : Es} {M : List Sp} {op : Nat} {en : Bool} {L : List UInt8} (h0 : L ≠ []) (h : fp L = none) : ¬ OpB E M op en L := rs_none h0 h _
theorem opb_means (l : List (List Pt)) (L : List UInt8) : OpB (machL l).1 (machL l).2 (machL l).1.first (machL l).1.emp L ↔ Means l L := by
  unfold OpB Means
  constructor
  · rintro ⟨t, h1, h2⟩; exact ⟨t, h1, (mach_ok l t).1 h2⟩
  · rintro ⟨t, h1, h2⟩; exact ⟨t, h1, (mach_ok l t).2 h2⟩

def strSz : Value → Nat
  | .string x => x.size
  | _ => 0
theorem bts_nil {x : ByteArray} : bts x = [] ↔ x = ⟨#[]⟩ := by
  constructor
  · intro h; exact bts_inj (by rw [h]; rfl)
  · rintro rfl; rfl

set_option maxRecDepth 100000 in
set_option maxHeartbeats 8000000 in
theorem takesP (F : Nat → Prop) (w : World) (p : Nat) (l : List (List Pt)) (hP : PaR F w p l) (v : ByteArray) (hv : v.size ≤ 140737488355328) (R : Bool) (hR : R = true ↔ Means l (bts v)) :
    Calls Tryz.prog 91 #[.pointer (some ⟨p, 1, none⟩), .string v] w fun e w' => e = .returned (.bool R) ∧ Below w.heap.size w w' := by
  have HP := hidden hP
  have HR : Hid (R = true ↔ OpB (machL l).1 (machL l).2 (machL l).1.first (machL l).1.emp (bts v)) := hidden (hR.trans (opb_means l _).symm)
  obtain ⟨ad, c, b, off, sa, sc, vs, h⟩ := hP
  have hB := h.blk
  have hb64 := rowsAdd_b64 l ⟨0, 0, false⟩ [] (by simpa using h.cnt) (Es.b64.zero _)
  change (machL l).1.b64 at hb64
  have HST := hidden (fun w1 (hb : Below w.heap.size w w1) => stepP F w1 p l (HP.out.later hb))
  have HNB : Hid (∀ op x, (stF (machL l).1.last op x 0 (machL l).2 0 false).1 < 18446744073709551616) := hidden (fun op x => stF_b _ _ _ _ _ _ _ (by omega) h.sp.b64)
  clear h hR HP
  obtain ⟨⟨E, M⟩, hR⟩ : ∃ R, machL l = R := ⟨_, rfl⟩
  rw [hR] at hB hb64 HST HNB HR
  obtain ⟨fi, la, em⟩ := E
  simp only at hB hb64 HST HNB HR
  have c2 : w.cell? ⟨p, 2, none⟩ = some (.int .u64 (fi : Int)) := hB.cell 2
  have c4 : w.cell? ⟨p, 4, none⟩ = some (.bool em) := hB.cell 4
  have hf := hb64.1
  simp only at hf
  clear hB hb64 hR
  go_enter Tryz.func91, Tryz.ntmps91
  go_wp2_with fail
  go_quiet (fail)
  clear c2 c4
  go_wp2_with fail
  go_loopw [1, 5, 6] (fun s1 s5 s6 wx => ∃ (x : ByteArray) (op : Nat) (en : Bool), s1 = .string x ∧ s5 = .int .u64 (op : Int) ∧ s6 = .bool en ∧ x.size ≤ 140737488355328 ∧ op < 18446744073709551616 ∧ Hid (R = true ↔ OpB ⟨fi, la, em⟩ M op en (bts x)) ∧ Hid (Below w.heap.size w wx)) (fun s1 _ _ _ => strSz s1)
  case atStart => exact ⟨v, fi, em, rfl, rfl, rfl, hv, hf, HR, hidden (below_drewN (Below.refl _ _) _)⟩
  case round =>
    rename World => wr
    obtain ⟨x, op, en, rfl, rfl, rfl, hxs, hop, hrel, hbel⟩ := hrel
    clear HR hv hf
    by_cases hx : x = ⟨#[]⟩
    · have hE : Hid (R = en) := hidden (by
        have := hrel.out
        rw [bts_nil.2 hx, opb_nil] at this
        cases R <;> cases en <;> simp_all)
      have hem : x.toList.isEmpty = true := by rw [ByteArray.toList_eq]; show (bts x).isEmpty = true; rw [bts_nil.2 hx]; rfl
      clear hrel
      go_wp2
      go_ret
      exact ⟨by rw [hE.out]; rfl, hbel.out⟩
    · have hx0 : bts x ≠ [] := fun e => hx (bts_nil.1 e)
      have hem : x.toList.isEmpty = false := by rw [ByteArray.toList_eq]; show (bts x).isEmpty = false; cases hb : bts x <;> simp_all
      have kF := firstPointP x wr (by omega)
      have HSZ := hidden (size_bts x)
      cases hfp : fp (bts x) with
      | none =>
        rw [hfp] at kF
        simp only [Option.getD_none] at kF
        have hE : Hid (R = false) := hidden (by
          have := hrel.out
          cases R with
          | false => rfl
          | true => exact absurd (this.1 rfl) (opb_none hx0 hfp))
        clear hrel hfp hx0
        go_wp2_with (go_at_call 99; refine kF.mono ?_; rintro e w2 ⟨rfl, h2⟩; have H2 := hidden h2; clear kF h2)
        go_ret
        exact ⟨by rw [hE.out]; rfl, hbel.out.trans (H2.out.mono hbel.out.size)⟩
      | some ck =>
        obtain ⟨cc, k⟩ := ck
        rw [hfp] at kF
        simp only [Option.getD_some] at kF
        have hkl := fp_len hfp
        have hk1 : k ≤ x.size := by rw [HSZ.out]; exact hkl.2
        have hk0 : 1 ≤ k := hkl.1
        have hkz : (k : Int) ≤ (x.size : Int) := by omega
        have hkz0 : ((k : Int) == 0) = false := by simp; omega
        have hkz1 : ¬ (k : Int) = 0 := by omega
        have HST2 : Hid (∀ w2, Below wr.heap.size wr w2 → Calls Tryz.prog 100 #[.pointer (some ⟨p, 1, none⟩), .int .u64 (op : Int), .int .i32 (cc : Int)] w2 fun e w' => e = .returned (.tuple #[.int .u64 ((stF la op cc 0 M 0 false).1 : Int), .bool (stF la op cc 0 M 0 false).2]) ∧ Below w2.heap.size w2 w') := hidden (fun w2 hb => HST.out w2 (hbel.out.trans (hb.mono hbel.out.size)) op cc hop)
        have hnb := HNB.out op cc
        have HREL : Hid (R = true ↔ OpB ⟨fi, la, em⟩ M (stF la op cc 0 M 0 false).1 (stF la op cc 0 M 0 false).2 (bts (x.extract k x.size))) := hidden (by
          rw [hrel.out, opb_step hfp, bts_extract, List.take_of_length_le (by rw [List.length_drop, HSZ.out]; omega)])
        obtain ⟨⟨o2, e2⟩, ho2⟩ : ∃ r, stF la op cc 0 M 0 false = r := ⟨_, rfl⟩
        rw [ho2] at HST2 hnb HREL
        simp only at HST2 hnb HREL
        have HXS : Hid ((x.extract k x.size).size = x.size - k) := hidden (by rw [size_bts, bts_extract, List.take_of_length_le (by rw [List.length_drop, HSZ.out]; omega), List.length_drop, HSZ.out])
        clear hrel hfp hx0 ho2 hkl
        go_wp2_with (first
          | (go_at_call 99; refine kF.mono ?_; rintro e w2 ⟨rfl, h2⟩; have H2 := hidden h2; have kS := HST2.out w2 h2; clear kF h2)
          | (go_at_call 100; refine kS.mono ?_; rintro e w3 ⟨rfl, h3⟩; have H3 := hidden h3; clear kS h3))
        refine ⟨⟨x.extract k x.size, o2, e2, by first | rfl | simp, by first | rfl | simp, by first | rfl | simp, by rw [HXS.out]; omega, hnb, HREL, hidden ?_⟩, ?_⟩
        · have h4 := hbel.out.trans (H2.out.mono hbel.out.size)
          exact h4.trans (H3.out.mono h4.size)
        · simp only [strSz]
          rw [HXS.out]
          omega

set_option maxRecDepth 100000 in
set_option maxHeartbeats 8000000 in
/-- MATCH TELLS WHAT THE TREE MEANS. -/
theorem matchP (F : Nat → Prop) (w : World) (p : Nat) (l : List (List Pt)) (hP : PaR F w p l) (v : ByteArray) (hv : v.size ≤ 140737488355328) (R : Bool) (hR : R = true ↔ Means l (bts v)) :
    Calls Tryz.prog 75 #[.pointer (some ⟨p, 0, none⟩), .string v] w fun e w' => e = .returned (.bool R) ∧ Below w.heap.size w w' := by
  have k := takesP F w p l hP v hv R hR
  clear hP hR
  go_enter Tryz.func75, Tryz.ntmps75
  go_wp2_with (go_at_call 91; refine k.mono ?_; rintro e w2 ⟨rfl, h2⟩; have H2 := hidden h2; clear k h2)
  go_ret
  exact ⟨rfl, H2.out⟩

end Go.Proofs.YtanlgplgplncdaaGreatDoor

/-
  Package match, purely: matchers, which may be, what they hold, printing; the machine that reads a text byte by byte.
-/
namespace Go.Proofs.YtanlgplgplncdaaGreatDoor
open Go

structure Mt where
  n : ByteArray
  op : Int
  t : ByteArray
deriving Inhabited, DecidableEq

def prsOk (s : List UInt8) : Bool := match prs s with
  | .ok _ _ => true
  | _ => false
def prsL (s : List UInt8) : List (List Pt) := match prs s with
  | .ok l _ => l
  | _ => []
theorem prsOk_iff {s : List UInt8} : prsOk s = true ↔ ∃ b, prs s = .ok (prsL s) b := by
  unfold prsOk prsL
  cases prs s with
  | ok l b => simp
  | bad k => simp
  | out => simp
theorem prsL_of {s : List UInt8} {l : List (List Pt)} {b : Nat} (h : prs s = .ok l b) : prsL s = l := by unfold prsL; rw [h]
def txtOk (op : Int) (s : List UInt8) : Bool :=
  if op = 1 then decide (s = []) || L.isVal s else if op = 2 then decide (s = []) || L.isVal s else if op = 3 then prsOk s else if op = 4 then prsOk s else false
def Mt.may (x : Mt) : Bool := txtOk x.op (bts x.t) && L.isName (bts x.n)
open Classical in
/-- Does a value hold a matcher? -/
noncomputable def Mt.hold (x : Mt) (v : ByteArray) : Bool :=
  if x.op = 1 then decide (v = x.t) else if x.op = 2 then !decide (v = x.t) else if x.op = 3 then decide (Means (prsL (bts x.t)) (bts v)) else !decide (Means (prsL (bts x.t)) (bts v))
def newOk (l : List Mt) : Bool := decide (l.length ≤ 8) && l.all Mt.may

/-! ### printing -/
def opT (o : Int) : List UInt8 := if o = 1 then [61] else if o = 2 then [33, 61] else if o = 3 then [61, 126] else [33, 126]
def Mt.text (x : Mt) : List UInt8 := bts x.n ++ opT x.op ++ [34] ++ L.qtL (bts x.t) ++ [34]
def prM : Bool → List Mt → List UInt8
  | _, [] => [125]
  | true, x :: t => x.text ++ prM false t
  | false, x :: t => [44, 32] ++ x.text ++ prM false t
def printM (l : List Mt) : List UInt8 := if newOk l then 123 :: prM true l else []

/-! ### reading -/
structure Jm where
  ls : List Mt
  bad : Option Nat
def wrongM (l : List Mt) (x : Mt) : Bool := !x.may || decide (l.length = 8)
def Jm.add (J : Jm) (x : Mt) (p : Nat) : Jm :=
  match J.bad with
  | some _ => J
  | none => if wrongM J.ls x then ⟨J.ls, some p⟩ else ⟨J.ls ++ [x], none⟩

inductive Sm where
  | s0
  | s1
  | s2 (J : Jm)
  | wd (J : Jm) (p : Nat) (a : List UInt8)
  | s3 (J : Jm) (p : Nat) (a : List UInt8)
  | eq (J : Jm) (p : Nat) (a : List UInt8)
  | ba (J : Jm) (p : Nat) (a : List UInt8)
  | s4 (J : Jm) (p : Nat) (a : List UInt8) (o : Int)
  | qt (J : Jm) (p : Nat) (a : List UInt8) (o : Int) (b : List UInt8)
  | es (J : Jm) (p : Nat) (a : List UInt8) (o : Int) (b : List UInt8)
  | s5 (J : Jm)
  | s6 (J : Jm)

def stepM (i : Nat) (c : UInt8) : Sm → Option Sm
  | .s0 => if c = 32 then some .s0 else if c = 123 then some .s1 else none
  | .s1 => if c = 32 then some .s1 else if c = 125 then some (.s6 ⟨[], none⟩) else if L.lett c then some (.wd ⟨[], none⟩ i [c]) else none
  | .s2 J => if c = 32 then some (.s2 J) else if L.lett c then some (.wd J i [c]) else none
  | .wd J p a => if L.lead false c then some (.wd J p (a ++ [c])) else if c = 32 then some (.s3 J p a) else if c = 61 then some (.eq J p a) else if c = 33 then some (.ba J p a) else none
  | .s3 J p a => if c = 32 then some (.s3 J p a) else if c = 61 then some (.eq J p a) else if c = 33 then some (.ba J p a) else none
  | .eq J p a => if c = 126 then some (.s4 J p a 3) else if c = 32 then some (.s4 J p a 1) else if c = 34 then some (.qt J p a 1 []) else none
  | .ba J p a => if c = 61 then some (.s4 J p a 2) else if c = 126 then some (.s4 J p a 4) else none
  | .s4 J p a o => if c = 32 then some (.s4 J p a o) else if c = 34 then some (.qt J p a o []) else none
  | .qt J p a o b => if c = 34 then some (.s5 (J.add ⟨L.oft a, o, L.oft b⟩ p)) else if c = 10 then none else if c = 92 then some (.es J p a o b) else some (.qt J p a o (b ++ [c]))
  | .es J p a o b => if c = 92 ∨ c = 34 then some (.qt J p a o (b ++ [c])) else if c = 110 then some (.qt J p a o (b ++ [10])) else none
  | .s5 J => if c = 32 then some (.s5 J) else if c = 125 then some (.s6 J) else if c = 44 then some (.s2 J) else none
  | .s6 J => if c = 32 then some (.s6 J) else none

inductive Rm where
  | fault (i : Nat)
  | done (J : Jm)
def Sm.end (i : Nat) : Sm → Rm
  | .s6 J => .done J
  | _ => .fault i
def runM : List UInt8 → Nat → Sm → Rm
  | [], i, st => st.end i
  | c :: t, i, st => match stepM i c st with
    | none => .fault i
    | some st' => runM t (i + 1) st'
theorem runM_nil (i : Nat) (st : Sm) : runM [] i st = st.end i := rfl
theorem runM_none {c : UInt8} {t : List UInt8} {i : Nat} {st : Sm} (h : stepM i c st = none) : runM (c :: t) i st = .fault i := by simp [runM, h]
theorem runM_some {c : UInt8} {t : List UInt8} {i : Nat} {st st' : Sm} (h : stepM i c st = some st') : runM (c :: t) i st = runM t (i + 1) st' := by simp [runM, h]
/-- What Parse answers: the matchers, or a fault's place. -/
def Rm.told : Rm → Nat ⊕ List Mt
  | .fault i => .inl i
  | .done J => match J.bad with
    | some p => .inl p
    | none => .inr J.ls
def parseM (s : List UInt8) : Nat ⊕ List Mt := (runM s 0 .s0).told

end Go.Proofs.YtanlgplgplncdaaGreatDoor

/-
  The program's reader: blanks, a byte, a word.
-/
namespace Go.Proofs.YtanlgplgplncdaaGreatDoor.L
open Go.RowKit
set_option linter.unusedVariables false
set_option linter.unusedSimpArgs false

/-- How many blanks stand ahead. -/
def skp : List UInt8 → Nat
  | [] => 0
  | c :: t => if c = 32 then skp t + 1 else 0
theorem skp_le : ∀ l : List UInt8, skp l ≤ l.length
  | [] => Nat.le_refl _
  | c :: t => by unfold skp; have := skp_le t; split <;> simp <;> omega
theorem skp_next : ∀ l : List UInt8, (l.drop (skp l))[0]? ≠ some 32
  | [] => by simp
  | c :: t => by
    unfold skp
    split
    · simpa using skp_next t
    · simpa
/-- A state in which blanks count for nothing. -/
def Bl (st : Sm) : Prop := ∀ i, stepM i 32 st = some st
theorem run_skp {st : Sm} (h : Bl st) : ∀ (l : List UInt8) (i : Nat), runM l i st = runM (l.drop (skp l)) (i + skp l) st
  | [], i => by simp [skp]
  | c :: t, i => by
    unfold skp
    split
    · rename_i hc
      subst hc
      rw [runM_some (h i), run_skp h t (i + 1)]
      simp only [List.drop_succ_cons]
      congr 1; omega
    · simp
/-- Where a reader stands behind blanks. -/
def sk (S : List UInt8) (a : Nat) : Nat := a + skp (S.drop a)
theorem sk_le {S : List UInt8} {a : Nat} (h : a ≤ S.length) : sk S a ≤ S.length := by
  have := skp_le (S.drop a); rw [List.length_drop] at this; unfold sk; omega
theorem sk_ge (S : List UInt8) (a : Nat) : a ≤ sk S a := by unfold sk; omega
theorem run_sk {st : Sm} (h : Bl st) (S : List UInt8) (a : Nat) : runM (S.drop a) a st = runM (S.drop (sk S a)) (sk S a) st := by
  rw [run_skp h, List.drop_drop]; rfl
theorem sk_next (S : List UInt8) (a : Nat) : S[sk S a]? ≠ some 32 := by
  have := skp_next (S.drop a)
  rw [List.drop_drop, List.getElem?_drop] at this
  exact this
theorem sk_step {S : List UInt8} {a : Nat} (h : S[a]? = some 32) : sk S a = sk S (a + 1) := by
  have hl : a < S.length := (List.getElem?_eq_some_iff.1 h).1
  have e : S.drop a = 32 :: S.drop (a + 1) := by
    rw [List.drop_eq_getElem_cons hl]
    rw [List.getElem?_eq_getElem hl] at h
    injection h with h; rw [h]
  unfold sk; rw [e, skp, if_pos rfl]; omega
theorem sk_stop {S : List UInt8} {a : Nat} (h : S[a]? ≠ some 32) : sk S a = a := by
  unfold sk
  cases hd : S.drop a with
  | nil => rfl
  | cons c t =>
    have : S[a]? = some c := by rw [← Nat.add_zero a, ← List.getElem?_drop, hd]; rfl
    rw [skp, if_neg (fun e => h (by rw [this, e]))]; rfl

/-- A reader at a place. -/
def Rd (w : World) (r : Nat) (s : ByteArray) (a : Nat) : Prop := Blk w r 82 [.string s, .int .i64 (a : Int)]
theorem Rd.set {w : World} {r : Nat} {s : ByteArray} {a : Nat} (h : Rd w r s a) (b : Nat) : Rd (w.setCell ⟨r, 1, none⟩ (.int .i64 (b : Int))) r s b := Blk.set h 1 _
theorem at_bts {s : ByteArray} {a : Nat} (h : a < s.size) {x : UInt8} (hx : s[a] = x) : (bts s)[a]? = some x := by
  have hl : a < (bts s).length := by rw [← size_bts]; exact h
  rw [List.getElem?_eq_getElem hl, ← hx]; rfl

def rdAt (r : Nat) (w : World) : Nat := ((w.cell? ⟨r, 1, none⟩).map (fun v => (intOf v).toNat)).getD 0
theorem Rd.at' {w : World} {r : Nat} {s : ByteArray} {a : Nat} (h : Rd w r s a) : rdAt r w = a := by
  have c1 : w.cell? ⟨r, 1, none⟩ = some (.int .i64 (a : Int)) := h.cell 1
  simp [rdAt, c1, intOf]
theorem Rd.drewN {w : World} {r : Nat} {s : ByteArray} {a : Nat} (h : Rd w r s a) (n : Nat) : Rd (w.drewN n) r s a := Blk.drewN h n
theorem Rd.chg {F : Nat → Prop} {w w' : World} {r : Nat} {s : ByteArray} {a : Nat} (h : Rd w r s a) (hc : Chg F w w') (hF : ¬ F r) : Rd w' r s a := hc.blk h hF
theorem chg_step {w wx : World} {r b : Nat} {n : Nat} (h : Chg (fun i => i = r) w wx) : Chg (fun i => i = r) w ((wx.drewN n).setCell ⟨r, 1, none⟩ (.int .i64 (b : Int))) :=
  (h.trans (Chg.drewN (fun i => i = r) wx n) (fun _ _ e => e)).trans (Chg.set ⟨r, 1, none⟩ _ _) (fun _ _ e => e)

set_option maxRecDepth 100000 in
set_option maxHeartbeats 2000000 in
theorem skipBlanksP (r : Nat) (s : ByteArray) (a : Nat) (w : World) (h : Rd w r s a) (ha : a ≤ s.size) (hs : s.size ≤ 140737488355328) :
    Calls Tryz.prog 51 #[.pointer (some ⟨r, 0, none⟩)] w fun e w' => e = .returned (.tuple #[]) ∧ Rd w' r s (sk (bts s) a) ∧ Chg (fun i => i = r) w w' := by
  obtain ⟨R, hR⟩ : ∃ R, sk (bts s) a = R := ⟨_, rfl⟩
  have HR := hidden hR
  have HH := hidden h
  rw [hR]
  clear hR h
  go_enter Tryz.func51, Tryz.ntmps51
  go_wp2
  go_loopw [] (fun wx => ∃ i : Nat, i ≤ s.size ∧ Hid (sk (bts s) i = R) ∧ Hid (Rd wx r s i) ∧ Hid (Chg (fun i => i = r) w wx)) (fun wx => s.size - rdAt r wx)
  case atStart => exact ⟨a, ha, HR, HH, hidden (Chg.refl _ _)⟩
  case round =>
    rename World => wr
    obtain ⟨i, hi, hrel, hrd, hch⟩ := hrel
    have c0 : wr.cell? ⟨r, 0, none⟩ = some (.string s) := hrd.out.cell 0
    have c1 : wr.cell? ⟨r, 1, none⟩ = some (.int .i64 (i : Int)) := hrd.out.cell 1
    have f1 := hrd.out.frozen 1
    by_cases hlt : i < s.size
    · have hltz : (i : Int) < (s.size : Int) := by omega
      have hd1 : decide ((i : Int) < (s.size : Int)) = true := decide_eq_true hltz
      obtain ⟨x, hx, hx2, hdr⟩ := byte_at s hlt
      have e32 := beq32 x
      by_cases h32 : x = 32
      · rw [decide_eq_true h32] at e32
        have hR1 : Hid (sk (bts s) (i + 1) = R) := hidden (by rw [← sk_step (by rw [hx2, h32]), hrel.out])
        clear hdr hx2 h32
        go_wp2
        go_quiet (fail)
        go_wp2
        have hr2 : Rd ((wr.drewN nq).setCell ⟨r, 1, none⟩ (.int .i64 ((i : Int) + 1))) r s (i + 1) := by have := (hrd.out.drewN nq).set (i + 1); simpa using this
        refine ⟨⟨i + 1, by omega, hR1, hr2, hidden (by have := chg_step (b := i + 1) (n := nq) hch.out; simpa using this)⟩, ?_⟩
        rw [hr2.at', hrd.out.at']
        omega
      · rw [decide_eq_false h32] at e32
        have hR1 : Hid (i = R) := hidden (by rw [← hrel.out, sk_stop (by rw [hx2]; intro e; exact h32 (Option.some.inj e))])
        clear hdr hx2 h32
        go_wp2
        go_quiet (fail)
        go_wp2
        go_end0
        exact ⟨rfl, by rw [← hR1.out]; exact hrd.out.drewN _, hch.out.trans (Chg.drewN (fun i => i = r) wr _) (fun _ _ e => e)⟩
    · have hltz : ¬ (i : Int) < (s.size : Int) := by omega
      have hd1 : decide ((i : Int) < (s.size : Int)) = false := decide_eq_false hltz
      have hR1 : Hid (i = R) := hidden (by rw [← hrel.out, sk_stop (by rw [List.getElem?_eq_none (by rw [← size_bts]; omega)]; simp)])
      go_wp2
      go_quiet (fail)
      go_wp2
      go_end0
      exact ⟨rfl, by rw [← hR1.out]; exact hrd.out.drewN _, hch.out.trans (Chg.drewN (fun i => i = r) wr _) (fun _ _ e => e)⟩

set_option maxRecDepth 100000 in
set_option maxHeartbeats 2000000 in
theorem atEndP (r : Nat) (s : ByteArray) (a : Nat) (w : World) (h : Rd w r s a) (ha : a ≤ s.size) (hs : s.size ≤ 140737488355328) :
    Calls Tryz.prog 50 #[.pointer (some ⟨r, 0, none⟩)] w fun e w' => e = .returned (.bool (decide (sk (bts s) a = s.size))) ∧ Rd w' r s (sk (bts s) a) ∧ Chg (fun i => i = r) w w' := by
  have k := skipBlanksP r s a w h ha hs
  have hle : sk (bts s) a ≤ s.size := by rw [size_bts] at ha ⊢; exact sk_le ha
  obtain ⟨b, hb⟩ : ∃ b, sk (bts s) a = b := ⟨_, rfl⟩
  rw [hb] at k hle ⊢
  clear hb h
  go_enter Tryz.func50, Tryz.ntmps50
  go_wp2_with (go_at_call 51; refine k.mono ?_)
  first | rintro e w1 rfl h1 hc1 | rintro e w1 ⟨rfl, h1, hc1⟩
  have c0 : w1.cell? ⟨r, 0, none⟩ = some (.string s) := h1.cell 0
  have c1 : w1.cell? ⟨r, 1, none⟩ = some (.int .i64 (b : Int)) := h1.cell 1
  have H1 := hidden h1
  have HC := hidden hc1
  clear h1 hc1 k
  have z : ((b : Int) == (s.size : Int)) = decide (b = s.size) := by rw [Bool.eq_iff_iff]; simp; omega
  go_wp2
  go_quiet (fail)
  go_wp2
  go_ret
  refine ⟨?_, H1.out.drewN _, HC.out.trans (Chg.drewN (fun i => i = r) w1 _) (fun _ _ e => e)⟩
  rw [← z]; rfl

/-- Does the byte c stand next, but for blanks? -/
def tk (S : List UInt8) (a : Nat) (c : UInt8) : Bool := decide (S[sk S a]? = some c)
def tkAt (S : List UInt8) (a : Nat) (c : UInt8) : Nat := if tk S a c then sk S a + 1 else sk S a
theorem tkAt_le {S : List UInt8} {a : Nat} {c : UInt8} (h : a ≤ S.length) : tkAt S a c ≤ S.length := by
  unfold tkAt
  split
  · rename_i ht
    have := (List.getElem?_eq_some_iff.1 (of_decide_eq_true ht)).1
    omega
  · exact sk_le h

end Go.Proofs.YtanlgplgplncdaaGreatDoor.L
