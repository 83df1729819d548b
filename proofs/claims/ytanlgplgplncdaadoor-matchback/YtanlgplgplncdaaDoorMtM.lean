import Derived.Test.YtanlgplgplncdaaDoorPuN
import Derived.Test.YtanlgplgplncdaaDoorLbM
import Derived.Test.YtanlgplgplncdaaDoorAny
import Derived.Test.YtanlgplgplncdaaDoorProg
import Derived.Laws.IdiomStrings
import Derived.BigQuiet
import Derived.Deep.CutRange
import Derived.Lib.Strings
import Derived.Shelf.Unicode.ValidAny
import Derived.Shelf.Strings.Builder1
/-
  Package match, purely: matchers, which may be, what they hold, printing; the machine that reads a text byte by byte.
-/
namespace Go.Proofs.YtanlgplgplncdaaDoor
open Go

structure Mt where
  n : ByteArray
  op : Int
  t : ByteArray
deriving Inhabited, DecidableEq

def prsOk (s : List UInt8) : Bool := match prs s with
  | .ok _ _ => true
  | _ => false
def prsL (s : List UInt8) : List (List Pt) := match prs s with
  | .ok l _ => l
  | _ => []
theorem prsOk_iff {s : List UInt8} : prsOk s = true ↔ ∃ b, prs s = .ok (prsL s) b := by
  unfold prsOk prsL
  cases prs s with
  | ok l b => simp
  | bad k => simp
  | out => simp
theorem prsL_of {s : List UInt8} {l : List (List Pt)} {b : Nat} (h : prs s = .ok l b) : prsL s = l := by unfold prsL; rw [h]
def txtOk (op : Int) (s : List UInt8) : Bool :=
  if op = 1 then decide (s = []) || L.isVal s else if op = 2 then decide (s = []) || L.isVal s else if op = 3 then prsOk s else if op = 4 then prsOk s else false
def Mt.may (x : Mt) : Bool := txtOk x.op (bts x.t) && L.isName (bts x.n)
open Classical in
/-- Does a value hold a matcher? -/
noncomputable def Mt.hold (x : Mt) (v : ByteArray) : Bool :=
  if x.op = 1 then decide (v = x.t) else if x.op = 2 then !decide (v = x.t) else if x.op = 3 then decide (Means (prsL (bts x.t)) (bts v)) else !decide (Means (prsL (bts x.t)) (bts v))
def newOk (l : List Mt) : Bool := decide (l.length ≤ 8) && l.all Mt.may

/-! ### printing -/
def opT (o : Int) : List UInt8 := if o = 1 then [61] else if o = 2 then [33, 61] else if o = 3 then [61, 126] else [33, 126]
def Mt.text (x : Mt) : List UInt8 := bts x.n ++ opT x.op ++ [34] ++ L.qtL (bts x.t) ++ [34]
def prM : Bool → List Mt → List UInt8
  | _, [] => [125]
  | true, x :: t => x.text ++ prM false t
  | false, x :: t => [44, 32] ++ x.text ++ prM false t
def printM (l : List Mt) : List UInt8 := if newOk l then 123 :: prM true l else []

/-! ### reading -/
structure Jm where
  ls : List Mt
  bad : Option Nat
def wrongM (l : List Mt) (x : Mt) : Bool := !x.may || decide (l.length = 8)
def Jm.add (J : Jm) (x : Mt) (p : Nat) : Jm :=
  match J.bad with
  | some _ => J
  | none => if wrongM J.ls x then ⟨J.ls, some p⟩ else ⟨J.ls ++ [x], none⟩

inductive Sm where
  | s0
  | s1
  | s2 (J : Jm)
  | wd (J : Jm) (p : Nat) (a : List UInt8)
  | s3 (J : Jm) (p : Nat) (a : List UInt8)
  | eq (J : Jm) (p : Nat) (a : List UInt8)
  | ba (J : Jm) (p : Nat) (a : List UInt8)
  | s4 (J : Jm) (p : Nat) (a : List UInt8) (o : Int)
  | qt (J : Jm) (p : Nat) (a : List UInt8) (o : Int) (b : List UInt8)
  | es (J : Jm) (p : Nat) (a : List UInt8) (o : Int) (b : List UInt8)
  | s5 (J : Jm)
  | s6 (J : Jm)

def stepM (i : Nat) (c : UInt8) : Sm → Option Sm
  | .s0 => if c = 32 then some .s0 else if c = 123 then some .s1 else none
  | .s1 => if c = 32 then some .s1 else if c = 125 then some (.s6 ⟨[], none⟩) else if L.lett c then some (.wd ⟨[], none⟩ i [c]) else none
  | .s2 J => if c = 32 then some (.s2 J) else if L.lett c then some (.wd J i [c]) else none
  | .wd J p a => if L.lead false c then some (.wd J p (a ++ [c])) else if c = 32 then some (.s3 J p a) else if c = 61 then some (.eq J p a) else if c = 33 then some (.ba J p a) else none
  | .s3 J p a => if c = 32 then some (.s3 J p a) else if c = 61 then some (.eq J p a) else if c = 33 then some (.ba J p a) else none
  | .eq J p a => if c = 126 then some (.s4 J p a 3) else if c = 32 then some (.s4 J p a 1) else if c = 34 then some (.qt J p a 1 []) else none
  | .ba J p a => if c = 61 then some (.s4 J p a 2) else if c = 126 then some (.s4 J p a 4) else none
  | .s4 J p a o => if c = 32 then some (.s4 J p a o) else if c = 34 then some (.qt J p a o []) else none
  | .qt J p a o b => if c = 34 then some (.s5 (J.add ⟨L.oft a, o, L.oft b⟩ p)) else if c = 10 then none else if c = 92 then some (.es J p a o b) else some (.qt J p a o (b ++ [c]))
  | .es J p a o b => if c = 92 ∨ c = 34 then some (.qt J p a o (b ++ [c])) else if c = 110 then some (.qt J p a o (b ++ [10])) else none
  | .s5 J => if c = 32 then some (.s5 J) else if c = 125 then some (.s6 J) else if c = 44 then some (.s2 J) else none
  | .s6 J => if c = 32 then some (.s6 J) else none

inductive Rm where
  | fault (i : Nat)
  | done (J : Jm)
def Sm.end (i : Nat) : Sm → Rm
  | .s6 J => .done J
  | _ => .fault i
def runM : List UInt8 → Nat → Sm → Rm
  | [], i, st => st.end i
  | c :: t, i, st => match stepM i c st with
    | none => .fault i
    | some st' => runM t (i + 1) st'
theorem runM_nil (i : Nat) (st : Sm) : runM [] i st = st.end i := rfl
theorem runM_none {c : UInt8} {t : List UInt8} {i : Nat} {st : Sm} (h : stepM i c st = none) : runM (c :: t) i st = .fault i := by simp [runM, h]
theorem runM_some {c : UInt8} {t : List UInt8} {i : Nat} {st st' : Sm} (h : stepM i c st = some st') : runM (c :: t) i st = runM t (i + 1) st' := by simp [runM, h]
/-- What Parse answers: the matchers, or a fault's place. -/
def Rm.told : Rm → Nat ⊕ List Mt
  | .fault i => .inl i
  | .done J => match J.bad with
    | some p => .inl p
    | none => .inr J.ls
def parseM (s : List UInt8) : Nat ⊕ List Mt := (runM s 0 .s0).told

end Go.Proofs.YtanlgplgplncdaaDoor

/-
  Labels in memory: rows of two cells each.
-/
namespace Go.Proofs.YtanlgplgplncdaaDoor.L
open Go.RowKit
set_option linter.unusedVariables false

theorem toList_bts (s : ByteArray) : s.toList = bts s := Lib.toList_data s
theorem size_bts (s : ByteArray) : s.size = (bts s).length := by rw [bts, Array.length_toList]; rfl
theorem bytesLess_lss : ∀ (x y : List UInt8), Op.bytesLess x y = lss x y
  | [], [] => by simp [Op.bytesLess, lss]
  | _ :: _, [] => by simp [Op.bytesLess, lss]
  | [], _ :: _ => by simp [Op.bytesLess, lss]
  | a :: x, b :: y => by
    rw [Op.bytesLess, bytesLess_lss x y]
    simp only [lss, List.cons_lt_cons_iff]
    by_cases h1 : a < b <;> by_cases h2 : a = b <;> by_cases h3 : x < y <;> simp [h1, h2, h3]

/-- A slice's labels: where they lie. -/
structure Ls (w : World) (ad : Option Addr) (l : List Lb) : Prop where
  sz : ∀ x ∈ l, x.n.size ≤ 9223372036854775807 ∧ x.v.size ≤ 9223372036854775807
  at' : l ≠ [] → ∃ b off, ad = some ⟨b, off, none⟩ ∧ b < w.heap.size ∧ ∀ i x, l[i]? = some x → w.cell? ⟨b, off + i * 2, none⟩ = some (.string x.n) ∧ w.cell? ⟨b, off + i * 2 + 1, none⟩ = some (.string x.v)
theorem Ls.later {w w' : World} {ad : Option Addr} {l : List Lb} (h : Ls w ad l) (hb : Below w.heap.size w w') : Ls w' ad l := by
  refine ⟨h.sz, fun h0 => ?_⟩
  obtain ⟨b, off, e, hlt, hc⟩ := h.at' h0
  refine ⟨b, off, e, Nat.lt_of_lt_of_le hlt hb.size, fun i x hx => ?_⟩
  rw [hb.cell (p := ⟨b, off + i * 2, none⟩) hlt, hb.cell (p := ⟨b, off + i * 2 + 1, none⟩) hlt]
  exact hc i x hx
theorem Ls.nil (w : World) (ad : Option Addr) : Ls w ad [] := ⟨by simp, fun h => absurd rfl h⟩
theorem Ls.get {w : World} {ad : Option Addr} {l : List Lb} (h : Ls w ad l) {i : Nat} (hi : i < l.length) : ∃ b off x, ad = some ⟨b, off, none⟩ ∧ b < w.heap.size ∧ l[i]? = some x ∧ l[i] = x ∧ w.cell? ⟨b, off + i * 2, none⟩ = some (.string x.n) ∧ w.cell? ⟨b, off + i * 2 + 1, none⟩ = some (.string x.v) ∧ x.n.size ≤ 9223372036854775807 ∧ x.v.size ≤ 9223372036854775807 := by
  obtain ⟨b, off, e, hlt, hc⟩ := h.at' (by intro h0; rw [h0] at hi; simp at hi)
  have hx : l[i]? = some l[i] := by simp [hi]
  exact ⟨b, off, l[i], e, hlt, hx, rfl, (hc i _ hx).1, (hc i _ hx).2, h.sz _ (by simp)⟩

end Go.Proofs.YtanlgplgplncdaaDoor.L

/-
  Get.
-/
namespace Go.Proofs.YtanlgplgplncdaaDoor.L
open Go.RowKit
set_option linter.unusedVariables false
set_option linter.unusedSimpArgs false

set_option maxHeartbeats 2000000 in
theorem getP (ad : Option Addr) (c : Nat) (l : List Lb) (nm : ByteArray) (w : World) (hL : Ls w ad l) (hlen : l.length ≤ 9223372036854775807) :
    Calls Tryd.prog 15 #[.slice ad l.length c, .string nm] w fun e w' => ∃ r, e = .returned (.string r) ∧ bts r = getL l (bts nm) ∧ Below w.heap.size w w' := by
  obtain ⟨n, hn⟩ : ∃ n, l.length = n := ⟨_, rfl⟩
  rw [hn] at hlen ⊢
  obtain ⟨R, hR⟩ : ∃ R, getL l (bts nm) = R := ⟨_, rfl⟩
  have HR := hidden hR
  have HL := hidden hL
  have HN := hidden hn
  rw [hR]
  clear hR hL hn
  go_enter Tryd.func15, Tryd.ntmps15
  go_wp2
  go_loopw [9] (fun s0 wx => ∃ i : Nat, s0 = .int .i64 (i : Int) ∧ i ≤ n ∧ Hid (getL (l.drop i) (bts nm) = R) ∧ Hid (Below w.heap.size w wx)) (fun s0 _ => n - (intOf s0).toNat)
  case atStart => exact ⟨0, rfl, by omega, hidden (by simpa using HR.out), hidden (Below.refl _ _)⟩
  case round =>
    rename World => wr
    obtain ⟨i, rfl, hi, hrel, hbel⟩ := hrel
    by_cases hlt : i < n
    · have hltz : (i : Int) < (n : Int) := by omega
      obtain ⟨b, off, x, rfl, hb, hx, hx', c0, c1, z0, z1⟩ := (HL.out.later hbel.out).get (i := i) (by rw [HN.out]; exact hlt)
      have hdrop : Hid (l.drop i = x :: l.drop (i + 1)) := by rw [← hx']; exact List.drop_eq_getElem_cons _
      clear hx hx'
      by_cases he : bts x.n = bts nm
      · have hq : (x.n.toList == nm.toList) = true := by rw [toList_bts, toList_bts, he]; simp
        have hR2 : Hid (bts x.v = R) := by have := hrel.out; rw [hdrop.out, getL, if_pos he] at this; exact this
        clear he hrel hdrop
        go_wp2
        go_ret
        exact ⟨_, rfl, hR2.out, hbel.out.alloc hbel.out.size _⟩
      · have hq : (x.n.toList == nm.toList) = false := by rw [toList_bts, toList_bts]; simpa using he
        have hR2 : Hid (getL (l.drop (i + 1)) (bts nm) = R) := by have := hrel.out; rw [hdrop.out, getL, if_neg he] at this; exact this
        clear he hrel hdrop
        go_wp2
        refine ⟨⟨i + 1, by first | rfl | simp, by omega, hR2, hidden (hbel.out.alloc hbel.out.size _)⟩, ?_⟩
        simp [intOf]
        omega
    · have hltz : ¬ (i : Int) < (n : Int) := by omega
      go_wp2
      go_ret
      refine ⟨_, rfl, ?_, hbel.out⟩
      have := hrel.out
      rw [List.drop_of_length_le (by rw [HN.out]; omega)] at this
      rw [← this]; rfl

set_option maxHeartbeats 2000000 in
theorem letterP (x : UInt8) (w : World) : Calls Tryd.prog 68 #[.int .u8 (x.toNat : Int)] w fun e w' => e = .returned (.bool (lett x)) ∧ w' = w := by
  unfold lett
  generalize x.toNat = k
  by_cases h1 : 97 ≤ k <;> by_cases h2 : k ≤ 122 <;> by_cases h3 : 65 ≤ k <;> by_cases h4 : k ≤ 90 <;> by_cases h5 : k = 95 <;> first
    | (exfalso; omega)
    | (have z1 : (97 : Int) ≤ (k : Int) ↔ 97 ≤ k := by omega
       have z2 : (k : Int) ≤ 122 ↔ k ≤ 122 := by omega
       have z3 : (65 : Int) ≤ (k : Int) ↔ 65 ≤ k := by omega
       have z4 : (k : Int) ≤ 90 ↔ k ≤ 90 := by omega
       have z5 : ((k : Int) = 95) ↔ k = 95 := by omega
       have z6 : ((k : Int) == 95) = decide (k = 95) := by rw [Bool.eq_iff_iff]; simp; omega
       go_enter Tryd.func68, Tryd.ntmps68
       go_wp2
       go_ret
       simp [h1, h2, h3, h4, h5, z6])

set_option maxHeartbeats 2000000 in
theorem digitP (x : UInt8) (w : World) : Calls Tryd.prog 69 #[.int .u8 (x.toNat : Int)] w fun e w' => e = .returned (.bool (digi x)) ∧ w' = w := by
  unfold digi
  generalize x.toNat = k
  by_cases h1 : 48 ≤ k <;> by_cases h2 : k ≤ 57 <;> first
    | (exfalso; omega)
    | (have z1 : (48 : Int) ≤ (k : Int) ↔ 48 ≤ k := by omega
       have z2 : (k : Int) ≤ 57 ↔ k ≤ 57 := by omega
       go_enter Tryd.func69, Tryd.ntmps69
       go_wp2
       go_ret
       simp [h1, h2])

/-- A text's byte at a place. -/
theorem byte_at (s : ByteArray) {i : Nat} (h : i < s.size) : ∃ x, s[i] = x ∧ (bts s)[i]? = some x ∧ (bts s).drop i = x :: (bts s).drop (i + 1) := by
  have hl : i < (bts s).length := by rw [← size_bts]; exact h
  refine ⟨s[i], rfl, ?_, ?_⟩
  · rw [List.getElem?_eq_getElem hl]; rfl
  · rw [List.drop_eq_getElem_cons hl]; rfl

set_option maxHeartbeats 2000000 in
theorem wordSizeP (s : ByteArray) (w : World) (hs : s.size ≤ 9223372036854775807) : Calls Tryd.prog 58 #[.string s] w fun e w' => e = .returned (.int .i64 (wsz true (bts s) : Int)) ∧ w' = w := by
  obtain ⟨R, hR⟩ : ∃ R, wsz true (bts s) = R := ⟨_, rfl⟩
  have HR := hidden hR
  rw [hR]
  clear hR
  go_enter Tryd.func58, Tryd.ntmps58
  go_wp2
  go_loopw [3] (fun s0 wx => ∃ i : Nat, s0 = .int .i64 (i : Int) ∧ i ≤ s.size ∧ Hid (i + wsz (i == 0) ((bts s).drop i) = R) ∧ wx = w) (fun s0 _ => s.size - (intOf s0).toNat)
  case atStart => exact ⟨0, rfl, by omega, hidden (by simpa using HR.out), rfl⟩
  case round =>
    obtain ⟨i, rfl, hi, hrel, rfl⟩ := hrel
    by_cases hlt : i < s.size
    · have hltz : (i : Int) < (s.size : Int) := by omega
      obtain ⟨x, hx, hx2, hdr⟩ := byte_at s hlt
      have HD := hidden hdr
      clear hx2 hdr
      have HA : ∀ b : Bool, lead (i == 0) x = b → Hid ((b = true → (i + 1) + wsz false ((bts s).drop (i + 1)) = R) ∧ (b = false → i = R)) := by
        intro b hb
        have := hrel.out
        rw [HD.out, wsz, hb] at this
        refine hidden ⟨fun e => ?_, fun e => ?_⟩
        · rw [e, if_pos rfl] at this; omega
        · rw [e] at this; simpa using this
      cases h1 : lett x with
      | true =>
        have hA := hidden ((HA true (by simp [lead, h1])).out.1 rfl)
        clear HA
        go_wp2_with (go_at_call 68; refine (letterP x _).mono ?_; rintro e w' ⟨rfl, rfl⟩)
        refine ⟨⟨i + 1, by first | rfl | simp, by omega, hidden (by simpa using hA.out), by first | rfl | trivial⟩, ?_⟩
        simp [intOf]
        omega
      | false =>
        by_cases h0 : 0 < i
        · have h0z : (0 : Int) < (i : Int) := by omega
          cases h2 : digi x with
          | true =>
            have hA := hidden ((HA true (by simp [lead, h1, h2]; omega)).out.1 rfl)
            clear HA
            go_wp2_with (first
              | (go_at_call 68; refine (letterP x _).mono ?_; rintro e w' ⟨rfl, rfl⟩)
              | (go_at_call 69; refine (digitP x _).mono ?_; rintro e w' ⟨rfl, rfl⟩))
            refine ⟨⟨i + 1, by first | rfl | simp, by omega, hidden (by simpa using hA.out), by first | rfl | trivial⟩, ?_⟩
            simp [intOf]
            omega
          | false =>
            have hA := hidden ((HA false (by simp [lead, h1, h2])).out.2 rfl)
            clear HA
            go_wp2_with (first
              | (go_at_call 68; refine (letterP x _).mono ?_; rintro e w' ⟨rfl, rfl⟩)
              | (go_at_call 69; refine (digitP x _).mono ?_; rintro e w' ⟨rfl, rfl⟩))
            go_ret
            exact ⟨by rw [hA.out]; rfl, rfl⟩
        · have h0z : ¬ (0 : Int) < (i : Int) := by omega
          have hA := hidden ((HA false (by simp [lead, h1]; omega)).out.2 rfl)
          clear HA
          go_wp2_with (go_at_call 68; refine (letterP x _).mono ?_; rintro e w' ⟨rfl, rfl⟩)
          go_ret
          exact ⟨by rw [hA.out]; rfl, rfl⟩
    · have hltz : ¬ (i : Int) < (s.size : Int) := by omega
      go_wp2
      go_ret
      have := hrel.out
      rw [List.drop_of_length_le (by rw [← size_bts]; omega), wsz] at this
      exact ⟨by rw [← this]; rfl, rfl⟩

theorem empty_bts (s : ByteArray) : (s.toList == ([] : List UInt8)) = decide (bts s = []) := by rw [toList_bts]; cases h : bts s <;> simp
set_option maxHeartbeats 2000000 in
theorem isNameP (s : ByteArray) (w : World) (hs : s.size ≤ 9223372036854775807) : Calls Tryd.prog 48 #[.string s] w fun e w' => e = .returned (.bool (isName (bts s))) ∧ w' = w := by
  have hW := wordSizeP s w hs
  unfold isName
  rw [← size_bts]
  obtain ⟨k, hk⟩ : ∃ k, wsz true (bts s) = k := ⟨_, rfl⟩
  rw [hk] at hW ⊢
  have e0 := empty_bts s
  clear hk
  by_cases h1 : s.size ≤ 32
  · have z1 : (s.size : Int) ≤ 32 := by omega
    by_cases h2 : k = s.size
    · have z2 : ((k : Int) == (s.size : Int)) = true := by simp [h2]
      cases h3 : decide (bts s = []) with
      | true =>
        rw [h3] at e0
        have h3' := of_decide_eq_true h3
        go_enter Tryd.func48, Tryd.ntmps48
        go_wp2_with (go_at_call 58; refine hW.mono ?_; rintro e w' ⟨rfl, rfl⟩)
        go_ret
        simp [e0, h1, h2, h3']
      | false =>
        rw [h3] at e0
        have h3' := of_decide_eq_false h3
        go_enter Tryd.func48, Tryd.ntmps48
        go_wp2_with (go_at_call 58; refine hW.mono ?_; rintro e w' ⟨rfl, rfl⟩)
        go_ret
        simp [e0, h1, h2, h3']
    · have z2 : ((k : Int) == (s.size : Int)) = false := by simp; omega
      have z3 : ¬ ((k : Int) = (s.size : Int)) := by omega
      go_enter Tryd.func48, Tryd.ntmps48
      go_wp2_with (go_at_call 58; refine hW.mono ?_; rintro e w' ⟨rfl, rfl⟩)
      go_ret
      simp [h1, h2]
  · have z1 : ¬ (s.size : Int) ≤ 32 := by omega
    clear hW
    go_enter Tryd.func48, Tryd.ntmps48
    go_wp2
    go_ret
    simp [h1]

def orV (p q : Int) : Int := if p ≠ 0 then p else q
end Go.Proofs.YtanlgplgplncdaaDoor.L

/-
  DERIVED: THE SHELF's CONTRACTS AT THIS DUMP, IN PLAIN WORDS (tools/lay-plain.mjs out of 'YtanlgplgplncdaaDoorShelf.lean', which tools/lay-shelf.mjs wrote): THE SAME DECLARATIONS UNDER THE SAME NAMES: 'import', 'namespace', 'open', 'def', 'theorem' AND NOTHING ELSE: no command of the shelf's: FOR A HAND-IN. Each laying: the table of numbers ('.._ren') and one theorem, a field a fact of the dump's own or the kernel's comparison; each contract: ONE APPLICATION.
-/
namespace Go.Proofs
open Go.Shelf
def Tryd.laysValid_ren : Go.Shelf.Ren := ⟨fun | 196 => 59 | 259 => 70 | n => n, fun | 9 => 9 | 4 => 4 | 3 => 3 | 5 => 5 | 12 => 12 | 119 => 149 | 0 => 0 | 46 => 153 | 139 => 152 | 138 => 151 | 53 => 108 | n => n, fun | 3 => 0 | 4 => 1 | n => n⟩
theorem Tryd.laysValid : Go.Proofs.Lays.n196 Tryd.prog Tryd.laysValid_ren := {
  mixed := by kernel_rfl
  f196 := Tryd.func59.trans (congrArg some (by kernel_rfl))
  f259 := Tryd.func70.trans (congrArg some (by kernel_rfl))
  t0 := Tryd.underlying0
  a0 := Tryd.isAgg0
  z0 := Tryd.sizeOf0
  v0 := Tryd.zeroValue0
  t3 := Tryd.underlying3
  a3 := Tryd.isAgg3
  z3 := Tryd.sizeOf3
  v3 := Tryd.zeroValue3
  t4 := Tryd.underlying4
  a4 := Tryd.isAgg4
  z4 := Tryd.sizeOf4
  v4 := Tryd.zeroValue4
  t5 := Tryd.underlying5
  a5 := Tryd.isAgg5
  z5 := Tryd.sizeOf5
  v5 := Tryd.zeroValue5
  t9 := Tryd.underlying9
  a9 := Tryd.isAgg9
  z9 := Tryd.sizeOf9
  v9 := Tryd.zeroValue9
  t12 := Tryd.underlying12
  a12 := Tryd.isAgg12
  z12 := Tryd.sizeOf12
  v12 := Tryd.zeroValue12
  t46 := Tryd.underlying153
  a46 := Tryd.isAgg153
  z46 := Tryd.sizeOf153
  v46 := Tryd.zeroValue153
  t53 := Tryd.underlying108
  a53 := Tryd.isAgg108
  z53 := Tryd.sizeOf108
  v53 := Tryd.zeroValue108
  t119 := Tryd.underlying149
  a119 := Tryd.isAgg149
  z119 := Tryd.sizeOf149
  t138 := Tryd.underlying151
  a138 := Tryd.isAgg151
  z138 := Tryd.sizeOf151
  v138 := Tryd.zeroValue151
  t139 := Tryd.underlying152
  a139 := Tryd.isAgg152
  z139 := Tryd.sizeOf152
  v139 := Tryd.zeroValue152
  g3 := by kernel_rfl
  g4 := by kernel_rfl }
def Tryd.lays169_ren : Go.Shelf.Ren := ⟨fun | 169 => 20 | n => n, fun | 70 => 61 | 9 => 9 | 0 => 0 | 72 => 64 | 37 => 62 | 127 => 82 | 3 => 3 | 5 => 5 | n => n, fun | n => n⟩
theorem Tryd.lays169 : Go.Proofs.Lays.n169 Tryd.prog Tryd.lays169_ren := {
  mixed := by kernel_rfl
  f169 := Tryd.func20.trans (congrArg some (by kernel_rfl))
  t0 := Tryd.underlying0
  a0 := Tryd.isAgg0
  z0 := Tryd.sizeOf0
  v0 := Tryd.zeroValue0
  t3 := Tryd.underlying3
  a3 := Tryd.isAgg3
  z3 := Tryd.sizeOf3
  v3 := Tryd.zeroValue3
  t9 := Tryd.underlying9
  a9 := Tryd.isAgg9
  z9 := Tryd.sizeOf9
  v9 := Tryd.zeroValue9
  t37 := Tryd.underlying62
  a37 := Tryd.isAgg62
  z37 := Tryd.sizeOf62
  v37 := Tryd.zeroValue62
  t70 := Tryd.underlying61
  a70 := Tryd.isAgg61
  z70 := Tryd.sizeOf61
  v70 := Tryd.zeroValue61
  t72 := Tryd.underlying64
  a72 := Tryd.isAgg64
  z72 := Tryd.sizeOf64
  v72 := Tryd.zeroValue64
  t127 := Tryd.underlying82
  a127 := Tryd.isAgg82
  z127 := Tryd.sizeOf82
  v127 := Tryd.zeroValue82 }
end Go.Proofs
