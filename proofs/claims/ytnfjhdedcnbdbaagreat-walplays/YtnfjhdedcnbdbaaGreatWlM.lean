/-
  A log: what is meant.
-/
import Derived.Test.YtnfjhdedcnbdbaaGreatFrA
import Derived.Test.YtnfjhdedcnbdbaaGreatDsk
namespace Go.Proofs.YtnfjhdedcnbdbaaGreat
open Go.RowKit
set_option linter.unusedVariables false
set_option linter.unusedSimpArgs false

def mark : List Int := [116, 117, 114, 110, 107, 101, 121, 49]
def low : Nat → Nat → List Int
  | 0, _ => []
  | k + 1, n => ((n % 256 : Nat) : Int) :: low k (n / 256)
theorem low_length : ∀ k n, (low k n).length = k
  | 0, _ => rfl
  | k + 1, n => by simp [low, low_length k]
theorem low_byte : ∀ k n, Byte (low k n)
  | 0, _ => fun x hx => by simp [low] at hx
  | k + 1, n => fun x hx => by
    simp only [low, List.mem_cons] at hx
    rcases hx with rfl | hx
    · omega
    · exact low_byte k _ x hx
theorem num_low : ∀ k n, num (low k n) = n % 256 ^ k
  | 0, n => by simp [low, num, Nat.mod_one]
  | k + 1, n => by
    simp only [low, num, Int.toNat_natCast, num_low k, Nat.pow_succ]
    rw [Nat.mul_comm (256 ^ k) 256, Nat.mod_mul]
theorem low_snoc : ∀ k n, low (k + 1) n = low k n ++ [((n / 256 ^ k % 256 : Nat) : Int)]
  | 0, n => by simp [low]
  | k + 1, n => by
    have ih := low_snoc k (n / 256)
    rw [low, ih]
    simp only [low, List.cons_append]
    rw [Nat.div_div_eq_div_mul, Nat.pow_succ, Nat.mul_comm]
theorem num_snoc : ∀ (l : List Int) (c : Int), num (l ++ [c]) = num l + 256 ^ l.length * c.toNat
  | [], c => by simp [num]
  | x :: l, c => by
    have ih := num_snoc l c
    simp only [List.cons_append, num, ih, List.length_cons]
    rw [Nat.pow_succ, Nat.mul_comm (256 ^ l.length) 256, Nat.mul_assoc, Nat.mul_add]
    omega
theorem num_lt : ∀ (l : List Int), Byte l → num l < 256 ^ l.length
  | [], _ => by simp [num]
  | c :: l, h => by
    have ih := num_lt l (fun x hx => h x (by simp [hx]))
    have hc := h c (by simp)
    simp only [num, List.length_cons, Nat.pow_succ]
    omega
theorem low4 (n : Nat) : low 4 n = w4 n := by
  simp [low, w4, Nat.div_div_eq_div_mul]
theorem mark_byte : Byte mark := by
  intro x hx
  simp only [mark, List.mem_cons, List.not_mem_nil, or_false] at hx
  omega

structure Hd where
  g : Nat
  cap : Nat
  slots : Nat
def okH (g cap slots : Int) : Bool := decide (0 < g ∧ 1024 ≤ cap ∧ cap ≤ 4194304 ∧ 1 ≤ slots ∧ slots ≤ 65536)
def Hd.ok (h : Hd) : Bool := okH h.g h.cap h.slots
theorem Hd.ok_iff (h : Hd) : h.ok = true ↔ 0 < h.g ∧ 1024 ≤ h.cap ∧ h.cap ≤ 4194304 ∧ 1 ≤ h.slots ∧ h.slots ≤ 65536 := by
  simp [Hd.ok, okH]
  omega
def hdata (h : Hd) (s : List Int) : List Int := mark ++ low 8 h.g ++ low 4 h.cap ++ low 4 h.slots ++ s
theorem hdata_length (h : Hd) (s : List Int) : (hdata h s).length = 24 + s.length := by simp [hdata, low_length, mark]; omega
theorem hdata_byte (h : Hd) (s : List Int) (hs : Byte s) : Byte (hdata h s) := (((mark_byte.append (low_byte _ _)).append (low_byte _ _)).append (low_byte _ _)).append hs
def hdOf (d : List Int) : Hd := ⟨num ((d.drop 8).take 8), num ((d.drop 16).take 4), num ((d.drop 20).take 4)⟩
def headIn (k : Int) (d : List Int) : Option (Hd × List Int) := if k = 1 ∧ 24 ≤ d.length ∧ d.take 8 = mark ∧ (hdOf d).ok = true then some (hdOf d, d.drop 24) else none
theorem hdOf_data (h : Hd) (s : List Int) (hg : h.g < 18446744073709551616) (hc : h.cap < 4294967296) (hl : h.slots < 4294967296) : hdOf (hdata h s) = h := by
  have e1 : ((hdata h s).drop 8).take 8 = low 8 h.g := by
    simp only [hdata, List.append_assoc]
    rw [List.drop_append_of_le_length (by simp [mark]), show mark.drop 8 = [] from rfl, List.nil_append, List.take_append_of_le_length (by rw [low_length]; omega), List.take_of_length_le (by rw [low_length]; omega)]
  have e2 : ((hdata h s).drop 16).take 4 = low 4 h.cap := by
    simp only [hdata, List.append_assoc]
    rw [← List.append_assoc, List.drop_append_of_le_length (by simp [mark, low_length]), List.drop_of_length_le (by simp [mark, low_length]), List.nil_append, List.take_append_of_le_length (by rw [low_length]; omega), List.take_of_length_le (by rw [low_length]; omega)]
  have e3 : ((hdata h s).drop 20).take 4 = low 4 h.slots := by
    simp only [hdata, List.append_assoc]
    rw [← List.append_assoc, ← List.append_assoc, List.drop_append_of_le_length (by simp [mark, low_length]), List.drop_of_length_le (by simp [mark, low_length]), List.nil_append, List.take_append_of_le_length (by rw [low_length]; omega), List.take_of_length_le (by rw [low_length]; omega)]
  unfold hdOf
  rw [e1, e2, e3, num_low, num_low, num_low, Nat.mod_eq_of_lt (by simpa using hg), Nat.mod_eq_of_lt (by simpa using hc), Nat.mod_eq_of_lt (by simpa using hl)]
theorem headIn_data (h : Hd) (s : List Int) (ho : h.ok = true) (hg : h.g < 18446744073709551616) : headIn 1 (hdata h s) = some (h, s) := by
  have hk := h.ok_iff.1 ho
  have e := hdOf_data h s hg (by omega) (by omega)
  have et : (hdata h s).take 8 = mark := by
    simp only [hdata, List.append_assoc]
    rw [List.take_append_of_le_length (by simp [mark])]
    rfl
  unfold headIn
  rw [e, if_pos ⟨rfl, by rw [hdata_length]; omega, et, ho⟩]
  simp only [hdata]
  rw [List.drop_append_of_le_length (by simp [mark, low_length]), List.drop_of_length_le (by simp [mark, low_length]), List.nil_append]
theorem headIn_some {k : Int} {d : List Int} {h : Hd} {s : List Int} (e : headIn k d = some (h, s)) : k = 1 ∧ 24 ≤ d.length ∧ d.take 8 = mark ∧ h = hdOf d ∧ s = d.drop 24 ∧ h.ok = true := by
  unfold headIn at e
  split at e
  · rename_i hh
    simp only [Option.some.injEq, Prod.mk.injEq] at e
    obtain ⟨rfl, rfl⟩ := e
    exact ⟨hh.1, hh.2.1, hh.2.2.1, rfl, rfl, hh.2.2.2⟩
  · cases e

/-- A file's head. -/
def headAt (l : List Int) : Option (Hd × List Int) := match frames l with | [] => none | x :: _ => headIn x.1 x.2
/-- Frames that a log may have. -/
def good (h : Hd) (fs : List (Int × List Int)) : Bool := decide (h.g < 9223372036854775808 ∧ fsz fs ≤ h.cap) && fs.tail.all (fun x => decide (x.1 = 2))
theorem good_pre {h : Hd} {a b : List (Int × List Int)} (ha : a ≠ []) (hg : good h (a ++ b) = true) : good h a = true := by
  simp only [good, Bool.and_eq_true, decide_eq_true_eq, fsz_append, List.tail_append_of_ne_nil ha, List.all_append] at hg ⊢
  exact ⟨⟨hg.1.1, by omega⟩, hg.2.1⟩

def St.file (S : St) (i : Nat) : List Int := match S.L[i]? with | some x => x.b | none => []
/-- A log. -/
structure Lw where
  falls : Nat
  live : Nat
  h : Hd
structure Fnd where
  live : Nat
  h : Hd
  state : List Int
  recs : List (List Int)
  whole : Nat
def finS (S : St) (i : Nat) (a : Hd × List Int) : Except Int Fnd := if good a.1 (frames (S.file i)) = true then .ok ⟨i, a.1, a.2, (frames (S.file i)).tail.map (·.2), fsz (frames (S.file i))⟩ else .error 62
def St.find (S : St) : Except Int Fnd :=
  if S.on = false then .error 40 else if S.L.length < 2 then .error 61 else
  match headAt (S.file 0), headAt (S.file 1) with
  | none, none => .error 61
  | some a, none => finS S 0 a
  | none, some b => finS S 1 b
  | some a, some b => if a.1.g = b.1.g then .error 62 else if a.1.g < b.1.g then finS S 1 b else finS S 0 a
def St.cutLive (S : St) (live : Nat) (n : Nat) : Int × St := if (n : Int) < S.size live then S.truncate live n else (0, S)
def St.cutOther (S : St) (live : Nat) : Int × St := if 0 < S.size (1 - live : Int) then S.truncate (1 - live : Int) 0 else (0, S)
def St.cutRest (S : St) (live : Nat) (n : Nat) : Int × St := if (S.cutLive live n).1 ≠ 0 then S.cutLive live n else (S.cutLive live n).2.cutOther live
/-- Open: what it answers, and the disk behind it. -/
def St.opens (S : St) : Except Int Fnd × St := match S.find with
  | .error e => (.error e, S)
  | .ok x => if (S.cutRest x.live x.whole).1 ≠ 0 then (.error (S.cutRest x.live x.whole).1, (S.cutRest x.live x.whole).2) else (.ok x, (S.cutRest x.live x.whole).2)
def St.put (S : St) (f k : Int) (l : List Int) : Int × St := if (S.append f (made k l)).1 ≠ 0 then S.append f (made k l) else (S.append f (made k l)).2.sync f
def weight (n : Int) : Int := if n < 0 ∨ 4194280 < n then 0 else n + 33
def fitsU (cap : Int) (n : Nat) : Bool := decide (0 < weight n ∧ weight n ≤ cap)
def St.lay (S : St) (f : Int) (h : Hd) (s : List Int) : Int × St := S.put f 1 (hdata h s)
def St.format (S : St) (cap slots : Int) (s : List Int) : Int × St :=
  if S.L.length < 2 ∨ okH 1 cap slots = false then (1, S) else if fitsU cap s.length = false then (60, S) else
  if (S.truncate 0 0).1 ≠ 0 then S.truncate 0 0 else if ((S.truncate 0 0).2.truncate 1 0).1 ≠ 0 then (S.truncate 0 0).2.truncate 1 0 else
  ((S.truncate 0 0).2.truncate 1 0).2.put 0 1 (hdata ⟨1, cap.toNat, slots.toNat⟩ s)
def St.bytes (S : St) (l : Lw) : Int := if S.falls = l.falls then S.size l.live else 0
def St.fits (S : St) (l : Lw) (n : Int) : Bool := decide (0 ≤ n ∧ n ≤ 4194304 ∧ S.bytes l + (n + 9) ≤ l.h.cap)
def St.wappend (S : St) (l : Lw) (r : List Int) : Int × St := if S.falls ≠ l.falls then (40, S) else if S.fits l r.length = false then (60, S) else S.put l.live 2 r
def Hd.next (h : Hd) : Hd := ⟨(h.g + 1) % 18446744073709551616, h.cap, h.slots⟩
def St.check1 (S : St) (l : Lw) : Int × St := S.truncate (1 - l.live : Int) 0
def St.check2 (S : St) (l : Lw) (s : List Int) : Int × St := (S.check1 l).2.put (1 - l.live : Int) 1 (hdata l.h.next s)
def St.check3 (S : St) (l : Lw) (s : List Int) : Int × St := (S.check2 l s).2.truncate l.live 0
def St.wcheck (S : St) (l : Lw) (s : List Int) : Int × St × Lw :=
  if S.falls ≠ l.falls then (40, S, l) else if fitsU l.h.cap s.length = false then (60, S, l) else
  if (S.check1 l).1 ≠ 0 then ((S.check1 l).1, (S.check1 l).2, l) else
  if (S.check2 l s).1 ≠ 0 then ((S.check2 l s).1, (S.check2 l s).2, l) else
  if (S.check3 l s).1 ≠ 0 then ((S.check3 l s).1, (S.check3 l s).2, l) else
  (0, (S.check3 l s).2, ⟨l.falls, 1 - l.live, l.h.next⟩)
/-- A log that may be. -/
structure Lw.fine (l : Lw) : Prop where
  live : l.live ≤ 1
  g : l.h.g < 18446744073709551616
  cap : l.h.cap ≤ 4194304
  slots : l.h.slots ≤ 65536
  falls : l.falls ≤ 1099511627776
theorem Lw.fine.next {l : Lw} (h : l.fine) : (⟨l.falls, 1 - l.live, l.h.next⟩ : Lw).fine := ⟨by show 1 - l.live ≤ 1; omega, by show (l.h.g + 1) % 18446744073709551616 < _; omega, h.cap, h.slots, h.falls⟩
/-- A log in memory. -/
def Lg (lt : TypeId) (w : World) (lp p : Nat) (l : Lw) : Prop := Blk w lp lt [.pointer (some ⟨p, 0, none⟩), .int .i64 (l.falls : Int), .int .i64 (l.live : Int), .int .u64 (l.h.g : Int), .int .i64 (l.h.cap : Int), .int .i64 (l.h.slots : Int)]

end Go.Proofs.YtnfjhdedcnbdbaaGreat
