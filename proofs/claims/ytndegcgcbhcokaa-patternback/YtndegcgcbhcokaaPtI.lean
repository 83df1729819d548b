/-
  The reader: class.
-/
import Derived.Test.YtndegcgcbhcokaaPtH
namespace Go.Proofs.Ytndegcgcbhcokaa
open Go.RowKit
set_option linter.unusedVariables false
set_option linter.unusedSimpArgs false

theorem withF_len : ∀ (l : Sn) (x : Nat × Nat) (ah be : Sn), (withF l x ah be).length ≤ l.length + ah.length + be.length + 1
  | [], x, ah, be => by simp [withF]; omega
  | o :: t, x, ah, be => by
    rw [withF]
    split
    · have := withF_len t x (ah ++ [o]) be; simp at this ⊢; omega
    · split
      · have := withF_len t x ah (be ++ [o]); simp at this ⊢; omega
      · have := withF_len t (min o.1 x.1, max o.2 x.2) ah be; simp at this ⊢; omega
theorem withS_len (l : Sn) (x : Nat × Nat) : (withS l x).length ≤ l.length + 1 := by
  have := withF_len l x [] []
  simpa [withS] using this
def rdAt (r : Nat) (w : World) : Nat := ((w.cell? ⟨r, 1, none⟩).map (fun v => (intOf v).toNat)).getD 0
theorem Rd.at' {w : World} {r : Nat} {s : ByteArray} {a d : Nat} (h : Rd w r s a d) : rdAt r w = a := by
  have c1 : w.cell? ⟨r, 1, none⟩ = some (.int .i64 (a : Int)) := h.cell 1
  rw [rdAt, c1]
  simp [intOf]
theorem span_pos {S : List UInt8} {a : Nat} {x : Nat × Nat} {b : Nat} (h : spanF S a = .ok x b) : a < b := by
  unfold spanF at h
  have key : ∀ {a c b : Nat}, charF S a = .ok c b → a < b := fun {a c b} h => by
    unfold charF at h
    simp only at h
    split at h
    · cases h
    · rename_i c' k hf
      split at h
      · injection h with e1 e2
        have := (fp_len hf).1
        subst e2
        by_cases hd : decide (S[a]? = some 92) = true
        · rw [if_pos hd]; omega
        · rw [if_neg hd]; omega
      · cases h
  cases h1 : charF S a with
  | bad k => rw [h1] at h; cases h
  | out => rw [h1] at h; cases h
  | ok lo b1 =>
    have k1 := key h1
    rw [h1] at h
    simp only at h
    split at h
    · cases h2 : charF S (b1 + 1) with
      | bad k => rw [h2] at h; cases h
      | out => rw [h2] at h; cases h
      | ok hi b2 =>
        have k2 := key h2
        rw [h2] at h
        simp only at h
        split at h
        · cases h
        · injection h with e1 e2; omega
    · injection h with e1 e2; omega

/-- What class answers. -/
def ClR (S : List UInt8) (a : Nat) (neg : Bool) (l : Sn) (b : Nat) (ok : Bool) : Prop := a ≤ b ∧ b ≤ S.length ∧ neg = decide (S[a]? = some 94) ∧ (ok = true → clsF S (S.length + 2) (tkN S a 94) [] = .ok l b) ∧ (ok = false → clsF S (S.length + 2) (tkN S a 94) [] = .bad b)
/-- A class, as a value: its spans lie in blocks of F. -/
def ClV (F : Nat → Prop) (w : World) (v : Value) (neg : Bool) (l : Sn) : Prop := ∃ ad c, v = .iface 100 (.agg #[.bool neg, .slice ad l.length c]) ∧ Ss w ad l ∧ Bd l ∧ ∀ y, l ≠ [] → ad = some y → F y.block

/-- What is held in a round of class. -/
structure CI (w wx : World) (r g : Nat) (s : ByteArray) (d i : Nat) (neg : Bool) (ad : Option Addr) (c n : Nat) (acc : Sn) : Prop where
  rd : Rd wx r s i d
  blk : Blk wx g 100 [.bool neg, .slice ad n c]
  len : acc.length = n
  ss : Ss wx ad acc
  bd : Bd acc
  le : i ≤ (bts s).length
  ni : n ≤ i
  ch : Chg (fun k => k = r) w wx
  own : ∀ y, acc ≠ [] → ad = some y → w.heap.size ≤ y.block ∧ y.block ≠ g
theorem CI.moved {w wx w' : World} {r g : Nat} {s : ByteArray} {d i j : Nat} {neg : Bool} {ad : Option Addr} {c n : Nat} {acc : Sn} (h : CI w wx r g s d i neg ad c n acc) (hr : r < w.heap.size) (hg : w.heap.size ≤ g) (hrd : Rd w' r s j d) (hc : Chg (fun k => k = r) wx w') (hj : j ≤ (bts s).length) (hij : i ≤ j) : CI w w' r g s d j neg ad c n acc := by
  refine ⟨hrd, hc.blk h.blk (fun e => by have e' : g = r := e; omega), h.len, ⟨h.ss.sz, fun h0 => ?_⟩, h.bd, hj, by have := h.ni; omega, h.ch.trans hc (fun _ _ e => e), h.own⟩
  obtain ⟨b, off, e, hb, hcell⟩ := h.ss.at' h0
  have ho := (h.own _ h0 e).1
  have hbk := hc.block b hb (fun e' => by have e'' : b = r := e'; simp only at ho; omega)
  refine ⟨b, off, e, Nat.lt_of_lt_of_le hb hc.size, fun k x hx => ?_⟩
  rw [show w'.cell? ⟨b, off + k * 2, none⟩ = wx.cell? ⟨b, off + k * 2, none⟩ from World.cell?_of_block hbk, show w'.cell? ⟨b, off + k * 2 + 1, none⟩ = wx.cell? ⟨b, off + k * 2 + 1, none⟩ from World.cell?_of_block hbk]
  exact hcell k x hx

theorem CI.next {w w5 w6 : World} {r g : Nat} {s : ByteArray} {d i : Nat} {neg : Bool} {ad a' : Option Addr} {c n c' n' : Nat} {acc l' : Sn} {ob : Obj} (h : CI w w5 r g s d i neg ad c n acc) (hr : r < w.heap.size) (hg : w.heap.size ≤ g) (hb : Below (w5.alloc ob).heap.size (w5.alloc ob) w6)
    (ho : w6.ownsRow (w5.alloc ob).heap.size 93 2 (.slice a' n' c') n' (cS l')) (hbd : Bd l') (hl : l'.length = n') (hn : n' ≤ i) : CI w (w6.setCell ⟨g, 1, none⟩ (.slice a' n' c')) r g s d i neg a' c' n' l' := by
  have hal : Below w5.heap.size w5 w6 := ((Below.refl _ _).alloc (Nat.le_refl _) ob).trans (hb.mono (by simp))
  have hgl := h.blk.lt
  have hcs : Chg (fun k => k = g) w6 (w6.setCell ⟨g, 1, none⟩ (.slice a' n' c')) := Chg.set ⟨g, 1, none⟩ _ _
  have hbase : ∀ b, (Value.slice a' n' c').ownBlock = some b → w5.heap.size + 1 ≤ b := fun b hb' => by have := (ho.lt b hb').1; simpa using this
  have hoS : (w6.setCell ⟨g, 1, none⟩ (.slice a' n' c')).ownsRow (w5.alloc ob).heap.size 93 2 (.slice a' n' c') n' (cS l') := hcs.owns ho (fun b hb' e => by have := hbase b hb'; have e' : b = g := e; omega)
  refine ⟨hcs.blk (h.rd.later hal) (fun e => by have e' : r = g := e; omega), (h.blk.later hal).set 1 _, hl, ss_of_owns hoS hbd, hbd, h.le, hn, (h.ch.trans (Chg.of_below (F := fun _ => False) hal) (fun _ _ e => e.elim)).trans hcs (fun k hk e => by have e' : k = g := e; omega), fun y h0 e => ?_⟩
  subst e
  obtain ⟨a2, c2, e2, _, hsp, _⟩ := owns_formS ho
  injection e2 with e3 _ _
  obtain ⟨z0, z1⟩ := hsp y e3.symm
  obtain ⟨b, off, sp⟩ := y
  simp only at z0 z1
  subst z0 z1
  have := hbase b (by simp [Value.ownBlock])
  have hs5 := h.ch.size
  simp only
  omega

end Go.Proofs.Ytndegcgcbhcokaa
