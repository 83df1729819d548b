/-
  Bytes that come in pieces, and blocks. Nothing of the program.
-/
import Derived.Test.YtfieglepljmmkaaShaM
import Derived.Test.YtfieglepljmmkaaBlk
import Derived.Laws.CopyOwn
namespace Go.Proofs.Ytfieglepljmmkaa
open Go.RowKit
set_option linter.unusedVariables false

theorem absorb_append : ∀ (k : Nat) (M c : List Int), 64 * k ≤ M.length → absorb k (M ++ c) = absorb k M
  | 0, M, c, h => rfl
  | k + 1, M, c, h => by
    rw [absorb, absorb, absorb_append k M c (by omega)]
    congr 1
    rw [List.drop_append_of_le_length (by omega), List.take_append_of_le_length (by simp; omega)]

theorem splice_part {M blk c : List Int} (hb : blk.length = 64) (h : blk.take (M.length % 64) = M.drop (64 * (M.length / 64))) (hc : M.length % 64 + c.length ≤ 64) :
    (splice blk (M.length % 64) c).take (M.length % 64 + c.length) = (M ++ c).drop (64 * (M.length / 64)) ∧ (splice blk (M.length % 64) c).length = 64 := by
  have hl := length_splice blk (M.length % 64) c (by omega)
  refine ⟨?_, by omega⟩
  unfold splice
  rw [h, List.drop_append_of_le_length (by omega), ← List.append_assoc, List.take_append_of_le_length (by simp; omega), List.take_of_length_le (by simp; omega)]

theorem step_some {M blk c : List Int} (hb : blk.length = 64) (h : blk.take (M.length % 64) = M.drop (64 * (M.length / 64))) (hc : M.length % 64 + c.length < 64) :
    absorb ((M ++ c).length / 64) (M ++ c) = absorb (M.length / 64) M ∧ (splice blk (M.length % 64) c).take ((M ++ c).length % 64) = (M ++ c).drop (64 * ((M ++ c).length / 64)) := by
  obtain ⟨h1, h2⟩ := splice_part (c := c) hb h (by omega)
  have e1 : (M ++ c).length / 64 = M.length / 64 := by rw [List.length_append]; omega
  have e2 : (M ++ c).length % 64 = M.length % 64 + c.length := by rw [List.length_append]; omega
  rw [e1, e2]
  exact ⟨absorb_append _ _ _ (by omega), h1⟩
theorem step_full {M blk c : List Int} (hb : blk.length = 64) (h : blk.take (M.length % 64) = M.drop (64 * (M.length / 64))) (hc : M.length % 64 + c.length = 64) :
    absorb ((M ++ c).length / 64) (M ++ c) = comp (absorb (M.length / 64) M) (splice blk (M.length % 64) c) ∧ (splice blk (M.length % 64) c).take ((M ++ c).length % 64) = (M ++ c).drop (64 * ((M ++ c).length / 64)) := by
  obtain ⟨h1, h2⟩ := splice_part (c := c) hb h (by omega)
  have e1 : (M ++ c).length / 64 = M.length / 64 + 1 := by rw [List.length_append]; omega
  have e2 : (M ++ c).length % 64 = 0 := by rw [List.length_append]; omega
  rw [e1, e2]
  constructor
  · rw [absorb, absorb_append _ _ _ (by omega), ← h1, hc, List.take_take, Nat.min_self, List.take_of_length_le (by omega)]
  · rw [List.take_zero, List.drop_eq_nil_of_le (by rw [List.length_append]; omega)]
theorem splice_byte {blk c : List Int} {r : Nat} (h : Byte blk) (k : Byte c) : Byte (splice blk r c) := by
  unfold splice
  exact (h.take _).append (k.append (h.drop _))

/-- The cells of a hash. -/
def hcells (s : St) (m : List Int) (n : Nat) : List Value := wc s.l ++ (cells8 m ++ [.int .u64 (n : Int)])
theorem wl (s : St) : (wc s.l).length = 8 := rfl
theorem hcells_len (s : St) (m : List Int) (n : Nat) (h : m.length = 64) : (hcells s m n).length = 73 := by simp [hcells, wl, cells8_length, h]
theorem hcells_splice (s : St) (m c : List Int) (n r : Nat) (h : m.length = 64) (hc : r + c.length ≤ 64) : splice (hcells s m n) (8 + r) (cells8 c) = hcells s (splice m r c) n := by
  have hm : (cells8 m).length = 64 := by rw [cells8_length, h]
  unfold splice hcells
  rw [List.take_append, wl, List.take_of_length_le (by rw [wl]; omega), show 8 + r - 8 = r by omega, List.take_append_of_le_length (by omega), List.drop_append, wl, List.drop_eq_nil_of_le (by rw [wl]; omega), List.nil_append,
    show 8 + r + (cells8 c).length - 8 = r + c.length by rw [cells8_length]; omega, List.drop_append_of_le_length (by omega)]
  simp [cells8, List.map_take, List.map_drop]
theorem hcells_set (s : St) (m : List Int) (n k : Nat) (h : m.length = 64) : (hcells s m n).set 72 (.int .u64 (k : Int)) = hcells s m k := by
  have hm : (cells8 m).length = 64 := by rw [cells8_length, h]
  unfold hcells
  rw [List.set_append, if_neg (by rw [wl]; omega), wl, List.set_append, if_neg (by omega), hm]
  rfl
theorem hcells_size (s : St) (m : List Int) (n : Nat) (h : m.length = 64) : (hcells s m n)[72]? = some (.int .u64 (n : Int)) := by
  have hm : (cells8 m).length = 64 := by rw [cells8_length, h]
  unfold hcells
  rw [List.getElem?_append_right (by rw [wl]; omega), wl, List.getElem?_append_right (by omega), hm]
  rfl
theorem Blk.words {w : World} {p : Nat} {s : St} {m : List Int} {n : Nat} (h : Blk w p 53 (hcells s m n)) : w.rangeAt p 0 (wc s.l) := by
  intro j v hv
  have hj := (List.getElem?_eq_some_iff.1 hv).1
  rw [Nat.zero_add, h.cell, hcells, List.getElem?_append_left hj]
  exact hv
theorem Blk.bytes {w : World} {p : Nat} {s : St} {m : List Int} {n : Nat} (h : Blk w p 53 (hcells s m n)) : w.rangeAt p 8 (cells8 m) := by
  intro j v hv
  have hj := (List.getElem?_eq_some_iff.1 hv).1
  rw [h.cell, hcells, List.getElem?_append_right (by rw [wl]; omega), wl, Nat.add_sub_cancel_left, List.getElem?_append_left hj]
  exact hv
theorem Blk.setWords {w : World} {p : Nat} {s : St} {m : List Int} {n : Nat} (h : Blk w p 53 (hcells s m n)) (t : St) : Blk (w.setCells p 0 (wc t.l)) p 53 (hcells t m n) := by
  have := Blk.sets (wc t.l) 0 w _ h (by rw [wl]; simp [hcells, wl])
  have e : (hcells s m n).take 0 ++ wc t.l ++ (hcells s m n).drop (0 + (wc t.l).length) = hcells t m n := by
    rw [wl]
    simp only [hcells]
    rw [List.drop_append_of_le_length (by rw [wl]; decide), show (wc s.l).drop (0 + 8) = [] from rfl]
    rfl
  rw [e] at this
  exact this

/-- A hash that has been handed m. -/
def HS (w : World) (p : Nat) (m : List Int) : Prop := Byte m ∧ ∃ blk : List Int, blk.length = 64 ∧ Byte blk ∧ Blk w p 53 (hcells (absorb (m.length / 64) m) blk m.length) ∧ blk.take (m.length % 64) = m.drop (64 * (m.length / 64))

theorem grown_trans {a b c : World} {row : Option Nat} (h : a.grownBy b row) (k : b.grownBy c row) : a.grownBy c row :=
  ⟨k.os.trans h.os, k.tape.trans h.tape, k.output.trans h.output, Nat.le_trans h.size k.size, fun i hi hr => (k.block i (Nat.lt_of_lt_of_le hi h.size) hr).trans (h.block i hi hr)⟩
theorem set_grown (p o : Nat) (v : Value) (w : World) : w.grownBy (w.setCell ⟨p, o, none⟩ v) (some p) :=
  ⟨rfl, rfl, rfl, by simp [World.setCell], fun k _ hk => heap_setCell_other w ⟨p, o, none⟩ k v (fun e => hk (by simp [e]))⟩
theorem sets_grown (p : Nat) : ∀ (vs : List Value) (o : Nat) (w : World), w.grownBy (w.setCells p o vs) (some p)
  | [], o, w => World.grownBy.refl _ _
  | v :: r, o, w => by
    rw [World.setCells]
    exact grown_trans (set_grown p o v w) (sets_grown p r (o + 1) _)
theorem drew_grown (w : World) (row : Option Nat) : w.grownBy w.drew row := ⟨rfl, rfl, rfl, Nat.le_refl _, fun _ _ _ => rfl⟩
theorem below_grown {a b : World} {row : Option Nat} (h : Below a.heap.size a b) : a.grownBy b row := ⟨h.os, h.tape, h.output, h.size, fun i hi _ => h.block i hi⟩
theorem Sl.grown {w w' : World} {ad : Option Addr} {len : Nat} {l : List Int} {p : Nat} (h : Sl w ad len l) (hg : w.grownBy w' (some p)) (hne : ∀ x, ad = some x → 0 < len → x.block ≠ p) : Sl w' ad len l := by
  refine ⟨h.len, h.byte, fun j hj => ?_⟩
  obtain ⟨x, hx, hc⟩ := h.cell j hj
  refine ⟨x, hx, ?_⟩
  have hlt := h.lt x hx (by omega)
  have hb := hg.block x.block hlt (by simpa using hne x hx (by omega))
  rw [← hc]
  exact World.cell?_of_block (by rw [add_block]; exact hb)
theorem Blk.grown {w w' : World} {b p : Nat} {ty : TypeId} {l : List Value} (h : Blk w b ty l) (hg : w.grownBy w' (some p)) (hne : b ≠ p) : Blk w' b ty l := by
  have hl := h.lt
  unfold Blk at *
  rw [hg.block b hl (by simpa using hne)]
  exact h

/-- 'copy' into a variable that is known whole, as a step of a region that draws its order. -/
theorem step_copy_blk {P : Program} {ops : Array Oper} {o : Oper} {a : Act} {w : World} {K : Act → World → Prop} {Q : Exit → Act → World → Prop} {E : Prop} (hgd : o.guard = none) (d s : Operand) (dT sT : TypeId)
    (ho : o.op = .call { callee := .builtin .copy, args := #[d, s], argTypes := #[dT, sT] }) (elem : TypeId) (hu : P.underlying dT = some (.slice elem)) (hsz : (P.info? elem).map (·.size) = some 1)
    (g off dLen dCap : Nat) (ad : Addr) (sLen sCap : Nat) (hd : a.eval d = .slice (some ⟨g, off, none⟩) dLen dCap) (hs : a.eval s = .slice (some ad) sLen sCap)
    (cur : List Value) (t : TypeId) (hB : Blk w g t cur) (cs : List Value) (hn : cs.length = Nat.min sLen dLen)
    (hsrc : ∀ j v, cs[j]? = some v → w.cell? (ad.add j) = some v) (hfit : off + cs.length ≤ cur.length) (h1 : ∀ v ∈ cs, v.oneCell' = true)
    (h : ∀ w', Blk w' g t (splice cur off cs) → w.grownBy w' (some g) → K (a.put o.dst (goInt cs.length)) w') :
    if Region.wanted o (yielded ops a.tmps) = true then Oper.wp P o a w K Q else E := by
  have hw : Region.wanted o (yielded ops a.tmps) = true := by simp [Region.wanted, hgd]
  rw [if_pos hw]
  have hrun := run_copy_row (P := P) w dT sT o.type elem g off dLen dCap ad sLen sCap cur.toArray t cs hu hsz hB hn hsrc (by simpa using hfit) h1
  unfold Oper.wp
  simp [execOp, ho, resolve, invoke, builtin, hd, hs, hrun, Result.andThen]
  refine h _ (show _ = _ by simpa [splice] using setRow_heap w g _ _ t _ hB) ⟨rfl, rfl, rfl, by simp [World.setRow], fun k _ hk => setRow_other w g k _ (fun e => hk (by simp [e]))⟩

end Go.Proofs.Ytfieglepljmmkaa
