import Derived.WalkKit
import Derived.WalkSpells
import Derived.WalkLawsBesides
import Derived.Laws.CopyOwn
import Derived.Laws.AppendOwnNone
import Derived.Laws.BytesArg
import Derived.Lib.SlBytesConst
import Derived.Laws.BitsAllLaws
/-
  Slices of bytes: what a slice reads as (Sl), what a call owns; 'make' with a length and a greater capacity. Nothing of the program.
-/
namespace Go.Proofs.YtalmpmhnkilalaaGreatDoor
open Go.RowKit
set_option linter.unusedVariables false

/-- The cells of bytes. -/
def cells8 (l : List Int) : List Value := l.map (Value.int .u8)
theorem cells8_length (l : List Int) : (cells8 l).length = l.length := by simp [cells8]
theorem cells8_append (l m : List Int) : cells8 (l ++ m) = cells8 l ++ cells8 m := by simp [cells8]
theorem cells8_one (l : List Int) : ∀ u ∈ cells8 l, u.oneCell' = true := ints_oneCell .u8 l
def Byte (l : List Int) : Prop := ∀ n ∈ l, 0 ≤ n ∧ n ≤ 255
theorem Byte.append {l m : List Int} (h : Byte l) (k : Byte m) : Byte (l ++ m) := by
  intro n hn
  rcases List.mem_append.1 hn with h1 | h1
  · exact h n h1
  · exact k n h1
theorem Byte.take {l : List Int} (h : Byte l) (k : Nat) : Byte (l.take k) := fun n hn => h n (List.mem_of_mem_take hn)
theorem Byte.drop {l : List Int} (h : Byte l) (k : Nat) : Byte (l.drop k) := fun n hn => h n (List.mem_of_mem_drop hn)
theorem Byte.at {l : List Int} (h : Byte l) (k : Nat) : 0 ≤ l.getD k 0 ∧ l.getD k 0 ≤ 255 := by
  by_cases hk : k < l.length
  · have := h l[k] (List.getElem_mem hk)
    simpa [List.getD, hk] using this
  · simp [List.getD, hk]

/-- What a slice of bytes reads as. -/
structure Sl (w : World) (ad : Option Addr) (k : Nat) (l : List Int) : Prop where
  len : l.length = k
  byte : Byte l
  cell : ∀ j, j < k → ∃ x, ad = some x ∧ w.cell? (x.add j) = some (.int .u8 (l.getD j 0))

theorem Sl.nil (w : World) (ad : Option Addr) : Sl w ad 0 [] := ⟨rfl, fun n hn => absurd hn (by simp), fun j hj => absurd hj (by omega)⟩

/-- Its address, where it has an element. -/
theorem Sl.at {w : World} {ad : Option Addr} {len : Nat} {l : List Int} (h : Sl w ad len l) (hp : 0 < len) :
    ∃ b off, ad = some ⟨b, off, none⟩ ∧ b < w.heap.size ∧ ∀ j, j < len → w.cell? ⟨b, off + j, none⟩ = some (.int .u8 (l.getD j 0)) := by
  obtain ⟨x, hx, hc⟩ := h.cell 0 hp
  obtain ⟨b, off, sp⟩ := x
  have hs : sp = none := by simpa [Addr.add] using World.cell?_spot hc
  subst hs
  refine ⟨b, off, hx, ?_, fun j hj => ?_⟩
  · exact World.block_lt_of_cell? w _ hc
  · obtain ⟨y, hy, hd⟩ := h.cell j hj
    rw [hx] at hy
    obtain rfl := Option.some.inj hy
    simpa [Addr.add_lit] using hd

theorem Sl.cells {w : World} {x : Addr} {len : Nat} {l : List Int} (h : Sl w (some x) len l) : ∀ j u, (cells8 l)[j]? = some u → w.cell? (x.add j) = some u := by
  intro j u hu
  have hj : j < len := by
    have := (List.getElem?_eq_some_iff.1 hu).1
    rw [cells8_length, h.len] at this
    exact this
  obtain ⟨y, hy, hd⟩ := h.cell j hj
  obtain rfl := Option.some.inj hy
  rw [hd]
  have hl : j < l.length := by rw [h.len]; exact hj
  simpa [cells8, List.getD, hl] using hu

/-- What was read is read below. -/
theorem add_block (x : Addr) (j : Nat) : (x.add j).block = x.block := by
  unfold Addr.add
  split <;> rfl
theorem Sl.below {w w' : World} {ad : Option Addr} {len : Nat} {l : List Int} (h : Sl w ad len l) {B : Nat} (hb : Below B w w') (hlt : ∀ x, ad = some x → 0 < len → x.block < B) : Sl w' ad len l := by
  refine ⟨h.len, h.byte, fun j hj => ?_⟩
  obtain ⟨x, hx, hc⟩ := h.cell j hj
  refine ⟨x, hx, ?_⟩
  rw [hb.cell (p := x.add j) (by rw [add_block]; exact hlt x hx (by omega))]
  exact hc
theorem Sl.lt {w : World} {ad : Option Addr} {len : Nat} {l : List Int} (h : Sl w ad len l) : ∀ x, ad = some x → 0 < len → x.block < w.heap.size := by
  intro x hx hp
  obtain ⟨y, hy, hc⟩ := h.cell 0 hp
  rw [hx] at hy
  obtain rfl := Option.some.inj hy
  have := World.block_lt_of_cell? w _ hc
  rwa [add_block] at this
theorem Sl.later {w w' : World} {ad : Option Addr} {len : Nat} {l : List Int} (h : Sl w ad len l) (hb : Below w.heap.size w w') : Sl w' ad len l := h.below hb h.lt

/-- A part of what is read. -/
theorem Sl.cut {w : World} {b off len K N : Nat} {l : List Int} (h : Sl w (some ⟨b, off, none⟩) len l) (hk : K + N ≤ len) {ad : Option Addr} (hd : 0 < N → ad = some ⟨b, off + K, none⟩) : Sl w ad N ((l.drop K).take N) := by
  have hl := h.len
  refine ⟨by simp; omega, (h.byte.drop K).take N, fun j hj => ⟨⟨b, off + K, none⟩, hd (by omega), ?_⟩⟩
  obtain ⟨x, hx, hc⟩ := h.cell (K + j) (by omega)
  obtain rfl := Option.some.inj hx
  rw [Addr.add_lit] at hc ⊢
  rw [Nat.add_assoc, hc]
  congr 2
  simp [List.getD, List.getElem?_drop, hj]

/-- A row that is owned is read. -/
theorem sl_of_owns {w : World} {base : Nat} {ad : Option Addr} {n cap : Nat} {l : List Int} (h : w.ownsRow base 5 1 (.slice ad n cap) n (cells8 l)) (hb : Byte l) : Sl w ad n l := by
  have hlen : l.length = n := by have := h.1; rw [cells8_length] at this; omega
  refine ⟨hlen, hb, fun j hj => ?_⟩
  rcases h.2 with ⟨_, h0⟩ | ⟨g, c, cur, hv, _⟩
  · omega
  · simp only [Value.slice.injEq] at hv
    obtain ⟨rfl, _, rfl⟩ := hv
    refine ⟨_, rfl, ?_⟩
    rw [Addr.add_lit, h.cellAt (0 + j) (by omega)]
    simp [cells8, List.getD, show j < l.length by omega]

/-- A row that is laid is read, whatever its mark. -/
theorem sl_lit (w : World) (l : List Int) (hb : Byte l) (e : TypeId) (fr : Nat × Nat) (n : Nat) (hn : l.length = n) (C : Array Value) (hC : C = (cells8 l).toArray) (g : Nat) (hg : g = w.heap.size) : Sl (w.alloc (.cells C e fr)) (some ⟨g, 0, none⟩) n l := by
  subst hg
  refine ⟨hn, hb, fun j hj => ⟨_, rfl, ?_⟩⟩
  subst hC
  rw [Addr.add_lit, World.cell?_alloc_mark]
  simp [cells8, List.getD, show j < l.length by omega]

/-- 'string(b)'. -/
theorem run_string_of {P : Program} (src e dst : TypeId) (hs : P.underlying src = some (.slice e)) (he : P.underlying e = some (.int .u8)) (hd : P.underlying dst = some .string)
    {w : World} {ad : Option Addr} {len cap : Nat} {l : List Int} (h : Sl w ad len l) : (convert src dst (.slice ad len cap)).run P w = .ok (.string (strOfNums l)) w := by
  cases ad with
  | none =>
    have h0 : len = 0 := by
      rcases Nat.eq_zero_or_pos len with h0 | h0
      · exact h0
      · obtain ⟨x, hx, _⟩ := h.cell 0 h0
        cases hx
    subst h0
    have hl : l = [] := List.eq_nil_of_length_eq_zero h.len
    subst hl
    exact run_convert_bytes_nil w src e hs he 0 cap dst hd
  | some x =>
    have hl : (loadCells x len).run P w = .ok (l.map (Value.int .u8)).toArray w := by
      have := run_loadCells_list (P := P) w x (cells8 l) h.cells
      rw [cells8_length, h.len] at this
      exact this
    rw [run_convert_bytes_string w src dst e _ len cap hs he hd, run_bytesToString w _ len cap l hl, foldl_push_bytes]
    simp [strOfNums, ByteArray.empty, ByteArray.emptyWithCapacity]
    rfl

/-- 'make([]T, l, c)'. -/
theorem wpList_make_room {P : Program} (w : World) {ops : Array Oper} {rest : List Oper} {o : Oper} {a : Act} {Q : Exit → Act → World → Prop}
    (hg : o.guard = none) (l c : Operand) (t : TypeId) (hop : o.op = Op.makeSlice t l c)
    (e : TypeId) (i : TypeInfo) (z : Value) (h1 : P.underlying t = some (.slice e)) (h2 : P.info? e = some i) (h3 : i.zero = some z) (h4 : i.size = 1) (h5 : i.bytes = 1) (h6 : z.cells = #[z])
    (kl kc : IntKind) (L C : Int) (n m : Nat) (hl : a.eval l = .int kl L) (hc : a.eval c = .int kc C) (hL : L = (n : Int)) (hC : C = (m : Int)) (hnm : n ≤ m) (b2 : m ≤ 281474976710656)
    (hK : ∀ w', w'.heap[w.heap.size]? = some (.cells (List.replicate m z).toArray e (0, 0)) → w'.heap.size = w.heap.size + 1 → Below w.heap.size w w' → wpList P ops Q rest (a.put o.dst (.slice (some ⟨w.heap.size, 0, none⟩) n m)) w') :
    wpList P ops Q (o :: rest) a w := by
  refine wpList_plain hg fun K hK' => ?_
  subst hL; subst hC
  have hr := run_make (P := P) w t e i z h1 h2 h3 kl kc n m (by omega) (by omega) (by rw [h5]; omega) (by omega)
  rw [h4, h6] at hr
  simp only [Int.toNat_natCast, Nat.mul_one] at hr
  unfold Oper.wp
  simp [execOp, hop, hl, hc, hr, Result.andThen]
  refine hK' _ _ (hK _ ?_ (by simp) ((Below.refl _ _).alloc (Nat.le_refl _) _))
  rw [heap_alloc_new w]
  have := toList_madeCells_one z m
  rw [← this]

end Go.Proofs.YtalmpmhnkilalaaGreatDoor

/-
  More on slices of bytes that a call owns: an append of whatever is read. Nothing of the program.
-/
namespace Go.Proofs.YtalmpmhnkilalaaGreatDoor
open Go.RowKit
set_option linter.unusedVariables false

theorem owns_cap {w : World} {base : Nat} {e : TypeId} {ad : Option Addr} {n cap m : Nat} {xs : List Value} (h : w.ownsRow base e 1 (.slice ad n cap) m xs) : n = m ∧ m ≤ cap ∧ cap ≤ maxLen ∧ (ad = none → m = 0 ∧ cap = 0) := by
  rcases h.2 with ⟨h1, h2⟩ | ⟨g, c, cur, h1, _, _, h3, h4, _⟩
  · simp only [Value.slice.injEq] at h1
    obtain ⟨rfl, rfl, rfl⟩ := h1
    exact ⟨h2.symm, by omega, by unfold maxLen; omega, fun _ => ⟨h2, rfl⟩⟩
  · simp only [Value.slice.injEq] at h1
    obtain ⟨rfl, rfl, rfl⟩ := h1
    exact ⟨rfl, h3, h4, fun h => by cases h⟩

/-- What is owned, written out. -/
theorem owns_form {w : World} {base : Nat} {e : TypeId} {v : Value} {n : Nat} {xs : List Value} (h : w.ownsRow base e 1 v n xs) : ∃ ad c, v = .slice ad n c := by
  rcases h.2 with ⟨h1, h2⟩ | ⟨g, c, cur, h1, _⟩
  · subst h2; exact ⟨_, _, h1⟩
  · exact ⟨_, _, h1⟩

/-- 'append(v, s...)', v the call's own, s whatever is read. -/
theorem wpList_append_sl {P : Program} (w : World) {ops : Array Oper} {rest : List Oper} {o : Oper} {a : Act} {Q : Exit → Act → World → Prop} (hgd : o.guard = none) (s x : Operand) (t : TypeId)
    (ho : o.op = .call { callee := .builtin .append, args := #[s, x], argTypes := #[t, t] })
    (base : Nat) (e : TypeId) (i : TypeInfo) (z : Value) (ht : P.underlying t = some (.slice e)) (hi : P.info? e = some i) (hz : i.zero = some z)
    (hsize : i.size = 1) (hby : i.bytes = 1) (hzs : z.cells.size = 1)
    (v : Value) (n : Nat) (xs : List Int) (hs : a.eval s = v) (hown : w.ownsRow base e 1 v n (cells8 xs))
    (ad : Option Addr) (m c : Nat) (l : List Int) (hx : a.eval x = .slice ad m c) (hsl : Sl w ad m l) (hnone : ad = none → m = 0 ∧ c = 0)
    (hbytes : n + m ≤ 140737488355328) (hbase : base ≤ w.heap.size)
    (h : ∀ ad' c' w', w'.ownsRow base e 1 (.slice ad' (n + m) c') (n + m) (cells8 (xs ++ l)) → w.grownBy w' v.ownBlock → wpList P ops Q rest (a.put o.dst (.slice ad' (n + m) c')) w') : wpList P ops Q (o :: rest) a w := by
  cases ad with
  | none =>
    obtain ⟨rfl, rfl⟩ := hnone rfl
    have hl : l = [] := List.eq_nil_of_length_eq_zero hsl.len
    subst hl
    refine wpList_append_own_none hgd s x t ho base e i 1 ht hi v n _ hs hown hx ?_
    obtain ⟨ad', c', rfl⟩ := owns_form hown
    exact h ad' c' w (by simpa using hown) (World.grownBy.refl _ _)
  | some x' =>
    refine wpList_append_own w hgd s x t ho base e i z 1 1 ht hi hz hsize hby hzs (by omega) v n _ hs hown x' m c (cells8 l) hx (by rw [cells8_length, hsl.len]; omega) hsl.cells (cells8_one l) (by unfold maxLen; omega) (by omega) hbase ?_
    intro v' w' h1 h2 _
    obtain ⟨ad', c', rfl⟩ := owns_form h1
    rw [← cells8_append] at h1
    exact h ad' c' w' h1 h2

theorem grown_below {base : Nat} {w w' : World} {v : Value} {e : TypeId} {size n : Nat} {xs : List Value} (hg : w.grownBy w' v.ownBlock) (hown : w.ownsRow base e size v n xs) (hb : base ≤ w.heap.size) : Below base w w' :=
  (Below.refl _ _).grown hg hb (fun k hk => (hown.lt k hk).1)

theorem Sl.take {w : World} {ad : Option Addr} {len N : Nat} {l : List Int} (h : Sl w ad len l) (hk : N ≤ len) : Sl w ad N (l.take N) := by
  have hl := h.len
  refine ⟨by simp; omega, h.byte.take N, fun j hj => ?_⟩
  obtain ⟨x, hx, hc⟩ := h.cell j (by omega)
  refine ⟨x, hx, ?_⟩
  rw [hc]
  congr 2
  simp [List.getD, hj]

end Go.Proofs.YtalmpmhnkilalaaGreatDoor

/-
  Bits of bytes, as lists of truths. Nothing of the program.
-/
namespace Go.Proofs.YtalmpmhnkilalaaGreatDoor
open Go.RowKit
set_option linter.unusedVariables false

/-- Bit i of bytes, the highest of the first byte first. -/
def bt (R : List Int) (i : Nat) : Bool := (R.getD (i / 8) 0).toNat.testBit (7 - i % 8)
/-- The low k bits of v, the highest first. -/
def low (v k : Nat) : List Bool := (List.range k).map (fun i => v.testBit (k - 1 - i))
/-- The bytes hold the row, and noughts behind it. -/
def Rep (R : List Int) (L : List Bool) : Prop := ∀ i, bt R i = L.getD i false

theorem low_len (v k : Nat) : (low v k).length = k := by simp [low]
theorem low_at (v k i : Nat) : (low v k).getD i false = (decide (i < k) && v.testBit (k - 1 - i)) := by
  by_cases h : i < k
  · simp [low, List.getD, h]
  · simp [low, List.getD, h]
theorem bt_beyond (R : List Int) (i : Nat) (h : 8 * R.length ≤ i) : bt R i = false := by
  unfold bt
  rw [List.getD_eq_getElem?_getD, List.getElem?_eq_none (by omega)]
  simp
theorem Rep.nil : Rep [] [] := fun i => by simp [bt]
theorem getD_append (L M : List Bool) (i : Nat) : (L ++ M).getD i false = if i < L.length then L.getD i false else M.getD (i - L.length) false := by
  split
  · next h => simp [List.getD, List.getElem?_append_left h]
  · next h => simp [List.getD, List.getElem?_append_right (Nat.le_of_not_lt h)]

theorem list_ext {L M : List Bool} (hl : L.length = M.length) (h : ∀ i, i < L.length → L.getD i false = M.getD i false) : L = M := by
  refine List.ext_getElem hl (fun i h1 h2 => ?_)
  have := h i h1
  simpa [List.getD, h1, h2] using this

theorem low_cut (v k t : Nat) (h : t ≤ k) : low v k = (low v k).take t ++ low v (k - t) := by
  refine list_ext (by simp [low_len]; omega) (fun i hi => ?_)
  rw [getD_append, low_at, low_at]
  rw [low_len] at hi
  have hm : ((low v k).take t).length = t := by simp [low_len]; omega
  rw [hm]
  by_cases h2 : i < t
  · rw [if_pos h2]
    have e : ((low v k).take t).getD i false = (low v k).getD i false := by simp [List.getD, h2]
    rw [e, low_at]
  · rw [if_neg h2]
    have a1 : decide (i < k) = true := by simpa using hi
    have a2 : decide (i - t < k - t) = true := by simp; omega
    rw [a1, a2, show k - t - 1 - (i - t) = k - 1 - i by omega]
theorem low_take_at (v k t i : Nat) (h : t ≤ k) : ((low v k).take t).getD i false = (decide (i < t) && v.testBit (k - 1 - i)) := by
  by_cases h2 : i < t
  · have e : ((low v k).take t).getD i false = (low v k).getD i false := by simp [List.getD, h2]
    rw [e, low_at]
    have a1 : decide (i < k) = true := by simp; omega
    rw [a1]
    simp [h2]
  · rw [List.getD_eq_getElem?_getD, List.getElem?_eq_none (by simp; omega)]
    simp [h2]

theorem byte_bits {x : Nat} (h : x < 256) (j : Nat) (hj : 8 ≤ j) : x.testBit j = false :=
  Nat.testBit_lt_two_pow (Nat.lt_of_lt_of_le h (by
    have : 2 ^ 8 ≤ 2 ^ j := Nat.pow_le_pow_right (by omega) hj
    omega))

theorem bt_set (R : List Int) (q : Nat) (x : Int) (hq : q < R.length) (i : Nat) : bt (R.set q x) i = if i / 8 = q then x.toNat.testBit (7 - i % 8) else bt R i := by
  unfold bt
  by_cases h : i / 8 = q
  · rw [if_pos h, h]
    simp [List.getD, hq]
  · rw [if_neg h]
    simp [List.getD, List.getElem?_set_ne (Ne.symm h)]

/-- A piece is put into a byte. -/
theorem put_piece {R : List Int} {L : List Bool} (h : Rep R L) (s free take left v x : Nat) (hs : L.length = s) (hq : s / 8 < R.length) (hf : free = 8 - s % 8) (ht : take ≤ free) (htl : take ≤ left)
    (hx : x = (R.getD (s / 8) 0).toNat ||| (((v / 2 ^ (left - take)) % 2 ^ take) * 2 ^ (free - take))) :
    Rep (R.set (s / 8) (x : Int)) (L ++ (low v left).take take) := by
  intro i
  rw [bt_set R _ _ hq, getD_append, hs]
  by_cases hi : i / 8 = s / 8
  · rw [if_pos hi, Int.toNat_natCast, hx, Nat.testBit_or, Nat.testBit_mul_two_pow, Nat.testBit_mod_two_pow, Nat.testBit_div_two_pow]
    have hb : (R.getD (s / 8) 0).toNat.testBit (7 - i % 8) = L.getD i false := by
      have := h i
      unfold bt at this
      rw [hi] at this
      exact this
    rw [hb]
    by_cases h1 : i < s
    · rw [if_pos h1]
      have a : decide (7 - i % 8 - (free - take) < take) = false := by simp; omega
      simp [a]
    · rw [if_neg h1, low_take_at _ _ _ _ htl]
      have e0 : L.getD i false = false := by simp [List.getD, show L.length ≤ i by omega]
      rw [e0, Bool.false_or]
      by_cases h2 : i - s < take
      · have a : decide (7 - i % 8 - (free - take) < take) = true := by simp; omega
        have b : decide (free - take ≤ 7 - i % 8) = true := by simp; omega
        have c : decide (i - s < take) = true := by simp; omega
        rw [a, b, c, Bool.true_and, Bool.true_and, Bool.true_and]
        congr 1
        omega
      · have c : decide (i - s < take) = false := by simp; omega
        have b : decide (free - take ≤ 7 - i % 8) = false := by simp; omega
        rw [b, c, Bool.false_and, Bool.false_and]
  · rw [if_neg hi, h i]
    by_cases h1 : i < s
    · rw [if_pos h1]
    · rw [if_neg h1, low_take_at _ _ _ _ htl]
      have e0 : L.getD i false = false := by simp [List.getD, show L.length ≤ i by omega]
      have c : decide (i - s < take) = false := by simp; omega
      rw [e0, c, Bool.false_and]
theorem piece_lt (y v k free take : Nat) (hy : y < 256) (hf : free ≤ 8) (ht : take ≤ free) : y ||| ((v / 2 ^ k % 2 ^ take) * 2 ^ (free - take)) < 256 := by
  have h1 : (v / 2 ^ k % 2 ^ take) * 2 ^ (free - take) < 2 ^ 8 := by
    have a : v / 2 ^ k % 2 ^ take < 2 ^ take := Nat.mod_lt _ (Nat.two_pow_pos _)
    have b : (v / 2 ^ k % 2 ^ take) * 2 ^ (free - take) < 2 ^ take * 2 ^ (free - take) := Nat.mul_lt_mul_of_pos_right a (Nat.two_pow_pos _)
    rw [← Nat.pow_add] at b
    exact Nat.lt_of_lt_of_le b (Nat.pow_le_pow_right (by omega) (by omega))
  exact Nat.or_lt_two_pow (n := 8) hy h1

/-- Noughts behind: a cut. -/
theorem Rep.pad {R : List Int} {L : List Bool} (h : Rep R L) (k : Nat) : Rep (R ++ List.replicate k 0) L := by
  intro i
  rw [← h i]
  unfold bt
  by_cases h1 : i / 8 < R.length
  · simp [List.getD, List.getElem?_append_left h1]
  · have e : (R ++ List.replicate k 0).getD (i / 8) 0 = 0 := by
      rw [List.getD_eq_getElem?_getD, List.getElem?_append_right (by omega), List.getElem?_replicate]
      split <;> rfl
    rw [e, List.getD_eq_getElem?_getD, List.getElem?_eq_none (by omega)]
    rfl
/-- Only the bytes of the row. -/
theorem Rep.take {R : List Int} {L : List Bool} (h : Rep R L) (k : Nat) (hk : L.length ≤ 8 * k) : Rep (R.take k) L := by
  intro i
  by_cases h1 : i / 8 < k
  · rw [← h i]
    unfold bt
    simp [List.getD, h1]
  · have e0 : L.getD i false = false := by simp [List.getD, show L.length ≤ i by omega]
    rw [e0]
    unfold bt
    rw [List.getD_eq_getElem?_getD, List.getElem?_eq_none (by simp; omega)]
    simp
/-- Bytes of one length that hold one row are the same. -/
theorem Rep.unique {R S : List Int} {L : List Bool} (h : Rep R L) (k : Rep S L) (hl : R.length = S.length) (hR : Byte R) (hS : Byte S) : R = S := by
  refine List.ext_getElem hl (fun q h1 h2 => ?_)
  have a := hR _ (List.getElem_mem h1)
  have b := hS _ (List.getElem_mem h2)
  have : R[q].toNat = S[q].toNat := by
    apply Nat.eq_of_testBit_eq
    intro j
    by_cases hj : j < 8
    · have := (h (8 * q + (7 - j))).trans (k (8 * q + (7 - j))).symm
      unfold bt at this
      rw [show (8 * q + (7 - j)) / 8 = q by omega, show 7 - (8 * q + (7 - j)) % 8 = j by omega] at this
      simpa [List.getD, h1, h2] using this
    · rw [byte_bits (by omega) j (by omega), byte_bits (by omega) j (by omega)]
  omega

/-- Bytes cleared from c on to e, and the last byte's lower bits. -/
theorem cut_rep {R R' : List Int} {L : List Bool} (h : Rep R L) (n : Nat) (hn : n < L.length) (hlen : L.length ≤ 8 * R.length) (hl : R'.length = R.length)
    (hc : ∀ q, q < R.length → R'.getD q 0 = if n % 8 ≠ 0 ∧ q = n / 8 then (((R.getD q 0).toNat &&& (255 - (2 ^ (8 - n % 8) - 1)) : Nat) : Int) else if (n + 7) / 8 ≤ q ∧ q < (L.length + 7) / 8 then 0 else R.getD q 0) :
    Rep R' (L.take n) := by
  intro i
  have et : (L.take n).getD i false = (decide (i < n) && L.getD i false) := by
    by_cases h1 : i < n
    · simp [List.getD, h1]
    · rw [List.getD_eq_getElem?_getD, List.getElem?_eq_none (by simp; omega)]
      simp [h1]
  rw [et]
  by_cases hq : i / 8 < R.length
  · have hi := h i
    unfold bt at hi ⊢
    rw [hc _ hq]
    split
    · next h1 =>
      rw [Int.toNat_natCast, Nat.testBit_and, hi]
      by_cases h2 : i < n
      · have m : (255 - (2 ^ (8 - n % 8) - 1)).testBit (7 - i % 8) = true := by
          have hr : n % 8 < 8 := Nat.mod_lt _ (by omega)
          have hlt : i % 8 < n % 8 := by omega
          generalize n % 8 = r at *
          generalize i % 8 = t at *
          have : ∀ r, r < 8 → ∀ t, t < r → (255 - (2 ^ (8 - r) - 1)).testBit (7 - t) = true := by decide
          exact this r hr t hlt
        simp [m, h2]
      · have m : (255 - (2 ^ (8 - n % 8) - 1)).testBit (7 - i % 8) = false := by
          have hr : n % 8 < 8 := Nat.mod_lt _ (by omega)
          have hlt : n % 8 ≤ i % 8 := by omega
          have h8 : i % 8 < 8 := Nat.mod_lt _ (by omega)
          have h0 : 0 < n % 8 := by omega
          generalize n % 8 = r at *
          generalize i % 8 = t at *
          have : ∀ r, r < 8 → ∀ t, t < 8 → 0 < r → r ≤ t → (255 - (2 ^ (8 - r) - 1)).testBit (7 - t) = false := by decide
          exact this r hr t h8 h0 hlt
        simp [m, h2]
    · next h1 =>
      split
      · next h2 =>
        have : ¬ i < n := by omega
        simp [this]
      · next h2 =>
        rw [hi]
        by_cases h3 : i < n
        · simp [h3]
        · have e0 : L.getD i false = false := by
            have : L.length ≤ i := by
              by_cases h4 : n % 8 = 0
              · omega
              · have : i / 8 ≠ n / 8 := fun e => h1 ⟨h4, e⟩
                omega
            simp [List.getD, this]
          rw [e0, Bool.and_false]
  · rw [bt_beyond _ _ (by omega)]
    have : ¬ i < n := by omega
    simp [this]

/-- Behind a number that was got, the next piece. -/
def Nm (V n : Nat) (f : Nat → Bool) : Prop := ∀ j, V.testBit j = (decide (j < n) && f (n - 1 - j))
theorem Nm.zero (f : Nat → Bool) : Nm 0 0 f := fun j => by simp
theorem Nm.unique {V U n : Nat} {f : Nat → Bool} (h : Nm V n f) (k : Nm U n f) : V = U := Nat.eq_of_testBit_eq (fun j => (h j).trans (k j).symm)
theorem Nm.lt {V n : Nat} {f : Nat → Bool} (h : Nm V n f) : V < 2 ^ n := by
  apply Nat.lt_pow_two_of_testBit
  intro j hj
  rw [h j]
  have : ¬ j < n := by omega
  simp [this]

end Go.Proofs.YtalmpmhnkilalaaGreatDoor
