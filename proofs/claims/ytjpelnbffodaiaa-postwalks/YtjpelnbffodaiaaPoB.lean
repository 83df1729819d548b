/-
  Slices of numbers (uint32): what one reads as, rows that are owned.
-/
import Derived.Test.YtjpelnbffodaiaaPoA
import Derived.Test.YtjpelnbffodaiaaPush
import Derived.Test.YtjpelnbffodaiaaBlk
import Derived.Test.YtjpelnbffodaiaaNumF
import Derived.BigQuiet
namespace Go.Proofs.Ytjpelnbffodaiaa
open Go.RowKit
set_option linter.unusedVariables false

def cells32 (l : List Nat) : List Value := l.map (fun n : Nat => Value.int .u32 (n : Int))
theorem cells32_length (l : List Nat) : (cells32 l).length = l.length := by simp [cells32]
theorem cells32_append (l m : List Nat) : cells32 (l ++ m) = cells32 l ++ cells32 m := by simp [cells32]
theorem cells32_one (l : List Nat) : ∀ u ∈ cells32 l, u.oneCell' = true := by
  intro u hu
  obtain ⟨n, _, rfl⟩ := List.mem_map.1 hu
  rfl
def Wrd (l : List Nat) : Prop := ∀ n ∈ l, n ≤ 4294967295
theorem Wrd.append {l m : List Nat} (h : Wrd l) (k : Wrd m) : Wrd (l ++ m) := by
  intro n hn
  rcases List.mem_append.1 hn with h1 | h1
  · exact h n h1
  · exact k n h1
theorem Wrd.take {l : List Nat} (h : Wrd l) (k : Nat) : Wrd (l.take k) := fun n hn => h n (List.mem_of_mem_take hn)
theorem Wrd.drop {l : List Nat} (h : Wrd l) (k : Nat) : Wrd (l.drop k) := fun n hn => h n (List.mem_of_mem_drop hn)
theorem Wrd.nil : Wrd [] := fun n hn => absurd hn (by simp)
theorem Wrd.one {n : Nat} (h : n ≤ 4294967295) : Wrd [n] := fun m hm => by simp at hm; omega
theorem Wrd.at {l : List Nat} (h : Wrd l) (k : Nat) : l.getD k 0 ≤ 4294967295 := by
  by_cases hk : k < l.length
  · have := h l[k] (List.getElem_mem hk)
    simpa [List.getD, hk] using this
  · simp [List.getD, hk]

/-- What a slice of numbers reads as. -/
structure Sw (w : World) (ad : Option Addr) (k : Nat) (l : List Nat) : Prop where
  len : l.length = k
  bd : Wrd l
  cell : ∀ j, j < k → ∃ x, ad = some x ∧ w.cell? (x.add j) = some (.int .u32 ((l.getD j 0 : Nat) : Int))

theorem Sw.nil (w : World) (ad : Option Addr) : Sw w ad 0 [] := ⟨rfl, Wrd.nil, fun j hj => absurd hj (by omega)⟩

theorem Sw.at {w : World} {ad : Option Addr} {len : Nat} {l : List Nat} (h : Sw w ad len l) (hp : 0 < len) :
    ∃ b off, ad = some ⟨b, off, none⟩ ∧ b < w.heap.size ∧ ∀ j, j < len → w.cell? ⟨b, off + j, none⟩ = some (.int .u32 ((l.getD j 0 : Nat) : Int)) := by
  obtain ⟨x, hx, hc⟩ := h.cell 0 hp
  obtain ⟨b, off, sp⟩ := x
  have hs : sp = none := by simpa [Addr.add] using World.cell?_spot hc
  subst hs
  refine ⟨b, off, hx, ?_, fun j hj => ?_⟩
  · exact World.block_lt_of_cell? w _ hc
  · obtain ⟨y, hy, hd⟩ := h.cell j hj
    rw [hx] at hy
    obtain rfl := Option.some.inj hy
    simpa [Addr.add_lit] using hd

theorem Sw.cells {w : World} {x : Addr} {len : Nat} {l : List Nat} (h : Sw w (some x) len l) : ∀ j u, (cells32 l)[j]? = some u → w.cell? (x.add j) = some u := by
  intro j u hu
  have hj : j < len := by
    have := (List.getElem?_eq_some_iff.1 hu).1
    rw [cells32_length, h.len] at this
    exact this
  obtain ⟨y, hy, hd⟩ := h.cell j hj
  obtain rfl := Option.some.inj hy
  rw [hd]
  have hl : j < l.length := by rw [h.len]; exact hj
  simpa [cells32, List.getD, hl] using hu

theorem Sw.below {w w' : World} {ad : Option Addr} {len : Nat} {l : List Nat} (h : Sw w ad len l) {B : Nat} (hb : Below B w w') (hlt : ∀ x, ad = some x → 0 < len → x.block < B) : Sw w' ad len l := by
  refine ⟨h.len, h.bd, fun j hj => ?_⟩
  obtain ⟨x, hx, hc⟩ := h.cell j hj
  refine ⟨x, hx, ?_⟩
  rw [hb.cell (p := x.add j) (by rw [add_block]; exact hlt x hx (by omega))]
  exact hc
theorem Sw.lt {w : World} {ad : Option Addr} {len : Nat} {l : List Nat} (h : Sw w ad len l) : ∀ x, ad = some x → 0 < len → x.block < w.heap.size := by
  intro x hx hp
  obtain ⟨y, hy, hc⟩ := h.cell 0 hp
  rw [hx] at hy
  obtain rfl := Option.some.inj hy
  have := World.block_lt_of_cell? w _ hc
  rwa [add_block] at this
theorem Sw.later {w w' : World} {ad : Option Addr} {len : Nat} {l : List Nat} (h : Sw w ad len l) (hb : Below w.heap.size w w') : Sw w' ad len l := h.below hb h.lt

/-- Its rest. -/
theorem Sw.drop {w : World} {b off len K : Nat} {l : List Nat} (h : Sw w (some ⟨b, off, none⟩) len l) (hk : K ≤ len) : Sw w (some ⟨b, off + K, none⟩) (len - K) (l.drop K) := by
  have hl := h.len
  refine ⟨by simp; omega, h.bd.drop K, fun j hj => ⟨_, rfl, ?_⟩⟩
  obtain ⟨x, hx, hc⟩ := h.cell (K + j) (by omega)
  obtain rfl := Option.some.inj hx
  rw [Addr.add_lit] at hc ⊢
  rw [Nat.add_assoc, hc]
  simp [List.getD, List.getElem?_drop]
theorem Sw.take {w : World} {ad : Option Addr} {len N : Nat} {l : List Nat} (h : Sw w ad len l) (hk : N ≤ len) : Sw w ad N (l.take N) := by
  have hl := h.len
  refine ⟨by simp; omega, h.bd.take N, fun j hj => ?_⟩
  obtain ⟨x, hx, hc⟩ := h.cell j (by omega)
  refine ⟨x, hx, ?_⟩
  rw [hc]
  simp [List.getD, hj]

/-- A row that is owned is read. -/
theorem sw_of_owns {w : World} {base : Nat} {ad : Option Addr} {n cap : Nat} {l : List Nat} (h : w.ownsRow base 23 1 (.slice ad n cap) n (cells32 l)) (hb : Wrd l) : Sw w ad n l := by
  have hlen : l.length = n := by have := h.1; rw [cells32_length] at this; omega
  refine ⟨hlen, hb, fun j hj => ?_⟩
  rcases h.2 with ⟨_, h0⟩ | ⟨g, c, cur, hv, _⟩
  · omega
  · simp only [Value.slice.injEq] at hv
    obtain ⟨rfl, _, rfl⟩ := hv
    refine ⟨_, rfl, ?_⟩
    rw [Addr.add_lit, h.cellAt (0 + j) (by omega)]
    simp [cells32, List.getD, show j < l.length by omega]
theorem own_len {w : World} {base : Nat} {v : Value} {n : Nat} {l : List Nat} (h : w.ownsRow base 23 1 v n (cells32 l)) : l.length = n := by
  have := h.1; rw [cells32_length] at this; omega

/-- A row that is laid is read, whatever its mark. -/
theorem sw_lit (w : World) (l : List Nat) (hb : Wrd l) (e : TypeId) (fr : Nat × Nat) (n : Nat) (hn : l.length = n) (C : Array Value) (hC : C = (cells32 l).toArray) (g : Nat) (hg : g = w.heap.size) : Sw (w.alloc (.cells C e fr)) (some ⟨g, 0, none⟩) n l := by
  subst hg
  refine ⟨hn, hb, fun j hj => ⟨_, rfl, ?_⟩⟩
  subst hC
  rw [Addr.add_lit, World.cell?_alloc_mark]
  simp [cells32, List.getD, show j < l.length by omega]

theorem info23 : (Try.prog.info? 23).map (fun i => (i.zero, i.size, i.bytes)) = some (some (.int .u32 0), 1, 4) := by kernel_rfl

/-- 'append(v, s...)', v the call's own, s whatever is read. -/
theorem wpList_appW (w : World) {ops : Array Oper} {rest : List Oper} {o : Oper} {a : Act} {Q : Exit → Act → World → Prop} (hgd : o.guard = none) (s x : Operand)
    (ho : o.op = .call { callee := .builtin .append, args := #[s, x], argTypes := #[22, 22] })
    (base : Nat) (v : Value) (n : Nat) (xs : List Nat) (hs : a.eval s = v) (hown : w.ownsRow base 23 1 v n (cells32 xs))
    (ad : Option Addr) (m c : Nat) (l : List Nat) (hx : a.eval x = .slice ad m c) (hsl : Sw w ad m l) (hnone : ad = none → m = 0 ∧ c = 0)
    (hbytes : n + m ≤ 35184372088832) (hbase : base ≤ w.heap.size)
    (h : ∀ ad' c' w', w'.ownsRow base 23 1 (.slice ad' (n + m) c') (n + m) (cells32 (xs ++ l)) → Below base w w' → wpList Try.prog ops Q rest (a.put o.dst (.slice ad' (n + m) c')) w') : wpList Try.prog ops Q (o :: rest) a w := by
  obtain ⟨i, hi, hz, hsize, hby⟩ := info_parts info23
  cases ad with
  | none =>
    obtain ⟨rfl, rfl⟩ := hnone rfl
    have hl : l = [] := List.eq_nil_of_length_eq_zero hsl.len
    subst hl
    refine wpList_append_own_none hgd s x 22 ho base 23 i 1 Try.underlying22 hi v n _ hs hown hx ?_
    obtain ⟨ad', c', rfl⟩ := owns_form hown
    exact h ad' c' w (by simpa using hown) (Below.refl _ _)
  | some x' =>
    refine wpList_append_own w hgd s x 22 ho base 23 i _ 1 4 Try.underlying22 hi hz hsize hby rfl (by omega) v n _ hs hown x' m c (cells32 l) hx (by rw [cells32_length, hsl.len]; omega) hsl.cells (cells32_one l) (by unfold maxLen; omega) (by omega) hbase ?_
    intro v' w' h1 h2 _
    obtain ⟨ad', c', rfl⟩ := owns_form h1
    rw [← cells32_append] at h1
    exact h ad' c' w' h1 (grown_below h2 hown hbase)

/-- 'append(v, n)', v the call's own. -/
theorem wpList_pushW (w : World) {ops : Array Oper} {rest : List Oper} {o : Oper} {a : Act} {Q : Exit → Act → World → Prop} (hgd : o.guard = none) (s x : Operand)
    (ho : o.op = .call { callee := .builtin .append, args := #[s, x], argTypes := #[22, 22] }) (base : Nat) (v : Value) (n : Nat) (xs : List Nat) (hs : a.eval s = v) (w0 : World) (hown : w0.ownsRow base 23 1 v n (cells32 xs)) (p : Nat) (pz : Int) (hp : pz = (p : Int))
    (hw : w = w0.alloc (.cells #[.int .u32 pz] 23)) (hx : a.eval x = .slice (some ⟨w0.heap.size, 0, none⟩) 1 1) (hn : n ≤ 1000000000) (hbase : base ≤ w0.heap.size)
    (h : ∀ g' c' w', w'.ownsRow base 23 1 (.slice (some ⟨g', 0, none⟩) (n + 1) c') (n + 1) (cells32 (xs ++ [p])) → Below base w0 w' → wpList Try.prog ops Q rest (a.put o.dst (.slice (some ⟨g', 0, none⟩) (n + 1) c')) w') : wpList Try.prog ops Q (o :: rest) a w := by
  subst hp hw
  obtain ⟨i, hi, hz, hsize, hby⟩ := info_parts info23
  have hal : (w0.alloc (.cells #[.int .u32 (p : Int)] 23)).ownsRow base 23 1 v n (cells32 xs) := hown.alloc _
  refine wpList_push _ hgd s x 22 ho 23 i _ 4 Try.underlying22 hi hz hsize hby rfl base v n (cells32 xs) hs hal ⟨w0.heap.size, 0, none⟩ (.int .u32 (p : Int)) hx (by rw [World.cell?_alloc_mark]; rfl) rfl (by unfold maxLen; omega) (by omega) (by simp; omega) ?_
  intro g' c' w' ho' hp'
  refine h g' c' w' (by rw [cells32_append]; exact ho') ?_
  have hb0 : Below base w0 (w0.alloc (.cells #[.int .u32 (p : Int)] 23)) := (Below.refl _ _).alloc hbase _
  rcases hp' with ⟨hv, hg⟩ | ⟨_, hg⟩
  · exact hb0.grown hg (Nat.le_trans hbase hb0.size) (fun x hx => by obtain rfl := Option.some.inj hx; exact (hal.lt _ hv).1)
  · exact hb0.grown hg (Nat.le_trans hbase hb0.size) (fun x hx => by cases hx)

end Go.Proofs.Ytjpelnbffodaiaa
