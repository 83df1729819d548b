import Derived.Test.YtgmdpbahcbhfjaaGreatDoorJPush
import Derived.Test.YtgmdpbahcbhfjaaGreatDoorJBlk
import Derived.Test.YtgmdpbahcbhfjaaGreatDoorJNumB
import Derived.BigQuiet
set_option linter.unusedSimpArgs false
set_option linter.unusedVariables false
set_option maxHeartbeats 40000000
set_option maxRecDepth 100000
/-
  Slices of numbers (uint32): what one reads as, rows that are owned.
-/
namespace Go.Proofs.YtgmdpbahcbhfjaaGreatDoor.J
open Go.RowKit

def cells32 (l : List Nat) : List Value := l.map (fun n : Nat => Value.int .u32 (n : Int))
theorem cells32_length (l : List Nat) : (cells32 l).length = l.length := by simp [cells32]
theorem cells32_append (l m : List Nat) : cells32 (l ++ m) = cells32 l ++ cells32 m := by simp [cells32]
theorem cells32_one (l : List Nat) : ∀ u ∈ cells32 l, u.oneCell' = true := by
  intro u hu
  obtain ⟨n, _, rfl⟩ := List.mem_map.1 hu
  rfl
def Wrd (l : List Nat) : Prop := ∀ n ∈ l, n ≤ 4294967295
theorem Wrd.append {l m : List Nat} (h : Wrd l) (k : Wrd m) : Wrd (l ++ m) := by
  intro n hn
  rcases List.mem_append.1 hn with h1 | h1
  · exact h n h1
  · exact k n h1
theorem Wrd.drop {l : List Nat} (h : Wrd l) (k : Nat) : Wrd (l.drop k) := fun n hn => h n (List.mem_of_mem_drop hn)
theorem Wrd.nil : Wrd [] := fun n hn => absurd hn (by simp)
theorem Wrd.one {n : Nat} (h : n ≤ 4294967295) : Wrd [n] := fun m hm => by simp at hm; omega
/-- What a slice of numbers reads as. -/
structure Sw (w : World) (ad : Option Addr) (k : Nat) (l : List Nat) : Prop where
  len : l.length = k
  bd : Wrd l
  cell : ∀ j, j < k → ∃ x, ad = some x ∧ w.cell? (x.add j) = some (.int .u32 ((l.getD j 0 : Nat) : Int))

theorem Sw.nil (w : World) (ad : Option Addr) : Sw w ad 0 [] := ⟨rfl, Wrd.nil, fun j hj => absurd hj (by omega)⟩

theorem Sw.at {w : World} {ad : Option Addr} {len : Nat} {l : List Nat} (h : Sw w ad len l) (hp : 0 < len) :
    ∃ b off, ad = some ⟨b, off, none⟩ ∧ b < w.heap.size ∧ ∀ j, j < len → w.cell? ⟨b, off + j, none⟩ = some (.int .u32 ((l.getD j 0 : Nat) : Int)) := by
  obtain ⟨x, hx, hc⟩ := h.cell 0 hp
  obtain ⟨b, off, sp⟩ := x
  have hs : sp = none := by simpa [Addr.add] using World.cell?_spot hc
  subst hs
  refine ⟨b, off, hx, ?_, fun j hj => ?_⟩
  · exact World.block_lt_of_cell? w _ hc
  · obtain ⟨y, hy, hd⟩ := h.cell j hj
    rw [hx] at hy
    obtain rfl := Option.some.inj hy
    simpa [Addr.add_lit] using hd

theorem Sw.cells {w : World} {x : Addr} {len : Nat} {l : List Nat} (h : Sw w (some x) len l) : ∀ j u, (cells32 l)[j]? = some u → w.cell? (x.add j) = some u := by
  intro j u hu
  have hj : j < len := by
    have := (List.getElem?_eq_some_iff.1 hu).1
    rw [cells32_length, h.len] at this
    exact this
  obtain ⟨y, hy, hd⟩ := h.cell j hj
  obtain rfl := Option.some.inj hy
  rw [hd]
  have hl : j < l.length := by rw [h.len]; exact hj
  simpa [cells32, List.getD, hl] using hu

theorem Sw.below {w w' : World} {ad : Option Addr} {len : Nat} {l : List Nat} (h : Sw w ad len l) {B : Nat} (hb : Below B w w') (hlt : ∀ x, ad = some x → 0 < len → x.block < B) : Sw w' ad len l := by
  refine ⟨h.len, h.bd, fun j hj => ?_⟩
  obtain ⟨x, hx, hc⟩ := h.cell j hj
  refine ⟨x, hx, ?_⟩
  rw [hb.cell (p := x.add j) (by rw [add_block]; exact hlt x hx (by omega))]
  exact hc
theorem Sw.lt {w : World} {ad : Option Addr} {len : Nat} {l : List Nat} (h : Sw w ad len l) : ∀ x, ad = some x → 0 < len → x.block < w.heap.size := by
  intro x hx hp
  obtain ⟨y, hy, hc⟩ := h.cell 0 hp
  rw [hx] at hy
  obtain rfl := Option.some.inj hy
  have := World.block_lt_of_cell? w _ hc
  rwa [add_block] at this
theorem Sw.later {w w' : World} {ad : Option Addr} {len : Nat} {l : List Nat} (h : Sw w ad len l) (hb : Below w.heap.size w w') : Sw w' ad len l := h.below hb h.lt

/-- Its rest. -/
theorem Sw.drop {w : World} {b off len K : Nat} {l : List Nat} (h : Sw w (some ⟨b, off, none⟩) len l) (hk : K ≤ len) : Sw w (some ⟨b, off + K, none⟩) (len - K) (l.drop K) := by
  have hl := h.len
  refine ⟨by simp; omega, h.bd.drop K, fun j hj => ⟨_, rfl, ?_⟩⟩
  obtain ⟨x, hx, hc⟩ := h.cell (K + j) (by omega)
  obtain rfl := Option.some.inj hx
  rw [Addr.add_lit] at hc ⊢
  rw [Nat.add_assoc, hc]
  simp [List.getD, List.getElem?_drop]
/-- A row that is owned is read. -/
theorem sw_of_owns {w : World} {base : Nat} {ad : Option Addr} {n cap : Nat} {l : List Nat} (h : w.ownsRow base 114 1 (.slice ad n cap) n (cells32 l)) (hb : Wrd l) : Sw w ad n l := by
  have hlen : l.length = n := by have := h.1; rw [cells32_length] at this; omega
  refine ⟨hlen, hb, fun j hj => ?_⟩
  rcases h.2 with ⟨_, h0⟩ | ⟨g, c, cur, hv, _⟩
  · omega
  · simp only [Value.slice.injEq] at hv
    obtain ⟨rfl, _, rfl⟩ := hv
    refine ⟨_, rfl, ?_⟩
    rw [Addr.add_lit, h.cellAt (0 + j) (by omega)]
    simp [cells32, List.getD, show j < l.length by omega]
theorem own_len {w : World} {base : Nat} {v : Value} {n : Nat} {l : List Nat} (h : w.ownsRow base 114 1 v n (cells32 l)) : l.length = n := by
  have := h.1; rw [cells32_length] at this; omega

theorem info23 : (Tryz.prog.info? 114).map (fun i => (i.zero, i.size, i.bytes)) = some (some (.int .u32 0), 1, 4) := by kernel_rfl

/-- 'append(v, s...)', v the call's own, s whatever is read. -/
theorem wpList_appW (w : World) {ops : Array Oper} {rest : List Oper} {o : Oper} {a : Act} {Q : Exit → Act → World → Prop} (hgd : o.guard = none) (s x : Operand)
    (ho : o.op = .call { callee := .builtin .append, args := #[s, x], argTypes := #[107, 107] })
    (base : Nat) (v : Value) (n : Nat) (xs : List Nat) (hs : a.eval s = v) (hown : w.ownsRow base 114 1 v n (cells32 xs))
    (ad : Option Addr) (m c : Nat) (l : List Nat) (hx : a.eval x = .slice ad m c) (hsl : Sw w ad m l) (hnone : ad = none → m = 0 ∧ c = 0)
    (hbytes : n + m ≤ 35184372088832) (hbase : base ≤ w.heap.size)
    (h : ∀ ad' c' w', w'.ownsRow base 114 1 (.slice ad' (n + m) c') (n + m) (cells32 (xs ++ l)) → Below base w w' → wpList Tryz.prog ops Q rest (a.put o.dst (.slice ad' (n + m) c')) w') : wpList Tryz.prog ops Q (o :: rest) a w := by
  obtain ⟨i, hi, hz, hsize, hby⟩ := info_parts info23
  cases ad with
  | none =>
    obtain ⟨rfl, rfl⟩ := hnone rfl
    have hl : l = [] := List.eq_nil_of_length_eq_zero hsl.len
    subst hl
    refine wpList_append_own_none hgd s x 107 ho base 114 i 1 Tryz.underlying107 hi v n _ hs hown hx ?_
    obtain ⟨ad', c', rfl⟩ := owns_form hown
    exact h ad' c' w (by simpa using hown) (Below.refl _ _)
  | some x' =>
    refine wpList_append_own w hgd s x 107 ho base 114 i _ 1 4 Tryz.underlying107 hi hz hsize hby rfl (by omega) v n _ hs hown x' m c (cells32 l) hx (by rw [cells32_length, hsl.len]; omega) hsl.cells (cells32_one l) (by unfold maxLen; omega) (by omega) hbase ?_
    intro v' w' h1 h2 _
    obtain ⟨ad', c', rfl⟩ := owns_form h1
    rw [← cells32_append] at h1
    exact h ad' c' w' h1 (grown_below h2 hown hbase)

end Go.Proofs.YtgmdpbahcbhfjaaGreatDoor.J
/-
  Package post: rises, cmp.Less, cmp.Compare, Has.
-/
namespace Go.Proofs.YtgmdpbahcbhfjaaGreatDoor.J
open Go.RowKit

theorem nanP (x : Int) (w : World) : Calls Tryz.prog 132 #[.int .u32 x] w fun e w' => e = .returned (.bool false) ∧ w' = w := by
  go_enter Tryz.func132, Tryz.ntmps132
  go_wp2
  go_ret
  simp

theorem lessP (x y : Nat) (w : World) : Calls Tryz.prog 131 #[.int .u32 (x : Int), .int .u32 (y : Int)] w fun e w' => e = .returned (.bool (decide (x < y))) ∧ w' = w := by
  go_enter Tryz.func131, Tryz.ntmps131
  go_wp2_with fail
  refine (nanP _ _).mono ?_
  rintro e w' ⟨rfl, rfl⟩
  by_cases h : x < y
  · have hz : (x : Int) < (y : Int) := by omega
    go_wp2
    go_ret
    simp [h, hz]
  · have hz : ¬ (x : Int) < (y : Int) := by omega
    go_wp2
    go_ret
    simp [h, hz]

theorem less_t {x y : Nat} (h : x < y) (w : World) : Calls Tryz.prog 131 #[.int .u32 (x : Int), .int .u32 (y : Int)] w fun e w' => e = .returned (.bool true) ∧ w' = w := by
  have := lessP x y w
  simpa [h] using this
theorem less_f {x y : Nat} (h : ¬ x < y) (w : World) : Calls Tryz.prog 131 #[.int .u32 (x : Int), .int .u32 (y : Int)] w fun e w' => e = .returned (.bool false) ∧ w' = w := by
  have := lessP x y w
  simpa [h] using this

set_option maxRecDepth 100000 in
set_option maxHeartbeats 4000000 in
theorem compareP (x y : Nat) (w : World) : Calls Tryz.prog 103 #[.int .u32 (x : Int), .int .u32 (y : Int)] w fun e w' => e = .returned (.int .i64 (if x < y then -1 else if y < x then 1 else 0)) ∧ w' = w := by
  go_enter Tryz.func103, Tryz.ntmps103
  go_wp2_with fail
  refine (nanP _ _).mono ?_
  rintro e w' ⟨rfl, rfl⟩
  go_wp2_with fail
  refine (nanP _ _).mono ?_
  rintro e w' ⟨rfl, rfl⟩
  by_cases h : x < y
  · have hz : (x : Int) < (y : Int) := by omega
    go_wp2
    go_ret
    simp [h]
  · have hz : ¬ (x : Int) < (y : Int) := by omega
    by_cases k : y < x
    · have kz : (y : Int) < (x : Int) := by omega
      go_wp2
      go_ret
      simp [h, k]
    · have kz : ¬ (y : Int) < (x : Int) := by omega
      go_wp2
      go_ret
      simp [h, k]

set_option maxRecDepth 100000 in
set_option maxHeartbeats 8000000 in
theorem risesP (w : World) (ad : Option Addr) (n c : Nat) (l : List Nat) (hs : Sw w ad n l) (hn : n ≤ 1000000000) :
    Calls Tryz.prog 102 #[.slice ad n c] w fun e w' => e = .returned (.bool (decide (Ris l))) ∧ Below w.heap.size w w' := by
  have HS := hidden hs
  clear hs
  go_enter Tryz.func102, Tryz.ntmps102
  go_wp2_with fail
  go_loopw [3] (fun s3 wx => ∃ i : Nat, s3 = .int .i64 ((i + 1 : Nat) : Int) ∧ i ≤ n ∧ Hid (Adj l (i + 1)) ∧ Hid (Below w.heap.size w wx)) (fun s3 _ => n + 1 - (intOf s3).toNat)
  case atStart => exact ⟨0, rfl, by omega, hidden (adj_one _), hidden (Below.refl _ _)⟩
  case round =>
    rename World => wr
    obtain ⟨i, rfl, hi, hadj, hbel⟩ := hrel
    have hl := HS.out.len
    by_cases hlt : i + 1 < n
    · have hltz : ((i + 1 : Nat) : Int) < (n : Int) := by omega
      obtain ⟨b, o, rfl, _, hc⟩ := (HS.out.later hbel.out).at (by omega)
      have k1 := hc i (by omega)
      have k2 := hc (i + 1) (by omega)
      obtain ⟨x, hx⟩ : ∃ x, l.getD i 0 = x := ⟨_, rfl⟩
      obtain ⟨y, hy⟩ : ∃ y, l.getD (i + 1) 0 = y := ⟨_, rfl⟩
      rw [hx] at k1
      rw [hy] at k2
      have HX := hidden hx
      have HY := hidden hy
      have e1 : ((i + 1 : Nat) : Int) - 1 = (i : Int) := by omega
      clear hc hx hy
      by_cases hxy : x < y
      · have HL := less_t hxy
        go_wp2_with fail
        go_quiet (exact Calls.quiet_of_same (HL _))
        go_wp2
        refine ⟨⟨i + 1, by first | rfl | simp, by omega, hidden (adj_step hadj.out (by rw [HX.out, HY.out]; exact hxy)), hidden (below_drewN hbel.out _)⟩, ?_⟩
        simp [intOf]
        omega
      · have hnr : ¬ Ris l := not_ris (i := i) (by omega) (by rw [HX.out, HY.out]; omega)
        have HL := less_f hxy
        go_wp2_with fail
        go_quiet (exact Calls.quiet_of_same (HL _))
        go_wp2
        go_ret
        exact ⟨by simp [hnr], below_drewN hbel.out _⟩
    · have hltz : ¬ ((i + 1 : Nat) : Int) < (n : Int) := by omega
      go_wp2
      go_ret
      refine ⟨?_, hbel.out⟩
      have : Ris l := (ris_adj l).2 (fun j hj => hadj.out j (by omega))
      simp [this]

end Go.Proofs.YtgmdpbahcbhfjaaGreatDoor.J
/-
  Package post: Has; parts.holds.
-/
namespace Go.Proofs.YtgmdpbahcbhfjaaGreatDoor.J
open Go.RowKit

theorem owns_base {w : World} {base base' : Nat} {e : TypeId} {x : Value} {n : Nat} {xs : List Value} (h : w.ownsRow base e 1 x n xs) (hb : base' ≤ base) : w.ownsRow base' e 1 x n xs := by
  refine ⟨h.1, ?_⟩
  rcases h.2 with h1 | ⟨g, c, cur, h1, h2, h3⟩
  · exact .inl h1
  · exact .inr ⟨g, c, cur, h1, Nat.le_trans hb h2, h3⟩

/-- The parts that are wanted. -/
def ptV (p q r : Bool) : Value := .agg #[.bool p, .bool q, .bool r]

set_option maxRecDepth 100000 in
theorem holdsP (w : World) (p q r : Bool) (o : Int) (x : Bool) (h : (o = -1 ∧ x = p) ∨ (o = 1 ∧ x = r) ∨ (o = 0 ∧ x = q)) :
    Calls Tryz.prog 104 #[ptV p q r, .int .i64 o] w fun e w' => e = .returned (.bool x) ∧ Below w.heap.size w w' := by
  unfold ptV
  rcases h with ⟨rfl, rfl⟩ | ⟨rfl, rfl⟩ | ⟨rfl, rfl⟩
  all_goals
    go_enter Tryz.func104, Tryz.ntmps104
    go_wp2
    go_ret
    exact ⟨by simp, (Below.refl _ _).alloc (Nat.le_refl _) _⟩

end Go.Proofs.YtgmdpbahcbhfjaaGreatDoor.J
/-
  Package post: join.
-/
namespace Go.Proofs.YtgmdpbahcbhfjaaGreatDoor.J
open Go.RowKit

/-- A list of numbers that comes out. -/
def OutW (w : World) (e : Ending) (w' : World) (L : List Nat) : Prop :=
  ∃ ad c, e = .returned (.slice ad L.length c) ∧ w'.ownsRow w.heap.size 114 1 (.slice ad L.length c) L.length (cells32 L) ∧ Below w.heap.size w w'

/-- One that is handed in. -/
structure Ar (w : World) (ad : Option Addr) (n c : Nat) (l : List Nat) : Prop where
  sw : Sw w ad n l
  no : ad = none → n = 0 ∧ c = 0
  le : n ≤ c
  cm : c ≤ maxLen
theorem Ar.later {w w' : World} {ad : Option Addr} {n c : Nat} {l : List Nat} (h : Ar w ad n c l) (hb : Below w.heap.size w w') : Ar w' ad n c l := ⟨h.sw.later hb, h.no, h.le, h.cm⟩

theorem step_pushW {ops : Array Oper} (w : World) {o : Oper} {a : Act} {K : Act → World → Prop} {Q : Exit → Act → World → Prop} {E : Prop} (hgd : o.guard = none) (s x : Operand)
    (ho : o.op = .call { callee := .builtin .append, args := #[s, x], argTypes := #[107, 107] }) (base : Nat) (v : Value) (n : Nat) (xs : List Nat) (hs : a.eval s = v) (hown : w.ownsRow base 114 1 v n (cells32 xs)) (ad : Addr) (p : Nat) (pz : Int) (hp : pz = (p : Int))
    (hx : a.eval x = .slice (some ad) 1 1) (hc : w.cell? ad = some (.int .u32 pz)) (hn : n ≤ 1000000000) (hbase : base ≤ w.heap.size)
    (h : ∀ g' c' w', w'.ownsRow base 114 1 (.slice (some ⟨g', 0, none⟩) (n + 1) c') (n + 1) (cells32 (xs ++ [p])) → Below base w w' → K (a.put o.dst (.slice (some ⟨g', 0, none⟩) (n + 1) c')) w') :
    if Region.wanted o (yielded ops a.tmps) = true then Oper.wp Tryz.prog o a w K Q else E := by
  subst hp
  obtain ⟨i, hi, hz, hsize, hby⟩ := info_parts info23
  refine step_push _ hgd s x 107 ho 114 i _ 4 Tryz.underlying107 hi hz hsize hby rfl base v n (cells32 xs) hs hown ad (.int .u32 (p : Int)) hx hc rfl (by unfold maxLen; omega) (by omega) hbase ?_
  intro g' c' w' ho' hp'
  refine h g' c' w' (by rw [cells32_append]; exact ho') ?_
  rcases hp' with ⟨hv, hg⟩ | ⟨_, hg⟩
  · exact (Below.refl _ _).grown hg hbase (fun x hx => by obtain rfl := Option.some.inj hx; exact (hown.lt _ hv).1)
  · exact (Below.refl _ _).grown hg hbase (fun x hx => by cases hx)

theorem step_min {ops : Array Oper} (w : World) {o : Oper} {a : Act} {K : Act → World → Prop} {Q : Exit → Act → World → Prop} {E : Prop} (hgd : o.guard = none) (s x : Operand) (ts : Array TypeId)
    (ho : o.op = .call { callee := .builtin .min, args := #[s, x], argTypes := ts }) (k : IntKind) (p q z : Int) (hs : a.eval s = .int k p) (hx : a.eval x = .int k q) (hz : (if q < p then q else p) = z)
    (h : K (a.put o.dst (.int k z)) w) : if Region.wanted o (yielded ops a.tmps) = true then Oper.wp Tryz.prog o a w K Q else E := by
  have hw : Region.wanted o (yielded ops a.tmps) = true := by simp [Region.wanted, hgd]
  rw [if_pos hw]
  unfold Oper.wp
  simp [execOp, ho, resolve, invoke, builtin, hs, hx, run_min_int2, Result.andThen, hz]
  exact h

theorem outW_of {w w2 w' : World} {ad : Option Addr} {n c : Nat} {L L' : List Nat} (hown : w'.ownsRow w2.heap.size 114 1 (.slice ad n c) n (cells32 L)) (hb : Below w2.heap.size w2 w') (hb2 : Below w.heap.size w w2) (e : L' = L) : OutW w (.returned (.slice ad n c)) w' L' := by
  subst e
  obtain rfl := own_len hown
  exact ⟨ad, c, rfl, owns_base hown hb2.size, hb2.trans (hb.mono hb2.size)⟩

/-- What join's loop holds. -/
structure JI (w2 : World) (p q r : Bool) (A B : List Nat) (n1 n2 : Nat) (ax ay ao : Option Addr) (cx cy co i j m : Nat) (out : List Nat) (wr : World) : Prop where
  hi : i ≤ n1
  hj : j ≤ n2
  hm : m ≤ i + j
  sum : out ++ jF p q r (A.drop i) (B.drop j) = jF p q r A B
  a : Ar w2 ax (n1 - i) cx (A.drop i)
  b : Ar w2 ay (n2 - j) cy (B.drop j)
  own : wr.ownsRow w2.heap.size 114 1 (.slice ao m co) m (cells32 out)
  bel : Below w2.heap.size w2 wr

theorem Ar.next {w : World} {b o n c i : Nat} {l : List Nat} (h : Ar w (some ⟨b, o, none⟩) (n - i) c (l.drop i)) (hp : 0 < n - i) : Ar w (if c = 1 then some ⟨b, o, none⟩ else some ⟨b, o + 1, none⟩) (n - (i + 1)) (c - 1) (l.drop (i + 1)) := by
  have h1 := h.sw.drop (K := 1) hp
  rw [List.drop_drop, show n - i - 1 = n - (i + 1) by omega] at h1
  have hle := h.le
  have hcm := h.cm
  refine ⟨?_, fun e => ?_, by omega, by omega⟩
  · split
    · have h0 : n - (i + 1) = 0 := by omega
      rw [h0] at h1 ⊢
      have := List.eq_nil_of_length_eq_zero h1.len
      rw [this]
      exact Sw.nil _ _
    · exact h1
  · split at e <;> simp at e
theorem drop_get {l : List Nat} {i n : Nat} (hl : l.length = n) (hi : 0 < n - i) : l.drop i = (l.drop i).getD 0 0 :: l.drop (i + 1) := by
  have h : i < l.length := by omega
  conv => lhs; rw [List.drop_eq_getElem_cons h]
  simp [h]
theorem owns_later {w w' : World} {base : Nat} {e : TypeId} {v : Value} {n : Nat} {xs : List Value} (h : w.ownsRow base e 1 v n xs) (hb : Below w.heap.size w w') : w'.ownsRow base e 1 v n xs := by
  refine ⟨h.1, ?_⟩
  rcases h.2 with h1 | ⟨g, c, cur, h1, h2, h3, h4⟩
  · exact .inl h1
  · exact .inr ⟨g, c, cur, h1, h2, (hb.block g (Array.getElem?_eq_some_iff.1 h3).1).trans h3, h4⟩
theorem jF_lt {p q r : Bool} {x y : Nat} {s t : List Nat} (h : x < y) : jF p q r (x :: s) (y :: t) = (if p then [x] else []) ++ jF p q r s (y :: t) := by rw [jF, if_pos h]
theorem jF_gt {p q r : Bool} {x y : Nat} {s t : List Nat} (h : y < x) : jF p q r (x :: s) (y :: t) = (if r then [y] else []) ++ jF p q r (x :: s) t := by rw [jF, if_neg (by omega), if_pos h]
theorem jF_eq {p q r : Bool} {x : Nat} {s t : List Nat} : jF p q r (x :: s) (x :: t) = (if q then [x] else []) ++ jF p q r s t := by rw [jF, if_neg (by omega), if_neg (by omega)]
theorem jF_end {p q r : Bool} {a b : List Nat} (h : a = [] ∨ b = []) : jF p q r a b = (if p then a else []) ++ (if r then b else []) := by
  rcases h with rfl | rfl
  · cases p <;> simp [jF]
  · cases a with
    | nil => cases p <;> cases r <;> simp [jF]
    | cons x s => cases p <;> cases r <;> simp [jF]

theorem compare_lt {x y : Nat} (h : x < y) (w : World) : Calls Tryz.prog 103 #[.int .u32 (x : Int), .int .u32 (y : Int)] w fun e w' => e = .returned (.int .i64 (-1)) ∧ w' = w := by
  have := compareP x y w
  simpa [h] using this
theorem compare_gt {x y : Nat} (h : y < x) (w : World) : Calls Tryz.prog 103 #[.int .u32 (x : Int), .int .u32 (y : Int)] w fun e w' => e = .returned (.int .i64 1) ∧ w' = w := by
  have := compareP x y w
  simpa [h, show ¬ x < y by omega] using this
theorem compare_eq (x : Nat) (w : World) : Calls Tryz.prog 103 #[.int .u32 (x : Int), .int .u32 (x : Int)] w fun e w' => e = .returned (.int .i64 0) ∧ w' = w := by
  have := compareP x x w
  simpa using this

set_option maxRecDepth 100000 in
set_option maxHeartbeats 8000000 in
theorem joinP (w : World) (a1 a2 : Option Addr) (n1 c1 n2 c2 : Nat) (A B : List Nat) (p q r : Bool) (h1 : Ar w a1 n1 c1 A) (h2 : Ar w a2 n2 c2 B) (hn1 : n1 ≤ 1000000) (hn2 : n2 ≤ 1000000) :
    Calls Tryz.prog 88 #[.slice a1 n1 c1, .slice a2 n2 c2, ptV p q r] w fun e w' => OutW w e w' (joF p q r A B) := by
  unfold ptV
  have H1 := hidden h1
  have H2 := hidden h2
  clear h1 h2
  go_enter Tryz.func88, Tryz.ntmps88
  go_wp2_with fail
  have hb0 : Below w.heap.size w (w.alloc (.cells #[.bool p, .bool q, .bool r] 161)) := (Below.refl _ _).alloc (Nat.le_refl _) _
  refine (risesP _ a1 n1 c1 A (H1.out.sw.later hb0) (by omega)).mono ?_
  rintro e w1 ⟨rfl, hb1⟩
  have HB1 := hidden (hb0.trans (hb1.mono hb0.size))
  by_cases hr1 : Ris A
  · simp only [hr1, decide_true]
    go_wp2_with fail
    refine (risesP _ a2 n2 c2 B (H2.out.sw.later HB1.out) (by omega)).mono ?_
    rintro e w2 ⟨rfl, hb2⟩
    have HB2 := hidden (HB1.out.trans (hb2.mono HB1.out.size))
    have hblk : Blk w2 w.heap.size 161 [.bool p, .bool q, .bool r] := ((Blk.new w 161 [.bool p, .bool q, .bool r]).later hb1).later hb2
    by_cases hr2 : Ris B
    · simp only [hr2, decide_true]
      have HBLK := hidden hblk
      clear hblk hb0 hb1 hb2
      go_wp2_with fail
      go_loopw [0, 1, 7] (fun s0 s1 s7 wr => ∃ (ax ay ao : Option Addr) (cx cy co i j m : Nat) (out : List Nat), s0 = .slice ax (n1 - i) cx ∧ s1 = .slice ay (n2 - j) cy ∧ s7 = .slice ao m co ∧ Hid (JI w2 p q r A B n1 n2 ax ay ao cx cy co i j m out wr)) (fun s0 s1 _ _ => (match s0 with | .slice _ k _ => k | _ => 0) + (match s1 with | .slice _ k _ => k | _ => 0))
      case atStart => exact ⟨a1, a2, none, c1, c2, 0, 0, 0, 0, [], rfl, rfl, rfl, hidden ⟨by omega, by omega, by omega, rfl, by simpa using H1.out.later HB2.out, by simpa using H2.out.later HB2.out, World.ownsRow_nil _ _ _ _, Below.refl _ _⟩⟩
      case round =>
        rename World => wr
        obtain ⟨ax, ay, ao, cx, cy, co, i, j, m, out, rfl, rfl, rfl, hJ⟩ := hrel
        have hA := H1.out.sw.len
        have hB := H2.out.sw.len
        have d0 := (HBLK.out.later hJ.out.bel).cell 0
        have d1 := (HBLK.out.later hJ.out.bel).cell 1
        have d2 := (HBLK.out.later hJ.out.bel).cell 2
        have HBW := hidden (HBLK.out.later hJ.out.bel)
        simp at d0 d1 d2
        by_cases hpp : 0 < n1 - i ∧ 0 < n2 - j
        · obtain ⟨hpa, hpb⟩ := hpp
          have hpaz : ((n1 - i : Nat) : Int) > 0 := by omega
          have hpbz : ((n2 - j : Nat) : Int) > 0 := by omega
          obtain ⟨b1, o1, rfl, hl1, hc1⟩ := (hJ.out.a.sw.later hJ.out.bel).at hpa
          obtain ⟨b2, o2, rfl, hl2, hc2⟩ := (hJ.out.b.sw.later hJ.out.bel).at hpb
          have k1 := hc1 0 hpa
          have k2 := hc2 0 hpb
          have hx := drop_get hA hpa
          have hy := drop_get hB hpb
          obtain ⟨x, ex⟩ : ∃ x, (A.drop i).getD 0 0 = x := ⟨_, rfl⟩
          obtain ⟨y, ey⟩ : ∃ y, (B.drop j).getD 0 0 = y := ⟨_, rfl⟩
          rw [ex, Nat.add_zero] at k1
          rw [ex] at hx
          rw [ey, Nat.add_zero] at k2
          rw [ey] at hy
          have HX := hidden hx
          have HY := hidden hy
          have hlc1 := hJ.out.a.le
          have hlc2 := hJ.out.b.le
          have hcm1 := hJ.out.a.cm
          unfold maxLen at hcm1
          have hcm2 := hJ.out.b.cm
          unfold maxLen at hcm2
          clear hc1 hc2 hx hy ex ey
          rcases Nat.lt_trichotomy x y with hxy | hxy | hxy
          · have HL := compare_lt hxy
            go_wp2_with fail
            go_quiet (exact Calls.quiet_of_same (HL _))
            go_wp2_with fail
            refine (holdsP _ p q r (-1) p (.inl ⟨rfl, rfl⟩)).mono ?_
            rintro e w3 ⟨rfl, hb3⟩
            have B3 := hidden ((below_drewN hJ.out.bel _).trans (hb3.mono (below_drewN hJ.out.bel _).size))
            have O3 := hidden (owns_later (w := World.drewN wr _) hJ.out.own hb3)
            have K1 := ((hJ.out.a.sw.later B3.out).at hpa)
            have K2 := ((hJ.out.b.sw.later B3.out).at hpb)
            obtain ⟨_, _, e1, _, f1⟩ := K1
            obtain ⟨_, _, e2, _, f2⟩ := K2
            obtain ⟨rfl, rfl⟩ : _ ∧ _ := by simpa using e1
            obtain ⟨rfl, rfl⟩ : _ ∧ _ := by simpa using e2
            have l1 := f1 0 hpa
            have l2 := f2 0 hpb
            rw [HX.out] at l1
            rw [HY.out] at l2
            simp only [List.getD_cons_zero, Nat.add_zero] at l1 l2
            clear f1 f2 e1 e2 hb3
            have hm := hJ.out.hm
            have hi := hJ.out.hi
            have hj := hJ.out.hj
            cases p
            · go_wp2
              refine ⟨⟨(if cx = 1 then some ⟨b1, o1, none⟩ else some ⟨b1, o1 + 1, none⟩), some ⟨b2, o2, none⟩, ao, cx - 1, cy, co, i + 1, j, m, out, by first | rfl | (simp only [Value.slice.injEq]; refine ⟨by first | rfl | trivial, ?_, ?_⟩ <;> omega), by first | rfl | (simp only [Value.slice.injEq]; refine ⟨by first | rfl | trivial, ?_, ?_⟩ <;> omega), rfl, hidden ⟨by omega, by omega, by omega, by have := hJ.out.sum; rw [HX.out, HY.out, jF_lt hxy] at this; rw [← this]; simp [HX.out, HY.out], hJ.out.a.next hpa, hJ.out.b, O3.out, B3.out⟩⟩, ?_⟩
              dsimp only; omega
            · go_wp2_with fail
              go_region_law (first | refine step_min _ (by rfl) (.tmp 38) (.tmp 41) _ (by rfl) .u32 (x : Int) (y : Int) (x : Int) (by rfl) (by rfl) (by rw [if_neg (by omega)]) ?_ | (refine step_pushW _ (by rfl) (.tmp 35) (.tmp 43) (by rfl) w2.heap.size (.slice ao m co) m out (by rfl) (by exact (O3.out.alloc _).drew) ⟨w3.heap.size, 0, none⟩ x (x : Int) rfl (by rfl) (by simp) (by omega) (by have := B3.out.size; simp; omega) ?_; intro g4 c4 w4 o4 b4))
              all_goals
                have B4 := hidden ((below_drewN (B3.out.alloc B3.out.size _) 1).trans b4)
                have O4 := hidden o4
                clear o4 b4
                go_wp2
                refine ⟨⟨(if cx = 1 then some ⟨b1, o1, none⟩ else some ⟨b1, o1 + 1, none⟩), some ⟨b2, o2, none⟩, some ⟨g4, 0, none⟩, cx - 1, cy, c4, i + 1, j, m + 1, out ++ [x], by first | rfl | (simp only [Value.slice.injEq]; refine ⟨by first | rfl | trivial, ?_, ?_⟩ <;> omega), by first | rfl | (simp only [Value.slice.injEq]; refine ⟨by first | rfl | trivial, ?_, ?_⟩ <;> omega), rfl, hidden ⟨by omega, by omega, by omega, by have := hJ.out.sum; rw [HX.out, HY.out, jF_lt hxy] at this; rw [← this]; simp [HX.out, HY.out], hJ.out.a.next hpa, hJ.out.b, O4.out, B4.out⟩⟩, ?_⟩
                dsimp only; omega
          · subst hxy
            have HL := compare_eq x
            go_wp2_with fail
            go_quiet (exact Calls.quiet_of_same (HL _))
            go_wp2_with fail
            refine (holdsP _ p q r 0 q (.inr (.inr ⟨rfl, rfl⟩))).mono ?_
            rintro e w3 ⟨rfl, hb3⟩
            have B3 := hidden ((below_drewN hJ.out.bel _).trans (hb3.mono (below_drewN hJ.out.bel _).size))
            have O3 := hidden (owns_later (w := World.drewN wr _) hJ.out.own hb3)
            have K1 := ((hJ.out.a.sw.later B3.out).at hpa)
            have K2 := ((hJ.out.b.sw.later B3.out).at hpb)
            obtain ⟨_, _, e1, _, f1⟩ := K1
            obtain ⟨_, _, e2, _, f2⟩ := K2
            obtain ⟨rfl, rfl⟩ : _ ∧ _ := by simpa using e1
            obtain ⟨rfl, rfl⟩ : _ ∧ _ := by simpa using e2
            have l1 := f1 0 hpa
            have l2 := f2 0 hpb
            rw [HX.out] at l1
            rw [HY.out] at l2
            simp only [List.getD_cons_zero, Nat.add_zero] at l1 l2
            clear f1 f2 e1 e2 hb3
            have hm := hJ.out.hm
            have hi := hJ.out.hi
            have hj := hJ.out.hj
            cases q
            · go_wp2
              refine ⟨⟨(if cx = 1 then some ⟨b1, o1, none⟩ else some ⟨b1, o1 + 1, none⟩), (if cy = 1 then some ⟨b2, o2, none⟩ else some ⟨b2, o2 + 1, none⟩), ao, cx - 1, cy - 1, co, i + 1, j + 1, m, out, by first | rfl | (simp only [Value.slice.injEq]; refine ⟨by first | rfl | trivial, ?_, ?_⟩ <;> omega), by first | rfl | (simp only [Value.slice.injEq]; refine ⟨by first | rfl | trivial, ?_, ?_⟩ <;> omega), rfl, hidden ⟨by omega, by omega, by omega, by have := hJ.out.sum; rw [HX.out, HY.out, jF_eq] at this; rw [← this]; simp [HX.out, HY.out], hJ.out.a.next hpa, hJ.out.b.next hpb, O3.out, B3.out⟩⟩, ?_⟩
              dsimp only; omega
            · go_wp2_with fail
              go_region_law (first | refine step_min _ (by rfl) (.tmp 38) (.tmp 41) _ (by rfl) .u32 (x : Int) (x : Int) (x : Int) (by rfl) (by rfl) (by rw [if_neg (by omega)]) ?_ | (refine step_pushW _ (by rfl) (.tmp 35) (.tmp 43) (by rfl) w2.heap.size (.slice ao m co) m out (by rfl) (by exact (O3.out.alloc _).drew) ⟨w3.heap.size, 0, none⟩ x (x : Int) rfl (by rfl) (by simp) (by omega) (by have := B3.out.size; simp; omega) ?_; intro g4 c4 w4 o4 b4))
              all_goals
                have B4 := hidden ((below_drewN (B3.out.alloc B3.out.size _) 1).trans b4)
                have O4 := hidden o4
                clear o4 b4
                go_wp2
                refine ⟨⟨(if cx = 1 then some ⟨b1, o1, none⟩ else some ⟨b1, o1 + 1, none⟩), (if cy = 1 then some ⟨b2, o2, none⟩ else some ⟨b2, o2 + 1, none⟩), some ⟨g4, 0, none⟩, cx - 1, cy - 1, c4, i + 1, j + 1, m + 1, out ++ [x], by first | rfl | (simp only [Value.slice.injEq]; refine ⟨by first | rfl | trivial, ?_, ?_⟩ <;> omega), by first | rfl | (simp only [Value.slice.injEq]; refine ⟨by first | rfl | trivial, ?_, ?_⟩ <;> omega), rfl, hidden ⟨by omega, by omega, by omega, by have := hJ.out.sum; rw [HX.out, HY.out, jF_eq] at this; rw [← this]; simp [HX.out, HY.out], hJ.out.a.next hpa, hJ.out.b.next hpb, O4.out, B4.out⟩⟩, ?_⟩
                dsimp only; omega
          · have HL := compare_gt hxy
            go_wp2_with fail
            go_quiet (exact Calls.quiet_of_same (HL _))
            go_wp2_with fail
            refine (holdsP _ p q r 1 r (.inr (.inl ⟨rfl, rfl⟩))).mono ?_
            rintro e w3 ⟨rfl, hb3⟩
            have B3 := hidden ((below_drewN hJ.out.bel _).trans (hb3.mono (below_drewN hJ.out.bel _).size))
            have O3 := hidden (owns_later (w := World.drewN wr _) hJ.out.own hb3)
            have K1 := ((hJ.out.a.sw.later B3.out).at hpa)
            have K2 := ((hJ.out.b.sw.later B3.out).at hpb)
            obtain ⟨_, _, e1, _, f1⟩ := K1
            obtain ⟨_, _, e2, _, f2⟩ := K2
            obtain ⟨rfl, rfl⟩ : _ ∧ _ := by simpa using e1
            obtain ⟨rfl, rfl⟩ : _ ∧ _ := by simpa using e2
            have l1 := f1 0 hpa
            have l2 := f2 0 hpb
            rw [HX.out] at l1
            rw [HY.out] at l2
            simp only [List.getD_cons_zero, Nat.add_zero] at l1 l2
            clear f1 f2 e1 e2 hb3
            have hm := hJ.out.hm
            have hi := hJ.out.hi
            have hj := hJ.out.hj
            cases r
            · go_wp2
              refine ⟨⟨some ⟨b1, o1, none⟩, (if cy = 1 then some ⟨b2, o2, none⟩ else some ⟨b2, o2 + 1, none⟩), ao, cx, cy - 1, co, i, j + 1, m, out, by first | rfl | (simp only [Value.slice.injEq]; refine ⟨by first | rfl | trivial, ?_, ?_⟩ <;> omega), by first | rfl | (simp only [Value.slice.injEq]; refine ⟨by first | rfl | trivial, ?_, ?_⟩ <;> omega), rfl, hidden ⟨by omega, by omega, by omega, by have := hJ.out.sum; rw [HX.out, HY.out, jF_gt hxy] at this; rw [← this]; simp [HX.out, HY.out], hJ.out.a, hJ.out.b.next hpb, O3.out, B3.out⟩⟩, ?_⟩
              dsimp only; omega
            · go_wp2_with fail
              go_region_law (first | refine step_min _ (by rfl) (.tmp 38) (.tmp 41) _ (by rfl) .u32 (x : Int) (y : Int) (y : Int) (by rfl) (by rfl) (by rw [if_pos (by omega)]) ?_ | (refine step_pushW _ (by rfl) (.tmp 35) (.tmp 43) (by rfl) w2.heap.size (.slice ao m co) m out (by rfl) (by exact (O3.out.alloc _).drew) ⟨w3.heap.size, 0, none⟩ y (y : Int) rfl (by rfl) (by simp) (by omega) (by have := B3.out.size; simp; omega) ?_; intro g4 c4 w4 o4 b4))
              all_goals
                have B4 := hidden ((below_drewN (B3.out.alloc B3.out.size _) 1).trans b4)
                have O4 := hidden o4
                clear o4 b4
                go_wp2
                refine ⟨⟨some ⟨b1, o1, none⟩, (if cy = 1 then some ⟨b2, o2, none⟩ else some ⟨b2, o2 + 1, none⟩), some ⟨g4, 0, none⟩, cx, cy - 1, c4, i, j + 1, m + 1, out ++ [y], by first | rfl | (simp only [Value.slice.injEq]; refine ⟨by first | rfl | trivial, ?_, ?_⟩ <;> omega), by first | rfl | (simp only [Value.slice.injEq]; refine ⟨by first | rfl | trivial, ?_, ?_⟩ <;> omega), rfl, hidden ⟨by omega, by omega, by omega, by have := hJ.out.sum; rw [HX.out, HY.out, jF_gt hxy] at this; rw [← this]; simp [HX.out, HY.out], hJ.out.a, hJ.out.b.next hpb, O4.out, B4.out⟩⟩, ?_⟩
                dsimp only; omega
        · have hend : A.drop i = [] ∨ B.drop j = [] := by
            by_cases h : 0 < n1 - i
            · exact .inr (List.drop_eq_nil_of_le (by omega))
            · exact .inl (List.drop_eq_nil_of_le (by omega))
          have HE := hidden (hJ.out.sum.symm.trans (by rw [jF_end hend]))
          have hm := hJ.out.hm
          have hi := hJ.out.hi
          have hj := hJ.out.hj
          have hgo : (0 < n1 - i ∧ ¬ 0 < n2 - j) ∨ ¬ 0 < n1 - i := by omega
          rcases hgo with ⟨hpa, hpb⟩ | hpa
          · have hpaz : ((n1 - i : Nat) : Int) > 0 := by omega
            have hpbz : ¬ ((n2 - j : Nat) : Int) > 0 := by omega
            cases p <;> cases r
            all_goals
              go_wp2_with (first
                | (refine wpList_appW _ rfl (.tmp 55) (.tmp 56) rfl w2.heap.size (.slice ao m co) m out rfl hJ.out.own ax (n1 - i) cx (A.drop i) rfl (hJ.out.a.sw.later hJ.out.bel) hJ.out.a.no (by omega) hJ.out.bel.size ?_; intro a5 c5 w5 o5 b5; have O5 := hidden o5; have B5 := hidden (hJ.out.bel.trans b5); clear o5 b5; have e2 := (HBLK.out.later B5.out).cell 2; simp at e2)
                | (refine wpList_appW _ rfl (.tmp 60) (.tmp 61) rfl w2.heap.size (.slice a5 (m + (n1 - i)) c5) (m + (n1 - i)) (out ++ A.drop i) rfl O5.out ay (n2 - j) cy (B.drop j) rfl (hJ.out.b.sw.later B5.out) hJ.out.b.no (by omega) B5.out.size ?_; intro a6 c6 w6 o6 b6; have O6 := hidden o6; have B6 := hidden (B5.out.trans b6); clear o6 b6)
                | (refine wpList_appW _ rfl (.tmp 60) (.tmp 61) rfl w2.heap.size (.slice ao m co) m out rfl hJ.out.own ay (n2 - j) cy (B.drop j) rfl (hJ.out.b.sw.later hJ.out.bel) hJ.out.b.no (by omega) hJ.out.bel.size ?_; intro a5 c5 w5 o5 b5; have O5 := hidden o5; have B5 := hidden (hJ.out.bel.trans b5); clear o5 b5))
              go_ret
              first
                | exact outW_of O6.out B6.out HB2.out (by rw [joF, if_pos ⟨hr1, hr2⟩, HE.out]; simp)
                | exact outW_of O5.out B5.out HB2.out (by rw [joF, if_pos ⟨hr1, hr2⟩, HE.out]; simp)
                | exact outW_of hJ.out.own hJ.out.bel HB2.out (by rw [joF, if_pos ⟨hr1, hr2⟩, HE.out]; simp)
          · have hpaz : ¬ ((n1 - i : Nat) : Int) > 0 := by omega
            cases p <;> cases r
            all_goals
              go_wp2_with (first
                | (refine wpList_appW _ rfl (.tmp 55) (.tmp 56) rfl w2.heap.size (.slice ao m co) m out rfl hJ.out.own ax (n1 - i) cx (A.drop i) rfl (hJ.out.a.sw.later hJ.out.bel) hJ.out.a.no (by omega) hJ.out.bel.size ?_; intro a5 c5 w5 o5 b5; have O5 := hidden o5; have B5 := hidden (hJ.out.bel.trans b5); clear o5 b5; have e2 := (HBLK.out.later B5.out).cell 2; simp at e2)
                | (refine wpList_appW _ rfl (.tmp 60) (.tmp 61) rfl w2.heap.size (.slice a5 (m + (n1 - i)) c5) (m + (n1 - i)) (out ++ A.drop i) rfl O5.out ay (n2 - j) cy (B.drop j) rfl (hJ.out.b.sw.later B5.out) hJ.out.b.no (by omega) B5.out.size ?_; intro a6 c6 w6 o6 b6; have O6 := hidden o6; have B6 := hidden (B5.out.trans b6); clear o6 b6)
                | (refine wpList_appW _ rfl (.tmp 60) (.tmp 61) rfl w2.heap.size (.slice ao m co) m out rfl hJ.out.own ay (n2 - j) cy (B.drop j) rfl (hJ.out.b.sw.later hJ.out.bel) hJ.out.b.no (by omega) hJ.out.bel.size ?_; intro a5 c5 w5 o5 b5; have O5 := hidden o5; have B5 := hidden (hJ.out.bel.trans b5); clear o5 b5))
              go_ret
              first
                | exact outW_of O6.out B6.out HB2.out (by rw [joF, if_pos ⟨hr1, hr2⟩, HE.out]; simp)
                | exact outW_of O5.out B5.out HB2.out (by rw [joF, if_pos ⟨hr1, hr2⟩, HE.out]; simp)
                | exact outW_of hJ.out.own hJ.out.bel HB2.out (by rw [joF, if_pos ⟨hr1, hr2⟩, HE.out]; simp)
    · simp only [hr2, decide_false]
      go_wp2
      go_ret
      rw [joF_not (fun h => hr2 h.2)]
      exact ⟨none, 0, rfl, World.ownsRow_nil _ _ _ _, HB2.out⟩
  · simp only [hr1, decide_false]
    go_wp2
    go_ret
    rw [joF_not (fun h => hr1 h.1)]
    exact ⟨none, 0, rfl, World.ownsRow_nil _ _ _ _, HB1.out⟩

end Go.Proofs.YtgmdpbahcbhfjaaGreatDoor.J
/-
  Package post: And, Or, Not, Add, Take.
-/
namespace Go.Proofs.YtgmdpbahcbhfjaaGreatDoor.J
open Go.RowKit

theorem wrd_joF {p q r : Bool} {a b : List Nat} (h1 : Wrd a) (h2 : Wrd b) : Wrd (joF p q r a b) := by
  by_cases h : Ris a ∧ Ris b
  · intro x hx
    rcases (joF_mem h.1 h.2 x).1 hx with e | e | e
    · exact h1 x e.2.1
    · exact h1 x e.2.1
    · exact h2 x e.2.2
  · rw [joF_not h]; exact Wrd.nil

/-- What came out is handed in. -/
theorem ar_owns {w : World} {base : Nat} {ad : Option Addr} {n c : Nat} {l : List Nat} (h : w.ownsRow base 114 1 (.slice ad n c) n (cells32 l)) (hb : Wrd l) : Ar w ad n c l := by
  obtain ⟨_, h1, h2, h3⟩ := owns_cap h
  exact ⟨sw_of_owns h hb, h3, h1, h2⟩
theorem andP (w : World) (a1 a2 : Option Addr) (n1 c1 n2 c2 : Nat) (A B : List Nat) (h1 : Ar w a1 n1 c1 A) (h2 : Ar w a2 n2 c2 B) (hn1 : n1 ≤ 1000000) (hn2 : n2 ≤ 1000000) :
    Calls Tryz.prog 75 #[.slice a1 n1 c1, .slice a2 n2 c2] w fun e w' => OutW w e w' (andF A B) := by
  go_enter Tryz.func75, Tryz.ntmps75
  go_wp2_with fail
  refine (joinP w a1 a2 n1 c1 n2 c2 A B false true false h1 h2 hn1 hn2).mono ?_
  rintro e w' ⟨ad, c, rfl, ho, hb⟩
  go_wp2
  go_ret
  exact ⟨ad, c, rfl, ho, hb⟩
theorem notP (w : World) (a1 a2 : Option Addr) (n1 c1 n2 c2 : Nat) (A B : List Nat) (h1 : Ar w a1 n1 c1 A) (h2 : Ar w a2 n2 c2 B) (hn1 : n1 ≤ 1000000) (hn2 : n2 ≤ 1000000) :
    Calls Tryz.prog 73 #[.slice a1 n1 c1, .slice a2 n2 c2] w fun e w' => OutW w e w' (notF A B) := by
  go_enter Tryz.func73, Tryz.ntmps73
  go_wp2_with fail
  refine (joinP w a1 a2 n1 c1 n2 c2 A B true false false h1 h2 hn1 hn2).mono ?_
  rintro e w' ⟨ad, c, rfl, ho, hb⟩
  go_wp2
  go_ret
  exact ⟨ad, c, rfl, ho, hb⟩

end Go.Proofs.YtgmdpbahcbhfjaaGreatDoor.J
/-
  The law's own helpers: same, short, lent, still, owned.
-/
namespace Go.Proofs.YtgmdpbahcbhfjaaGreatDoor.J
open Go.RowKit

end Go.Proofs.YtgmdpbahcbhfjaaGreatDoor.J
/-
  Package post: Put.
-/
namespace Go.Proofs.YtgmdpbahcbhfjaaGreatDoor.J
open Go.RowKit

end Go.Proofs.YtgmdpbahcbhfjaaGreatDoor.J
/-
  Package post: Get.
-/
namespace Go.Proofs.YtgmdpbahcbhfjaaGreatDoor.J
open Go.RowKit

end Go.Proofs.YtgmdpbahcbhfjaaGreatDoor.J
/-
  shown: the document's examples.
-/
namespace Go.Proofs.YtgmdpbahcbhfjaaGreatDoor.J
open Go.RowKit

theorem bt {B : Nat} {w w1 w2 : World} (h : Below B w w1) (hB : B ≤ w.heap.size) (k : Below w1.heap.size w1 w2) : Below B w w2 := h.trans (k.mono (Nat.le_trans hB h.size))

end Go.Proofs.YtgmdpbahcbhfjaaGreatDoor.J
/-
  owned: a list's owner writes over it.
-/
namespace Go.Proofs.YtgmdpbahcbhfjaaGreatDoor.J
open Go.RowKit

end Go.Proofs.YtgmdpbahcbhfjaaGreatDoor.J
/-
  PostAlgebra: what is asked of sets, purely; the document's Rises; an append behind a row's rest.
-/
namespace Go.Proofs.YtgmdpbahcbhfjaaGreatDoor.J
open Go.RowKit

end Go.Proofs.YtgmdpbahcbhfjaaGreatDoor.J
/-
  The document's And, Not, Has, Take.
-/
namespace Go.Proofs.YtgmdpbahcbhfjaaGreatDoor.J
open Go.RowKit

end Go.Proofs.YtgmdpbahcbhfjaaGreatDoor.J
/-
  The document's Take, Add, Or.
-/
namespace Go.Proofs.YtgmdpbahcbhfjaaGreatDoor.J
open Go.RowKit

end Go.Proofs.YtgmdpbahcbhfjaaGreatDoor.J
/-
  The document's Add, Or.
-/
namespace Go.Proofs.YtgmdpbahcbhfjaaGreatDoor.J
open Go.RowKit

end Go.Proofs.YtgmdpbahcbhfjaaGreatDoor.J
/-
  The document's Or.
-/
namespace Go.Proofs.YtgmdpbahcbhfjaaGreatDoor.J
open Go.RowKit

end Go.Proofs.YtgmdpbahcbhfjaaGreatDoor.J
/-
  Walk, purely: runs of a sorted list; of lists that rise, joined, they are the union, each number with how many lists it is in.
-/
namespace Go.Proofs.YtgmdpbahcbhfjaaGreatDoor.J
open Go.RowKit

/-- Equal numbers side by side, each with how many there are. -/
def runsF : List Nat → List (Nat × Nat)
  | [] => []
  | a :: l => match runsF l with
    | [] => [(a, 1)]
    | (b, k) :: r => if a = b then (b, k + 1) :: r else (a, 1) :: (b, k) :: r

theorem runsF_head : ∀ (l : List Nat) (b k : Nat) (r : List (Nat × Nat)), runsF l = (b, k) :: r → l.head? = some b
  | [], b, k, r, h => by cases h
  | a :: l, b, k, r, h => by
    unfold runsF at h
    split at h
    · injection h with h1 h2
      injection h1 with h1 h3
      simp [h1]
    · split at h
      · rename_i e
        injection h with h1 h2
        injection h1 with h1 h3
        simp [e, h1]
      · injection h with h1 h2
        injection h1 with h1 h3
        simp [h1]
theorem runsF_one (a : Nat) (l : List Nat) (h : l.head? ≠ some a) : runsF (a :: l) = (a, 1) :: runsF l := by
  conv => lhs; unfold runsF
  split
  · rename_i e; rw [e]
  · rename_i b k r e
    have := runsF_head l b k r e
    rw [if_neg (fun e2 => h (by rw [this, e2])), e]
theorem runsF_more (a k : Nat) (l : List Nat) (r : List (Nat × Nat)) (h : runsF l = (a, k) :: r) : runsF (a :: l) = (a, k + 1) :: r := by
  conv => lhs; unfold runsF
  rw [h]
  simp
theorem runsF_rep (a : Nat) (l : List Nat) (h : l.head? ≠ some a) : ∀ k, runsF (List.replicate (k + 1) a ++ l) = (a, k + 1) :: runsF l
  | 0 => by simpa using runsF_one a l h
  | k + 1 => by
    rw [List.replicate_succ, List.cons_append]
    exact runsF_more a (k + 1) _ _ (runsF_rep a l h k)

/-- What a round of runs holds: from f to i all are one number. -/
def Alike (l : List Nat) (f i : Nat) : Prop := ∀ j, f ≤ j → j ≤ i → l.getD j 0 = l.getD i 0
theorem alike_self (l : List Nat) (i : Nat) : Alike l i i := fun j h1 h2 => by rw [show j = i by omega]
theorem alike_next {l : List Nat} {f i : Nat} (h : Alike l f i) (e : l.getD i 0 = l.getD (i + 1) 0) : Alike l f (i + 1) := by
  intro j h1 h2
  rcases Nat.lt_or_ge i j with hj | hj
  · rw [show j = i + 1 by omega]
  · rw [h j h1 hj, e]
theorem runs_step {l : List Nat} {f i : Nat} (hf : f ≤ i) (hi : i < l.length) (h : Alike l f i) (hn : i + 1 < l.length → l.getD i 0 ≠ l.getD (i + 1) 0) :
    runsF (l.drop f) = (l.getD i 0, i + 1 - f) :: runsF (l.drop (i + 1)) := by
  obtain ⟨k, rfl⟩ : ∃ k, i = f + k := ⟨i - f, by omega⟩
  have e : l.drop f = List.replicate (k + 1) (l.getD (f + k) 0) ++ l.drop (f + k + 1) := by
    rw [show l.drop (f + k + 1) = (l.drop f).drop (k + 1) by rw [List.drop_drop, Nat.add_assoc]]
    conv => lhs; rw [← List.take_append_drop (k + 1) (l.drop f)]
    congr 1
    rw [List.eq_replicate_iff]
    refine ⟨by simp; omega, fun b hb => ?_⟩
    obtain ⟨j, hj, rfl⟩ := List.mem_iff_getElem.1 hb
    simp only [List.length_take, List.length_drop] at hj
    have := h (f + j) (by omega) (by omega)
    rw [← this]
    simp [List.getD, show f + j < l.length by omega]
  rw [e, runsF_rep]
  · congr 2
    omega
  · intro hh
    rw [List.head?_drop, List.getElem?_eq_some_iff] at hh
    obtain ⟨h1, h2⟩ := hh
    refine hn h1 ?_
    rw [← h2]
    simp [List.getD, h1]

theorem head_le {l : List Nat} {a b : Nat} (h : (a :: l).Pairwise (· ≤ ·)) (hb : l.head? = some b) : a ≤ b := by
  cases l with
  | nil => cases hb
  | cons c r =>
    injection hb with hb
    subst hb
    exact (List.pairwise_cons.1 h).1 c (by simp)
/-- Runs of a sorted list: its numbers, rising, each as often as it stands there. -/
theorem runs_sorted : ∀ (l : List Nat), l.Pairwise (· ≤ ·) → Ris ((runsF l).map Prod.fst) ∧ (∀ x : Nat × Nat, x ∈ runsF l → x.1 ∈ l ∧ x.2 = l.count x.1) ∧ ∀ n ∈ l, n ∈ (runsF l).map Prod.fst
  | [], _ => ⟨ris_nil, fun x hx => by simp [runsF] at hx, fun n hn => by simp at hn⟩
  | a :: l, h => by
    obtain ⟨h1, h2, h3⟩ := runs_sorted l (List.pairwise_cons.1 h).2
    cases hr : runsF l with
    | nil =>
      have hl : l = [] := by
        cases l with
        | nil => rfl
        | cons b r => have := h3 b (by simp); rw [hr] at this; simp at this
      subst hl
      have : runsF [a] = [(a, 1)] := rfl
      rw [this]
      refine ⟨ris_one a, fun x hx => ?_, fun n hn => by simpa using hn⟩
      simp at hx
      subst hx
      simp
    | cons p r =>
      obtain ⟨b, k⟩ := p
      have hb := runsF_head l b k r hr
      have hab := head_le h hb
      rw [hr] at h1 h2 h3
      simp only [List.map_cons] at h1 h3
      rcases Nat.lt_or_ge a b with hlt | hge
      · have e : runsF (a :: l) = (a, 1) :: (b, k) :: r := by rw [← hr]; exact runsF_one a l (by rw [hb]; intro e; injection e with e; omega)
        have hbl : b ≤ b := Nat.le_refl _
        have hmin : ∀ x ∈ b :: r.map Prod.fst, b ≤ x := fun x hx => by
          rcases List.mem_cons.1 hx with rfl | hx
          · exact Nat.le_refl _
          · exact Nat.le_of_lt ((List.pairwise_cons.1 h1).1 x hx)
        rw [e]
        simp only [List.map_cons]
        refine ⟨List.pairwise_cons.2 ⟨fun x hx => Nat.lt_of_lt_of_le hlt (hmin x hx), h1⟩, fun x hx => ?_, fun n hn => ?_⟩
        · rcases List.mem_cons.1 hx with rfl | hx
          · refine ⟨by simp, ?_⟩
            have hna : a ∉ l := fun hm => by have := hmin a (h3 a hm); omega
            rw [List.count_cons_self, List.count_eq_zero.2 hna]
          · have hx1 := hmin x.1 (by
              have := List.mem_map_of_mem (f := Prod.fst) hx
              simpa using this)
            obtain ⟨q1, q2⟩ := h2 x hx
            refine ⟨by simp [q1], ?_⟩
            rw [List.count_cons_of_ne (by omega)]
            exact q2
        · rcases List.mem_cons.1 hn with rfl | hn
          · simp
          · exact List.mem_cons_of_mem _ (h3 n hn)
      · obtain rfl : a = b := by omega
        have e : runsF (a :: l) = (a, k + 1) :: r := runsF_more a k l r hr
        rw [e]
        simp only [List.map_cons]
        refine ⟨h1, fun x hx => ?_, fun n hn => ?_⟩
        · rcases List.mem_cons.1 hx with rfl | hx
          · refine ⟨by simp, ?_⟩
            have := (h2 (a, k) (by simp)).2
            dsimp only at this ⊢
            rw [List.count_cons_self, ← this]
          · obtain ⟨q1, q2⟩ := h2 x (by simp [hx])
            refine ⟨by simp [q1], ?_⟩
            have hx1 := (List.pairwise_cons.1 h1).1 x.1 (List.mem_map_of_mem (f := Prod.fst) hx)
            rw [List.count_cons_of_ne (by omega)]
            exact q2
        · rcases List.mem_cons.1 hn with rfl | hn
          · simp
          · exact h3 n hn

/-- How many of the lists have it. -/
def inMany (ls : List (List Nat)) (n : Nat) : Nat := (ls.filter (fun l => decide (n ∈ l))).length
theorem ris_count {l : List Nat} (h : Ris l) (n : Nat) : l.count n = if n ∈ l then 1 else 0 := by
  by_cases hn : n ∈ l
  · rw [if_pos hn]
    have hnd : l.Nodup := List.Pairwise.imp (fun h => by omega) h
    exact Nat.le_antisymm (List.nodup_iff_count.1 hnd n) (List.count_pos_iff.2 hn)
  · rw [if_neg hn, List.count_eq_zero.2 hn]
theorem count_flat : ∀ (ls : List (List Nat)), (∀ l ∈ ls, Ris l) → ∀ n, ls.flatten.count n = inMany ls n
  | [], _, n => rfl
  | l :: ls, h, n => by
    rw [List.flatten_cons, List.count_append, count_flat ls (fun m hm => h m (by simp [hm])) n, ris_count (h l (by simp))]
    unfold inMany
    by_cases hn : n ∈ l <;> simp [hn]
    omega
/-- The union, list by list. -/
def unionF (ls : List (List Nat)) : List Nat := ls.foldl orF []
theorem fold_orF : ∀ (ls : List (List Nat)) (A : List Nat), Ris A → (∀ l ∈ ls, Ris l) → Ris (ls.foldl orF A) ∧ ∀ x, x ∈ ls.foldl orF A ↔ x ∈ A ∨ ∃ l ∈ ls, x ∈ l
  | [], A, h, _ => ⟨h, fun x => by simp⟩
  | l :: ls, A, h, k => by
    obtain ⟨h1, h2⟩ := fold_orF ls (orF A l) (joF_ris _ _ _ _ _) (fun m hm => k m (by simp [hm]))
    refine ⟨h1, fun x => ?_⟩
    rw [List.foldl_cons, h2, orF_mem h (k l (by simp))]
    constructor
    · rintro ((hx | hx) | ⟨m, hm, hx⟩)
      · exact .inl hx
      · exact .inr ⟨l, by simp, hx⟩
      · exact .inr ⟨m, by simp [hm], hx⟩
    · rintro (hx | ⟨m, hm, hx⟩)
      · exact .inl (.inl hx)
      · rcases List.mem_cons.1 hm with rfl | hm
        · exact .inl (.inr hx)
        · exact .inr ⟨m, hm, hx⟩
theorem unionF_ris (ls : List (List Nat)) (h : ∀ l ∈ ls, Ris l) : Ris (unionF ls) := (fold_orF ls [] ris_nil h).1
theorem unionF_mem (ls : List (List Nat)) (h : ∀ l ∈ ls, Ris l) (x : Nat) : x ∈ unionF ls ↔ ∃ l ∈ ls, x ∈ l := by
  rw [show unionF ls = ls.foldl orF [] from rfl, (fold_orF ls [] ris_nil h).2]
  simp
/-- What Walk tells: the document's answer. -/
def walkF (ls : List (List Nat)) : List (Nat × Nat) := (unionF ls).map (fun n => (n, inMany ls n))
theorem walk_runs (ls : List (List Nat)) (h : ∀ l ∈ ls, Ris l) (m : List Nat) (hp : m.Perm ls.flatten) (hs : m.Pairwise (· ≤ ·)) : runsF m = walkF ls := by
  obtain ⟨h1, h2, h3⟩ := runs_sorted m hs
  have e : (runsF m).map Prod.fst = unionF ls := ris_ext h1 (unionF_ris ls h) (fun x => by
    rw [unionF_mem ls h, ← List.mem_flatten, ← hp.mem_iff]
    constructor
    · intro hx
      obtain ⟨y, hy, rfl⟩ := List.mem_map.1 hx
      exact (h2 y hy).1
    · exact h3 x)
  unfold walkF
  rw [← e, List.map_map]
  conv => lhs; rw [← List.map_id (runsF m)]
  refine List.map_congr_left fun x hx => ?_
  simp only [id, Function.comp]
  rw [← count_flat ls h, ← hp.count_eq, ← (h2 x hx).2]
theorem unionF_wrd : ∀ (ls : List (List Nat)) (A : List Nat), Wrd A → (∀ l ∈ ls, Wrd l) → Wrd (ls.foldl orF A)
  | [], A, h, _ => h
  | l :: ls, A, h, k => unionF_wrd ls (orF A l) (wrd_joF h (k l (by simp))) (fun m hm => k m (by simp [hm]))
end Go.Proofs.YtgmdpbahcbhfjaaGreatDoor.J
