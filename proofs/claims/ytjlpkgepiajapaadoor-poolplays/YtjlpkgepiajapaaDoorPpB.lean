/-
  The document's pool, in memory; New, is, Take, Give.
-/
import Derived.Test.YtjlpkgepiajapaaDoorPpA
import Derived.Laws.MakeOwn
namespace Go.Proofs.YtjlpkgepiajapaaDoor
open Go.RowKit
set_option linter.unusedVariables false
set_option linter.unusedSimpArgs false

theorem info_parts {P : Program} {ty : TypeId} {z : Option Value} {s b : Nat} (h : (P.info? ty).map (fun i => (i.zero, i.size, i.bytes)) = some (z, s, b)) : ∃ i, P.info? ty = some i ∧ i.zero = z ∧ i.size = s ∧ i.bytes = b := by
  cases e : P.info? ty with
  | none => rw [e] at h; cases h
  | some i =>
    rw [e] at h
    simp at h
    exact ⟨i, rfl, h.1, h.2.1, h.2.2⟩
/-- 'make([]T, n)'. -/
theorem wpList_make_any {P : Program} (w : World) {ops : Array Oper} {rest : List Oper} {o : Oper} {a : Act} {Q : Exit → Act → World → Prop}
    (hg : o.guard = none) (l c : Operand) (t : TypeId) (hop : o.op = Op.makeSlice t l c) (e : TypeId) (z : Value) (s b : Nat) (h1 : P.underlying t = some (.slice e)) (h2 : (P.info? e).map (fun i => (i.zero, i.size, i.bytes)) = some (some z, s, b))
    (n : Nat) (hl : a.eval l = .int .i64 (n : Int)) (hc : a.eval c = .int .i64 (n : Int)) (hb : b * n ≤ 281474976710656) (hn : n ≤ 281474976710656)
    (hK : ∀ w', Blk w' w.heap.size e (madeCells z.cells (n * s)).toList → w'.heap.size = w.heap.size + 1 → Below w.heap.size w w' → wpList P ops Q rest (a.put o.dst (.slice (some ⟨w.heap.size, 0, none⟩) n n)) w') : wpList P ops Q (o :: rest) a w := by
  obtain ⟨i, hi, hz, hs, hby⟩ := info_parts h2
  refine wpList_plain hg fun K hK' => ?_
  have hr := run_make (P := P) w t e i z h1 hi hz .i64 .i64 (n : Int) (n : Int) (by omega) (by omega) (by rw [hby, ← Int.natCast_mul]; omega) (by omega)
  rw [hs] at hr
  simp only [Int.toNat_natCast] at hr
  unfold Oper.wp
  simp [execOp, hop, hl, hc, hr, Result.andThen]
  refine hK' _ _ (hK _ ?_ (by simp) ((Below.refl _ _).alloc (Nat.le_refl _) _))
  unfold Blk
  rw [heap_alloc_new w]

/-- A slot's cells. -/
def rcV (st : Sx) (B : Nat → Value) (j : Nat) : Value :=
  if j % 3 = 0 then .bool (st (j / 3)).isSome else if j % 3 = 1 then .string (((st (j / 3)).map (·.1)).getD ⟨#[]⟩) else match st (j / 3) with
  | none => .slice none 0 0
  | some _ => B (j / 3)
def rL (n : Nat) (st : Sx) (B : Nat → Value) : List Value := (List.range (n * 3)).map (rcV st B)
def upN (B : Nat → Value) (i : Nat) (v : Value) : Nat → Value := fun j => if j = i then v else B j
theorem rL_at {n i r : Nat} (st : Sx) (B : Nat → Value) (hi : i < n) (hr : r < 3) : (rL n st B)[i * 3 + r]? = some (rcV st B (i * 3 + r)) := by
  unfold rL
  rw [List.getElem?_map, List.getElem?_range (by omega)]
  rfl
theorem rcV0 (st : Sx) (B : Nat → Value) (i : Nat) : rcV st B (i * 3) = .bool (st i).isSome := by
  unfold rcV
  rw [show i * 3 / 3 = i by omega, if_pos (by omega)]
theorem rcV1 (st : Sx) (B : Nat → Value) (i : Nat) : rcV st B (i * 3 + 1) = .string (((st i).map (·.1)).getD ⟨#[]⟩) := by
  unfold rcV
  rw [show (i * 3 + 1) / 3 = i by omega, if_neg (by omega), if_pos (by omega)]
theorem rcV2 (st : Sx) (B : Nat → Value) (i : Nat) {x : ByteArray × ByteArray} (h : st i = some x) : rcV st B (i * 3 + 2) = B i := by
  unfold rcV
  rw [show (i * 3 + 2) / 3 = i by omega, if_neg (by omega), if_neg (by omega), h]
theorem rcV_off {st st' : Sx} {B B' : Nat → Value} {j : Nat} (h1 : st' (j / 3) = st (j / 3)) (h2 : B' (j / 3) = B (j / 3)) : rcV st' B' j = rcV st B j := by
  unfold rcV
  rw [h1, h2]
theorem rL_set (n i : Nat) (st : Sx) (B : Nat → Value) (x : Option (ByteArray × ByteArray)) (v : Value) (hv : x = none → v = .slice none 0 0) (hi : i < n) :
    ((((rL n st B).set (i * 3) (.bool x.isSome)).set (i * 3 + 1) (.string ((x.map (·.1)).getD ⟨#[]⟩))).set (i * 3 + 2) v) = rL n (upS st i x) (upN B i v) := by
  apply List.ext_getElem?
  intro j
  unfold rL
  simp only [List.getElem?_set, List.length_set, List.length_map, List.length_range, List.getElem?_map]
  have k0 : i * 3 < n * 3 := by omega
  have k1 : i * 3 + 1 < n * 3 := by omega
  have k2 : i * 3 + 2 < n * 3 := by omega
  simp only [k0, k1, k2, if_true]
  have e2 : ∀ j, j / 3 = i → upS st i x (j / 3) = x := fun j h => if_pos h
  have e3 : ∀ j, j / 3 = i → upN B i v (j / 3) = v := fun j h => if_pos h
  by_cases hj : j < n * 3
  · rw [List.getElem?_range hj]
    simp only [Option.map_some]
    by_cases h2 : i * 3 + 2 = j
    · rw [if_pos h2]
      unfold rcV
      rw [e2 j (by omega), e3 j (by omega), if_neg (by omega), if_neg (by omega)]
      cases x with
      | none => rw [hv rfl]
      | some y => rfl
    · rw [if_neg h2]
      by_cases h1 : i * 3 + 1 = j
      · rw [if_pos h1]
        unfold rcV
        rw [e2 j (by omega), if_neg (by omega), if_pos (by omega)]
      · rw [if_neg h1]
        by_cases h0 : i * 3 = j
        · rw [if_pos h0]
          unfold rcV
          rw [e2 j (by omega), if_pos (by omega)]
        · rw [if_neg h0]
          have hne : ¬ j / 3 = i := by omega
          rw [rcV_off (st := st) (B := B) (st' := upS st i x) (B' := upN B i v) (if_neg hne) (if_neg hne)]
  · rw [List.getElem?_eq_none (by simp; omega), if_neg (by omega), if_neg (by omega), if_neg (by omega)]
    rfl
theorem Tg.chg {F : Nat → Prop} {w w' : World} {i : Nat} {t : TypeId} (h : Tg w i t) (k : Chg F w w') (hF : ¬ F i) : Tg w' i t := by
  have hl := h.lt
  obtain ⟨cs, fr, e⟩ := h
  exact ⟨cs, fr, by rw [k.block i hl hF]; exact e⟩
/-- The document's pool in memory. -/
structure RP (w : World) (r q n : Nat) (st : Sx) (B : Nat → Value) : Prop where
  blk : Blk w r 66 [.slice (some ⟨q, 0, none⟩) n n]
  row : Blk w q 85 (rL n st B)
  n1 : 1 ≤ n ∧ n ≤ 65536
  fin : ∀ i, n ≤ i → st i = none
  byt : ∀ i o d, st i = some (o, d) → ∃ ad c, B i = .slice ad d.size c ∧ Sl w ad d.size (bts d) ∧ (ad = none → d.size = 0 ∧ c = 0) ∧ (∀ x, ad = some x → 0 < d.size → Tg w x.block 5)
/-- The blocks of its bytes. -/
def RG (st : Sx) (B : Nat → Value) : Nat → Prop := fun k => ∃ i o d ad c, st i = some (o, d) ∧ B i = .slice (some ad) d.size c ∧ 0 < d.size ∧ ad.block = k
theorem RP.chg {F : Nat → Prop} {w w' : World} {r q n : Nat} {st : Sx} {B : Nat → Value} (h : RP w r q n st B) (k : Chg F w w') (hr : ¬ F r) (hq : ¬ F q) (hb : ∀ i, RG st B i → ¬ F i) : RP w' r q n st B :=
  ⟨k.blk h.blk hr, k.blk h.row hq, h.n1, h.fin, fun i o d hi => by
    obtain ⟨ad, c, e1, e2, e3, e4⟩ := h.byt i o d hi
    exact ⟨ad, c, e1, k.sl e2 (fun x hx h0 => hb x.block ⟨i, o, d, x, c, hi, by rw [e1, hx], h0, rfl⟩), e3, fun x hx h0 => (e4 x hx h0).chg k (hb x.block ⟨i, o, d, x, c, hi, by rw [e1, hx], h0, rfl⟩)⟩⟩
theorem RP.later {w w' : World} {r q n : Nat} {st : Sx} {B : Nat → Value} (h : RP w r q n st B) (k : Below w.heap.size w w') : RP w' r q n st B :=
  h.chg (F := fun _ => False) (Chg.of_below k) (fun h => h) (fun h => h) (fun _ _ h => h)
theorem RP.ne {w : World} {r q n : Nat} {st : Sx} {B : Nat → Value} (h : RP w r q n st B) : ¬ r = q := h.blk.tg.ne h.row.tg (by decide)
theorem RG.tg {w : World} {r q n : Nat} {st : Sx} {B : Nat → Value} (h : RP w r q n st B) {i : Nat} (hi : RG st B i) : Tg w i 5 := by
  obtain ⟨j, o, d, ad, c, e1, e2, e3, rfl⟩ := hi
  obtain ⟨ad', c', e4, _, _, e5⟩ := h.byt j o d e1
  rw [e2] at e4
  simp only [Value.slice.injEq] at e4
  exact e5 ad e4.1.symm e3
theorem RG.lt {w : World} {r q n : Nat} {st : Sx} {B : Nat → Value} (h : RP w r q n st B) {i : Nat} (hi : RG st B i) : i < w.heap.size := (RG.tg h hi).lt
theorem RP.rgq {w : World} {r q n : Nat} {st : Sx} {B : Nat → Value} (h : RP w r q n st B) : ∀ i, RG st B i → ¬ i = q := fun i hi => (RG.tg h hi).ne h.row.tg (by decide)
/-- A slot's cells are written over. -/
theorem RP.put {w w' : World} {r q n i : Nat} {st : Sx} {B : Nat → Value} (h : RP w r q n st B) (x : Option (ByteArray × ByteArray)) (v : Value) (hi : i < n) (hk : Chg (fun j => j = q) w w') (hr : Blk w' q 85 (rL n (upS st i x) (upN B i v)))
    (hx : ∀ o d, x = some (o, d) → ∃ ad c, v = .slice ad d.size c ∧ Sl w' ad d.size (bts d) ∧ (ad = none → d.size = 0 ∧ c = 0) ∧ (∀ x, ad = some x → 0 < d.size → Tg w' x.block 5)) : RP w' r q n (upS st i x) (upN B i v) := by
  refine ⟨hk.blk h.blk h.ne, hr, h.n1, fun j hj => ?_, fun j o d hj => ?_⟩
  · unfold upS
    rw [if_neg (by omega)]
    exact h.fin j hj
  · unfold upS at hj
    unfold upN
    by_cases e : j = i
    · rw [if_pos e] at hj ⊢
      exact hx o d hj
    · rw [if_neg e] at hj ⊢
      obtain ⟨ad, c, e1, e2, e3, e4⟩ := h.byt j o d hj
      exact ⟨ad, c, e1, hk.sl e2 (fun y hy h0 => h.rgq y.block ⟨j, o, d, y, c, hj, by rw [e1, hy], h0, rfl⟩), e3, fun y hy h0 => (e4 y hy h0).chg hk (h.rgq y.block ⟨j, o, d, y, c, hj, by rw [e1, hy], h0, rfl⟩)⟩
end Go.Proofs.YtjlpkgepiajapaaDoor
