/-
  Several elements behind a row that a call owns (…Push has one); what outlasts what. Nothing of the program.
-/
import Derived.Test.YtfhhcpcedfgceaaPutsM
import Derived.Test.YtfhhcpcedfgceaaAnyC
namespace Go.Proofs.Ytfhhcpcedfgceaa
open Go.RowKit
set_option linter.unusedVariables false

theorem run_pushN {P : Program} (w : World) (t ty e : TypeId) (i : TypeInfo) (z : Value) (bytes : Nat) (ht : P.underlying t = some (.slice e)) (hi : P.info? e = some i) (hz : i.zero = some z)
    (hsize : i.size = 1) (hby : i.bytes = bytes) (hzs : z.cells.size = 1) (base : Nat) (v : Value) (n : Nat) (xs : List Value) (hown : w.ownsRow base e 1 v n xs)
    (ad : Addr) (m : Nat) (us : List Value) (hm : us.length = m) (hpos : 0 < m) (hnews : ∀ j x, us[j]? = some x → w.cell? (ad.add j) = some x) (hone : ∀ x ∈ us, x.oneCell' = true) (h63 : n + m ≤ maxLen) (hbytes : (n + m) * bytes ≤ 140737488355328) (hbase : base ≤ w.heap.size) :
    ∃ g' c' w', (Builtin.append_ #[t, t] ty #[v, .slice (some ad) m m]).run P w = .ok (.slice (some ⟨g', 0, none⟩) (n + m) c') w' ∧
      w'.ownsRow base e 1 (.slice (some ⟨g', 0, none⟩) (n + m) c') (n + m) (xs ++ us) ∧ Pushed w w' v g' := by
  rcases hown.2 with ⟨rfl, rfl⟩ | ⟨g, cap, cur, rfl, hbg, hg, hnc, hcm, hcs, htake⟩
  · have hxs : xs = [] := List.eq_nil_of_length_eq_zero (by simpa using hown.1)
    subst hxs
    obtain ⟨v', w', hr, ho, hgr, hiff⟩ := run_append_own (P := P) w w.heap.size t ty e i z 1 bytes ht hi hz hsize hby hzs (by omega) (.slice none 0 0) 0 [] (World.ownsRow_nil _ _ _ _) ad m m us (by omega) hnews hone h63 hbytes (Nat.le_refl _)
    rcases ho.2 with ⟨_, h0⟩ | ⟨g', c', cur', rfl, hb', hh, hrest⟩
    · omega
    · exact ⟨g', c', w', by simpa using hr, ⟨by simp [hm], .inr ⟨g', c', cur', rfl, by omega, hh, by simpa using hrest⟩⟩, .inr ⟨hb', by simpa [Value.ownBlock] using hgr⟩⟩
  · by_cases hroom : n + m ≤ cap
    · obtain ⟨w', hr, ho, hgr⟩ := run_append_fits (P := P) w base t ty e i 1 ht hi hsize g n cap xs hown ad m m us (by omega) hnews hone hroom
      exact ⟨g, cap, w', hr, ho, .inl ⟨rfl, hgr⟩⟩
    · obtain ⟨v', w', hr, ho, hgr⟩ := run_append_arg_grows (P := P) w t ty e i z 1 bytes ht hi hz hsize hby hzs (by omega) ⟨g, 0, none⟩ n cap xs hown.1 (hown.cells rfl) ad m m us (by omega) hnews (by omega) h63 hbytes
      rcases ho.2 with ⟨_, h0⟩ | ⟨g', c', cur', rfl, hb', hh, hrest⟩
      · omega
      · exact ⟨g', c', w', hr, ⟨by simp [hown.1, hm], .inr ⟨g', c', cur', rfl, by omega, hh, hrest⟩⟩, .inr ⟨hb', hgr⟩⟩

theorem wp_pushN {P : Program} (w : World) {o : Oper} {a : Act} {K : Act → World → Prop} {Q : Exit → Act → World → Prop} (s x : Operand) (t : TypeId)
    (ho : o.op = .call { callee := .builtin .append, args := #[s, x], argTypes := #[t, t] }) (e : TypeId) (i : TypeInfo) (z : Value) (bytes : Nat) (ht : P.underlying t = some (.slice e)) (hi : P.info? e = some i) (hz : i.zero = some z)
    (hsize : i.size = 1) (hby : i.bytes = bytes) (hzs : z.cells.size = 1) (base : Nat) (v : Value) (n : Nat) (xs : List Value) (hs : a.eval s = v) (hown : w.ownsRow base e 1 v n xs)
    (ad : Addr) (m : Nat) (us : List Value) (hx : a.eval x = .slice (some ad) m m) (hm : us.length = m) (hpos : 0 < m) (hnews : ∀ j x, us[j]? = some x → w.cell? (ad.add j) = some x) (hone : ∀ x ∈ us, x.oneCell' = true) (h63 : n + m ≤ maxLen) (hbytes : (n + m) * bytes ≤ 140737488355328) (hbase : base ≤ w.heap.size)
    (h : ∀ g' c' w', w'.ownsRow base e 1 (.slice (some ⟨g', 0, none⟩) (n + m) c') (n + m) (xs ++ us) → Pushed w w' v g' → K (a.put o.dst (.slice (some ⟨g', 0, none⟩) (n + m) c')) w') : o.wp P a w K Q := by
  obtain ⟨g', c', w', hr, h2, h3⟩ := run_pushN (P := P) w t o.type e i z bytes ht hi hz hsize hby hzs base v n xs hown ad m us hm hpos hnews hone h63 hbytes hbase
  unfold Oper.wp
  simp [execOp, ho, resolve, invoke, builtin, hs, hx, hr, Result.andThen]
  exact h g' c' w' h2 h3

/-- What outlasts growing: but for the row r. 'late': not that of the push itself. -/
structure EntG (r : Option Nat) where
  late : Bool
  p : Value → World → Prop
  st0 : ∀ v w w', p v w → w.grownBy w' none → p v w'
  st1 : late = false → ∀ v w w', p v w → w.grownBy w' r → p v w'
def EntG.val (r : Option Nat) (c : Value) : EntG r := ⟨false, fun v _ => v = c, fun _ _ _ h _ => h, fun _ _ _ _ h _ => h⟩
def TG {r : Option Nat} (tab : List (EntG r)) (i : Nat) (v : Value) (w : World) : Prop :=
  match tab[i]? with
  | some e => e.p v w
  | none => True
def lateAt {r : Option Nat} (tab : List (EntG r)) (i : Nat) : Bool :=
  match tab[i]? with
  | some e => e.late
  | none => false
/-- The steps: operation q may write the row r. -/
def StepG (r : Option Nat) (q : Nat) (j : Nat) (u v : World) : Prop := if j = q then u.grownBy v r else u.grownBy v none
theorem StepG.sub {r : Option Nat} {q : Nat} (i : Nat) (u v : World) (h : StepG r q i u v) : u.grownBy v r := by
  unfold StepG at h
  split at h
  · exact h
  · exact grown_none h r
theorem StepG.refl {r : Option Nat} {q : Nat} (i : Nat) (u : World) : StepG r q i u u := by
  unfold StepG
  split <;> exact World.grownBy.refl _ _
theorem StepG.of_below {r : Option Nat} {q i : Nat} {u v : World} (hi : (i == q) = false) (h : Below u.heap.size u v) : StepG r q i u v := by
  unfold StepG
  rw [if_neg (by simpa using hi)]
  exact grown_of_below h
theorem grownG_trans {r : Option Nat} (a b c : World) (h : a.grownBy b r) (k : b.grownBy c r) : a.grownBy c r := ⟨k.os.trans h.os, k.tape.trans h.tape, k.output.trans h.output, Nat.le_trans h.size k.size, fun j hj hr => (k.block j (Nat.lt_of_lt_of_le hj h.size) hr).trans (h.block j hj hr)⟩

theorem TG_stable {r : Option Nat} {q : Nat} {ops : Array Oper} (tab : List (EntG r)) (hlate : ∀ i oi, ops[i]? = some oi → lateAt tab i = true → i = q ∨ ∃ e ∈ oi.after, Region.binds .any e = true ∧ e.on = q) :
    ∀ i j oi, ops[i]? = some oi → i ≠ j → (∀ e ∈ oi.after, Region.binds .any e = true → e.on ≠ j) → ∀ v w w', TG tab i v w → StepG r q j w w' → TG tab i v w' := by
  intro i j oi hi hij hdep v w w' h hs
  have hl := hlate i oi hi
  unfold lateAt at hl
  unfold TG at *
  split at h
  · rename_i e he
    rw [he] at hl
    simp only at hl
    unfold StepG at hs
    split at hs
    · rename_i hjq
      refine e.st1 ?_ _ _ _ h hs
      cases hc : e.late with
      | false => rfl
      | true =>
        exfalso
        rcases hl hc with h1 | ⟨f, hf, hb, hq⟩
        · exact hij (h1.trans hjq.symm)
        · exact hdep f hf hb (hq.trans hjq.symm)
    · exact e.st0 _ _ _ h hs
  · trivial

/-- Three rows of bytes, no two the same, made from W on. -/
structure Trip (W : Nat) (w : World) (u1 u2 u3 : Value) (n1 n2 n3 : Nat) (L1 L2 L3 : List Int) : Prop where
  o1 : w.ownsRow W 5 1 u1 n1 (cells8 L1)
  o2 : w.ownsRow W 5 1 u2 n2 (cells8 L2)
  o3 : w.ownsRow W 5 1 u3 n3 (cells8 L3)
  a12 : Apart u1 u2
  a13 : Apart u1 u3
  a23 : Apart u2 u3
theorem owns_grown {w w' : World} {W : Nat} {u : Value} {n : Nat} {xs : List Value} {r : Option Nat} (h : w.ownsRow W 5 1 u n xs) (hr : ∀ x, r = some x → x < W) (hg : w.grownBy w' r) : w'.ownsRow W 5 1 u n xs :=
  kept' h hg (fun x hx e => by have := hr x e; have := (h.lt x hx).1; omega)
theorem Trip.grown {W : Nat} {w w' : World} {u1 u2 u3 : Value} {n1 n2 n3 : Nat} {L1 L2 L3 : List Int} {r : Option Nat} (h : Trip W w u1 u2 u3 n1 n2 n3 L1 L2 L3) (hr : ∀ x, r = some x → x < W) (hg : w.grownBy w' r) : Trip W w' u1 u2 u3 n1 n2 n3 L1 L2 L3 :=
  ⟨owns_grown h.o1 hr hg, owns_grown h.o2 hr hg, owns_grown h.o3 hr hg, h.a12, h.a13, h.a23⟩
theorem no_row (W : Nat) : ∀ x, (none : Option Nat) = some x → x < W := fun x h => by cases h

def EntG.row {r : Option Nat} {W : Nat} (hr : ∀ x, r = some x → x < W) (n : Nat) (L : List Int) : EntG r :=
  ⟨false, fun v w => ∃ ad c, v = .slice ad n c ∧ w.ownsRow W 5 1 v n (cells8 L), fun v w w' h hg => by
    obtain ⟨ad, c, h1, h2⟩ := h
    exact ⟨ad, c, h1, owns_grown h2 (no_row W) hg⟩, fun _ v w w' h hg => by
    obtain ⟨ad, c, h1, h2⟩ := h
    exact ⟨ad, c, h1, owns_grown h2 hr hg⟩⟩
/-- The three, laid in a row. -/
def EntG.three {r : Option Nat} {W : Nat} (hr : ∀ x, r = some x → x < W) (n1 n2 n3 : Nat) (L1 L2 L3 : List Int) : EntG r :=
  ⟨false, fun v w => ∃ g u1 u2 u3, v = .slice (some ⟨g, 0, none⟩) 3 3 ∧ W ≤ g ∧ w.heap[g]? = some (.cells #[u1, u2, u3] 22 (0, 0)) ∧ Trip W w u1 u2 u3 n1 n2 n3 L1 L2 L3, fun v w w' h hg => by
    obtain ⟨g, u1, u2, u3, h1, h2, h3, h4⟩ := h
    exact ⟨g, u1, u2, u3, h1, h2, (hg.block g (Array.getElem?_eq_some_iff.1 h3).1 (by simp)).trans h3, h4.grown (no_row W) hg⟩, fun _ v w w' h hg => by
    obtain ⟨g, u1, u2, u3, h1, h2, h3, h4⟩ := h
    exact ⟨g, u1, u2, u3, h1, h2, (hg.block g (Array.getElem?_eq_some_iff.1 h3).1 (fun e => by have := hr g e.symm; omega)).trans h3, h4.grown hr hg⟩⟩
/-- .. and behind the others. -/
def EntG.all (r : Option Nat) (W B n : Nat) (xs : List Value) (n1 n2 n3 : Nat) (L1 L2 L3 : List Int) : EntG r :=
  ⟨true, fun v w => ∃ g c u1 u2 u3, v = .slice (some ⟨g, 0, none⟩) (n + 3) c ∧ w.ownsRow B 22 1 v (n + 3) (xs ++ [u1, u2, u3]) ∧ Trip W w u1 u2 u3 n1 n2 n3 L1 L2 L3, fun v w w' h hg => by
    obtain ⟨g, c, u1, u2, u3, h1, h2, h3⟩ := h
    exact ⟨g, c, u1, u2, u3, h1, kept' h2 hg (fun x hx e => by cases e), h3.grown (no_row W) hg⟩, fun h => by cases h⟩

end Go.Proofs.Ytfhhcpcedfgceaa
