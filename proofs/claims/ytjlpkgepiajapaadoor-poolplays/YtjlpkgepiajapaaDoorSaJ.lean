/-
  PoolPlays: three pools are made; the script as it came in.
-/
import Derived.Test.YtjlpkgepiajapaaDoorSaH
namespace Go.Proofs.YtjlpkgepiajapaaDoor
open Go.RowKit
set_option linter.unusedVariables false
set_option linter.unusedSimpArgs false

def pcV (K : Nat) (p : Nat → Nat) (j : Nat) : Value := if j < K then .pointer (some ⟨p j, 0, none⟩) else .pointer none
def iC (K : Nat) (p r : Nat → Nat) : List Value := [pcV K p 0, pcV K p 1, pcV K p 2, pcV K r 0, pcV K r 1, pcV K r 2, .slice none 0 0, .slice none 0 0]
/-- The first of the three are made. -/
structure PI (w0 w : World) (v K : Nat) (p r q n : Nat → Nat) (F : Nat → Nat → Prop) : Prop where
  bel : Below w0.heap.size w0 w
  gv : Gv w
  pos : 0 < w0.heap.size
  blk : Blk w v 33 (iC K p r)
  pq : ∀ k, k < K → PQ (F k) w (p k) (n k) (fun _ => none)
  rp : ∀ k, k < K → RP w (r k) (q k) (n k) (fun _ => none) nB
  lo : w0.heap.size ≤ v ∧ (∀ k, k < K → w0.heap.size ≤ q k) ∧ (∀ k i, k < K → F k i → w0.heap.size ≤ i)
  fF : ∀ k j, k < K → j < K → k ≠ j → ∀ i, F k i → ¬ F j i
  qq : ∀ k j, k < K → j < K → k ≠ j → ¬ q k = q j
section
variable {w0 w w' : World} {v K : Nat} {p r q n : Nat → Nat} {F : Nat → Nat → Prop}
theorem PI.later (h : PI w0 w v K p r q n F) (b : Below w.heap.size w w') : PI w0 w' v K p r q n F :=
  ⟨h.bel.trans (b.mono h.bel.size), h.gv.later b, h.pos, h.blk.later b, fun k hk => (h.pq k hk).later b, fun k hk => (h.rp k hk).later b, h.lo, h.fF, h.qq⟩
theorem pcV_up (f : Nat → Nat) (K x j : Nat) (h : j < 3) : pcV (K + 1) (upF f K x) j = if j = K then .pointer (some ⟨x, 0, none⟩) else pcV K f j := by
  unfold pcV upF
  by_cases e : j = K
  · subst e; rw [if_pos rfl, if_pos (by omega), if_pos rfl]
  · rw [if_neg e]
    by_cases e2 : j < K
    · rw [if_pos (by omega), if_pos e2, if_neg e]
    · rw [if_neg (by omega), if_neg e2, if_neg e]
theorem iC_add (K : Nat) (hK : K < 3) (p r : Nat → Nat) (x y : Nat) : ((iC K p r).set K (.pointer (some ⟨x, 0, none⟩))).set (3 + K) (.pointer (some ⟨y, 0, none⟩)) = iC (K + 1) (upF p K x) (upF r K y) := by
  unfold iC
  rw [pcV_up p K x 0 (by omega), pcV_up p K x 1 (by omega), pcV_up p K x 2 (by omega), pcV_up r K y 0 (by omega), pcV_up r K y 1 (by omega), pcV_up r K y 2 (by omega)]
  rcases three hK with rfl | rfl | rfl <;> rfl
/-- One more. -/
theorem PI.add {w2 : World} {x y z m : Nat} {G : Nat → Prop} (hK : K < 3) (h : PI w0 w v K p r q n F) (b : Below w.heap.size w w2) (hp : PQ G w2 x m (fun _ => none)) (hr : RP w2 y z m (fun _ => none) nB) (hG : ∀ i, G i → w.heap.size ≤ i) (hz : w.heap.size ≤ z) :
    PI w0 ((w2.setCell ⟨v, K, none⟩ (.pointer (some ⟨x, 0, none⟩))).setCell ⟨v, 3 + K, none⟩ (.pointer (some ⟨y, 0, none⟩))) v (K + 1) (upF p K x) (upF r K y) (upF q K z) (upF n K m) (upF F K G) := by
  have h2 := h.later b
  have c : Chg (fun i => i = v) w2 ((w2.setCell ⟨v, K, none⟩ (.pointer (some ⟨x, 0, none⟩))).setCell ⟨v, 3 + K, none⟩ (.pointer (some ⟨y, 0, none⟩))) := (Chg.set ⟨v, K, none⟩ _ w2).trans (Chg.set ⟨v, 3 + K, none⟩ _ _) (fun _ _ e => e)
  have hT : ∀ i t, Tg w2 i t → t ≠ 33 → ¬ i = v := fun i t ht hne => ht.ne h2.blk.tg hne
  have hPQ : ∀ (G : Nat → Prop) (x m : Nat) (s : Sx), PQ G w2 x m s → PQ G ((w2.setCell ⟨v, K, none⟩ (.pointer (some ⟨x, 0, none⟩))).setCell ⟨v, 3 + K, none⟩ (.pointer (some ⟨y, 0, none⟩))) x m s → True := fun _ _ _ _ _ _ => trivial
  have kP : ∀ {G : Nat → Prop} {x m : Nat} {s : Sx}, PQ G w2 x m s → ∀ {w9 : World}, Chg (fun i => i = v) w2 w9 → PQ G w9 x m s := fun hq w9 c9 => hq.chg c9 (fun i hi (e : i = v) => absurd (hq.tag hi 33 (by rw [e]; exact h2.blk.tg)) (by decide)) (hT _ 63 hq.own (by decide))
  have kR : ∀ {y z m : Nat} {s : Sx} {B : Nat → Value}, RP w2 y z m s B → ∀ {w9 : World}, Chg (fun i => i = v) w2 w9 → RP w9 y z m s B := fun hq w9 c9 => hq.chg c9 (hT _ 66 hq.blk.tg (by decide)) (hT _ 85 hq.row.tg (by decide)) (fun i hi => hT i 5 (RG.tg hq hi) (by decide))
  have hl := h.bel.size
  refine ⟨h2.bel.trans (c.below h2.bel.size (fun i (e : i = v) => by rw [e]; exact h.lo.1)), h2.gv.chg c (fun (e : 0 = v) => by have := h.lo.1; have := h.pos; omega), h.pos, ?_, fun k hk => ?_, fun k hk => ?_, ⟨h.lo.1, fun k hk => ?_, fun k i hk hi => ?_⟩, fun k j hk hj hne i hi hi' => ?_, fun k j hk hj hne => ?_⟩
  · rw [← iC_add K hK]
    exact (h2.blk.set K _).set (3 + K) _
  · by_cases e : k = K
    · subst e; rw [upF_at, upF_at, upF_at]; exact kP hp c
    · rw [upF_off _ _ e, upF_off _ _ e, upF_off _ _ e]; exact kP (h2.pq k (by omega)) c
  · by_cases e : k = K
    · subst e; rw [upF_at, upF_at, upF_at]; exact kR hr c
    · rw [upF_off _ _ e, upF_off _ _ e, upF_off _ _ e]; exact kR (h2.rp k (by omega)) c
  · by_cases e : k = K
    · subst e; rw [upF_at]; omega
    · rw [upF_off _ _ e]; exact h.lo.2.1 k (by omega)
  · by_cases e : k = K
    · subst e; rw [upF_at] at hi; have := hG i hi; omega
    · rw [upF_off _ _ e] at hi; exact h.lo.2.2 k i (by omega) hi
  · by_cases e : k = K
    · subst e
      rw [upF_at] at hi
      rw [upF_off _ _ (fun e => hne e.symm)] at hi'
      have := hG i hi
      have := (h.pq j (by omega)).lt hi'
      omega
    · rw [upF_off _ _ e] at hi
      by_cases e' : j = K
      · subst e'
        rw [upF_at] at hi'
        have := hG i hi'
        have := (h.pq k (by omega)).lt hi
        omega
      · rw [upF_off _ _ e'] at hi'
        exact h.fF k j (by omega) (by omega) hne i hi hi'
  · by_cases e : k = K
    · subst e
      rw [upF_at, upF_off _ _ (fun e => hne e.symm)]
      have := (h.rp j (by omega)).row.lt
      omega
    · rw [upF_off _ _ e]
      by_cases e' : j = K
      · subst e'
        rw [upF_at]
        have := (h.rp k (by omega)).row.lt
        omega
      · rw [upF_off _ _ e']; exact h.qq k j (by omega) (by omega) hne
theorem PI.px (h : PI w0 w v 3 p r q n F) : PX w0 v p r q n w := by
  refine ⟨fun _ _ => none, F, fun _ => nB, .slice none 0 0, .slice none 0 0, [], [], ⟨h.bel, h.gv, h.pos, h.blk, h.pq, h.rp, World.ownsRow_nil _ _ _ _, World.ownsRow_nil _ _ _ _, ?_, ?_, by simp, h.lo, h.fF, h.qq, fun k hk i hi hO => ?_⟩, fun k i o d hi => by cases hi⟩
  · exact ⟨fun i v hi => by simp at hi, fun i j v v' _ hi => by simp at hi, fun g hg => by obtain ⟨v, hv, _⟩ := hg; cases hv⟩
  · exact ⟨fun i v hi => by simp at hi, fun i j v v' _ hi => by simp at hi, fun g hg => by obtain ⟨v, hv, _⟩ := hg; cases hv⟩
  · obtain ⟨v, hv, _⟩ := hO; cases hv
end
/-- A step as it came in. -/
structure Stq where
  kd : Int
  on : Int
  sl : Int
  s : ByteArray
  ad : Option Addr
  len : Nat
  c : Nat
  l : List Int
def Stq.cells (o : Stq) : List Value := oC o.kd o.on o.sl o.s o.ad o.len o.c
structure StqOk (w : World) (o : Stq) : Prop where
  on : -9223372036854775808 ≤ o.on ∧ o.on ≤ 9223372036854775807
  sl : -9223372036854775808 ≤ o.sl ∧ o.sl ≤ 9223372036854775807
  byt : Sl w o.ad o.len o.l
  no : o.ad = none → o.len = 0 ∧ o.c = 0
  lc : o.len ≤ o.c
  cm : o.c ≤ 9223372036854775807
structure Scq (w : World) (ad : Option Addr) (l : List Stq) : Prop where
  ok : ∀ o ∈ l, StqOk w o
  at' : l ≠ [] → ∃ b off, ad = some ⟨b, off, none⟩ ∧ b < w.heap.size ∧ ∀ (i : Nat) (o : Stq), l[i]? = some o → ∀ (j : Nat) (u : Value), o.cells[j]? = some u → w.cell? ⟨b, off + i * 5 + j, none⟩ = some u

end Go.Proofs.YtjlpkgepiajapaaDoor
