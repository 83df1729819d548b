/-
  Rows of labels appended to rows of labels; the document's Sort.
-/
import Derived.Test.YtpdffdoogobhfaaDoorReD
import Derived.Test.YtpdffdoogobhfaaDoorLwA
import Derived.Laws.AppendOwnNone
namespace Go.Proofs.YtpdffdoogobhfaaDoor
open Go.RowKit
set_option linter.unusedVariables false
set_option linter.unusedSimpArgs false

theorem wpList_appL (w : World) {ops : Array Oper} {rest : List Oper} {o : Oper} {a : Act} {Q : Exit → Act → World → Prop} (hgd : o.guard = none) (s x : Operand)
    (ho : o.op = .call { callee := .builtin .append, args := #[s, x], argTypes := #[22, 22] }) (base : Nat) (v : Value) (n : Nat) (xs : List Lb) (hs : a.eval s = v) (hown : w.ownsRow base 35 2 v n (cL xs))
    (ad : Option Addr) (m c : Nat) (l : List Lb) (hx : a.eval x = .slice ad m c) (hL : Ls w ad l) (hm : l.length = m) (hno : ad = none → l = [] ∧ c = 0) (k : Nat) (hk : n + m = k) (hb : k * 32 ≤ 140737488355328) (hbase : base ≤ w.heap.size)
    (h : ∀ a' c' w', w'.ownsRow base 35 2 (.slice a' k c') k (cL (xs ++ l)) → Below base w w' → wpList Tryd.prog ops Q rest (a.put o.dst (.slice a' k c')) w') : wpList Tryd.prog ops Q (o :: rest) a w := by
  subst hk
  obtain ⟨i0, hi0, hz0, hz1, hz2⟩ := info_parts info35
  cases ad with
  | none =>
    obtain ⟨rfl, rfl⟩ := hno rfl
    obtain rfl : m = 0 := hm.symm
    refine wpList_append_own_none hgd s x 22 ho base 35 i0 2 Tryd.underlying22 hi0 v n _ hs hown hx ?_
    obtain ⟨a', c', rfl, _⟩ := owns_formL hown
    exact h a' c' w (by simpa using hown) (Below.refl _ _)
  | some ad =>
    refine wpList_append_own w hgd s x 22 ho base 35 i0 (.agg #[.string ⟨#[]⟩, .string ⟨#[]⟩]) 2 32 Tryd.underlying22 hi0 hz0 hz1 hz2 rfl (by decide) v n (cL xs) hs hown ad m c (cL l) hx (by rw [cL_length, hm]) hL.cells' (cL_one l) (by unfold maxLen; omega) hb hbase ?_
    intro v' w' h1 h2 h3
    obtain ⟨a', c', rfl, _⟩ := owns_formL h1
    exact h a' c' w' (by rw [cL_append]; exact h1) ((Below.refl _ _).grown h2 hbase (fun k hk => (hown.lt k hk).1))

theorem Ls.take {w : World} {ad : Option Addr} {l : List Lb} (h : Ls w ad l) (k : Nat) : Ls w ad (l.take k) := by
  refine ⟨fun x hx => h.sz x (List.mem_of_mem_take hx), fun h0 => ?_⟩
  obtain ⟨b, off, e, hb, hc⟩ := h.at' (fun e => h0 (by rw [e]; simp))
  refine ⟨b, off, e, hb, fun i x hx => hc i x ?_⟩
  rw [List.getElem?_take] at hx
  split at hx
  · exact hx
  · cases hx
theorem Ls.drop {w : World} {b off : Nat} {l : List Lb} (h : Ls w (some ⟨b, off, none⟩) l) (k : Nat) : Ls w (some ⟨b, off + k * 2, none⟩) (l.drop k) := by
  refine ⟨fun x hx => h.sz x (List.mem_of_mem_drop hx), fun h0 => ?_⟩
  obtain ⟨b', off', e, hb, hc⟩ := h.at' (fun e => h0 (by rw [e]; simp))
  injection e with e; injection e with e1 e2; subst e1; subst e2
  refine ⟨b, off + k * 2, rfl, hb, fun i x hx => ?_⟩
  rw [List.getElem?_drop] at hx
  have := hc _ _ hx
  rw [show off + (k + i) * 2 = off + k * 2 + i * 2 by omega] at this
  exact this

/-! ### insertion, purely -/
def pos (x : Lb) : List Lb → Nat
  | [] => 0
  | y :: t => if ltN x y then 0 else pos x t + 1
theorem pos_le (x : Lb) : ∀ o, pos x o ≤ o.length
  | [] => Nat.le_refl _
  | y :: t => by rw [pos]; split; · omega
                 · have := pos_le x t; simp; omega
def insL (x : Lb) (o : List Lb) : List Lb := o.take (pos x o) ++ x :: o.drop (pos x o)
theorem insL_cons (x y : Lb) (t : List Lb) : insL x (y :: t) = if ltN x y then x :: y :: t else y :: insL x t := by
  unfold insL
  rw [pos]
  split <;> simp
theorem insL_perm (x : Lb) : ∀ o, (insL x o).Perm (x :: o)
  | [] => List.Perm.refl _
  | y :: t => by
    rw [insL_cons]; split
    · exact List.Perm.refl _
    · exact ((insL_perm x t).cons y).trans (List.Perm.swap _ _ _)
theorem insL_srt (x : Lb) : ∀ o, Srt o → Srt (insL x o)
  | [], _ => by simp [insL, pos, Srt]
  | y :: t, h => by
    obtain ⟨h1, h2⟩ := List.pairwise_cons.1 h
    rw [insL_cons]; split
    · rename_i hlt
      refine List.pairwise_cons.2 ⟨fun z hz => ?_, h⟩
      rcases List.mem_cons.1 hz with rfl | hz
      · exact lss_asymm hlt
      · cases hzx : ltN z x
        · rfl
        · have := lss_trans hzx hlt
          rw [show lss (bts z.n) (bts y.n) = ltN z y from rfl, h1 z hz] at this; cases this
    · rename_i hlt
      refine List.pairwise_cons.2 ⟨fun z hz => ?_, insL_srt x t h2⟩
      rcases List.mem_cons.1 ((insL_perm x t).mem_iff.1 hz) with rfl | hz
      · simpa using hlt
      · exact h1 z hz
theorem pos_drop (x : Lb) : ∀ (o : List Lb) (k : Nat) {y : Lb}, o[k]? = some y → ltN x y = false → pos x (o.drop k) = pos x (o.drop (k + 1)) + 1 := by
  intro o k y h1 h2
  obtain ⟨hk, rfl⟩ := List.getElem?_eq_some_iff.1 h1
  rw [List.drop_eq_getElem_cons hk, pos, h2]; simp
theorem pos_stop (x : Lb) : ∀ (o : List Lb) (k : Nat) {y : Lb}, o[k]? = some y → ltN x y = true → pos x (o.drop k) = 0 := by
  intro o k y h1 h2
  obtain ⟨hk, rfl⟩ := List.getElem?_eq_some_iff.1 h1
  rw [List.drop_eq_getElem_cons hk, pos, h2]; simp

theorem sort_end {l o : List Lb} {i : Nat} (hp : o.Perm (l.take i)) (hs : Srt o) (hi : i = l.length ∧ i ≤ 9 ∨ i = 9 ∧ 9 ≤ l.length) : right o = sortOk l ∧ (right o = true → o = srt l) := by
  have hol : o.length = i := by rw [hp.length_eq, List.length_take]; omega
  by_cases h8 : l.length ≤ 8
  · have : i = l.length := by omega
    rw [this, List.take_of_length_le (Nat.le_refl _)] at hp
    rw [sortOk, decide_eq_true h8, Bool.true_and]
    exact srt_any hp hs
  · have h9 : right o = false := by rw [right, decide_eq_false (by omega : ¬ o.length ≤ 8)]; simp
    rw [sortOk, decide_eq_false h8, h9]
    exact ⟨rfl, fun h => by cases h⟩
theorem ls_one (w : World) (x : Lb) (h : x.n.size ≤ 9223372036854775807 ∧ x.v.size ≤ 9223372036854775807) : Ls (w.alloc (.cells #[.string x.n, .string x.v] 35)) (some ⟨w.heap.size, 0, none⟩) [x] :=
  ls_blk (Blk.new w 35 (cL [x])) (fun y hy => by simp at hy; subst hy; exact h)

end Go.Proofs.YtpdffdoogobhfaaDoor
