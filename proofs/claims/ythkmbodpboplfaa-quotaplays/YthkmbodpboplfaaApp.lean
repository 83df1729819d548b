/-
  'append(v, s...)', v a row that is owned: in its place, or in a new row, and nothing else. Nothing of the program.
-/
import Derived.Test.YthkmbodpboplfaaWld
namespace Go.Proofs.Ythkmbodpboplfaa
open Go.RowKit
set_option linter.unusedVariables false

theorem owns_zero {w : World} {base : Nat} {e : TypeId} {v : Value} {n : Nat} {xs : List Value} (h : w.ownsRow base e 1 v n xs) : w.ownsRow 0 e 1 v n xs := by
  rcases h.2 with h0 | ⟨g, cap, cur, h0, h1, h2⟩
  · exact ⟨h.1, .inl h0⟩
  · exact ⟨h.1, .inr ⟨g, cap, cur, h0, Nat.zero_le _, h2⟩⟩
theorem owns_new {w w' : World} {e : TypeId} {v : Value} {n : Nat} {xs : List Value} {r : Option Nat} (h : w'.ownsRow w.heap.size e 1 v n xs) (hv : v.ownBlock = none → r = none) : Moved w r v.ownBlock := by
  cases hb : v.ownBlock with
  | none => exact .inl (hv hb).symm
  | some g => exact .inr ⟨g, rfl, (h.lt g hb).1⟩

theorem run_appends {P : Program} (w : World) (t ty e : TypeId) (i : TypeInfo) (z : Value) (ht : P.underlying t = some (.slice e)) (hi : P.info? e = some i) (hz : i.zero = some z)
    (hsize : i.size = 1) (hby : i.bytes = 1) (hzs : z.cells.size = 1) (v : Value) (n : Nat) (xs : List Value) (hown : w.ownsRow 0 e 1 v n xs)
    (ad : Addr) (m c : Nat) (news : List Value) (hl : news.length = m) (hnews : ∀ j u, news[j]? = some u → w.cell? (ad.add j) = some u) (h1 : ∀ u ∈ news, u.oneCell' = true) (hb : n + m ≤ 140737488355328) :
    ∃ v' w', (Builtin.append_ #[t, t] ty #[v, .slice (some ad) m c]).run P w = .ok v' w' ∧ w'.ownsRow 0 e 1 v' (n + m) (xs ++ news) ∧ Chg (fun i => v.ownBlock = some i) w w' ∧ Moved w v.ownBlock v'.ownBlock := by
  have h63 : n + m ≤ maxLen := by unfold maxLen; omega
  rcases hown.2 with ⟨rfl, rfl⟩ | ⟨g, cap, cur, rfl, hbg, hg, hnc, hcm, hcs, htake⟩
  · have hxs : xs = [] := List.eq_nil_of_length_eq_zero (by simpa using hown.1)
    subst hxs
    obtain ⟨v', w', hr, ho, hgr, hiff⟩ := run_append_own (P := P) w w.heap.size t ty e i z 1 1 ht hi hz hsize hby hzs (by omega) (.slice none 0 0) 0 [] (World.ownsRow_nil _ _ _ _) ad m c news (by omega) hnews h1 h63 (by omega) (Nat.le_refl _)
    exact ⟨v', w', hr, owns_zero ho, Chg.of_grown hgr (fun j hj => by cases hj), owns_new (r := none) ho (fun _ => rfl)⟩
  · by_cases hroom : n + m ≤ cap
    · obtain ⟨w', hr, ho, hgr⟩ := run_append_fits (P := P) w 0 t ty e i 1 ht hi hsize g n cap xs hown ad m c news (by omega) hnews h1 hroom
      exact ⟨_, w', hr, ho, Chg.of_grown hgr (fun j hj => hj), .inl rfl⟩
    · obtain ⟨v', w', hr, ho, hgr⟩ := run_append_arg_grows (P := P) w t ty e i z 1 1 ht hi hz hsize hby hzs (by omega) ⟨g, 0, none⟩ n cap xs hown.1 (hown.cells rfl) ad m c news (by omega) hnews (by omega) h63 (by omega)
      refine ⟨v', w', hr, owns_zero ho, Chg.of_grown hgr (fun j hj => by cases hj), ?_⟩
      rcases ho.2 with ⟨rfl, h0⟩ | ⟨g', c', cur', rfl, hb', _⟩
      · omega
      · exact .inr ⟨g', rfl, hb'⟩

theorem wpList_appends {P : Program} (w : World) {ops : Array Oper} {rest : List Oper} {o : Oper} {a : Act} {Q : Exit → Act → World → Prop} (hgd : o.guard = none) (s x : Operand) (t : TypeId)
    (ho : o.op = .call { callee := .builtin .append, args := #[s, x], argTypes := #[t, t] }) (e : TypeId) (i : TypeInfo) (z : Value) (ht : P.underlying t = some (.slice e)) (hi : P.info? e = some i) (hz : i.zero = some z)
    (hsize : i.size = 1) (hby : i.bytes = 1) (hzs : z.cells.size = 1) (v : Value) (n : Nat) (xs : List Int) (hs : a.eval s = v) (hown : w.ownsRow 0 e 1 v n (cells8 xs))
    (ad : Option Addr) (m c : Nat) (l : List Int) (hx : a.eval x = .slice ad m c) (hsl : Sl w ad m l) (hnone : ad = none → m = 0 ∧ c = 0) (hb : n + m ≤ 140737488355328)
    (h : ∀ v' w', w'.ownsRow 0 e 1 v' (n + m) (cells8 (xs ++ l)) → Chg (fun i => v.ownBlock = some i) w w' → Moved w v.ownBlock v'.ownBlock → wpList P ops Q rest (a.put o.dst v') w') : wpList P ops Q (o :: rest) a w := by
  cases ad with
  | none =>
    obtain ⟨rfl, rfl⟩ := hnone rfl
    have hl : l = [] := List.eq_nil_of_length_eq_zero hsl.len
    subst hl
    refine wpList_append_own_none hgd s x t ho 0 e i 1 ht hi v n _ hs hown hx ?_
    exact h v w (by simpa using hown) (Chg.refl _ _) (.inl rfl)
  | some x' =>
    refine wpList_plain hgd fun K hK => ?_
    obtain ⟨v', w', hr, h1, h2, h3⟩ := run_appends (P := P) w t o.type e i z ht hi hz hsize hby hzs v n (cells8 xs) hown x' m c (cells8 l) (by rw [cells8_length, hsl.len]) hsl.cells (cells8_one l) hb
    unfold Oper.wp
    simp [execOp, ho, resolve, invoke, builtin, hs, hx, hr, Result.andThen]
    exact hK _ _ (h v' w' (by rw [cells8_append]; exact h1) h2 h3)

theorem wp_appends {P : Program} (w : World) {o : Oper} {a : Act} {K : Act → World → Prop} {Q : Exit → Act → World → Prop} (s x : Operand) (t : TypeId)
    (ho : o.op = .call { callee := .builtin .append, args := #[s, x], argTypes := #[t, t] }) (e : TypeId) (i : TypeInfo) (z : Value) (ht : P.underlying t = some (.slice e)) (hi : P.info? e = some i) (hz : i.zero = some z)
    (hsize : i.size = 1) (hby : i.bytes = 1) (hzs : z.cells.size = 1) (v : Value) (n : Nat) (xs : List Int) (hs : a.eval s = v) (hown : w.ownsRow 0 e 1 v n (cells8 xs))
    (ad : Option Addr) (m c : Nat) (l : List Int) (hx : a.eval x = .slice ad m c) (hsl : Sl w ad m l) (hnone : ad = none → m = 0 ∧ c = 0) (hb : n + m ≤ 140737488355328)
    (h : ∀ v' w', w'.ownsRow 0 e 1 v' (n + m) (cells8 (xs ++ l)) → Chg (fun i => v.ownBlock = some i) w w' → Moved w v.ownBlock v'.ownBlock → K (a.put o.dst v') w') : o.wp P a w K Q := by
  have hr : ∃ v' w', (Builtin.append_ #[t, t] o.type #[v, .slice ad m c]).run P w = .ok v' w' ∧ w'.ownsRow 0 e 1 v' (n + m) (cells8 (xs ++ l)) ∧ Chg (fun i => v.ownBlock = some i) w w' ∧ Moved w v.ownBlock v'.ownBlock := by
    cases ad with
    | none =>
      obtain ⟨rfl, rfl⟩ := hnone rfl
      have hl : l = [] := List.eq_nil_of_length_eq_zero hsl.len
      subst hl
      exact ⟨v, w, run_append_owned_none (P := P) (w := w) 0 t o.type e i 1 ht hi v n _ hown, by simpa using hown, Chg.refl _ _, .inl rfl⟩
    | some x' =>
      obtain ⟨v', w', hr, h1, h2, h3⟩ := run_appends (P := P) w t o.type e i z ht hi hz hsize hby hzs v n (cells8 xs) hown x' m c (cells8 l) (by rw [cells8_length, hsl.len]) hsl.cells (cells8_one l) hb
      exact ⟨v', w', hr, by rw [cells8_append]; exact h1, h2, h3⟩
  obtain ⟨v', w', hr, h1, h2, h3⟩ := hr
  unfold Oper.wp
  simp [execOp, ho, resolve, invoke, builtin, hs, hx, hr, Result.andThen]
  exact h v' w' h1 h2 h3
theorem step_appends {P : Program} (w : World) {ops : Array Oper} {o : Oper} {a : Act} {K : Act → World → Prop} {Q : Exit → Act → World → Prop} {E : Prop} (hgd : o.guard = none) (s x : Operand) (t : TypeId)
    (ho : o.op = .call { callee := .builtin .append, args := #[s, x], argTypes := #[t, t] }) (e : TypeId) (i : TypeInfo) (z : Value) (ht : P.underlying t = some (.slice e)) (hi : P.info? e = some i) (hz : i.zero = some z)
    (hsize : i.size = 1) (hby : i.bytes = 1) (hzs : z.cells.size = 1) (v : Value) (n : Nat) (xs : List Int) (hs : a.eval s = v) (hown : w.ownsRow 0 e 1 v n (cells8 xs))
    (ad : Option Addr) (m c : Nat) (l : List Int) (hx : a.eval x = .slice ad m c) (hsl : Sl w ad m l) (hnone : ad = none → m = 0 ∧ c = 0) (hb : n + m ≤ 140737488355328)
    (h : ∀ v' w', w'.ownsRow 0 e 1 v' (n + m) (cells8 (xs ++ l)) → Chg (fun i => v.ownBlock = some i) w w' → Moved w v.ownBlock v'.ownBlock → K (a.put o.dst v') w') :
    if Region.wanted o (yielded ops a.tmps) = true then Oper.wp P o a w K Q else E := by
  have hw : Region.wanted o (yielded ops a.tmps) = true := by simp [Region.wanted, hgd]
  rw [if_pos hw]
  exact wp_appends w s x t ho e i z ht hi hz hsize hby hzs v n xs hs hown ad m c l hx hsl hnone hb h

end Go.Proofs.Ythkmbodpboplfaa
