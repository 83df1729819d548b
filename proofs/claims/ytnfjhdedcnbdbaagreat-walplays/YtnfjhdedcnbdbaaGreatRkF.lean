/-
  The document's disk: Fuse. Rows of any cells: append, copy.
-/
import Derived.Test.YtnfjhdedcnbdbaaGreatRkE
namespace Go.Proofs.YtnfjhdedcnbdbaaGreat
open Go.RowKit
set_option linter.unusedVariables false
set_option linter.unusedSimpArgs false

theorem owns_zeroG {w : World} {base : Nat} {e : TypeId} {s : Nat} {v : Value} {n : Nat} {xs : List Value} (h : w.ownsRow base e s v n xs) : w.ownsRow 0 e s v n xs := by
  rcases h.2 with h0 | ⟨g, cap, cur, h0, h1, h2⟩
  · exact ⟨h.1, .inl h0⟩
  · exact ⟨h.1, .inr ⟨g, cap, cur, h0, Nat.zero_le _, h2⟩⟩
/-- 'append(v, s...)', of any cells. -/
theorem run_appendsG {P : Program} (w : World) (t ty e : TypeId) (i : TypeInfo) (z : Value) (s by_ : Nat) (ht : P.underlying t = some (.slice e)) (hi : P.info? e = some i) (hz : i.zero = some z)
    (hsize : i.size = s) (hby : i.bytes = by_) (hzs : z.cells.size = s) (hs0 : 0 < s) (v : Value) (n : Nat) (xs : List Value) (hown : w.ownsRow 0 e s v n xs)
    (ad : Addr) (m c : Nat) (news : List Value) (hl : news.length = m * s) (hnews : ∀ j u, news[j]? = some u → w.cell? (ad.add j) = some u) (h1 : ∀ u ∈ news, u.oneCell' = true) (h63 : n + m ≤ maxLen) (hb : (n + m) * by_ ≤ 140737488355328) :
    ∃ v' w', (Builtin.append_ #[t, t] ty #[v, .slice (some ad) m c]).run P w = .ok v' w' ∧ w'.ownsRow 0 e s v' (n + m) (xs ++ news) ∧ Chg (fun i => v.ownBlock = some i) w w' ∧ Moved w v.ownBlock v'.ownBlock := by
  rcases hown.2 with ⟨rfl, rfl⟩ | ⟨g, cap, cur, rfl, hbg, hg, hnc, hcm, hcs, htake⟩
  · have hxs : xs = [] := List.eq_nil_of_length_eq_zero (by simpa using hown.1)
    subst hxs
    obtain ⟨v', w', hr, ho, hgr, hiff⟩ := run_append_own (P := P) w w.heap.size t ty e i z s by_ ht hi hz hsize hby hzs hs0 (.slice none 0 0) 0 [] (World.ownsRow_nil _ _ _ _) ad m c news hl hnews h1 h63 hb (Nat.le_refl _)
    refine ⟨v', w', hr, owns_zeroG ho, Chg.of_grown hgr (fun j hj => by cases hj), ?_⟩
    cases hb : v'.ownBlock with
    | none => exact .inl rfl
    | some g => exact .inr ⟨g, rfl, (ho.lt g hb).1⟩
  · by_cases hroom : n + m ≤ cap
    · obtain ⟨w', hr, ho, hgr⟩ := run_append_fits (P := P) w 0 t ty e i s ht hi hsize g n cap xs hown ad m c news hl hnews h1 hroom
      exact ⟨_, w', hr, ho, Chg.of_grown hgr (fun j hj => hj), .inl rfl⟩
    · obtain ⟨v', w', hr, ho, hgr⟩ := run_append_arg_grows (P := P) w t ty e i z s by_ ht hi hz hsize hby hzs hs0 ⟨g, 0, none⟩ n cap xs hown.1 (hown.cells rfl) ad m c news hl hnews (by omega) h63 hb
      refine ⟨v', w', hr, owns_zeroG ho, Chg.of_grown hgr (fun j hj => by cases hj), ?_⟩
      rcases ho.2 with ⟨rfl, h0⟩ | ⟨g', c', cur', rfl, hb', _⟩
      · omega
      · exact .inr ⟨g', rfl, hb'⟩
/-- The same of numbers. -/
theorem run_appendsI (w : World) (ty : TypeId) (v : Value) (n : Nat) (xs : List Int) (hown : w.ownsRow 0 3 1 v n (cellsI xs)) (ad : Option Addr) (m c : Nat) (l : List Int) (hsn : Sn w ad m l) (hnone : ad = none → m = 0 ∧ c = 0) (hb : n + m ≤ 1099511627776) :
    ∃ v' w', (Builtin.append_ #[56, 56] ty #[v, .slice ad m c]).run Tryz.prog w = .ok v' w' ∧ w'.ownsRow 0 3 1 v' (n + m) (cellsI (xs ++ l)) ∧ Chg (fun i => v.ownBlock = some i) w w' ∧ Moved w v.ownBlock v'.ownBlock := by
  obtain ⟨i0, hi0, hz0, hz1, hz2⟩ := info_parts info3
  cases ad with
  | none =>
    obtain ⟨rfl, rfl⟩ := hnone rfl
    have hl : l = [] := List.eq_nil_of_length_eq_zero hsn.len
    subst hl
    exact ⟨v, w, run_append_owned_none (P := Tryz.prog) (w := w) 0 56 ty 3 i0 1 Tryz.underlying56 hi0 v n _ hown, by simpa using hown, Chg.refl _ _, .inl rfl⟩
  | some x =>
    obtain ⟨v', w', hr, h1, h2, h3⟩ := run_appendsG (P := Tryz.prog) w 56 ty 3 i0 (.int .i64 0) 1 8 Tryz.underlying56 hi0 hz0 hz1 hz2 rfl (by decide) v n (cellsI xs) hown x m c (cellsI l) (by rw [cellsI_length, hsn.len]; omega) hsn.cells (cellsI_one l) (by unfold maxLen; omega) (by omega)
    exact ⟨v', w', hr, by rw [cellsI_append]; exact h1, h2, h3⟩
theorem wpList_appendsI (w : World) {ops : Array Oper} {rest : List Oper} {o : Oper} {a : Act} {Q : Exit → Act → World → Prop} (hgd : o.guard = none) (s x : Operand)
    (ho : o.op = .call { callee := .builtin .append, args := #[s, x], argTypes := #[56, 56] }) (v : Value) (n : Nat) (xs : List Int) (hs : a.eval s = v) (hown : w.ownsRow 0 3 1 v n (cellsI xs))
    (ad : Option Addr) (m c : Nat) (l : List Int) (hx : a.eval x = .slice ad m c) (hsn : Sn w ad m l) (hnone : ad = none → m = 0 ∧ c = 0) (hb : n + m ≤ 1099511627776)
    (h : ∀ v' w', w'.ownsRow 0 3 1 v' (n + m) (cellsI (xs ++ l)) → Chg (fun i => v.ownBlock = some i) w w' → Moved w v.ownBlock v'.ownBlock → wpList Tryz.prog ops Q rest (a.put o.dst v') w') : wpList Tryz.prog ops Q (o :: rest) a w := by
  refine wpList_plain hgd fun K hK => ?_
  obtain ⟨v', w', hr, h1, h2, h3⟩ := run_appendsI w o.type v n xs hown ad m c l hsn hnone hb
  unfold Oper.wp
  simp [execOp, ho, resolve, invoke, builtin, hs, hx, hr, Result.andThen]
  exact hK _ _ (h v' w' h1 h2 h3)

end Go.Proofs.YtnfjhdedcnbdbaaGreat
