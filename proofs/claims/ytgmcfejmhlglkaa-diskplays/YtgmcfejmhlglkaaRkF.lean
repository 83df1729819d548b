/-
  The document's disk: Fuse. Rows of any cells: append, copy.
-/
import Derived.Test.YtgmcfejmhlglkaaRkE
namespace Go.Proofs.Ytgmcfejmhlglkaa
open Go.RowKit
set_option linter.unusedVariables false
set_option linter.unusedSimpArgs false

theorem owns_zeroG {w : World} {base : Nat} {e : TypeId} {s : Nat} {v : Value} {n : Nat} {xs : List Value} (h : w.ownsRow base e s v n xs) : w.ownsRow 0 e s v n xs := by
  rcases h.2 with h0 | ⟨g, cap, cur, h0, h1, h2⟩
  · exact ⟨h.1, .inl h0⟩
  · exact ⟨h.1, .inr ⟨g, cap, cur, h0, Nat.zero_le _, h2⟩⟩
/-- 'append(v, s...)', of any cells. -/
theorem run_appendsG {P : Program} (w : World) (t ty e : TypeId) (i : TypeInfo) (z : Value) (s by_ : Nat) (ht : P.underlying t = some (.slice e)) (hi : P.info? e = some i) (hz : i.zero = some z)
    (hsize : i.size = s) (hby : i.bytes = by_) (hzs : z.cells.size = s) (hs0 : 0 < s) (v : Value) (n : Nat) (xs : List Value) (hown : w.ownsRow 0 e s v n xs)
    (ad : Addr) (m c : Nat) (news : List Value) (hl : news.length = m * s) (hnews : ∀ j u, news[j]? = some u → w.cell? (ad.add j) = some u) (h1 : ∀ u ∈ news, u.oneCell' = true) (h63 : n + m ≤ maxLen) (hb : (n + m) * by_ ≤ 140737488355328) :
    ∃ v' w', (Builtin.append_ #[t, t] ty #[v, .slice (some ad) m c]).run P w = .ok v' w' ∧ w'.ownsRow 0 e s v' (n + m) (xs ++ news) ∧ Chg (fun i => v.ownBlock = some i) w w' ∧ Moved w v.ownBlock v'.ownBlock := by
  rcases hown.2 with ⟨rfl, rfl⟩ | ⟨g, cap, cur, rfl, hbg, hg, hnc, hcm, hcs, htake⟩
  · have hxs : xs = [] := List.eq_nil_of_length_eq_zero (by simpa using hown.1)
    subst hxs
    obtain ⟨v', w', hr, ho, hgr, hiff⟩ := run_append_own (P := P) w w.heap.size t ty e i z s by_ ht hi hz hsize hby hzs hs0 (.slice none 0 0) 0 [] (World.ownsRow_nil _ _ _ _) ad m c news hl hnews h1 h63 hb (Nat.le_refl _)
    refine ⟨v', w', hr, owns_zeroG ho, Chg.of_grown hgr (fun j hj => by cases hj), ?_⟩
    cases hb : v'.ownBlock with
    | none => exact .inl rfl
    | some g => exact .inr ⟨g, rfl, (ho.lt g hb).1⟩
  · by_cases hroom : n + m ≤ cap
    · obtain ⟨w', hr, ho, hgr⟩ := run_append_fits (P := P) w 0 t ty e i s ht hi hsize g n cap xs hown ad m c news hl hnews h1 hroom
      exact ⟨_, w', hr, ho, Chg.of_grown hgr (fun j hj => hj), .inl rfl⟩
    · obtain ⟨v', w', hr, ho, hgr⟩ := run_append_arg_grows (P := P) w t ty e i z s by_ ht hi hz hsize hby hzs hs0 ⟨g, 0, none⟩ n cap xs hown.1 (hown.cells rfl) ad m c news hl hnews (by omega) h63 hb
      refine ⟨v', w', hr, owns_zeroG ho, Chg.of_grown hgr (fun j hj => by cases hj), ?_⟩
      rcases ho.2 with ⟨rfl, h0⟩ | ⟨g', c', cur', rfl, hb', _⟩
      · omega
      · exact .inr ⟨g', rfl, hb'⟩
/-- The same of numbers. -/
theorem run_appendsI (w : World) (ty : TypeId) (v : Value) (n : Nat) (xs : List Int) (hown : w.ownsRow 0 3 1 v n (cellsI xs)) (ad : Option Addr) (m c : Nat) (l : List Int) (hsn : Sn w ad m l) (hnone : ad = none → m = 0 ∧ c = 0) (hb : n + m ≤ 1099511627776) :
    ∃ v' w', (Builtin.append_ #[28, 28] ty #[v, .slice ad m c]).run Try.prog w = .ok v' w' ∧ w'.ownsRow 0 3 1 v' (n + m) (cellsI (xs ++ l)) ∧ Chg (fun i => v.ownBlock = some i) w w' ∧ Moved w v.ownBlock v'.ownBlock := by
  obtain ⟨i0, hi0, hz0, hz1, hz2⟩ := info_parts info3
  cases ad with
  | none =>
    obtain ⟨rfl, rfl⟩ := hnone rfl
    have hl : l = [] := List.eq_nil_of_length_eq_zero hsn.len
    subst hl
    exact ⟨v, w, run_append_owned_none (P := Try.prog) (w := w) 0 28 ty 3 i0 1 Try.underlying28 hi0 v n _ hown, by simpa using hown, Chg.refl _ _, .inl rfl⟩
  | some x =>
    obtain ⟨v', w', hr, h1, h2, h3⟩ := run_appendsG (P := Try.prog) w 28 ty 3 i0 (.int .i64 0) 1 8 Try.underlying28 hi0 hz0 hz1 hz2 rfl (by decide) v n (cellsI xs) hown x m c (cellsI l) (by rw [cellsI_length, hsn.len]; omega) hsn.cells (cellsI_one l) (by unfold maxLen; omega) (by omega)
    exact ⟨v', w', hr, by rw [cellsI_append]; exact h1, h2, h3⟩
theorem wpList_appendsI (w : World) {ops : Array Oper} {rest : List Oper} {o : Oper} {a : Act} {Q : Exit → Act → World → Prop} (hgd : o.guard = none) (s x : Operand)
    (ho : o.op = .call { callee := .builtin .append, args := #[s, x], argTypes := #[28, 28] }) (v : Value) (n : Nat) (xs : List Int) (hs : a.eval s = v) (hown : w.ownsRow 0 3 1 v n (cellsI xs))
    (ad : Option Addr) (m c : Nat) (l : List Int) (hx : a.eval x = .slice ad m c) (hsn : Sn w ad m l) (hnone : ad = none → m = 0 ∧ c = 0) (hb : n + m ≤ 1099511627776)
    (h : ∀ v' w', w'.ownsRow 0 3 1 v' (n + m) (cellsI (xs ++ l)) → Chg (fun i => v.ownBlock = some i) w w' → Moved w v.ownBlock v'.ownBlock → wpList Try.prog ops Q rest (a.put o.dst v') w') : wpList Try.prog ops Q (o :: rest) a w := by
  refine wpList_plain hgd fun K hK => ?_
  obtain ⟨v', w', hr, h1, h2, h3⟩ := run_appendsI w o.type v n xs hown ad m c l hsn hnone hb
  unfold Oper.wp
  simp [execOp, ho, resolve, invoke, builtin, hs, hx, hr, Result.andThen]
  exact hK _ _ (h v' w' h1 h2 h3)

set_option maxHeartbeats 1000000 in
theorem fuseR (p : Nat) (F : Nat → Prop) (S : St) (o : Int) (ka : Option Addr) (kn kc : Nat) (K : List Int) (w : World) (h : Dk 75 86 w p F S) (hS : Sn w ka kn K) (hnone : ka = none → kn = 0 ∧ kc = 0) (hkn : kn ≤ 1099511627776) (hka : ∀ x, ka = some x → 0 < kn → ¬ F x.block) (ho : -9223372036854775808 ≤ o ∧ o ≤ 9223372036854775807) :
    Calls Try.prog 33 #[.pointer (some ⟨p, 0, none⟩), .int .i64 o, .slice ka kn kc] w fun e w' => e = .returned (.int .i64 (S.setFuse o K).1) ∧ Dks 75 86 w w' p F (S.setFuse o K).2 := by
  have HDk := hidden h
  obtain ⟨fb, fc, rs, set, ops, kv, kl, h, hL, hfu, rfl⟩ := h
  have hn : S.L.length = rs.length := by rw [hL]; simp
  have B0 := h.blk
  have c1 := B0.cell 1
  have c3 := B0.cell 3
  have c4 := B0.cell 4
  have c5 := B0.cell 5
  have f3 := B0.frozen 3
  have f4 := B0.frozen 4
  simp only [List.getElem?_cons_succ, List.getElem?_cons_zero] at c1 c3 c4 c5
  have HH := hidden h
  have HB := hidden B0
  have HL := hidden hL
  have HS := hidden hS
  have HNO := hidden hnone
  have HKA := hidden hka
  have HNL := hidden hn
  clear h hL hfu hS B0 hnone hka hn
  obtain ⟨q, hq⟩ : ∃ q, S.setFuse o K = q := ⟨_, rfl⟩
  rw [hq]
  unfold St.setFuse at hq
  obtain ⟨on, hon⟩ : ∃ on, S.on = on := ⟨_, rfl⟩
  rw [hon] at c1 hq
  have HON := hidden hon
  clear hon
  cases on with
  | false =>
    rw [if_pos rfl] at hq
    subst hq
    go_enter Try.func33, Try.ntmps33
    go_wp2_with fail
    go_ret
    exact ⟨rfl, _, HDk.out, Chg.refl _ _, New.refl _ _⟩
  | true =>
    rw [if_neg (by decide)] at hq
    by_cases h0 : o < 0
    · rw [if_pos h0] at hq
      subst hq
      go_enter Try.func33, Try.ntmps33
      go_wp2_with fail
      go_ret
      exact ⟨rfl, _, HDk.out, Chg.refl _ _, New.refl _ _⟩
    · rw [if_neg h0] at hq
      have h0' : 0 ≤ o := by omega
      have HQ := hidden hq
      clear hq h0
      have hB1 := (HB.out.set 3 (.bool true)).set 4 (.int .i64 o)
      simp only [List.set_cons_succ, List.set_cons_zero] at hB1
      have hC1 : Chg (fun i => i = p) w ((w.setCell ⟨p, 3, none⟩ (.bool true)).setCell ⟨p, 4, none⟩ (.int .i64 o)) := (Chg.set ⟨p, 3, none⟩ _ w).trans (Chg.set ⟨p, 4, none⟩ _ _) (fun _ _ h => h)
      have hD1 := HH.out.swap ty75 hC1 (on' := S.on) (falls' := S.falls) (set' := true) (ops' := o.toNat) (kv' := kv) (kl' := kl) (by rw [Int.toNat_of_nonneg h0']; exact hB1) HH.out.keep HH.out.kint (by omega) HH.out.klen
      have HD1 := hidden hD1
      have HC1 := hidden hC1
      have HS1 : Hid (Sn ((w.setCell ⟨p, 3, none⟩ (.bool true)).setCell ⟨p, 4, none⟩ (.int .i64 o)) ka kn K) := hC1.sn HS.out (fun x hx h0 e => HKA.out x hx h0 (.inl e))
      clear hB1 hC1 hD1
      go_enter Try.func33, Try.ntmps33
      go_wp2_with (refine wpList_appendsI _ rfl (.tmp 23) (.tmp 24) rfl (.slice none 0 0) 0 [] rfl (World.ownsRow_nil _ _ _ _) ka kn kc K rfl HS1.out HNO.out (by omega) ?_; intro v5 w5 ho5 hc5 hm5; rw [Nat.zero_add, List.nil_append] at ho5; obtain ⟨a5, c5', rfl⟩ := owns_form ho5; have bl5 := hc5.bel_none (fun g hg => by cases hg); have D5 := HD1.out.chg (Chg.of_below (F := fun _ => False) bl5) (fun _ _ h => h); have e5 : w5.cell? ⟨p, 5, none⟩ = some kv := D5.blk.cell 5; have f5 := D5.blk.frozen 5; have HO5 := hidden ho5; have HBL5 := hidden bl5; have HM5 := hidden hm5; have HD5 := hidden D5; clear ho5 hc5 hm5 bl5 D5)
      go_ret
      have hB6 := HD5.out.blk.set 5 (.slice a5 kn c5')
      simp only [List.set_cons_succ, List.set_cons_zero] at hB6
      have hC6 := Chg.set ⟨p, 5, none⟩ (.slice a5 kn c5') w5
      have hlK := HS.out.len
      have hD6 := HD5.out.swap ty75 hC6 (on' := S.on) (falls' := S.falls) (set' := true) (ops' := o.toNat) (kv' := .slice a5 kn c5') (kl' := K) hB6 (by rw [hlK]; exact HO5.out) HS.out.int (by omega) (by omega)
      rw [HON.out] at hD6
      rw [← HQ.out]
      refine ⟨rfl, FPd p fb rs (.slice a5 kn c5'), ⟨fb, fc, rs, true, o.toNat, .slice a5 kn c5', K, hD6, HL.out, ?_, rfl⟩, ?_, FPd_nokeep (fun g hg => .inr ?_)⟩
      · show some (o.toNat, K.take S.L.length) = some (o.toNat, K.take rs.length)
        rw [HNL.out]
      · exact ((HC1.out.mono (fun i _ hi => .inl hi)).trans (Chg.of_below (F := fun _ => False) HBL5.out) (fun _ _ h => h.elim)).trans hC6 (fun i _ hi => .inl hi)
      · rcases HM5.out with e | ⟨g', e, hg'⟩
        · rw [hg] at e
          cases e
        · rw [hg] at e
          obtain rfl := Option.some.inj e
          have : ((w.setCell ⟨p, 3, none⟩ (.bool true)).setCell ⟨p, 4, none⟩ (.int .i64 o)).heap.size = w.heap.size := by simp [World.setCell]
          omega

end Go.Proofs.Ytgmcfejmhlglkaa
