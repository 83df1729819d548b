/-
  The document's quota: Drop.
-/
import Derived.Test.YthkmbodpboplfaaQrC
namespace Go.Proofs.Ythkmbodpboplfaa
open Go.RowKit
set_option linter.unusedVariables false
set_option linter.unusedSimpArgs false

theorem owns_le {w : World} {B base : Nat} {e : TypeId} {sz : Nat} {v : Value} {n : Nat} {xs : List Value} (h : w.ownsRow B e sz v n xs) (hb : base ≤ B) : w.ownsRow base e sz v n xs := by
  rcases h.2 with h0 | ⟨g, cap, cur, h0, h1, h2⟩
  · exact ⟨h.1, .inl h0⟩
  · exact ⟨h.1, .inr ⟨g, cap, cur, h0, Nat.le_trans hb h1, h2⟩⟩
theorem run_appendsK (w : World) (base : Nat) (v : Value) (n : Nat) (xs : List Value) (hown : w.ownsRow base 67 6 v n xs) (hbase : base ≤ w.heap.size)
    (ad : Addr) (m c : Nat) (news : List Value) (hl : news.length = m * 6) (hnews : ∀ j u, news[j]? = some u → w.cell? (ad.add j) = some u) (h1 : ∀ u ∈ news, u.oneCell' = true) (hb : n + m ≤ 20000) :
    ∃ v' w', (Builtin.append_ #[55, 55] 55 #[v, .slice (some ad) m c]).run Try.prog w = .ok v' w' ∧ w'.ownsRow base 67 6 v' (n + m) (xs ++ news) ∧ Chg (fun i => v.ownBlock = some i) w w' ∧ Moved w v.ownBlock v'.ownBlock := by
  have h63 : n + m ≤ maxLen := by unfold maxLen; omega
  obtain ⟨i67, z67, q1, q2, q3, q4, q5⟩ := info67x
  rcases hown.2 with ⟨rfl, rfl⟩ | ⟨g, cap, cur, rfl, hbg, hg, hnc, hcm, hcs, htake⟩
  · have hxs : xs = [] := List.eq_nil_of_length_eq_zero (by simpa using hown.1)
    subst hxs
    obtain ⟨v', w', hr, ho, hgr, hiff⟩ := run_append_own (P := Try.prog) w w.heap.size 55 55 67 i67 z67 6 56 Try.underlying55 q1 q2 q3 q4 q5 (by omega) (.slice none 0 0) 0 [] (World.ownsRow_nil _ _ _ _) ad m c news (by omega) hnews h1 h63 (by omega) (Nat.le_refl _)
    refine ⟨v', w', hr, owns_le ho hbase, Chg.of_grown hgr (fun j hj => by cases hj), ?_⟩
    cases hb : v'.ownBlock with
    | none => exact .inl rfl
    | some g => exact .inr ⟨g, rfl, (ho.lt g hb).1⟩
  · by_cases hroom : n + m ≤ cap
    · obtain ⟨w', hr, ho, hgr⟩ := run_append_fits (P := Try.prog) w base 55 55 67 i67 6 Try.underlying55 q1 q3 g n cap xs hown ad m c news (by omega) hnews h1 hroom
      exact ⟨_, w', hr, ho, Chg.of_grown hgr (fun j hj => hj), .inl rfl⟩
    · obtain ⟨v', w', hr, ho, hgr⟩ := run_append_arg_grows (P := Try.prog) w 55 55 67 i67 z67 6 56 Try.underlying55 q1 q2 q3 q4 q5 (by omega) ⟨g, 0, none⟩ n cap xs hown.1 (hown.cells rfl) ad m c news (by omega) hnews (by omega) h63 (by omega)
      refine ⟨v', w', hr, owns_le ho hbase, Chg.of_grown hgr (fun j hj => by cases hj), ?_⟩
      rcases ho.2 with ⟨rfl, h0⟩ | ⟨g', c', cur', rfl, hb', _⟩
      · omega
      · exact .inr ⟨g', rfl, hb'⟩
theorem kL_append (l m : List Kn) : kL (l ++ m) = kL l ++ kL m := by simp [kL]
theorem kL_take_at (l : List Kn) (i j : Nat) (u : Value) (h : (kL (l.take i))[j]? = some u) : (kL l)[j]? = some u := by
  have e : kL l = kL (l.take i) ++ kL (l.drop i) := by rw [← kL_append, List.take_append_drop]
  rw [e, List.getElem?_append_left (List.getElem?_eq_some_iff.1 h).1]
  exact h
theorem kL_drop_at (l : List Kn) (i j : Nat) (u : Value) (hi : i ≤ l.length) (h : (kL (l.drop i))[j]? = some u) : (kL l)[i * 6 + j]? = some u := by
  have e : kL l = kL (l.take i) ++ kL (l.drop i) := by rw [← kL_append, List.take_append_drop]
  have hl : (kL (l.take i)).length = i * 6 := by rw [kL_length, List.length_take, Nat.min_eq_left hi]
  rw [e, List.getElem?_append_right (by omega), hl, Nat.add_sub_cancel_left]
  exact h
theorem fnd_erase : ∀ (l : List Kn) (i : Nat) (s : ByteArray) (a : Ac), l[i]? = some (s, a) → l.Pairwise (fun x y => ¬ x.1 = y.1) → fnd (l.take i ++ l.drop (i + 1)) = updA (fnd l) s none
  | [], i, s, a, h, hp => by simp at h
  | x :: r, 0, s, a, h, hp => by
    simp at h
    subst h
    rw [List.pairwise_cons] at hp
    funext t
    simp only [List.take_zero, List.nil_append, List.drop_succ_cons, List.drop_zero, updA]
    by_cases ht : t = s
    · subst ht
      rw [if_pos rfl]
      cases e : fnd r t with
      | none => rfl
      | some c => exact absurd (rfl : t = t) (hp.1 (t, c) (fnd_mem r t c e))
    · rw [if_neg ht]
      simp only [fnd]
      rw [if_neg (fun e => ht e.symm)]
  | x :: r, i + 1, s, a, h, hp => by
    rw [List.pairwise_cons] at hp
    have h' : r[i]? = some (s, a) := by simpa using h
    have ih := fnd_erase r i s a h' hp.2
    have hxs : ¬ x.1 = s := hp.1 _ (List.mem_of_getElem? h')
    funext t
    simp only [List.take_succ_cons, List.cons_append, List.drop_succ_cons, fnd, ih, updA]
    by_cases ht : x.1 = t
    · have hts : ¬ t = s := fun e => hxs (ht.trans e)
      simp [ht, hts]
    · simp [ht]
theorem upd_none {l : List Kn} {s : ByteArray} (h : fnd l s = none) : updA (fnd l) s none = fnd l := by
  funext t
  unfold updA
  split
  · next e => rw [e, h]
  · rfl
theorem wpList_app_eq {P : Program} {w w' : World} {ops : Array Oper} {rest : List Oper} {o : Oper} {a : Act} {Q : Exit → Act → World → Prop} (hgd : o.guard = none) (s x : Operand) (t : TypeId)
    (ho : o.op = .call { callee := .builtin .append, args := #[s, x], argTypes := #[t, t] }) (v1 v2 r : Value) (hs : a.eval s = v1) (hx : a.eval x = v2)
    (hr : (Builtin.append_ #[t, t] o.type #[v1, v2]).run P w = .ok r w') (h : wpList P ops Q rest (a.put o.dst r) w') : wpList P ops Q (o :: rest) a w := by
  refine wpList_plain hgd fun K hK => ?_
  unfold Oper.wp
  simp [execOp, ho, resolve, invoke, builtin, hs, hx, hr, Result.andThen]
  exact hK _ _ h
theorem owns_slice {w : World} {base : Nat} {e : TypeId} {sz : Nat} {v : Value} {n : Nat} {xs : List Value} (h : w.ownsRow base e sz v n xs) : ∃ ad c, v = .slice ad n c := by
  rcases h.2 with ⟨h0, h1⟩ | ⟨g, cap, cur, h0, _⟩
  · exact ⟨none, 0, by rw [h0, h1]⟩
  · exact ⟨_, _, h0⟩
/-- Where a list lies then: where it lay, or in a new block. -/
def Mvd (w : World) (r r' : Option Nat) : Prop := ∀ j, r' = some j → r = some j ∨ w.heap.size ≤ j
theorem Moved.mvd {w : World} {r r' : Option Nat} (h : Moved w r r') : Mvd w r r' := by
  intro j hj
  rcases h with e | ⟨g, e, hg⟩
  · exact .inl (by rw [← e, hj])
  · rw [e] at hj
    cases hj
    exact .inr hg
/-- What Drop leaves. -/
def RdP (w : World) (base p : Nat) (v : Value) (l : List Kn) (b : Bool) (g : Gk) (e : Ending) (w' : World) : Prop :=
  e = .returned (.bool b) ∧ ∃ v' l', Rb w' base p v' l' ∧ fnd l' = g ∧ l'.length ≤ l.length + 1 ∧ Chg (RF p v) w w' ∧ Mvd w v.ownBlock v'.ownBlock

set_option maxRecDepth 100000 in
set_option maxHeartbeats 2000000 in
theorem dropR (s : ByteArray) (base p : Nat) (v : Value) (l : List Kn) (w : World) (h : Rb w base p v l) (hn : l.length ≤ 9000) (hbase : base ≤ w.heap.size) :
    Calls Try.prog 18 #[.pointer (some ⟨p, 0, none⟩), .string s] w fun e w' => RdP w base p v l (fnd l s).isSome (updA (fnd l) s none) e w' := by
  have HA := hidden (atP s base p v l w h hn)
  have HH := hidden h
  rcases at_cases l s with ⟨e1, e2⟩ | ⟨i, ⟨t, a⟩, e1, ei, hx, et, e2⟩
  · rw [e1] at HA
    have eu := upd_none e2
    rw [e2, eu]
    clear h e1 e2 eu
    go_enter Try.func18, Try.ntmps18
    go_wp2_with (refine HA.out.mono ?_; rintro e w3 ⟨rfl, rfl⟩)
    go_ret
    exact ⟨rfl, v, l, HH.out, rfl, by omega, Chg.refl _ _, fun j hj => .inl hj⟩
  · rw [e1] at HA
    rw [e2]
    simp only at et
    subst et
    have hil : i < l.length := (List.getElem?_eq_some_iff.1 hx).1
    obtain ⟨ad, cap, rfl, hcell⟩ := h.val
    obtain ⟨g, rfl, hgl, _⟩ := hcell i _ hx
    have hcap : l.length ≤ cap := by
      rcases h.row.2 with ⟨h0, _⟩ | ⟨g', cap', cur, hv, hb, hh, hnc, hc, hs, ht⟩
      · cases h0
      · simp only [Value.slice.injEq] at hv
        obtain ⟨_, _, rfl⟩ := hv
        exact hnc
    have hcapm : cap ≤ 9223372036854775807 := by
      rcases h.row.2 with ⟨h0, _⟩ | ⟨g', cap', cur, hv, hb, hh, hnc, hc, hs, ht⟩
      · cases h0
      · simp only [Value.slice.injEq] at hv
        obtain ⟨_, _, rfl⟩ := hv
        unfold maxLen at hc
        exact hc
    obtain ⟨v1, w1, r1, o1, c1, m1⟩ := run_appendsK w base (.slice none 0 0) 0 [] (World.ownsRow_nil _ _ _ _) hbase ⟨g, 0, none⟩ i cap (kL (l.take i)) (by rw [kL_length, List.length_take, Nat.min_eq_left (by omega)]) (fun j u hu => h.row.cells rfl j u (kL_take_at l i j u hu)) (kL_one _) (by omega)
    have hw1 : Below w.heap.size w w1 := ⟨c1.os, c1.tape, c1.output, c1.size, fun k hk => c1.block k hk (by intro e; cases e)⟩
    have H1 := hidden (h.later hw1)
    have hnews2 : ∀ (ad2 : Addr), (0 < l.length - (i + 1) → ad2 = ⟨g, (i + 1) * 6, none⟩) → ∀ j u, (kL (l.drop (i + 1)))[j]? = some u → w1.cell? (ad2.add j) = some u := by
      intro ad2 ha j u hu
      have hj : j < (l.length - (i + 1)) * 6 := by
        have := (List.getElem?_eq_some_iff.1 hu).1
        rw [kL_length, List.length_drop] at this
        exact this
      rw [ha (by omega), Addr.add_lit]
      have := H1.out.row.cells rfl ((i + 1) * 6 + j) u (kL_drop_at l (i + 1) j u (by omega) hu)
      rw [Addr.add_lit, Nat.zero_add] at this
      exact this
    obtain ⟨N, hN⟩ : ∃ N, (l.take i ++ l.drop (i + 1)).length = N := ⟨_, rfl⟩
    have HN := hidden hN
    have hr2 : ∀ (ad2 : Addr) (m c : Nat), (0 < l.length - (i + 1) → ad2 = ⟨g, (i + 1) * 6, none⟩) → m = l.length - (i + 1) → ∃ v2 w2, (Builtin.append_ #[55, 55] 55 #[v1, .slice (some ad2) m c]).run Try.prog w1 = .ok v2 w2 ∧ w2.ownsRow base 67 6 v2 N (kL (l.take i) ++ kL (l.drop (i + 1))) ∧ Chg (fun i => v1.ownBlock = some i) w1 w2 ∧ Moved w1 v1.ownBlock v2.ownBlock := by
      intro ad2 m c ha hm
      have hNm : N = 0 + i + m := by
        rw [← hN, List.length_append, List.length_take, List.length_drop]
        omega
      rw [hNm]
      exact run_appendsK w1 base v1 (0 + i) _ (by simpa using o1) (by have := hw1.size; omega) ad2 m c (kL (l.drop (i + 1))) (by rw [kL_length, List.length_drop, hm]) (hnews2 ad2 ha) (kL_one _) (by omega)
    have c0 := h.blk.cell 0
    have d0 := H1.out.blk.cell 0
    simp only [List.getElem?_cons_zero] at c0 d0
    have HR2 := hidden hr2
    have HX := hidden hx
    have HC1 := hidden c1
    have HM1 := hidden m1
    have HO1 := hidden o1
    have HW1 := hidden hw1
    clear h hcell hr2 hN hnews2 c1 m1 o1 hx e1 e2 ei hw1
    obtain ⟨L, hL⟩ : ∃ L, l.length = L := ⟨_, rfl⟩
    have HL := hidden hL
    rw [hL] at hil hn c0 d0 hcap HR2
    clear hL
    have HNP : Hid (¬ v1.ownBlock = some p) := hidden (fun e => absurd (H1.out.blk.tg.one (owns_tg HO1.out p e)) (by decide))
    have hpg : ¬ p = g := by
      intro e
      have t2 := owns_tg HH.out.row g rfl
      rw [← e] at t2
      exact absurd (HH.out.blk.tg.one t2) (by decide)
    have HFin : Hid (∀ (v2 : Value) (w2 : World), w2.ownsRow base 67 6 v2 N (kL (l.take i) ++ kL (l.drop (i + 1))) → Chg (fun i => v1.ownBlock = some i) w1 w2 → Moved w1 v1.ownBlock v2.ownBlock → Blk w2 p 57 [.slice (some ⟨g, 0, none⟩) l.length cap] →
        RdP w base p (.slice (some ⟨g, 0, none⟩) l.length cap) l (some a).isSome (updA (fnd l) t none) (.returned (.bool true)) (w2.setCell ⟨p, 0, none⟩ v2)) := hidden (by
      intro v2 w2 o2 c2 m2 B2
      have hlen := HN.out
      have hnp2 : ¬ v2.ownBlock = some p := fun e => absurd (B2.tg.one (owns_tg o2 p e)) (by decide)
      have hsub : (l.take i ++ l.drop (i + 1)).Sublist l := by
        have := List.eraseIdx_sublist l i
        rw [List.eraseIdx_eq_take_drop_succ] at this
        exact this
      refine ⟨rfl, v2, l.take i ++ l.drop (i + 1), ⟨B2.set 0 v2, ?_, HH.out.nodup.sublist hsub, fun x hx => HH.out.ok x (hsub.subset hx)⟩, fnd_erase l i t a HX.out HH.out.nodup, ?_, ?_, ?_⟩
      · rw [kL_append, hlen]
        exact (Chg.set ⟨p, 0, none⟩ v2 w2).owns o2 (fun g' hg' e => hnp2 (by rw [hg', e]))
      · have := hsub.length_le
        omega
      · refine ((Chg.of_below HW1.out).trans c2 (fun j hj hv => ?_)).trans (Chg.set ⟨p, 0, none⟩ v2 w2) (fun j _ hj => .inl hj)
        exfalso
        rcases HM1.out with e | ⟨g', e, hg'⟩
        · rw [e] at hv; cases hv
        · rw [e] at hv
          cases hv
          omega
      · intro j hj
        rcases m2.mvd j hj with e | e
        · rcases HM1.out.mvd j e with e1 | e1
          · cases e1
          · exact .inr e1
        · exact .inr (by have := HW1.out.size; omega))
    by_cases hcl : cap = i + 1
    · subst hcl
      obtain ⟨v2, w2, r2, o2, c2, m2⟩ := HR2.out ⟨g, 0, none⟩ 0 0 (by omega) (by omega)
      obtain ⟨ad2, k2, rfl⟩ := owns_slice o2
      have O2 := hidden o2
      have C2 := hidden c2
      have M2 := hidden m2
      have B2 := hidden (C2.out.blk (g := p) H1.out.blk HNP.out)
      have y0 := B2.out.cell 0
      simp only [List.getElem?_cons_zero] at y0
      have y1 := B2.out.frozen 0
      clear o2 c2 m2 HR2
      go_enter Try.func18, Try.ntmps18
      go_wp2_with (first | (refine HA.out.mono ?_; clear HA; rintro e w3 ⟨rfl, rfl⟩) | (refine wpList_app_eq (by rfl) (.tmp 12) (.tmp 18) 55 (by rfl) _ _ v1 (by rfl) (by rfl) r1 ?_) | (refine wpList_app_eq (by rfl) (.tmp 21) (.tmp 28) 55 (by rfl) _ _ _ (by rfl) (by rfl) r2 ?_))
      go_ret
      exact HFin.out _ w2 O2.out C2.out M2.out B2.out
    · have hcl2 : ¬ cap - (i + 1) = 0 := by omega
      obtain ⟨v2, w2, r2, o2, c2, m2⟩ := HR2.out ⟨g, (i + 1) * 6, none⟩ (L - (i + 1)) (cap - (i + 1)) (fun _ => rfl) rfl
      obtain ⟨ad2, k2, rfl⟩ := owns_slice o2
      have O2 := hidden o2
      have C2 := hidden c2
      have M2 := hidden m2
      have B2 := hidden (C2.out.blk (g := p) H1.out.blk HNP.out)
      have y0 := B2.out.cell 0
      simp only [List.getElem?_cons_zero] at y0
      have y1 := B2.out.frozen 0
      clear o2 c2 m2 HR2
      go_enter Try.func18, Try.ntmps18
      go_wp2_with (first | (refine HA.out.mono ?_; clear HA; rintro e w3 ⟨rfl, rfl⟩) | (refine wpList_app_eq (by rfl) (.tmp 12) (.tmp 18) 55 (by rfl) _ _ v1 (by rfl) (by rfl) r1 ?_) | (refine wpList_app_eq (by rfl) (.tmp 21) (.tmp 28) 55 (by rfl) _ _ _ (by rfl) (by rfl) r2 ?_))
      go_ret
      exact HFin.out _ w2 O2.out C2.out M2.out B2.out

end Go.Proofs.Ythkmbodpboplfaa
