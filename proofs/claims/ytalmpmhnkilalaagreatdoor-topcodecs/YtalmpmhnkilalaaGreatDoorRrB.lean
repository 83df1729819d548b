import Derived.Test.YtalmpmhnkilalaaGreatDoorRrA
import Derived.Test.YtalmpmhnkilalaaGreatDoorChS
/-
  Package wire's reader: limited, text, question, token, amount, count, samples. By genrrb19.py.
-/
namespace Go.Proofs.YtalmpmhnkilalaaGreatDoor
open Go.RowKit
set_option linter.unusedVariables false

theorem bind_lim (st : Option (List Int)) (most : Nat) : st.bind (rLim most) = (st.bind (rNum most)).bind (fun q => rCut q.1 q.2) := by cases st <;> rfl
theorem bind_map {α β : Type} (f : α → β) (r : Rdr α) (st : Option (List Int)) : st.bind (rMap f r) = (st.bind r).map (fun q => (f q.1, q.2)) := by cases st <;> rfl
theorem bind_pair {α β : Type} (r : Rdr α) (r2 : Rdr β) (st : Option (List Int)) : st.bind (rPair r r2) = (st.bind r).bind (fun q => (r2 q.2).map (fun p => ((q.1, p.1), p.2))) := by cases st <;> rfl
theorem bind_smp (st : Option (List Int)) : st.bind rSmp = (st.bind (rLim 18446744073709551615)).bind (fun q => (rdR q.1).map (fun l => (l, q.2))) := by cases st <;> rfl
theorem rNum_le {st : Option (List Int)} {most n : Nat} {t : List Int} (h : st.bind (rNum most) = some (n, t)) : n ≤ most := by
  cases st with
  | none => cases h
  | some b =>
    have h : rNum most b = some (n, t) := h
    unfold rNum at h
    split at h
    · rename_i hh
      injection h with h
      injection h with h1 h2
      subst h1
      exact hh.2
    · cases h

theorem limitedR (p K : Nat) (st : Option (List Int)) (most : Nat) (w : World) (h : Rt w p K st) (hm : most ≤ 18446744073709551615) :
    Calls Tryz.prog 151 #[.pointer (some ⟨p, 0, none⟩), .int .u64 (most : Int)] w (RQ w p K (st.bind (rLim most)) (Pc K) (fun v => v = .slice none 0 0)) := by
  have HN := hidden (numberR p K st most w h hm)
  rw [bind_lim]
  clear h
  cases ho : st.bind (rNum most) with
  | none =>
    rw [ho] at HN
    clear ho
    go_enter Tryz.func151, Tryz.ntmps151
    go_wp2_with fail
    refine HN.out.mono ?_
    rintro e w1 ⟨v, rfl, hQ⟩
    obtain rfl := hQ.no rfl
    have HQ := hidden hQ
    clear hQ
    go_wp2_with fail
    refine (cutR p K none 0 w1 HQ.out.rt (by omega)).mono ?_
    rintro e w2 ⟨v, rfl, hQ2⟩
    obtain rfl := hQ2.no rfl
    have HQ2 := hidden hQ2
    clear hQ2
    go_wp2_with fail
    go_ret
    exact ⟨_, rfl, HQ2.out.rt, HQ.out.chg.trans HQ2.out.chg (fun i _ hi => hi), fun x t h => (by cases h), fun _ => rfl⟩
  | some q =>
    obtain ⟨n, t⟩ := q
    have hn := rNum_le ho
    rw [ho] at HN
    clear ho
    go_enter Tryz.func151, Tryz.ntmps151
    go_wp2_with fail
    refine HN.out.mono ?_
    rintro e w1 ⟨v, rfl, hQ⟩
    obtain rfl := hQ.yes _ _ rfl
    have HQ := hidden hQ
    clear hQ
    go_wp2_with fail
    refine (cutR p K (some t) n w1 HQ.out.rt (by omega)).mono ?_
    rintro e w2 ⟨v, rfl, hQ2⟩
    have HQ2 := hidden hQ2
    clear hQ2
    go_wp2_with fail
    go_ret
    exact ⟨_, rfl, HQ2.out.rt, HQ.out.chg.trans HQ2.out.chg (fun i _ hi => hi), HQ2.out.yes, HQ2.out.no⟩

set_option maxRecDepth 20000 in
theorem textR (p K : Nat) (st : Option (List Int)) (w : World) (h : Rt w p K st) :
    Calls Tryz.prog 91 #[.pointer (some ⟨p, 0, none⟩)] w (RQ w p K (st.bind (rTxt 64)) (fun d v _ => v = .string d) (fun v => v = .string (strOfNums []))) := by
  have HN := hidden (limitedR p K st 64 w h (by omega))
  unfold rTxt
  rw [bind_map]
  clear h
  cases ho : st.bind (rLim 64) with
  | none =>
    rw [ho] at HN
    clear ho
    have hcv := fun w1 => run_string_of (P := Tryz.prog) 22 5 9 Tryz.underlying22 Tryz.underlying5 Tryz.underlying9 (cap := 0) (Sl.nil w1 none)
    go_enter Tryz.func91, Tryz.ntmps91
    go_wp2_with fail
    refine HN.out.mono ?_
    rintro e w1 ⟨v, rfl, hQ⟩
    obtain rfl := hQ.no rfl
    have HQ := hidden hQ
    clear hQ
    go_wp2_with fail
    go_ret
    exact ⟨_, rfl, HQ.out.rt, HQ.out.chg, fun x t h => (by cases h), fun _ => rfl⟩
  | some q =>
    obtain ⟨x, t⟩ := q
    rw [ho] at HN
    clear ho
    go_enter Tryz.func91, Tryz.ntmps91
    go_wp2_with fail
    refine HN.out.mono ?_
    rintro e w1 ⟨v, rfl, hQ⟩
    obtain ⟨ad, m, rfl, hs, _⟩ := hQ.yes _ _ rfl
    have hcv := run_string_of (P := Tryz.prog) 22 5 9 Tryz.underlying22 Tryz.underlying5 Tryz.underlying9 (cap := m) hs
    have HQ := hidden hQ
    clear hQ hs
    go_wp2_with fail
    go_ret
    refine ⟨_, rfl, HQ.out.rt, HQ.out.chg, fun x t h => ?_, fun h => (by cases h)⟩
    injection h with h
    injection h with h1 h2
    subst h1
    rfl

set_option maxRecDepth 20000 in
theorem questionR (p K : Nat) (st : Option (List Int)) (w : World) (h : Rt w p K st) :
    Calls Tryz.prog 113 #[.pointer (some ⟨p, 0, none⟩)] w (RQ w p K (st.bind (rTxt 4096)) (fun d v _ => v = .string d) (fun v => v = .string (strOfNums []))) := by
  have HN := hidden (limitedR p K st 4096 w h (by omega))
  unfold rTxt
  rw [bind_map]
  clear h
  cases ho : st.bind (rLim 4096) with
  | none =>
    rw [ho] at HN
    clear ho
    have hcv := fun w1 => run_string_of (P := Tryz.prog) 22 5 9 Tryz.underlying22 Tryz.underlying5 Tryz.underlying9 (cap := 0) (Sl.nil w1 none)
    go_enter Tryz.func113, Tryz.ntmps113
    go_wp2_with fail
    refine HN.out.mono ?_
    rintro e w1 ⟨v, rfl, hQ⟩
    obtain rfl := hQ.no rfl
    have HQ := hidden hQ
    clear hQ
    go_wp2_with fail
    go_ret
    exact ⟨_, rfl, HQ.out.rt, HQ.out.chg, fun x t h => (by cases h), fun _ => rfl⟩
  | some q =>
    obtain ⟨x, t⟩ := q
    rw [ho] at HN
    clear ho
    go_enter Tryz.func113, Tryz.ntmps113
    go_wp2_with fail
    refine HN.out.mono ?_
    rintro e w1 ⟨v, rfl, hQ⟩
    obtain ⟨ad, m, rfl, hs, _⟩ := hQ.yes _ _ rfl
    have hcv := run_string_of (P := Tryz.prog) 22 5 9 Tryz.underlying22 Tryz.underlying5 Tryz.underlying9 (cap := m) hs
    have HQ := hidden hQ
    clear hQ hs
    go_wp2_with fail
    go_ret
    refine ⟨_, rfl, HQ.out.rt, HQ.out.chg, fun x t h => ?_, fun h => (by cases h)⟩
    injection h with h
    injection h with h1 h2
    subst h1
    rfl

theorem tokenR (p K : Nat) (st : Option (List Int)) (w : World) (h : Rt w p K st) :
    Calls Tryz.prog 95 #[.pointer (some ⟨p, 0, none⟩)] w (RQ w p K (st.bind (rLim 64)) (Pc K) (fun v => v = .slice none 0 0)) := by
  have HN := hidden (limitedR p K st 64 w h (by omega))
  clear h
  go_enter Tryz.func95, Tryz.ntmps95
  go_wp2_with fail
  refine HN.out.mono ?_
  rintro e w1 ⟨v, rfl, hQ⟩
  have HQ := hidden hQ
  clear hQ
  go_wp2_with fail
  go_ret
  exact ⟨_, rfl, HQ.out⟩

set_option maxRecDepth 20000 in
theorem amountR (p K : Nat) (st : Option (List Int)) (w : World) (h : Rt w p K st) :
    Calls Tryz.prog 119 #[.pointer (some ⟨p, 0, none⟩)] w (RQ w p K (st.bind (rNum 1099511627775)) (fun n v _ => v = .int .i64 (n : Int)) (fun v => v = .int .i64 0)) := by
  have HN := hidden (numberR p K st 1099511627775 w h (by omega))
  clear h
  cases ho : st.bind (rNum 1099511627775) with
  | none =>
    rw [ho] at HN
    clear ho
    go_enter Tryz.func119, Tryz.ntmps119
    go_wp2_with fail
    refine HN.out.mono ?_
    rintro e w1 ⟨v, rfl, hQ⟩
    obtain rfl := hQ.no rfl
    have HQ := hidden hQ
    clear hQ
    go_wp2_with fail
    go_ret
    exact ⟨_, rfl, HQ.out.rt, HQ.out.chg, fun x t h => (by cases h), fun _ => rfl⟩
  | some q =>
    obtain ⟨x, t⟩ := q
    have hx := rNum_le ho
    rw [ho] at HN
    clear ho
    go_enter Tryz.func119, Tryz.ntmps119
    go_wp2_with fail
    refine HN.out.mono ?_
    rintro e w1 ⟨v, rfl, hQ⟩
    obtain rfl := hQ.yes _ _ rfl
    have HQ := hidden hQ
    clear hQ
    go_wp2_with fail
    go_ret
    refine ⟨_, rfl, HQ.out.rt, HQ.out.chg, fun x t h => ?_, fun h => (by cases h)⟩
    injection h with h
    injection h with h1 h2
    subst h1
    rfl

set_option maxRecDepth 20000 in
theorem countR (p K : Nat) (st : Option (List Int)) (w : World) (h : Rt w p K st) :
    Calls Tryz.prog 141 #[.pointer (some ⟨p, 0, none⟩)] w (RQ w p K (st.bind (rNum 9223372036854775807)) (fun n v _ => v = .int .i64 (n : Int)) (fun v => v = .int .i64 0)) := by
  have HN := hidden (numberR p K st 9223372036854775807 w h (by omega))
  clear h
  cases ho : st.bind (rNum 9223372036854775807) with
  | none =>
    rw [ho] at HN
    clear ho
    go_enter Tryz.func141, Tryz.ntmps141
    go_wp2_with fail
    refine HN.out.mono ?_
    rintro e w1 ⟨v, rfl, hQ⟩
    obtain rfl := hQ.no rfl
    have HQ := hidden hQ
    clear hQ
    go_wp2_with fail
    go_ret
    exact ⟨_, rfl, HQ.out.rt, HQ.out.chg, fun x t h => (by cases h), fun _ => rfl⟩
  | some q =>
    obtain ⟨x, t⟩ := q
    have hx := rNum_le ho
    rw [ho] at HN
    clear ho
    go_enter Tryz.func141, Tryz.ntmps141
    go_wp2_with fail
    refine HN.out.mono ?_
    rintro e w1 ⟨v, rfl, hQ⟩
    obtain rfl := hQ.yes _ _ rfl
    have HQ := hidden hQ
    clear hQ
    go_wp2_with fail
    go_ret
    refine ⟨_, rfl, HQ.out.rt, HQ.out.chg, fun x t h => ?_, fun h => (by cases h)⟩
    injection h with h
    injection h with h1 h2
    subst h1
    rfl

/-- Samples that were read. -/
def SmO (B : Nat) (l : List Sm) (v : Value) (w : World) : Prop := (∃ ad c, v = .slice ad l.length c) ∧ w.ownsRow B 50 2 v l.length (cS l) ∧ (∀ x ∈ l, OkS x)
set_option maxRecDepth 8000 in
set_option maxHeartbeats 1000000 in
theorem samplesR (p K : Nat) (st : Option (List Int)) (w : World) (h : Rt w p K st) (hG : Gv w) (hp : 2 ≤ p) :
    Calls Tryz.prog 186 #[.pointer (some ⟨p, 0, none⟩)] w (RQ w p K (st.bind rSmp) (SmO w.heap.size) (fun v => ∃ ad c, v = .slice ad 0 c)) := by
  have HN := hidden (limitedR p K st 18446744073709551615 w h (by omega))
  have HG := hidden hG
  rw [bind_smp]
  have hsz : 2 ≤ w.heap.size := World.block_lt_of_cell? w _ (hG.tab 0 (by omega))
  clear h hG
  cases ho : st.bind (rLim 18446744073709551615) with
  | none =>
    rw [ho] at HN
    clear ho
    go_enter Tryz.func186, Tryz.ntmps186
    go_wp2_with fail
    refine HN.out.mono ?_
    rintro e w1 ⟨v, rfl, hQ⟩
    obtain rfl := hQ.no rfl
    have HQ := hidden hQ
    have HG1 := hidden (gv_chg HG.out hQ.chg (by unfold fpr; omega))
    have hs1 := hQ.chg.size
    clear hQ
    go_wp2_with fail
    refine (readP w1 none 0 0 [] (Sl.nil _ _) HG1.out (by omega) (by omega) (by omega) (fun _ => ⟨rfl, rfl⟩) (by omega)).mono ?_
    rintro e w2 ⟨ad, c, l, ec, rfl, o2, _, b2, hr⟩
    have hr0 : rdR [] = some [] := rfl
    rw [hr0] at hr
    obtain ⟨rfl, rfl⟩ : l = [] ∧ ec = 0 := by
      rcases hr with ⟨h1, h2⟩ | ⟨h1, _⟩
      · injection h1 with h1; exact ⟨h1.symm, h2⟩
      · cases h1
    have HR2 := hidden (HQ.out.rt.later b2)
    have HC2 := hidden (HQ.out.chg.trans (Chg.of_below (F := fpr p) b2) (fun i _ hi => hi))
    clear o2 b2 hr hr0
    go_wp2_with fail
    refine (mustT p w2).mono ?_
    rintro e w3 ⟨rfl, rfl⟩
    go_wp2_with fail
    go_ret
    exact ⟨_, rfl, HR2.out, HC2.out, fun x t h => (by cases h), fun _ => ⟨_, _, rfl⟩⟩
  | some q =>
    obtain ⟨x, t⟩ := q
    rw [ho] at HN
    clear ho
    go_enter Tryz.func186, Tryz.ntmps186
    go_wp2_with fail
    refine HN.out.mono ?_
    rintro e w1 ⟨v, rfl, hQ⟩
    obtain ⟨ad, m, rfl, hs, hn, _, hm⟩ := hQ.yes _ _ rfl
    have HQ := hidden hQ
    have HG1 := hidden (gv_chg HG.out hQ.chg (by unfold fpr; omega))
    have hs1 := hQ.chg.size
    have HS := hidden hs
    have HNN := hidden hn
    clear hQ hs hn
    go_wp2_with fail
    refine (readP w1 ad m m x HS.out HG1.out (by omega) (by omega) (by omega) (fun h => ⟨HNN.out h, HNN.out h⟩) (by omega)).mono ?_
    rintro e w2 ⟨ad2, c2, l, ec, rfl, o2, hok, b2, hr⟩
    have HR2 := hidden (HQ.out.rt.later b2)
    have HC2 := hidden (HQ.out.chg.trans (Chg.of_below (F := fpr p) b2) (fun i _ hi => hi))
    have HO2 := hidden o2
    have HK := hidden hok
    clear o2 b2 hok
    rcases hr with ⟨hr, rfl⟩ | ⟨hr, rfl, rfl⟩
    · have HRR := hidden (show (some (x, t)).bind (fun q => (rdR q.1).map (fun l => (l, q.2))) = some (l, t) by show (rdR x).map _ = _; rw [hr]; rfl)
      clear hr
      obtain ⟨N, hN⟩ : ∃ N, l.length = N := ⟨_, rfl⟩
      have HNl := hidden hN
      rw [hN] at HO2 ⊢
      clear hN
      go_wp2_with fail
      refine (mustT p w2).mono ?_
      rintro e w3 ⟨rfl, rfl⟩
      go_wp2_with fail
      go_ret
      rw [HRR.out]
      refine ⟨_, rfl, HR2.out, HC2.out, fun x t h => ?_, fun h => (by cases h)⟩
      injection h with h
      injection h with h1 h2
      subst h1
      refine ⟨⟨_, _, by rw [HNl.out]; rfl⟩, ?_, HK.out⟩
      rw [HNl.out]
      exact owns_base HO2.out (fun g hg => by have := (HO2.out.lt g hg).1; omega)
    · have HRR := hidden (show (some (x, t)).bind (fun q => (rdR q.1).map (fun l => (l, q.2))) = none by show (rdR x).map _ = _; rw [hr]; rfl)
      clear hr
      go_wp2_with fail
      refine (mustF p K _ w2 HR2.out).mono ?_
      rintro e w3 ⟨rfl, hR3, hC3⟩
      have HR3 := hidden hR3
      have HC3 := hidden hC3
      clear hR3 hC3
      go_wp2_with fail
      go_ret
      rw [HRR.out]
      exact ⟨_, rfl, HR3.out, HC2.out.trans HC3.out (fun i _ hi => hi), fun x t h => (by cases h), fun _ => ⟨_, _, rfl⟩⟩

end Go.Proofs.YtalmpmhnkilalaaGreatDoor

/-
  One element of so many cells behind a row that is owned. Nothing of the program.
-/
namespace Go.Proofs.YtalmpmhnkilalaaGreatDoor
open Go.RowKit
set_option linter.unusedVariables false

theorem run_pushN {P : Program} (w : World) (t ty e : TypeId) (i : TypeInfo) (z : Value) (sz bytes : Nat) (ht : P.underlying t = some (.slice e)) (hi : P.info? e = some i) (hz : i.zero = some z)
    (hsize : i.size = sz) (hby : i.bytes = bytes) (hzs : z.cells.size = sz) (hp : 0 < sz) (base : Nat) (v : Value) (n : Nat) (xs : List Value) (hown : w.ownsRow base e sz v n xs)
    (ad : Addr) (news : List Value) (hl : news.length = sz) (hnews : ∀ j u, news[j]? = some u → w.cell? (ad.add j) = some u) (hone : ∀ x ∈ news, x.oneCell' = true) (h63 : n + 1 ≤ maxLen) (hbytes : (n + 1) * bytes ≤ 140737488355328) (hbase : base ≤ w.heap.size) :
    ∃ g' c' w', (Builtin.append_ #[t, t] ty #[v, .slice (some ad) 1 1]).run P w = .ok (.slice (some ⟨g', 0, none⟩) (n + 1) c') w' ∧
      w'.ownsRow base e sz (.slice (some ⟨g', 0, none⟩) (n + 1) c') (n + 1) (xs ++ news) ∧ Pushed w w' v g' := by
  have hl1 : news.length = 1 * sz := by omega
  rcases hown.2 with ⟨rfl, rfl⟩ | ⟨g, cap, cur, rfl, hbg, hg, hnc, hcm, hcs, htake⟩
  · have hxs : xs = [] := List.eq_nil_of_length_eq_zero (by simpa using hown.1)
    subst hxs
    obtain ⟨v', w', hr, ho, hgr, hiff⟩ := run_append_own (P := P) w w.heap.size t ty e i z sz bytes ht hi hz hsize hby hzs hp (.slice none 0 0) 0 [] (World.ownsRow_nil _ _ _ _) ad 1 1 news hl1 hnews hone h63 hbytes (Nat.le_refl _)
    rcases ho.2 with ⟨_, h0⟩ | ⟨g', c', cur', rfl, hb', hh, hrest⟩
    · omega
    · exact ⟨g', c', w', by simpa using hr, ⟨by simp [hl], .inr ⟨g', c', cur', rfl, by omega, hh, by simpa using hrest⟩⟩, .inr ⟨hb', by simpa [Value.ownBlock] using hgr⟩⟩
  · by_cases hroom : n + 1 ≤ cap
    · obtain ⟨w', hr, ho, hgr⟩ := run_append_fits (P := P) w base t ty e i sz ht hi hsize g n cap xs hown ad 1 1 news hl1 hnews hone hroom
      exact ⟨g, cap, w', hr, ho, .inl ⟨rfl, hgr⟩⟩
    · obtain ⟨v', w', hr, ho, hgr⟩ := run_append_arg_grows (P := P) w t ty e i z sz bytes ht hi hz hsize hby hzs hp ⟨g, 0, none⟩ n cap xs hown.1 (hown.cells rfl) ad 1 1 news hl1 hnews (by omega) h63 hbytes
      rcases ho.2 with ⟨_, h0⟩ | ⟨g', c', cur', rfl, hb', hh, hrest⟩
      · omega
      · exact ⟨g', c', w', hr, ⟨by rw [List.length_append, hown.1, hl, Nat.add_mul, Nat.one_mul], .inr ⟨g', c', cur', rfl, by omega, hh, hrest⟩⟩, .inr ⟨hb', hgr⟩⟩
theorem wp_pushN {P : Program} (w : World) {o : Oper} {a : Act} {K : Act → World → Prop} {Q : Exit → Act → World → Prop} (s x : Operand) (t : TypeId)
    (ho : o.op = .call { callee := .builtin .append, args := #[s, x], argTypes := #[t, t] }) (e : TypeId) (i : TypeInfo) (z : Value) (sz bytes : Nat) (ht : P.underlying t = some (.slice e)) (hi : P.info? e = some i) (hz : i.zero = some z)
    (hsize : i.size = sz) (hby : i.bytes = bytes) (hzs : z.cells.size = sz) (hp : 0 < sz) (base : Nat) (v : Value) (n : Nat) (xs : List Value) (hs : a.eval s = v) (hown : w.ownsRow base e sz v n xs)
    (ad : Addr) (news : List Value) (hx : a.eval x = .slice (some ad) 1 1) (hl : news.length = sz) (hnews : ∀ j u, news[j]? = some u → w.cell? (ad.add j) = some u) (hone : ∀ x ∈ news, x.oneCell' = true) (h63 : n + 1 ≤ maxLen) (hbytes : (n + 1) * bytes ≤ 140737488355328) (hbase : base ≤ w.heap.size)
    (h : ∀ g' c' w', w'.ownsRow base e sz (.slice (some ⟨g', 0, none⟩) (n + 1) c') (n + 1) (xs ++ news) → Pushed w w' v g' → K (a.put o.dst (.slice (some ⟨g', 0, none⟩) (n + 1) c')) w') : o.wp P a w K Q := by
  obtain ⟨g', c', w', hr, h2, h3⟩ := run_pushN (P := P) w t o.type e i z sz bytes ht hi hz hsize hby hzs hp base v n xs hown ad news hl hnews hone h63 hbytes hbase
  unfold Oper.wp
  simp [execOp, ho, resolve, invoke, builtin, hs, hx, hr, Result.andThen]
  exact h g' c' w' h2 h3
theorem wpList_pushN {P : Program} (w : World) {ops : Array Oper} {rest : List Oper} {o : Oper} {a : Act} {Q : Exit → Act → World → Prop} (hgd : o.guard = none) (s x : Operand) (t : TypeId)
    (ho : o.op = .call { callee := .builtin .append, args := #[s, x], argTypes := #[t, t] }) (e : TypeId) (i : TypeInfo) (z : Value) (sz bytes : Nat) (ht : P.underlying t = some (.slice e)) (hi : P.info? e = some i) (hz : i.zero = some z)
    (hsize : i.size = sz) (hby : i.bytes = bytes) (hzs : z.cells.size = sz) (hp : 0 < sz) (base : Nat) (v : Value) (n : Nat) (xs : List Value) (hs : a.eval s = v) (hown : w.ownsRow base e sz v n xs)
    (ad : Addr) (news : List Value) (hx : a.eval x = .slice (some ad) 1 1) (hl : news.length = sz) (hnews : ∀ j u, news[j]? = some u → w.cell? (ad.add j) = some u) (hone : ∀ x ∈ news, x.oneCell' = true) (h63 : n + 1 ≤ maxLen) (hbytes : (n + 1) * bytes ≤ 140737488355328) (hbase : base ≤ w.heap.size)
    (h : ∀ g' c' w', w'.ownsRow base e sz (.slice (some ⟨g', 0, none⟩) (n + 1) c') (n + 1) (xs ++ news) → Pushed w w' v g' → wpList P ops Q rest (a.put o.dst (.slice (some ⟨g', 0, none⟩) (n + 1) c')) w') : wpList P ops Q (o :: rest) a w :=
  wpList_plain hgd fun _ hK => wp_pushN w s x t ho e i z sz bytes ht hi hz hsize hby hzs hp base v n xs hs hown ad news hx hl hnews hone h63 hbytes hbase fun g' c' w' h2 h3 => hK _ _ (h g' c' w' h2 h3)
theorem step_pushN {P : Program} (w : World) {ops : Array Oper} {o : Oper} {a : Act} {K : Act → World → Prop} {Q : Exit → Act → World → Prop} {E : Prop} (hgd : o.guard = none) (s x : Operand) (t : TypeId)
    (ho : o.op = .call { callee := .builtin .append, args := #[s, x], argTypes := #[t, t] }) (e : TypeId) (i : TypeInfo) (z : Value) (sz bytes : Nat) (ht : P.underlying t = some (.slice e)) (hi : P.info? e = some i) (hz : i.zero = some z)
    (hsize : i.size = sz) (hby : i.bytes = bytes) (hzs : z.cells.size = sz) (hp : 0 < sz) (base : Nat) (v : Value) (n : Nat) (xs : List Value) (hs : a.eval s = v) (hown : w.ownsRow base e sz v n xs)
    (ad : Addr) (news : List Value) (hx : a.eval x = .slice (some ad) 1 1) (hl : news.length = sz) (hnews : ∀ j u, news[j]? = some u → w.cell? (ad.add j) = some u) (hone : ∀ x ∈ news, x.oneCell' = true) (h63 : n + 1 ≤ maxLen) (hbytes : (n + 1) * bytes ≤ 140737488355328) (hbase : base ≤ w.heap.size)
    (h : ∀ g' c' w', w'.ownsRow base e sz (.slice (some ⟨g', 0, none⟩) (n + 1) c') (n + 1) (xs ++ news) → Pushed w w' v g' → K (a.put o.dst (.slice (some ⟨g', 0, none⟩) (n + 1) c')) w') :
    if Region.wanted o (yielded ops a.tmps) = true then Oper.wp P o a w K Q else E := by
  have hw : Region.wanted o (yielded ops a.tmps) = true := by simp [Region.wanted, hgd]
  rw [if_pos hw]
  exact wp_pushN w s x t ho e i z sz bytes ht hi hz hsize hby hzs hp base v n xs hs hown ad news hx hl hnews hone h63 hbytes hbase h

end Go.Proofs.YtalmpmhnkilalaaGreatDoor
