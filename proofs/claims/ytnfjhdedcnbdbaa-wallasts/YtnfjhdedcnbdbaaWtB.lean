/-
  WalLasts: same, more.
-/
import Derived.Test.YtnfjhdedcnbdbaaWtR
namespace Go.Proofs.Ytnfjhdedcnbdbaa
open Go.RowKit
set_option linter.unusedVariables false
set_option linter.unusedSimpArgs false

theorem RecM.lat {F : Nat → Prop} {w w' : World} {rv : Value} {recs : List (List Int)} {els : List Value} (h : RecM F w rv recs els) (hl : Lat w w') : RecM F w' rv recs els := h.chg (Chg.of_below (F := fun _ => False) hl) (fun _ h => h.elim)
theorem Sl.lat {w w' : World} {a : Option Addr} {n : Nat} {l : List Int} (h : Sl w a n l) (hl : Lat w w') : Sl w' a n l := (Chg.of_below (F := fun _ => False) hl).sl h (fun _ _ _ h => h)
theorem RecM.addr {F : Nat → Prop} {w : World} {a : Option Addr} {m c : Nat} {recs : List (List Int)} {els : List Value} (h : RecM F w (.slice a m c) recs els) (hm : 0 < m) : m = recs.length ∧ ∃ g, a = some ⟨g, 0, none⟩ := by
  obtain ⟨_, _, e⟩ := h.form
  simp only [Value.slice.injEq] at e
  refine ⟨e.2.1, ?_⟩
  have q := h.row
  have e2 : m = els.length := by rw [e.2.1, h.len]
  subst e2
  exact owns_addr q hm
theorem RecM.at {F : Nat → Prop} {w : World} {g m c : Nat} {recs : List (List Int)} {els : List Value} (h : RecM F w (.slice (some ⟨g, 0, none⟩) m c) recs els) {i : Nat} {r : List Int} (hr : recs[i]? = some r) : ∃ a cc, w.cell? ⟨g, i, none⟩ = some (.slice a r.length cc) ∧ Sl w a r.length r := by
  have hi := (List.getElem?_eq_some_iff.1 hr).1
  have hl := h.len
  obtain ⟨v, hv⟩ : ∃ v, els[i]? = some v := ⟨_, List.getElem?_eq_getElem (by omega)⟩
  obtain ⟨a, cc, h1, h2, _⟩ := h.el i v r hv hr
  obtain ⟨_, _, e⟩ := h.form
  simp only [Value.slice.injEq] at e
  have q := h.row
  have e2 : m = els.length := by rw [e.2.1, h.len]
  subst e2
  refine ⟨a, cc, ?_, h2⟩
  have := owns_cell q i v hv
  rw [this, h1]

set_option maxRecDepth 100000 in
set_option maxHeartbeats 2000000 in
theorem same_true (F G : Nat → Prop) (sa : Option Addr) (n sc : Nat) (ra : Option Addr) (m rc : Nat) (ta : Option Addr) (tc : Nat) (qa : Option Addr) (qc : Nat) (st : List Int) (recs : List (List Int)) (els els2 : List Value) (w : World) (h1 : Sl w sa n st) (h2 : Sl w ta n st) (hr : RecM F w (.slice ra m rc) recs els) (hq : RecM G w (.slice qa m qc) recs els2) (hn : n ≤ 4611686018427387904) (hm : m ≤ 4611686018427387904) :
    Calls Try.prog 15 #[.agg #[.slice sa n sc, .slice ra m rc], .slice ta n tc, .slice qa m qc] w fun e w' => e = .returned (.bool true) ∧ Lat w w' := by
  have H1 := hidden h1
  have H2 := hidden h2
  have HR := hidden hr
  have HQ := hidden hq
  clear h1 h2 hr hq
  go_enter Try.func15, Try.ntmps15
  go_wp2_with (refine wpList_box_blk rfl 42 (.tmp 0) rfl [.slice sa n sc, .slice ra m rc] rfl ?_; intro w2 B2 bl2 hz2; have HB := hidden B2; have HL : Hid (Lat w w2) := bl2; have c0 := B2.cell 0; have c1 := B2.cell 1; have hcv1 := convS (cap := sc) (H1.out.lat bl2); have hcv2 := convS (cap := tc) (H2.out.lat bl2); clear B2 bl2 hz2; simp only [List.getElem?_cons_succ, List.getElem?_cons_zero] at c0 c1)
  clear c0 c1 hcv1 hcv2
  go_loopw [6, 7] (fun v6 v7 wr => v6 = .bool false ∧ ∃ i : Nat, i ≤ m ∧ v7 = .int .i64 (i : Int) ∧ Lat w2 wr) (fun v6 v7 _ => m - (intOf v7).toNat)
  case atStart => exact ⟨rfl, 0, Nat.zero_le _, rfl, Lat.refl _⟩
  case round =>
    obtain ⟨rfl, i, hi, rfl, hl⟩ := hrel
    have HL2 := hidden hl
    clear hl
    by_cases hlt : i < m
    · have hlt' : (i : Int) < (m : Int) := by omega
      have HRw := hidden (HR.out.lat (Lat.trans _ _ _ HL.out HL2.out))
      have HQw := hidden (HQ.out.lat (Lat.trans _ _ _ HL.out HL2.out))
      have HBw := hidden (HB.out.later HL2.out)
      obtain ⟨hml, ga, hga⟩ := HRw.out.addr (by omega)
      obtain ⟨_, gb, hgb⟩ := HQw.out.addr (by omega)
      obtain ⟨r, hr⟩ : ∃ r, recs[i]? = some r := ⟨_, List.getElem?_eq_getElem (by omega)⟩
      clear hml
      subst hga hgb
      obtain ⟨a1, c1, z1, y1⟩ := HRw.out.at hr
      obtain ⟨a2, c2, z2, y2⟩ := HQw.out.at hr
      have cg : ∀ {w3 : World}, Lat wr w3 → Chg (fun _ => False) wr w3 := fun h => Chg.of_below h
      have z0 : wr.cell? ⟨w.heap.size, 1, none⟩ = some (.slice (some ⟨ga, 0, none⟩) m rc) := HBw.out.cell 1
      clear hr
      go_wp2_with fail
      refine same_r6 w.heap.size ga gb m rc qc i r.length c1 r.length c2 a1 a2 (strOfNums r) wr _ _ (by rfl) (by rfl) (by rfl) (by rfl) hlt (fun w3 hL => (cg hL).cellS z0 (fun h => h)) (fun w3 hL => (cg hL).cellS z1 (fun h => h)) (fun w3 hL => (cg hL).cellS z2 (fun h => h)) (fun w3 hL => convS (y1.lat hL)) (fun w3 hL => convS (y2.lat hL)) ?_
      intros
      rename_i w3 hL3
      simp only [Act.put, List.setIfInBounds_toArray, List.set_cons_succ, List.set_cons_zero]
      have HL3 := hidden (Lat.trans _ _ _ HL2.out hL3)
      clear z0 z1 z2 y1 y2 hL3
      go_wp2_with fail
      exact ⟨⟨rfl, i + 1, by omega, by simp, HL3.out⟩, by simp [intOf]; omega⟩
    · have hlt' : ¬ (i : Int) < (m : Int) := by omega
      go_wp2_with fail
      go_ret
      exact ⟨rfl, Lat.trans _ _ _ HL.out HL2.out⟩

theorem size42 : (Try.prog.info? 42).map (·.size) = some 2 := by kernel_rfl
theorem zero42 : (Try.prog.info? 42).map (fun i => i.zero.map (·.cells)) = some (some [Value.slice none 0 0, .slice none 0 0].toArray) := by kernel_rfl
theorem results_row1 {P : Program} {fn : Func} {p : Tmp} {ty : TypeId} (h : fn.results = #[.cell p ty]) (tmps : Array Value) (w : World) (g : Nat) (t : TypeId) (l : List Value) (d : TypeDesc)
    (hp : tmps.getD p undef = .pointer (some ⟨g, 0, none⟩)) (hg : Blk w g t l) (hu : P.underlying ty = some d) (hd : (match d with | .struct _ | .array _ _ => true | _ => false) = true) (hi : (P.info? ty).map (·.size) = some l.length) :
    (results fn tmps).run P w = .ok (.agg l.toArray) w := by
  have hp' : tmps[p]?.getD undef = .pointer (some ⟨g, 0, none⟩) := by simpa using hp
  simp [results, h, hp', asAddr, run_loadVar_row w g t ty l.toArray (0, 0) d hg hu hd (by simpa using hi)]
/-- 'append([]T(nil), l...)'. -/
theorem run_copied {F : Nat → Prop} (w : World) (ty : TypeId) (ra : Option Addr) (m rc : Nat) (recs : List (List Int)) (els : List Value) (h : RecM F w (.slice ra m rc) recs els) (hno : ra = none → m = 0 ∧ rc = 0) (hm : m ≤ 1048576) :
    ∃ v' w', (Builtin.append_ #[40, 40] ty #[.slice none 0 0, .slice ra m rc]).run Try.prog w = .ok v' w' ∧ w'.ownsRow w.heap.size 22 1 v' m els ∧ Lat w w' := by
  obtain ⟨i0, hi0, hz0, hz1, hz2⟩ := info_parts info22
  obtain ⟨_, _, e⟩ := h.form
  simp only [Value.slice.injEq] at e
  have e2 : m = els.length := by rw [e.2.1, h.len]
  cases ra with
  | none =>
    obtain ⟨rfl, rfl⟩ := hno rfl
    have he : els = [] := List.eq_nil_of_length_eq_zero e2.symm
    subst he
    exact ⟨.slice none 0 0, w, run_append_owned_none (P := Try.prog) (w := w) w.heap.size 40 ty 22 i0 1 Try.underlying40 hi0 (.slice none 0 0) 0 [] (World.ownsRow_nil _ _ _ _), World.ownsRow_nil _ _ _ _, Lat.refl _⟩
  | some ad =>
    have hq := h.row
    rw [← e2] at hq
    have hcs : ∀ j u, els[j]? = some u → w.cell? (ad.add j) = some u := fun j u hu => by
      have hj := (List.getElem?_eq_some_iff.1 hu).1
      obtain ⟨g, hg⟩ := owns_addr hq (by omega)
      cases hg
      rw [Addr.add_lit, Nat.zero_add]
      exact owns_cell hq j u hu
    have h1 : ∀ u ∈ els, u.oneCell' = true := fun u hu => by
      obtain ⟨j, hj⟩ := List.getElem?_of_mem hu
      have hjl := (List.getElem?_eq_some_iff.1 hj).1
      have hl := h.len
      obtain ⟨a, c, e, _⟩ := h.el j u _ hj (List.getElem?_eq_getElem (by omega))
      rw [e]
      rfl
    obtain ⟨v', w', hr, ho, hgr, hiff⟩ := run_append_own (P := Try.prog) w w.heap.size 40 ty 22 i0 (.slice none 0 0) 1 24 Try.underlying40 hi0 hz0 hz1 hz2 rfl (by omega) (.slice none 0 0) 0 [] (World.ownsRow_nil _ _ _ _) ad m rc els (by omega) hcs h1 (by unfold maxLen; omega) (by omega) (Nat.le_refl _)
    refine ⟨v', w', hr, by simpa using ho, ?_⟩
    exact (Chg.of_grown (F := fun _ => False) hgr (fun j hj => by cases hj)).below (Nat.le_refl _) (fun _ h => h.elim)

theorem wpList_copied {F : Nat → Prop} (w : World) {ops : Array Oper} {rest : List Oper} {o : Oper} {a : Act} {Q : Exit → Act → World → Prop} (hgd : o.guard = none) (s x : Operand)
    (ho : o.op = .call { callee := .builtin .append, args := #[s, x], argTypes := #[40, 40] }) (ra : Option Addr) (m rc : Nat) (recs : List (List Int)) (els : List Value) (hs : a.eval s = .slice none 0 0) (hx : a.eval x = .slice ra m rc) (h : RecM F w (.slice ra m rc) recs els) (hno : ra = none → m = 0 ∧ rc = 0) (hm : m ≤ 1048576)
    (hQ : ∀ av cv w', w'.ownsRow w.heap.size 22 1 (.slice av m cv) m els → Lat w w' → wpList Try.prog ops Q rest (a.put o.dst (.slice av m cv)) w') : wpList Try.prog ops Q (o :: rest) a w := by
  refine wpList_plain hgd fun K hK => ?_
  obtain ⟨v', w', hr, h1, h2⟩ := run_copied w o.type ra m rc recs els h hno hm
  obtain ⟨av, cv, rfl⟩ := owns_formG h1
  unfold Oper.wp
  simp [execOp, ho, resolve, invoke, builtin, hs, hx, hr, Result.andThen]
  exact hK _ _ (hQ av cv w' h1 h2)

set_option maxRecDepth 100000 in
set_option maxHeartbeats 2000000 in
theorem moreP (F : Nat → Prop) (sa : Option Addr) (sn sc : Nat) (ra : Option Addr) (m rc : Nat) (ba : Option Addr) (bn bc : Nat) (b : List Int) (recs : List (List Int)) (els : List Value) (w : World) (hr : RecM F w (.slice ra m rc) recs els) (hno : ra = none → m = 0 ∧ rc = 0) (hm : m ≤ 1048575) (hb : Sl w ba bn b) (hbF : ∀ z, ba = some z → 0 < bn → ¬ F z.block) (hF : ∀ i, F i → i < w.heap.size) :
    Calls Try.prog 19 #[.agg #[.slice sa sn sc, .slice ra m rc], .slice ba bn bc] w fun e w' => ∃ g c els', e = .returned (.agg #[.slice sa sn sc, .slice (some ⟨g, 0, none⟩) (m + 1) c]) ∧ RecM F w' (.slice (some ⟨g, 0, none⟩) (m + 1) c) (recs ++ [b]) els' ∧ Lat w w' := by
  have HR := hidden hr
  have HNO := hidden hno
  have HB := hidden hb
  have HBF := hidden hbF
  have HF := hidden hF
  clear hr hno hb hbF hF
  go_enter Try.func19, Try.ntmps19
  go_wp2_with (first
    | (refine wpList_box_blk rfl 42 (.tmp 0) rfl [.slice sa sn sc, .slice ra m rc] rfl ?_; intro w2 B2 bl2 hz2; have HB2 := hidden B2; have HL2 : Hid (Lat w w2) := bl2; have HZ2 := hidden hz2; have c0 := B2.cell 0; have c1 := B2.cell 1; clear B2 bl2 hz2; simp only [List.getElem?_cons_succ, List.getElem?_cons_zero] at c0 c1)
    | (refine wpList_alloc_blk rfl 42 rfl 4 rfl [Value.slice none 0 0, .slice none 0 0] zero42 ?_; intro w3 B3 bl3 hz3; have HB3 := hidden B3; have HL3 : Hid (Lat w2 w3) := bl3; have HZ3 := hidden hz3; clear c0 c1; have c0 : w3.cell? ⟨w.heap.size, 0, none⟩ = some (.slice sa sn sc) := (HB2.out.later bl3).cell 0; have c1 : w3.cell? ⟨w.heap.size, 1, none⟩ = some (.slice ra m rc) := (HB2.out.later bl3).cell 1; have hrl := HR.out.lat (Lat.trans _ _ _ HL2.out bl3); clear B3 bl3 hz3)
    | (refine wpList_copied w3 rfl (.tmp 6) (.tmp 8) rfl ra m rc recs els rfl rfl hrl HNO.out (by omega) ?_; intro av cv w4 ho4 hl4; have HO4 := hidden ho4; have HL4 : Hid (Lat w3 w4) := hl4; clear ho4 hl4 c0 c1 hrl; have c0 : w4.cell? ⟨w.heap.size, 0, none⟩ = some (.slice sa sn sc) := ((HB2.out.later HL3.out).later HL4.out).cell 0; have hp0 : w.heap.size < w4.heap.size := ((HB2.out.later HL3.out).later HL4.out).lt))
  obtain ⟨i0, hi0, hz0, hz1, hz2⟩ := info_parts info22
  have HB4 := hidden ((HB3.out).later HL4.out)
  have HB0 := hidden ((HB2.out.later HL3.out).later HL4.out)
  have hp2 : w2.heap.size < w4.heap.size := HB4.out.lt
  have HLX := hidden (Lat.trans _ _ _ HL2.out HL3.out)
  have h23 : w.heap.size < w2.heap.size := HB2.out.lt
  have h34 : w2.heap.size < w3.heap.size := HB3.out.lt
  have HPX : Hid (∀ g6 c6 w6, w6.ownsRow 0 22 1 (.slice (some ⟨g6, 0, none⟩) (m + 1) c6) (m + 1) (els ++ [.slice ba bn bc]) → (∃ o, Pushed (w4.drew.alloc o) w6 (.slice av m cv) g6) → w6.cell? ⟨w.heap.size, 0, none⟩ = some (.slice sa sn sc) ∧ w6.cell? ⟨w2.heap.size, 0, none⟩ = some (.slice none 0 0) ∧ w6.cell? ⟨w2.heap.size, 1, none⟩ = some (.slice none 0 0) ∧ w6.frozen? ⟨w2.heap.size, 0, none⟩ = false ∧ w6.frozen? ⟨w2.heap.size, 1, none⟩ = false ∧ RecM (fun i => F i ∨ i = w2.heap.size) w6 (.slice (some ⟨g6, 0, none⟩) (m + 1) c6) (recs ++ [b]) (els ++ [.slice ba bn bc]) ∧ Blk w6 w2.heap.size 42 [.slice none 0 0, .slice none 0 0] ∧ Lat w w6) := by
    rintro g6 c6 w6 ho6 ⟨o, hp6⟩
    have hb6 := (Chg.drew (fun i => (Value.slice av m cv).ownBlock = some i) w4).trans (Pushed.chg (w := w4.drew) hp6).1 (fun _ _ e => e)
    have hown : ∀ g, (Value.slice av m cv).ownBlock = some g → w3.heap.size ≤ g := fun g hg => (HO4.out.lt g hg).1
    have hB0 := hb6.blk HB0.out (fun e => by have := hown _ e; omega)
    have hB4 := hb6.blk HB4.out (fun e => by have := hown _ e; omega)
    have hL : Lat w w6 := by
      have q0 : w.heap.size ≤ w4.heap.size := by omega
      have q1 : Lat w w4 := Lat.trans _ _ _ HLX.out HL4.out
      exact Below.trans q1 (hb6.below q0 (fun i hi => by have := hown i hi; omega))
    have hlen := HR.out.len
    obtain ⟨_, _, hfm⟩ := HR.out.form
    simp only [Value.slice.injEq] at hfm
    have hml : m = recs.length := hfm.2.1
    have hg6 : w3.heap.size ≤ g6 := by
      rcases (Pushed.chg (w := w4.drew) hp6).2 with q | ⟨g, q, hq⟩
      · exact hown g6 q.symm
      · obtain rfl := Option.some.inj q
        have q3 : w4.heap.size ≤ g6 := hq
        have := HL4.out.size
        omega
    refine ⟨hB0.cell 0, hB4.cell 0, hB4.cell 1, hB4.frozen 0, hB4.frozen 1, ⟨by simp [hlen], ?_, fun g hg k => ?_, fun i v r hv hr => ?_⟩, hB4, hL⟩
    · rw [List.length_append, ← hlen, ← hml]
      exact ho6
    · have e : g6 = g := Option.some.inj hg
      subst e
      rcases k with k | k
      · have := HF.out _ k
        omega
      · omega
    · by_cases hi : i < m
      · rw [List.getElem?_append_left (by omega)] at hv hr
        obtain ⟨a, c, h1, h2, h3⟩ := HR.out.el i v r hv hr
        exact ⟨a, c, h1, h2.lat hL, fun z hz hp k => k.elim (h3 z hz hp) (fun k => by have := h2.lt z hz hp; omega)⟩
      · have e : i = m := by
          have q := (List.getElem?_eq_some_iff.1 hr).1
          simp at q
          omega
        subst e
        rw [List.getElem?_append_right (by omega), ← hlen, ← hml, Nat.sub_self] at hv
        rw [List.getElem?_append_right (by omega), ← hml, Nat.sub_self] at hr
        simp only [List.getElem?_cons_zero, Option.some.injEq] at hv hr
        subst hv hr
        have hbl := HB.out.len
        subst hbl
        exact ⟨ba, bc, rfl, HB.out.lat hL, fun z hz hp k => k.elim (HBF.out z hz hp) (fun k => by have := HB.out.lt z hz hp; omega)⟩
  go_region_law (refine step_push _ (by rfl) (.tmp 12) (.tmp 14) 40 (by rfl) 22 i0 (.slice none 0 0) 24 Try.underlying40 hi0 hz0 hz1 hz2 (by rfl) 0 (.slice av m cv) m els (by rfl) (by exact (Chg.drew (fun _ => False) _).owns ((Chg.alloc (fun _ => False) w4 _).owns (owns_zero HO4.out) (fun _ _ h => h)) (fun _ _ h => h)) ⟨w4.heap.size, 0, none⟩ (.slice ba bn bc) (by rfl) (by simp) (by rfl) (by unfold maxLen; omega) (by omega) (Nat.zero_le _) ?_; intro g6 c6 w6 ho6 hp6; obtain ⟨q1, q2, q3, q4, q5, q6⟩ := HPX.out g6 c6 w6 ho6 ⟨_, hp6⟩; have HQ6 := hidden q6; clear ho6 hp6 q6)
  all_goals
    go_wp2_with fail
    have hB := (HQ6.out.2.1.set 0 (.slice sa sn sc)).set 1 (.slice (some ⟨g6, 0, none⟩) (m + 1) c6)
    simp only [List.set_cons_succ, List.set_cons_zero] at hB
    have hch : Chg (fun i => i = w2.heap.size) w6 ((w6.setCell ⟨w2.heap.size, 0, none⟩ (.slice sa sn sc)).setCell ⟨w2.heap.size, 1, none⟩ (.slice (some ⟨g6, 0, none⟩) (m + 1) c6)) := (Chg.set ⟨w2.heap.size, 0, none⟩ _ w6).trans (Chg.set ⟨w2.heap.size, 1, none⟩ _ _) (fun _ _ h => h)
    refine bodyPost_ret (results_row1 rfl _ _ w2.heap.size 42 _ _ rfl hB Try.underlying42 rfl size42) rfl ?_
    exact ⟨g6, c6, _, rfl, (HQ6.out.1.chg hch (fun i hi => .inr hi)).mono (fun i hi => .inl hi), Below.trans HQ6.out.2.2 (hch.below (by have := HQ6.out.2.2.size; omega) (fun i hi => by omega))⟩

end Go.Proofs.Ytnfjhdedcnbdbaa
