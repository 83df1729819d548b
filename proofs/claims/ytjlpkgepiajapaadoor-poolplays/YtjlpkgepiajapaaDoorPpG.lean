import Derived.Test.YtjlpkgepiajapaaDoorPpF
/-
  The document's pool: Put.
-/
namespace Go.Proofs.YtjlpkgepiajapaaDoor
open Go.RowKit
set_option linter.unusedVariables false
set_option linter.unusedSimpArgs false

theorem cof85 : Tryd.prog.cellsOf 85 = 3 := by kernel_rfl
theorem fof85 : Tryd.prog.cellsOf 85 = 3 := by kernel_rfl
set_option maxRecDepth 100000 in
set_option maxHeartbeats 2000000 in
theorem putr_r7 (r q n i m c : Nat) (ad : Option Addr) (l : List Int) (w : World) (a0 : Act) (Q : Exit → Act → World → Prop) (hsz : a0.tmps.size = 27)
    (s0 : a0.tmps.getD 0 undef = .pointer (some ⟨r, 0, none⟩))
    (s1 : a0.tmps.getD 1 undef = .int .i64 (i : Int))
    (s2 : a0.tmps.getD 2 undef = .slice ad m c)
    (s8 : a0.tmps.getD 8 undef = .slice none 0 0)
    (hi1 : (i : Int) < (n : Int)) (hi0 : ¬ (i : Int) < 0) (hc0 : ∀ w1, Lat w w1 → w1.cell? ⟨r, 0, none⟩ = some (.slice (some ⟨q, 0, none⟩) n n)) (hsl : ∀ w1, Lat w w1 → Sl w1 ad m l) (hno : ad = none → m = 0 ∧ c = 0) (hm : m ≤ 140737488355328)
    (u : Value) (hcell : ∀ w1, Lat w w1 → w1.cell? ⟨q, i * 3 + 2, none⟩ = some u) (hfrz : ∀ w1, Lat w w1 → w1.frozen? ⟨q, i * 3 + 2, none⟩ = false)
    (hQ : ∀ (v17 v18 v19 v20 v21 v22 v23 v24 v25 v26 : Value) (w1 : World) (a' : Option Addr) (c' : Nat), Lat w w1 → Sl w1 a' m l → (a' = none → m = 0 ∧ c' = 0) → (∀ x, a' = some x → w.heap.size ≤ x.block ∧ Tg w1 x.block 5) → Q .normal ((((((((((a0.put (some 17) v17).put (some 18) v18).put (some 19) v19).put (some 20) v20).put (some 21) v21).put (some 22) v22).put (some 23) v23).put (some 24) v24).put (some 25) v25).put (some 26) v26) (w1.setCell ⟨q, i * 3 + 2, none⟩ (.slice a' m c'))) :
    Code.wp Tryd.prog ((Tryd.f38.body.bind (findRegion 7)).getD .skip) Q a0 w := by
  conv => arg 2; whnf
  refine wp_region_last 10 Lat (TE [Ent.val (.pointer (some ⟨r, 0, none⟩)), Ent.val (.pointer (some ⟨r, 0, none⟩)), Ent.val (.pointer (some ⟨r, 0, none⟩)), Ent.val (.slice (some ⟨q, 0, none⟩) n n), Ent.val (.int .i64 (i : Int)), Ent.val (.slice none 0 0), Ent.val (.slice ad m c), (⟨fun v w1 => ∃ a c, v = .slice a m c ∧ Sl w1 a m l ∧ (a = none → m = 0 ∧ c = 0) ∧ (∀ x, a = some x → w.heap.size ≤ x.block ∧ Tg w1 x.block 5), fun v x y h hl => by obtain ⟨a, c, h1, h2, h3, h4⟩ := h; exact ⟨a, c, h1, h2.later hl, h3, fun z hz => ⟨(h4 z hz).1, (h4 z hz).2.chg (Chg.of_below (F := fun _ => False) hl) (fun h => h)⟩⟩⟩ : Ent Lat), Ent.val (.pointer (some ⟨q, i * 3, none⟩)), Ent.val (.pointer (some ⟨q, i * 3 + 2, none⟩))]) (by kernel_rfl) (by kernel_rfl) (by kernel_rfl) (by rw [hsz]; kernel_rfl) (by kernel_rfl) (by kernel_rfl) Lat.refl Lat.trans (TE_stable _) (Lat.draw w) ?hop ?hlast
  case hlast =>
    intro o a w1 ho hL hS hT
    obtain rfl := Option.some.inj ho
    have dA : a.tmps.getD 26 undef = .pointer (some ⟨q, i * 3 + 2, none⟩) := hT 9 _ (by omega) rfl
    have dV0 := hT 7 _ (by omega) rfl
    obtain ⟨a', c', dVq, h1, h2, h3⟩ := dV0
    have dV : a.tmps.getD 24 undef = .slice a' m c' := dVq
    have he := same_puts hS
    have hQ2 := hQ (a.tmps.getD 17 undef) (a.tmps.getD 18 undef) (a.tmps.getD 19 undef) (a.tmps.getD 20 undef) (a.tmps.getD 21 undef) (a.tmps.getD 22 undef) (a.tmps.getD 23 undef) (a.tmps.getD 24 undef) (a.tmps.getD 25 undef) (a.tmps.getD 26 undef) w1 a' c' hL h1 h2 h3
    have hc1 := hcell w1 hL
    have hf1 := hfrz w1 hL
    unfold Oper.wp
    simp [execOp, Act.eval, dA, dV, hc1, hf1, Result.andThen, go_sem]
    show Q .normal a _
    rw [he]
    exact hQ2
  case hop =>
    intro i o hlt hi
    rcases (show i = 0 ∨ i = 1 ∨ i = 2 ∨ i = 3 ∨ i = 4 ∨ i = 5 ∨ i = 6 ∨ i = 7 ∨ i = 8 ∨ i = 9 by omega) with rfl | rfl | rfl | rfl | rfl | rfl | rfl | rfl | rfl | rfl
    · obtain rfl := Option.some.inj hi
      clear hi hlt
      intro a w1 hL hS hD
      have e0 : a.tmps.getD 0 undef = .pointer (some ⟨r, 0, none⟩) := (hS.slot 0 (by kernel_rfl)).trans s0
      refine step_yes rfl ?_
      exact ok_value Lat.refl (.pointer (some ⟨r, 0, none⟩)) (by simp [execOp, Act.eval, e0, go_sem]) rfl
    · obtain rfl := Option.some.inj hi
      clear hi hlt
      intro a w1 hL hS hD
      have d0 : a.tmps.getD 17 undef = .pointer (some ⟨r, 0, none⟩) := hD ⟨0, .data⟩ (by simp) rfl _ rfl
      refine step_yes rfl ?_
      exact ok_value Lat.refl (.pointer (some ⟨r, 0, none⟩)) (by simp [execOp, Act.eval, d0, go_sem]) rfl
    · obtain rfl := Option.some.inj hi
      clear hi hlt
      intro a w1 hL hS hD
      have d1 : a.tmps.getD 18 undef = .pointer (some ⟨r, 0, none⟩) := hD ⟨1, .data⟩ (by simp) rfl _ rfl
      refine step_yes rfl ?_
      exact ok_value Lat.refl (.pointer (some ⟨r, 0, none⟩)) (by simp [execOp, Act.eval, d1, go_sem]) rfl
    · obtain rfl := Option.some.inj hi
      clear hi hlt
      intro a w1 hL hS hD
      have d2 : a.tmps.getD 19 undef = .pointer (some ⟨r, 0, none⟩) := hD ⟨2, .data⟩ (by simp) rfl _ rfl
      refine step_yes rfl ?_
      exact ok_value Lat.refl (.slice (some ⟨q, 0, none⟩) n n) (by simp [execOp, Act.eval, d2, hc0 w1 hL, go_sem]) rfl
    · obtain rfl := Option.some.inj hi
      clear hi hlt
      intro a w1 hL hS hD
      have e1 : a.tmps.getD 1 undef = .int .i64 (i : Int) := (hS.slot 1 (by kernel_rfl)).trans s1
      refine step_yes rfl ?_
      exact ok_value Lat.refl (.int .i64 (i : Int)) (by simp [execOp, Act.eval, e1, go_sem]) rfl
    · obtain rfl := Option.some.inj hi
      clear hi hlt
      intro a w1 hL hS hD
      have e8 : a.tmps.getD 8 undef = .slice none 0 0 := (hS.slot 8 (by kernel_rfl)).trans s8
      refine step_yes rfl ?_
      exact ok_value Lat.refl (.slice none 0 0) (by simp [execOp, Act.eval, e8, go_sem]) rfl
    · obtain rfl := Option.some.inj hi
      clear hi hlt
      intro a w1 hL hS hD
      have e2 : a.tmps.getD 2 undef = .slice ad m c := (hS.slot 2 (by kernel_rfl)).trans s2
      refine step_yes rfl ?_
      exact ok_value Lat.refl (.slice ad m c) (by simp [execOp, Act.eval, e2, go_sem]) rfl
    · obtain rfl := Option.some.inj hi
      clear hi hlt
      intro a w1 hL hS hD
      have d5 : a.tmps.getD 22 undef = .slice none 0 0 := hD ⟨5, .data⟩ (by simp) rfl _ rfl
      have d6 : a.tmps.getD 23 undef = .slice ad m c := hD ⟨6, .data⟩ (by simp) rfl _ rfl
      refine step_yes rfl ?_
      obtain ⟨a', c', w', hr, h1, h2, h3, h4⟩ := run_apS w1 40 ad m c l (hsl w1 hL) hno hm
      unfold Oper.wp
      simp [execOp, resolve, invoke, builtin, Act.eval, d5, d6, hr, Result.andThen]
      exact ⟨_, rfl, h2, ⟨a', c', rfl, h1, h3, fun x hx => ⟨Nat.le_trans hL.size (h4 x hx).1, (h4 x hx).2⟩⟩⟩
    · obtain rfl := Option.some.inj hi
      clear hi hlt
      intro a w1 hL hS hD
      have d3 : a.tmps.getD 20 undef = .slice (some ⟨q, 0, none⟩) n n := hD ⟨3, .data⟩ (by simp) rfl _ rfl
      have d4 : a.tmps.getD 21 undef = .int .i64 (i : Int) := hD ⟨4, .data⟩ (by simp) rfl _ rfl
      refine step_yes rfl ?_
      exact ok_value Lat.refl (.pointer (some ⟨q, i * 3, none⟩)) (by simp [execOp, Act.eval, d3, d4, hi1, hi0, cof85, go_sem]) rfl
    · obtain rfl := Option.some.inj hi
      clear hi hlt
      intro a w1 hL hS hD
      have d8 : a.tmps.getD 25 undef = .pointer (some ⟨q, i * 3, none⟩) := hD ⟨8, .data⟩ (by simp) rfl _ rfl
      refine step_yes rfl ?_
      exact ok_value Lat.refl (.pointer (some ⟨q, i * 3 + 2, none⟩)) (by simp [execOp, Act.eval, d8, fof85, go_sem]) rfl

theorem bts_str (l : List Int) (h : Byte l) : bts (strOfNums l) = l := by
  unfold bts strOfNums
  simp only [List.map_map]
  apply List.ext_getElem?
  intro j
  rw [List.getElem?_map]
  cases e : l[j]? with
  | none => rfl
  | some x =>
    have := h x (List.mem_of_getElem? e)
    simp
    omega
theorem set_id {l : List Value} {i : Nat} {v : Value} (h : l[i]? = some v) : l.set i v = l := by
  apply List.ext_getElem?
  intro j
  rw [List.getElem?_set]
  have hl := (List.getElem?_eq_some_iff.1 h).1
  by_cases e : i = j
  · subst e; rw [if_pos rfl, if_pos hl, h]
  · rw [if_neg e]
theorem size_str (l : List Int) : (strOfNums l).size = l.length := by
  unfold strOfNums
  simp [ByteArray.size]
set_option maxHeartbeats 2000000 in
theorem putR (k : Int) (ad : Option Addr) (m c : Nat) (l : List Int) (r q n : Nat) (st : Sx) (B : Nat → Value) (w : World) (h : RP w r q n st B) (hs : Sl w ad m l) (hno : ad = none → m = 0 ∧ c = 0) (hm : m ≤ 9223372036854775807) :
    Calls Tryd.prog 38 #[.pointer (some ⟨r, 0, none⟩), .int .i64 k, .slice ad m c] w fun e w' => e = .returned (.int .i64 (putS st n k l).1) ∧ RPo w w' r q n st B (putS st n k l).2 := by
  have hn := h.n1
  have HR := hidden h
  have HIS := hidden (atS_isR k r q n st B w h)
  have HS := hidden hs
  have HN := hidden hno
  clear h hs hno
  unfold putS
  rcases atS_cases st n k with ⟨e1, e2⟩ | ⟨i, o, d, e1, rfl, hi, hst, e2⟩
  · rw [e1] at HIS ⊢
    clear e2
    go_enter Tryd.func38, Tryd.ntmps38
    go_wp2_with (refine HIS.out.mono ?_; clear HIS; rintro e w1 ⟨rfl, rfl⟩)
    go_ret
    exact ⟨rfl, HR.out.same⟩
  · rw [e1] at HIS ⊢
    clear e2
    simp only
    have hlen := HS.out.len
    by_cases hl : 128 < l.length
    · rw [if_pos hl]
      rw [hlen] at hl
      clear hst hlen
      go_enter Tryd.func38, Tryd.ntmps38
      go_wp2_with (refine HIS.out.mono ?_; clear HIS; rintro e w1 ⟨rfl, rfl⟩)
      go_ret
      exact ⟨rfl, HR.out.same⟩
    · rw [if_neg hl]
      rw [hlen] at hl
      obtain ⟨v2, k2⟩ := HR.out.k2' hi
      have HK2 := hidden k2
      have HST := hidden hst
      have HLN := hidden hlen
      have hmm : m ≤ 128 := by omega
      clear hst k2 hlen hl hm
      go_enter Tryd.func38, Tryd.ntmps38
      go_wp2_with (first
        | (refine HIS.out.mono ?_; clear HIS; rintro e w1 ⟨rfl, rfl⟩)
        | (refine putr_r7 r q n i m c ad l _ _ _ rfl rfl rfl rfl rfl (by omega) (by omega) (fun w2 h2 => (HR.out.later h2).c0) (fun w2 h2 => HS.out.later h2) HN.out (by omega) v2 (fun w2 h2 => by rw [← HK2.out]; exact h2.cell (p := ⟨q, i * 3 + 2, none⟩) HR.out.row.lt) (fun w2 h2 => (HR.out.row.later h2).frozen _) ?_; intro v17 v18 v19 v20 v21 v22 v23 v24 v25 v26 w2 a' c' h2 h3 h4 h5; have H2 := hidden (And.intro h2 (And.intro h3 (And.intro h4 h5))); clear h2 h3 h4 h5; simp only [Act.put, List.setIfInBounds_toArray, List.set_cons_succ, List.set_cons_zero]))
      go_ret
      refine ⟨rfl, ?_⟩
      obtain ⟨h2, h3, h4, h5⟩ := H2.out
      have R2 := HR.out.later h2
      have hk := Chg.set ⟨q, i * 3 + 2, none⟩ (.slice a' m c') w2
      have hsz := size_str l
      rw [HLN.out] at hsz
      have hrow : Blk (w2.setCell ⟨q, i * 3 + 2, none⟩ (.slice a' m c')) q 85 (rL n (upS st i (some (o, strOfNums l))) (upN B i (.slice a' m c'))) := by
        have e := rL_set n i st B (some (o, strOfNums l)) (.slice a' m c') (fun h => by cases h) hi
        have e0 : (rL n st B).set (i * 3) (.bool true) = rL n st B := set_id (by have := rL_at (r := 0) st B hi (by omega); rw [Nat.add_zero, rcV0, HST.out] at this; exact this)
        have e01 : (rL n st B).set (i * 3 + 1) (.string o) = rL n st B := set_id (by have := rL_at (r := 1) st B hi (by omega); rw [rcV1, HST.out] at this; exact this)
        rw [← e]
        simp only [Option.isSome_some, Option.map_some, Option.getD_some]
        rw [e0, e01]
        exact R2.row.set _ _
      refine ⟨_, R2.put (some (o, strOfNums l)) (.slice a' m c') hi hk hrow (fun o' d' e => ?_), (Chg.of_below (F := fun i => i = q) h2).trans hk (fun _ _ e => e), ?_⟩
      · injection e with e
        injection e with e e'
        subst e'
        rw [bts_str l HS.out.byte, hsz]
        refine ⟨a', c', rfl, hk.sl h3 (fun x hx h0 e => ((h5 x hx).2.ne R2.row.tg (by decide)) e), h4, fun x hx h0 => (h5 x hx).2.chg hk (fun e => ((h5 x hx).2.ne R2.row.tg (by decide)) e)⟩
      · refine rg_put (fun o' d' ad' c9 e1 e2 e3 => ?_)
        simp only [Value.slice.injEq] at e2
        exact (h5 ad' e2.1).1

end Go.Proofs.YtjlpkgepiajapaaDoor

/-
  Rows that came out: read, written, grown. Nothing of the program.
-/
namespace Go.Proofs.YtjlpkgepiajapaaDoor
open Go.RowKit
set_option linter.unusedVariables false
set_option linter.unusedSimpArgs false

section
variable {w w' : World} {t : TypeId} {v : Value} {xs : List Value}
theorem Rw.slice (h : Rw w t v xs) : ∃ ad c, v = .slice ad xs.length c ∧ (xs.length ≠ 0 → ∃ g, ad = some ⟨g, 0, none⟩) := by
  rcases h with ⟨rfl, rfl⟩ | ⟨g, cap, cur, mk, rfl, _⟩
  · exact ⟨none, 0, rfl, fun h => absurd rfl h⟩
  · exact ⟨_, cap, rfl, fun _ => ⟨g, rfl⟩⟩
theorem Rw.cell {g L c : Nat} (h : Rw w t (.slice (some ⟨g, 0, none⟩) L c) xs) {j : Nat} {u : Value} (hj : xs[j]? = some u) : w.cell? ⟨g, j, none⟩ = some u := by
  rcases h with ⟨h0, _⟩ | ⟨g', cap, cur, mk, hv, hh, hm, hs, hl, hc, ht⟩
  · cases h0
  · simp only [Value.slice.injEq, Option.some.injEq, Addr.mk.injEq] at hv
    obtain ⟨⟨rfl, _⟩, _, rfl⟩ := hv
    have hlt : j < xs.length := (List.getElem?_eq_some_iff.1 hj).1
    have h2 : (cur.toList.take xs.length)[j]? = some u := by rw [ht]; exact hj
    rw [List.getElem?_take_of_lt hlt, Array.getElem?_toList] at h2
    simp only [World.cell?, hh]
    simpa using h2
theorem Rw.frozen {g L c : Nat} (h : Rw w t (.slice (some ⟨g, 0, none⟩) L c) xs) {j : Nat} (hj : j < c) : w.frozen? ⟨g, j, none⟩ = false := by
  rcases h with ⟨h0, _⟩ | ⟨g', cap, cur, mk, hv, hh, hm, hs, hl, hc, ht⟩
  · cases h0
  · simp only [Value.slice.injEq, Option.some.injEq, Addr.mk.injEq] at hv
    obtain ⟨⟨rfl, _⟩, _, rfl⟩ := hv
    simp only [World.frozen?, hh]
    rcases hm with rfl | rfl <;> simp <;> omega
theorem Rw.lens {g L c : Nat} (h : Rw w t (.slice (some ⟨g, 0, none⟩) L c) xs) : L = xs.length ∧ xs.length ≤ c := by
  rcases h with ⟨h0, _⟩ | ⟨g', cap, cur, mk, hv, hh, hm, hs, hl, hc, ht⟩
  · cases h0
  · simp only [Value.slice.injEq, Option.some.injEq, Addr.mk.injEq] at hv
    obtain ⟨⟨rfl, _⟩, rfl, rfl⟩ := hv
    exact ⟨rfl, hl⟩
theorem Rw.tg (h : Rw w t v xs) {g : Nat} (hg : v.ownBlock = some g) : Tg w g t := by
  rcases h with ⟨rfl, _⟩ | ⟨g', cap, cur, mk, rfl, hh, _⟩
  · cases hg
  · have : some g' = some g := hg
    injection this with this
    subst this
    exact ⟨cur, mk, hh⟩
theorem Rw.chg {F : Nat → Prop} (h : Rw w t v xs) (k : Chg F w w') (hF : ∀ g, v.ownBlock = some g → ¬ F g) : Rw w' t v xs := by
  rcases h with ⟨h0, h1⟩ | ⟨g', cap, cur, mk, hv, hh, hr⟩
  · exact .inl ⟨h0, h1⟩
  · refine .inr ⟨g', cap, cur, mk, hv, ?_, hr⟩
    rw [k.block g' ((Array.getElem?_eq_some_iff.1 hh).1) (hF g' (by rw [hv]; rfl))]
    exact hh
theorem Rw.later (h : Rw w t v xs) (k : Below w.heap.size w w') : Rw w' t v xs := h.chg (F := fun _ => False) (Chg.of_below k) (fun _ _ h => h)
theorem Rw.set {g L c : Nat} (h : Rw w t (.slice (some ⟨g, 0, none⟩) L c) xs) (j : Nat) (u : Value) : Rw (w.setCell ⟨g, j, none⟩ u) t (.slice (some ⟨g, 0, none⟩) L c) (xs.set j u) := by
  rcases h with ⟨h0, _⟩ | ⟨g', cap, cur, mk, hv, hh, hm, hs, hl, hc, ht⟩
  · cases h0
  · simp only [Value.slice.injEq, Option.some.injEq, Addr.mk.injEq] at hv
    obtain ⟨⟨rfl, _⟩, rfl, rfl⟩ := hv
    refine .inr ⟨g, c, cur.setIfInBounds j u, mk, by rw [List.length_set], ?_, hm, by simpa using hs, by rw [List.length_set]; exact hl, hc, ?_⟩
    · simp [World.setCell, Array.getElem?_modify, hh]
    · rw [List.length_set, Array.toList_setIfInBounds, List.take_set, ht]
theorem Rw.of_owns {base : Nat} (h : w.ownsRow base t 1 v xs.length xs) : Rw w t v xs := by
  rcases h.2 with ⟨h0, h1⟩ | ⟨g, cap, cur, hv, hb, hh, hn, hc, hs, ht⟩
  · exact .inl ⟨h0, List.eq_nil_of_length_eq_zero h1⟩
  · exact .inr ⟨g, cap, cur, (0, 0), hv, hh, .inl rfl, by simpa using hs, hn, hc, by simpa using ht⟩
/-- One element behind a row: in its place, or in a new row. -/
theorem Rw.push {P : Program} (h : Rw w t v xs) (T ty : TypeId) (i : TypeInfo) (z : Value) (bytes : Nat) (ht : P.underlying T = some (.slice t)) (hi : P.info? t = some i) (hz : i.zero = some z)
    (hsize : i.size = 1) (hby : i.bytes = bytes) (hzs : z.cells.size = 1) (ad : Addr) (u : Value) (hc : w.cell? ad = some u) (h1 : u.oneCell' = true) (h63 : xs.length + 1 ≤ maxLen) (hbytes : (xs.length + 1) * bytes ≤ 140737488355328) :
    ∃ g' c' w', (Builtin.append_ #[T, T] ty #[v, .slice (some ad) 1 1]).run P w = .ok (.slice (some ⟨g', 0, none⟩) (xs.length + 1) c') w' ∧ Rw w' t (.slice (some ⟨g', 0, none⟩) (xs.length + 1) c') (xs ++ [u]) ∧
      ((v.ownBlock = some g' ∧ ∃ cap, w' = w.setCell ⟨g', xs.length, none⟩ u ∧ v = .slice (some ⟨g', 0, none⟩) xs.length cap) ∨ (w.heap.size ≤ g' ∧ Below w.heap.size w w')) := by
  have hspot := World.cell?_spot hc
  have hnews : ∀ j x, [u][j]? = some x → w.cell? (ad.add j) = some x := by
    intro j x hj
    match j, hj with
    | 0, hj =>
      simp at hj
      subst hj
      obtain ⟨b, o, s⟩ := ad
      simp only at hspot
      subst hspot
      rw [Addr.add_lit]
      exact hc
  have hone : ∀ x ∈ [u], x.oneCell' = true := by intro x hx; simp at hx; subst hx; exact h1
  have h' := h
  rcases h with ⟨rfl, rfl⟩ | ⟨g, cap, cur, mk, rfl, hh, hm, hs, hl, hcm, htk⟩
  · obtain ⟨v', w', hr, ho, hgr, hiff⟩ := run_append_own (P := P) w w.heap.size T ty t i z 1 bytes ht hi hz hsize hby hzs (by omega) (.slice none 0 0) 0 [] (World.ownsRow_nil _ _ _ _) ad 1 1 [u] rfl hnews hone h63 hbytes (Nat.le_refl _)
    have ho' : w'.ownsRow w.heap.size t 1 v' [u].length [u] := by simpa using ho
    have hR := Rw.of_owns ho'
    rcases ho.2 with ⟨_, h0⟩ | ⟨g', c', cur', rfl, hb', hh', hrest⟩
    · omega
    · exact ⟨g', c', w', by simpa using hr, hR, .inr ⟨hb', grown_below (e := t) (size := 1) hgr (World.ownsRow_nil _ _ _ _) (Nat.le_refl _)⟩⟩
  · by_cases hroom : xs.length + 1 ≤ cap
    · have hcell : (w.cell? ⟨g, xs.length, none⟩).isSome = true := by
        simp only [World.cell?, hh]
        have : xs.length < cur.size := by omega
        simp [this]
      have hr := run_append_room_cells (P := P) (w := w) T ty t i ht hi g 0 xs.length cap ad 1 1 [u] (by simp [hsize]) hnews hone hroom (fun j hj => by
          have : j = 0 := by simpa using hj
          subst this
          simpa [hsize] using hcell) (fun j hj => by
          have : j = 0 := by simpa using hj
          subst this
          simpa [hsize] using h'.frozen (show xs.length < cap by omega))
      have hw : w.setCells g (0 + xs.length * i.size) [u] = w.setCell ⟨g, xs.length, none⟩ u := by
        simp [hsize, World.setCells]
      rw [hw] at hr
      refine ⟨g, cap, _, hr, ?_, .inl ⟨rfl, cap, rfl, rfl⟩⟩
      refine .inr ⟨g, cap, cur.setIfInBounds xs.length u, mk, by simp, ?_, hm, by simpa using hs, by simpa using hroom, hcm, ?_⟩
      · simp [World.setCell, Array.getElem?_modify, hh]
      · rw [List.length_append, Array.toList_setIfInBounds]
        have hlen : xs.length < cur.toList.length := by simp; omega
        rw [List.length_singleton, List.take_add_one, List.getElem?_set_self hlen, List.take_set_of_le (Nat.le_refl _), htk]
        rfl
    · obtain ⟨v', w', hr, ho, hgr⟩ := run_append_arg_grows (P := P) w T ty t i z 1 bytes ht hi hz hsize hby hzs (by omega) ⟨g, 0, none⟩ xs.length cap xs (by omega) (fun j x hx => by rw [Addr.add_lit, Nat.zero_add]; exact h'.cell hx) ad 1 1 [u] rfl hnews (by omega) h63 hbytes
      have ho' : w'.ownsRow w.heap.size t 1 v' (xs ++ [u]).length (xs ++ [u]) := by simpa using ho
      have hR := Rw.of_owns ho'
      rcases ho.2 with ⟨_, h0⟩ | ⟨g', c', cur', rfl, hb', hh', hrest⟩
      · omega
      · exact ⟨g', c', w', hr, hR, .inr ⟨hb', (Below.refl _ _).grown hgr (Nat.le_refl _) (fun k hk => by cases hk)⟩⟩
end

end Go.Proofs.YtjlpkgepiajapaaDoor
