import Derived.Test.YtanlgplgplncdaaDoorMtA
import Derived.Test.YtanlgplgplncdaaDoorPtF
/-
  ruleOf.
-/
namespace Go.Proofs.YtanlgplgplncdaaDoor
open Go.RowKit
set_option linter.unusedVariables false
set_option linter.unusedSimpArgs false

def OkM (x : Mt) : Prop := x.n.size ≤ 9223372036854775807 ∧ x.t.size ≤ 9223372036854775807 ∧ -9223372036854775808 ≤ x.op ∧ x.op ≤ 9223372036854775807
/-- A matcher's cells, and its rule's. -/
def mC (x : Mt) : List Value := [.string x.n, .int .i64 x.op, .string x.t]
def ruC (x : Mt) (fv : Value) : List Value := [.string x.n, .int .i64 x.op, .string x.t, fv]
def zM : Mt := ⟨⟨#[]⟩, 0, ⟨#[]⟩⟩
theorem info56z : (Tryd.prog.info? 56).map (fun i => i.zero.map (·.cells)) = some (some (ruC zM .nilFunc).toArray) := by kernel_rfl
theorem size31 : (Tryd.prog.info? 31).map (·.size) = some 3 := by kernel_rfl
theorem size56 : (Tryd.prog.info? 56).map (·.size) = some 4 := by kernel_rfl
theorem built56 (x : Mt) (fv : Value) (h : fv.oneCell' = true) : Tryd.prog.built 56 [(0, .agg (mC x).toArray), (1, fv)] = some (ruC x fv).toArray := by
  cases fv <;> first | (cases h; done) | kernel_rfl
theorem built56z : Tryd.prog.built 56 [] = some (ruC zM .nilFunc).toArray := by kernel_rfl
theorem res_rule (tmps : Array Value) (w : World) (g : Nat) (x : Mt) (fv c : Value) (hp : tmps.getD 2 undef = .pointer (some ⟨g, 0, none⟩)) (h : Blk w g 56 (ruC x fv)) (h3 : tmps.getD 3 undef = c) :
    (results Tryd.f14 tmps).run Tryd.prog w = .ok (.tuple #[.agg (ruC x fv).toArray, c]) w := by
  have hr : Tryd.f14.results = #[.cell 2 56, .tmp 3] := by kernel_rfl
  have hp' : tmps[2]?.getD undef = .pointer (some ⟨g, 0, none⟩) := by simpa using hp
  have h3' : tmps[3]?.getD undef = c := by simpa using h3
  have c0 := h.cell 0
  have c1 := h.cell 1
  have c2 := h.cell 2
  have c3 := h.cell 3
  simp [ruC] at c0 c1 c2 c3
  simp [results, hr, hp', h3', asAddr, loadVar, c0, c1, c2, c3, ruC, go_sem]

theorem Fv.one {F : Nat → Prop} {w : World} {op : Int} {t : ByteArray} {fv : Value} (h : Fv F w op t fv) : fv.oneCell' = true := by
  rcases h with ⟨_, b, rfl, _⟩ | ⟨_, b, f, rfl, _⟩ | ⟨_, p, l, k, rfl, _⟩ | ⟨_, b, f, rfl, _⟩ <;> rfl

theorem Fv.func {F : Nat → Prop} {w : World} {op : Int} {t : ByteArray} {fv : Value} (h : Fv F w op t fv) : ∃ fn x y, fv = .func fn x y := by
  rcases h with ⟨_, b, rfl, _⟩ | ⟨_, b, f, rfl, _⟩ | ⟨_, p, l, k, rfl, _⟩ | ⟨_, b, f, rfl, _⟩ <;> exact ⟨_, _, _, rfl⟩
theorem x_val : L.isVal (bts ⟨#[120]⟩) = true := by kernel_rfl
theorem one_ruC {x : Mt} {fv : Value} (h : fv.oneCell' = true) : ∀ v ∈ ruC x fv, v.oneCell' = true := by
  intro v hv
  simp [ruC] at hv
  rcases hv with rfl | rfl | rfl | rfl
  · rfl
  · rfl
  · rfl
  · exact h
/-- What ruleOf leaves. -/
def RuP (w : World) (x : Mt) (e : Ending) (w' : World) : Prop :=
  Below w.heap.size w w' ∧ ∃ y fv, e = .returned (.tuple #[.agg (ruC y fv).toArray, .bool x.may]) ∧ fv.oneCell' = true ∧ (x.may = true → y = x ∧ ∃ F, Fv F w' x.op x.t fv ∧ ∀ b, F b → w.heap.size ≤ b ∧ b < w'.heap.size)

set_option maxRecDepth 100000 in
set_option maxHeartbeats 4000000 in
theorem ruleOfP (B : Nat) (x : Mt) (w : World) (hx : OkM x) (hT : L.Tb B w) : Calls Tryd.prog 14 #[.agg (mC x).toArray] w (RuP w x) := by
  obtain ⟨n, op, t⟩ := x
  obtain ⟨h1, h2, h3, h4⟩ := hx
  simp only at h1 h2 h3 h4
  have HT := hidden hT
  clear hT
  unfold RuP
  go_enter Tryd.func14, Tryd.ntmps14
  go_wp2_with (first
    | (refine wpList_box_blk rfl 31 (.tmp 0) rfl (mC ⟨n, op, t⟩) rfl ?_; intro w1 B1 bl1 hz1; have HB1 := hidden B1; have BL1 := hidden bl1; have HZ1 := hidden hz1; clear bl1 hz1; have c0 := B1.cell 0; have c1 := B1.cell 1; have c2 := B1.cell 2; simp [mC] at c0 c1 c2; clear B1)
    | (refine wpList_alloc_blk rfl 56 rfl 2 rfl (ruC zM .nilFunc) info56z ?_; intro w2 B2 bl2 hz2; have HB2 := hidden B2; have BL2 := hidden bl2; clear B2 bl2 hz2; have d0 : w2.cell? ⟨w.heap.size, 0, none⟩ = some (.string n) := (HB1.out.later BL2.out).cell 0; have d1 : w2.cell? ⟨w.heap.size, 1, none⟩ = some (.int .i64 op) := (HB1.out.later BL2.out).cell 1; have d2 : w2.cell? ⟨w.heap.size, 2, none⟩ = some (.string t) := (HB1.out.later BL2.out).cell 2; clear c0 c1 c2))
  have hs1 := BL1.out.size
  have hs2 := BL2.out.size
  have BW2 : Hid (Below w.heap.size w w2) := hidden (BL1.out.trans (BL2.out.mono hs1))
  refine (testOfP B op t w2 ⟨h3, h4⟩ h2 (HT.out.later BW2.out)).mono ?_
  rintro e w3 ⟨b3, fv, rfl, hfv⟩
  have B3 := hidden b3
  have BW3 : Hid (Below w.heap.size w w3) := hidden (BW2.out.trans (b3.mono BW2.out.size))
  have HB13 := hidden ((HB1.out.later BL2.out).later b3)
  have HB23 := hidden (HB2.out.later b3)
  have e0 : w3.cell? ⟨w.heap.size, 0, none⟩ = some (.string n) := HB13.out.cell 0
  have hs3 := b3.size
  have hlt2 := HB2.out.lt
  have HFV := hidden hfv
  clear b3 d0 d1 d2 hfv
  have HM : Hid (Mt.may ⟨n, op, t⟩ = (txtOk op (bts t) && L.isName (bts n))) := hidden rfl
  cases hk : txtOk op (bts t) with
  | false =>
    rw [hk] at HM HFV
    rw [Bool.false_and] at HM
    go_wp2_with (first
      | (refine wpList_build_to rfl 56 #[] rfl [] (ruC zM .nilFunc).toArray rfl built56z ?_)
      | (refine wpList_store_blk rfl 56 (.tmp 2) (.tmp 22) rfl rfl w1.heap.size (l := ruC zM .nilFunc) HB23.out rfl rfl rfl size56 (one_ruC rfl) ?_))
    have hN := blk_stored (l := ruC zM .nilFunc) HB23.out rfl
    have hcs := Chg.sets w1.heap.size (ruC zM .nilFunc) 0 w3
    refine bodyPost_ret (res_rule _ _ w1.heap.size _ _ _ rfl hN rfl) rfl ?_
    exact ⟨BW3.out.trans (hcs.below BW3.out.size (fun i hi => by omega)), zM, .nilFunc, by rw [HM.out]; rfl, rfl, fun h => by rw [HM.out] at h; cases h⟩
  | true =>
    rw [hk] at HM HFV
    rw [Bool.true_and] at HM
    obtain ⟨F, hF, hFb⟩ := HFV.out rfl
    obtain ⟨fn, xa, ya, rfl⟩ := hF.func
    have HF := hidden hF
    have HFb := hidden hFb
    have HONE := hidden hF.one
    have K := isLabelP B n ⟨#[120]⟩ w3 h1 (by show 1 ≤ _; omega) (HT.out.later BW3.out)
    rw [x_val, Bool.and_true] at K
    obtain ⟨R, hR⟩ : ∃ R, L.isName (bts n) = R := ⟨_, rfl⟩
    rw [hR] at K HM
    clear hF hFb HFV hR
    go_wp2_with fail
    refine K.mono ?_
    rintro e w4 ⟨rfl, b4⟩
    have B4 := hidden b4
    have BW4 : Hid (Below w.heap.size w w4) := hidden (BW3.out.trans (b4.mono BW3.out.size))
    have HB14 := hidden (HB13.out.later b4)
    have HB24 := hidden (HB23.out.later b4)
    have hs4 := b4.size
    clear b4 e0 K
    cases R with
    | false =>
      go_wp2_with (first
        | (refine wpList_build_to rfl 56 #[] rfl [] (ruC zM .nilFunc).toArray rfl built56z ?_)
        | (refine wpList_store_blk rfl 56 (.tmp 2) (.tmp 22) rfl rfl w1.heap.size (l := ruC zM .nilFunc) HB24.out rfl rfl rfl size56 (one_ruC rfl) ?_))
      have hN := blk_stored (l := ruC zM .nilFunc) HB24.out rfl
      have hcs := Chg.sets w1.heap.size (ruC zM .nilFunc) 0 w4
      refine bodyPost_ret (res_rule _ _ w1.heap.size _ _ _ rfl hN rfl) rfl ?_
      exact ⟨BW4.out.trans (hcs.below BW4.out.size (fun i hi => by omega)), zM, .nilFunc, by rw [HM.out]; rfl, rfl, fun h => by rw [HM.out] at h; cases h⟩
    | true =>
      have g0 : w4.cell? ⟨w.heap.size, 0, none⟩ = some (.string n) := HB14.out.cell 0
      have g1 : w4.cell? ⟨w.heap.size, 1, none⟩ = some (.int .i64 op) := HB14.out.cell 1
      have g2 : w4.cell? ⟨w.heap.size, 2, none⟩ = some (.string t) := HB14.out.cell 2
      go_wp2_with (refine wpList_store_blk rfl 56 (.tmp 2) (.tmp 25) rfl rfl w1.heap.size (l := ruC ⟨n, op, t⟩ (.func fn xa ya)) HB24.out rfl rfl rfl size56 (one_ruC HONE.out) ?_)
      have hN := blk_stored (l := ruC ⟨n, op, t⟩ (.func fn xa ya)) HB24.out rfl
      have hcs := Chg.sets w1.heap.size (ruC ⟨n, op, t⟩ (.func fn xa ya)) 0 w4
      refine bodyPost_ret (res_rule _ _ w1.heap.size _ _ _ rfl hN rfl) rfl ?_
      refine ⟨BW4.out.trans (hcs.below BW4.out.size (fun i hi => by omega)), ⟨n, op, t⟩, .func fn xa ya, by rw [HM.out]; rfl, HONE.out, fun _ => ⟨rfl, F, ?_, fun b hb => ?_⟩⟩
      · refine (HF.out.keep (Chg.of_below (F := fun _ => False) B4.out) (fun _ _ h => h)).keep hcs (fun b hb e => ?_)
        have := (HFb.out b hb).1
        omega
      · have h5 := HFb.out b hb
        have h6 := hcs.size
        omega

end Go.Proofs.YtanlgplgplncdaaDoor

/-
  One element of so many cells behind a row that is owned. Nothing of the program.
-/
namespace Go.Proofs.YtanlgplgplncdaaDoor
open Go.RowKit
set_option linter.unusedVariables false

theorem run_pushN {P : Program} (w : World) (t ty e : TypeId) (i : TypeInfo) (z : Value) (sz bytes : Nat) (ht : P.underlying t = some (.slice e)) (hi : P.info? e = some i) (hz : i.zero = some z)
    (hsize : i.size = sz) (hby : i.bytes = bytes) (hzs : z.cells.size = sz) (hp : 0 < sz) (base : Nat) (v : Value) (n : Nat) (xs : List Value) (hown : w.ownsRow base e sz v n xs)
    (ad : Addr) (news : List Value) (hl : news.length = sz) (hnews : ∀ j u, news[j]? = some u → w.cell? (ad.add j) = some u) (hone : ∀ x ∈ news, x.oneCell' = true) (h63 : n + 1 ≤ maxLen) (hbytes : (n + 1) * bytes ≤ 140737488355328) (hbase : base ≤ w.heap.size) :
    ∃ g' c' w', (Builtin.append_ #[t, t] ty #[v, .slice (some ad) 1 1]).run P w = .ok (.slice (some ⟨g', 0, none⟩) (n + 1) c') w' ∧
      w'.ownsRow base e sz (.slice (some ⟨g', 0, none⟩) (n + 1) c') (n + 1) (xs ++ news) ∧ Pushed w w' v g' := by
  have hl1 : news.length = 1 * sz := by omega
  rcases hown.2 with ⟨rfl, rfl⟩ | ⟨g, cap, cur, rfl, hbg, hg, hnc, hcm, hcs, htake⟩
  · have hxs : xs = [] := List.eq_nil_of_length_eq_zero (by simpa using hown.1)
    subst hxs
    obtain ⟨v', w', hr, ho, hgr, hiff⟩ := run_append_own (P := P) w w.heap.size t ty e i z sz bytes ht hi hz hsize hby hzs hp (.slice none 0 0) 0 [] (World.ownsRow_nil _ _ _ _) ad 1 1 news hl1 hnews hone h63 hbytes (Nat.le_refl _)
    rcases ho.2 with ⟨_, h0⟩ | ⟨g', c', cur', rfl, hb', hh, hrest⟩
    · omega
    · exact ⟨g', c', w', by simpa using hr, ⟨by simp [hl], .inr ⟨g', c', cur', rfl, by omega, hh, by simpa using hrest⟩⟩, .inr ⟨hb', by simpa [Value.ownBlock] using hgr⟩⟩
  · by_cases hroom : n + 1 ≤ cap
    · obtain ⟨w', hr, ho, hgr⟩ := run_append_fits (P := P) w base t ty e i sz ht hi hsize g n cap xs hown ad 1 1 news hl1 hnews hone hroom
      exact ⟨g, cap, w', hr, ho, .inl ⟨rfl, hgr⟩⟩
    · obtain ⟨v', w', hr, ho, hgr⟩ := run_append_arg_grows (P := P) w t ty e i z sz bytes ht hi hz hsize hby hzs hp ⟨g, 0, none⟩ n cap xs hown.1 (hown.cells rfl) ad 1 1 news hl1 hnews (by omega) h63 hbytes
      rcases ho.2 with ⟨_, h0⟩ | ⟨g', c', cur', rfl, hb', hh, hrest⟩
      · omega
      · exact ⟨g', c', w', hr, ⟨by rw [List.length_append, hown.1, hl, Nat.add_mul, Nat.one_mul], .inr ⟨g', c', cur', rfl, by omega, hh, hrest⟩⟩, .inr ⟨hb', hgr⟩⟩
theorem wp_pushN {P : Program} (w : World) {o : Oper} {a : Act} {K : Act → World → Prop} {Q : Exit → Act → World → Prop} (s x : Operand) (t : TypeId)
    (ho : o.op = .call { callee := .builtin .append, args := #[s, x], argTypes := #[t, t] }) (e : TypeId) (i : TypeInfo) (z : Value) (sz bytes : Nat) (ht : P.underlying t = some (.slice e)) (hi : P.info? e = some i) (hz : i.zero = some z)
    (hsize : i.size = sz) (hby : i.bytes = bytes) (hzs : z.cells.size = sz) (hp : 0 < sz) (base : Nat) (v : Value) (n : Nat) (xs : List Value) (hs : a.eval s = v) (hown : w.ownsRow base e sz v n xs)
    (ad : Addr) (news : List Value) (hx : a.eval x = .slice (some ad) 1 1) (hl : news.length = sz) (hnews : ∀ j u, news[j]? = some u → w.cell? (ad.add j) = some u) (hone : ∀ x ∈ news, x.oneCell' = true) (h63 : n + 1 ≤ maxLen) (hbytes : (n + 1) * bytes ≤ 140737488355328) (hbase : base ≤ w.heap.size)
    (h : ∀ g' c' w', w'.ownsRow base e sz (.slice (some ⟨g', 0, none⟩) (n + 1) c') (n + 1) (xs ++ news) → Pushed w w' v g' → K (a.put o.dst (.slice (some ⟨g', 0, none⟩) (n + 1) c')) w') : o.wp P a w K Q := by
  obtain ⟨g', c', w', hr, h2, h3⟩ := run_pushN (P := P) w t o.type e i z sz bytes ht hi hz hsize hby hzs hp base v n xs hown ad news hl hnews hone h63 hbytes hbase
  unfold Oper.wp
  simp [execOp, ho, resolve, invoke, builtin, hs, hx, hr, Result.andThen]
  exact h g' c' w' h2 h3
theorem wpList_pushN {P : Program} (w : World) {ops : Array Oper} {rest : List Oper} {o : Oper} {a : Act} {Q : Exit → Act → World → Prop} (hgd : o.guard = none) (s x : Operand) (t : TypeId)
    (ho : o.op = .call { callee := .builtin .append, args := #[s, x], argTypes := #[t, t] }) (e : TypeId) (i : TypeInfo) (z : Value) (sz bytes : Nat) (ht : P.underlying t = some (.slice e)) (hi : P.info? e = some i) (hz : i.zero = some z)
    (hsize : i.size = sz) (hby : i.bytes = bytes) (hzs : z.cells.size = sz) (hp : 0 < sz) (base : Nat) (v : Value) (n : Nat) (xs : List Value) (hs : a.eval s = v) (hown : w.ownsRow base e sz v n xs)
    (ad : Addr) (news : List Value) (hx : a.eval x = .slice (some ad) 1 1) (hl : news.length = sz) (hnews : ∀ j u, news[j]? = some u → w.cell? (ad.add j) = some u) (hone : ∀ x ∈ news, x.oneCell' = true) (h63 : n + 1 ≤ maxLen) (hbytes : (n + 1) * bytes ≤ 140737488355328) (hbase : base ≤ w.heap.size)
    (h : ∀ g' c' w', w'.ownsRow base e sz (.slice (some ⟨g', 0, none⟩) (n + 1) c') (n + 1) (xs ++ news) → Pushed w w' v g' → wpList P ops Q rest (a.put o.dst (.slice (some ⟨g', 0, none⟩) (n + 1) c')) w') : wpList P ops Q (o :: rest) a w :=
  wpList_plain hgd fun _ hK => wp_pushN w s x t ho e i z sz bytes ht hi hz hsize hby hzs hp base v n xs hs hown ad news hx hl hnews hone h63 hbytes hbase fun g' c' w' h2 h3 => hK _ _ (h g' c' w' h2 h3)
theorem step_pushN {P : Program} (w : World) {ops : Array Oper} {o : Oper} {a : Act} {K : Act → World → Prop} {Q : Exit → Act → World → Prop} {E : Prop} (hgd : o.guard = none) (s x : Operand) (t : TypeId)
    (ho : o.op = .call { callee := .builtin .append, args := #[s, x], argTypes := #[t, t] }) (e : TypeId) (i : TypeInfo) (z : Value) (sz bytes : Nat) (ht : P.underlying t = some (.slice e)) (hi : P.info? e = some i) (hz : i.zero = some z)
    (hsize : i.size = sz) (hby : i.bytes = bytes) (hzs : z.cells.size = sz) (hp : 0 < sz) (base : Nat) (v : Value) (n : Nat) (xs : List Value) (hs : a.eval s = v) (hown : w.ownsRow base e sz v n xs)
    (ad : Addr) (news : List Value) (hx : a.eval x = .slice (some ad) 1 1) (hl : news.length = sz) (hnews : ∀ j u, news[j]? = some u → w.cell? (ad.add j) = some u) (hone : ∀ x ∈ news, x.oneCell' = true) (h63 : n + 1 ≤ maxLen) (hbytes : (n + 1) * bytes ≤ 140737488355328) (hbase : base ≤ w.heap.size)
    (h : ∀ g' c' w', w'.ownsRow base e sz (.slice (some ⟨g', 0, none⟩) (n + 1) c') (n + 1) (xs ++ news) → Pushed w w' v g' → K (a.put o.dst (.slice (some ⟨g', 0, none⟩) (n + 1) c')) w') :
    if Region.wanted o (yielded ops a.tmps) = true then Oper.wp P o a w K Q else E := by
  have hw : Region.wanted o (yielded ops a.tmps) = true := by simp [Region.wanted, hgd]
  rw [if_pos hw]
  exact wp_pushN w s x t ho e i z sz bytes ht hi hz hsize hby hzs hp base v n xs hs hown ad news hx hl hnews hone h63 hbytes hbase h

end Go.Proofs.YtanlgplgplncdaaDoor
