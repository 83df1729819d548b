import Derived.Test.YtanlgplgplncdaaGreatDoorMtI
/-
  What is found: add.
-/
namespace Go.Proofs.YtanlgplgplncdaaGreatDoor.L
open Go.RowKit
set_option linter.unusedVariables false
set_option linter.unusedSimpArgs false

/-- Matchers, as their cells. -/
def cM (l : List Mt) : List Value := l.flatMap mC
theorem cM_cons (x : Mt) (l : List Mt) : cM (x :: l) = mC x ++ cM l := by simp [cM]
theorem cM_length : ∀ l : List Mt, (cM l).length = l.length * 3
  | [] => rfl
  | p :: t => by rw [cM_cons, List.length_append, cM_length t]; simp [mC]; omega
theorem cM_append (l m : List Mt) : cM (l ++ m) = cM l ++ cM m := by simp [cM]
theorem cM_get : ∀ (L : List Mt) (i : Nat) (p : Mt), L[i]? = some p → (cM L)[i * 3]? = some (.string p.n) ∧ (cM L)[i * 3 + 1]? = some (.int .i64 p.op) ∧ (cM L)[i * 3 + 2]? = some (.string p.t)
  | [], i, p, h => by simp at h
  | q :: t, 0, p, h => by simp at h; subst h; rw [cM_cons]; exact ⟨rfl, rfl, rfl⟩
  | q :: t, i + 1, p, h => by
    have := cM_get t i p (by simpa using h)
    rw [cM_cons]
    have e : ∀ k, (mC q ++ cM t)[(i + 1) * 3 + k]? = (cM t)[i * 3 + k]? := fun k => by
      rw [List.getElem?_append_right (by simp [mC]; omega)]
      congr 1
      simp [mC]
      omega
    exact ⟨by rw [← this.1]; exact e 0, by rw [← this.2.1]; exact e 1, by rw [← this.2.2]; exact e 2⟩
theorem ms_of_owns {w : World} {base : Nat} {ad : Option Addr} {n m c : Nat} {l : List Mt} (h : w.ownsRow base 58 3 (.slice ad n c) m (cM l)) (hz : ∀ x ∈ l, OkM x) : Ms w ad l := by
  refine ⟨hz, fun h0 => ?_⟩
  have hl : l.length = m := by have := h.1; rw [cM_length] at this; omega
  rcases h.2 with ⟨_, h1⟩ | ⟨g, cap, cur, e, _, hg, _⟩
  · rw [h1] at hl; exact absurd (List.eq_nil_of_length_eq_zero hl) h0
  · injection e with e1 e2 e3
    subst e1
    refine ⟨g, 0, rfl, (Array.getElem?_eq_some_iff.1 hg).1, fun i x hx => ?_⟩
    have hc := cM_get l i x hx
    have k0 := h.cells (g := g) rfl _ _ hc.1
    have k1 := h.cells (g := g) rfl _ _ hc.2.1
    have k2 := h.cells (g := g) rfl _ _ hc.2.2
    rw [Addr.add_lit] at k0 k1 k2
    simp only [Nat.zero_add] at k0 k1 k2 ⊢
    exact ⟨k0, k1, k2⟩
theorem info31 : (Tryz.prog.info? 58).map (fun i => (i.zero, i.size, i.bytes)) = some (some (.agg #[.string ⟨#[]⟩, .int .i64 0, .string ⟨#[]⟩]), 3, 40) := by kernel_rfl
/-- A matcher behind a row of matchers. -/
theorem step_pushT (w : World) {ops : Array Oper} {o : Oper} {a : Act} {K : Act → World → Prop} {Q : Exit → Act → World → Prop} {E : Prop} (hgd : o.guard = none) (s x : Operand)
    (ho : o.op = .call { callee := .builtin .append, args := #[s, x], argTypes := #[22, 22] }) (base : Nat) (v : Value) (n : Nat) (xs : List Value) (hs : a.eval s = v) (w0 : World) (hown : w0.ownsRow base 58 3 v n xs) (y : Mt)
    (hw : w = w0.alloc (.cells #[.string y.n, .int .i64 y.op, .string y.t] 58)) (hx : a.eval x = .slice (some ⟨w0.heap.size, 0, none⟩) 1 1) (hn : n ≤ 1000000000) (hbase : base ≤ w0.heap.size)
    (h : ∀ g' c' w', w'.ownsRow base 58 3 (.slice (some ⟨g', 0, none⟩) (n + 1) c') (n + 1) (xs ++ mC y) → Chg (fun i => v.ownBlock = some i) w0 w' → Moved w0 v.ownBlock (some g') → K (a.put o.dst (.slice (some ⟨g', 0, none⟩) (n + 1) c')) w') :
    if Region.wanted o (yielded ops a.tmps) = true then Oper.wp Tryz.prog o a w K Q else E := by
  subst hw
  obtain ⟨i0, hi0, hz0, hz1, hz2⟩ := info_parts info31
  refine step_pushN _ hgd s x 22 ho 58 i0 (.agg #[.string ⟨#[]⟩, .int .i64 0, .string ⟨#[]⟩]) 3 40 Tryz.underlying22 hi0 hz0 hz1 hz2 rfl (by omega) base v n xs hs (hown.alloc _) ⟨w0.heap.size, 0, none⟩ (mC y) hx rfl (fun j u hu => by
    have := (Blk.new w0 58 (mC y)).cell (0 + j)
    rw [Addr.add_lit]
    refine this.trans ?_
    rw [Nat.zero_add]
    exact hu) (one_mC y) (by unfold maxLen; omega) (by omega) (by simp; omega) ?_
  intro g' c' w' ho' hp'
  exact h g' c' w' ho' hp'.chg2.1 hp'.chg2.2

/-- What is found, in memory. -/
structure FS (base : Nat) (wx : World) (f : Nat) (J : Jm) (v : Value) : Prop where
  blk : Blk wx f 84 [v, .bool J.bad.isSome, .int .i64 ((J.bad.getD 0 : Nat) : Int)]
  own : wx.ownsRow base 58 3 v J.ls.length (cM J.ls)
  ne : ¬ v.ownBlock = some f
  ok : ∀ x ∈ J.ls, OkM x
  l8 : J.ls.length ≤ 8
theorem FS.later {base : Nat} {wx wy : World} {f : Nat} {J : Jm} {v : Value} (h : FS base wx f J v) (hb : Below wx.heap.size wx wy) : FS base wy f J v := ⟨h.blk.later hb, owl h.own hb, h.ne, h.ok, h.l8⟩
theorem FS.chg {base : Nat} {wx wy : World} {f : Nat} {J : Jm} {v : Value} {F : Nat → Prop} (h : FS base wx f J v) (hc : Chg F wx wy) (h1 : ¬ F f) (h2 : ∀ i, v.ownBlock = some i → ¬ F i) : FS base wy f J v := ⟨hc.blk h.blk h1, hc.owns h.own h2, h.ne, h.ok, h.l8⟩

set_option maxRecDepth 100000 in
set_option maxHeartbeats 4000000 in
theorem addP (B base f : Nat) (J : Jm) (v : Value) (m : Mt) (p : Nat) (w : World) (h : FS base w f J v) (hm : OkM m) (hp : p ≤ 140737488355328) (hb : base ≤ w.heap.size) (hT : Tb B w) :
    Calls Tryz.prog 53 #[.pointer (some ⟨f, 0, none⟩), .agg (mC m).toArray, .int .i64 (p : Int)] w fun e w' => ∃ v', e = .returned (.tuple #[]) ∧ FS base w' f (J.add m p) v' ∧ Chg (fun i => i = f ∨ v.ownBlock = some i) w w' ∧ Moved w v.ownBlock v'.ownBlock := by
  have HFS := hidden h
  have HM := hidden hm
  have HT := hidden hT
  obtain ⟨l, bad⟩ := J
  clear h hm hT
  have hal : Below w.heap.size w (w.alloc (.cells (mC m).toArray 58)) := (Below.refl _ _).alloc (Nat.le_refl _) _
  have HAL := hidden hal
  have hbk := (HFS.out.later hal).blk
  have c1 : (w.alloc (.cells (mC m).toArray 58)).cell? ⟨f, 1, none⟩ = some (.bool bad.isSome) := hbk.cell 1
  have HBM : Hid (Blk (w.alloc (.cells (mC m).toArray 58)) w.heap.size 58 (mC m)) := hidden (Blk.new w 58 _)
  have HFA := hidden (HFS.out.later hal)
  clear hal hbk
  cases bad with
  | some q =>
    have HJ : Hid (Jm.add ⟨l, some q⟩ m p = ⟨l, some q⟩) := hidden rfl
    have c1' : (w.alloc (.cells (mC m).toArray 58)).cell? ⟨f, 1, none⟩ = some (.bool true) := c1
    clear c1
    go_enter Tryz.func53, Tryz.ntmps53
    go_wp2_with (refine wpList_box_blk rfl 58 (.tmp 1) rfl (mC m) rfl ?_; intro w1 B1 bl1 hz1; have HB1 := hidden B1; have BL1 := hidden bl1; clear B1 bl1 hz1; have d1 : w1.cell? ⟨f, 1, none⟩ = some (.bool true) := (HFS.out.later BL1.out).blk.cell 1)
    refine bodyPost_ret (results_none rfl _ _ _) rfl ?_
    exact ⟨v, by first | rfl | simp, by rw [HJ.out]; exact HFS.out.later BL1.out, Chg.of_below BL1.out, .inl rfl⟩
  | none =>
    clear c1 HFA HBM HAL
    go_enter Tryz.func53, Tryz.ntmps53
    go_wp2_with (refine wpList_box_blk rfl 58 (.tmp 1) rfl (mC m) rfl ?_; intro w1 B1 bl1 hz1; have HB1 := hidden B1; have BL1 := hidden bl1; clear B1 bl1 hz1; have d1 : w1.cell? ⟨f, 1, none⟩ = some (.bool false) := (HFS.out.later BL1.out).blk.cell 1; have m0 : w1.cell? ⟨w.heap.size, 0, none⟩ = some (.string m.n) := HB1.out.cell 0; have m1 : w1.cell? ⟨w.heap.size, 1, none⟩ = some (.int .i64 m.op) := HB1.out.cell 1; have m2 : w1.cell? ⟨w.heap.size, 2, none⟩ = some (.string m.t) := HB1.out.cell 2)
    refine (ruleOfL B m w1 HM.out (HT.out.later BL1.out)).mono ?_
    rintro e w2 ⟨b2, y, fv, rfl, hone, -⟩
    have B2 : Hid (Below w.heap.size w w2) := hidden (BL1.out.trans (b2.mono BL1.out.size))
    have HB2 := hidden (HB1.out.later b2)
    have HONE := hidden hone
    clear b2 hone d1 m0 m1 m2 HB1
    obtain ⟨ad, c, rfl, hno, hoff, hnc, hcm⟩ := owns_formS HFS.out.own
    have HFN : Hid (FS base w f ⟨l, none⟩ (.slice ad l.length c)) := HFS
    cases hmay : m.may with
    | false =>
      have HJ : Hid (Jm.add ⟨l, none⟩ m p = ⟨l, some p⟩) := hidden (by unfold Jm.add wrongM; rw [hmay]; rfl)
      clear hmay
      go_upto_region 3 with (refine wpList_new_var rfl rfl 67 6 (.tmp 15) rfl rfl rfl rfl 4 info56n (ruC y fv) rfl (one_ruC HONE.out) (by simp) rfl ?_; intro w3 Bq blq hzq; have B3 : Hid (Below w.heap.size w w3) := hidden (B2.out.trans (blq.mono B2.out.size)); clear Bq blq hzq)
      have F3 : Hid (FS base w3 f ⟨l, none⟩ (.slice ad l.length c)) := hidden (HFN.out.later B3.out)
      have c1 : w3.cell? ⟨f, 1, none⟩ = some (.bool false) := F3.out.blk.cell 1
      have c2 : w3.cell? ⟨f, 2, none⟩ = some (.int .i64 0) := F3.out.blk.cell 2
      have f1 : w3.frozen? ⟨f, 1, none⟩ = false := F3.out.blk.frozen 1
      have f2 : w3.frozen? ⟨f, 2, none⟩ = false := F3.out.blk.frozen 2
      have g2 : (w3.setCell ⟨f, 1, none⟩ (.bool true)).cell? ⟨f, 2, none⟩ = some (.int .i64 0) := (Blk.set F3.out.blk 1 (.bool true)).cell 2
      have g3 : (w3.setCell ⟨f, 1, none⟩ (.bool true)).frozen? ⟨f, 2, none⟩ = false := (Blk.set F3.out.blk 1 (.bool true)).frozen 2
      go_wp2_with fail
      refine bodyPost_ret (results_none rfl _ _ _) rfl ?_
      have hcs : Chg (fun i => i = f) w3 ((w3.setCell ⟨f, 1, none⟩ (.bool true)).setCell ⟨f, 2, none⟩ (.int .i64 (p : Int))) := (Chg.set ⟨f, 1, none⟩ _ w3).trans (Chg.set ⟨f, 2, none⟩ _ _) (fun _ _ e => e)
      rw [HJ.out]
      exact ⟨by first | rfl | trivial, .slice ad l.length c, ⟨Blk.set (Blk.set F3.out.blk 1 _) 2 _, hcs.owns F3.out.own (fun g hg e => F3.out.ne (by rw [hg, e])), F3.out.ne, F3.out.ok, F3.out.l8⟩, (Chg.of_below (F := fun i => i = f ∨ (Value.slice ad l.length c).ownBlock = some i) B3.out).trans hcs (fun i _ e => .inl e), .inl rfl⟩
    | true =>
      by_cases h8 : l.length = 8
      · have HJ : Hid (Jm.add ⟨l, none⟩ m p = ⟨l, some p⟩) := hidden (by unfold Jm.add wrongM; simp [hmay, h8])
        have h8z : ((l.length : Int) == 8) = true := by rw [h8]; rfl
        generalize hn : l.length = n at *
        clear hmay h8
        go_upto_region 3 with (refine wpList_new_var rfl rfl 67 6 (.tmp 15) rfl rfl rfl rfl 4 info56n (ruC y fv) rfl (one_ruC HONE.out) (by simp) rfl ?_; intro w3 Bq blq hzq; have B3 : Hid (Below w.heap.size w w3) := hidden (B2.out.trans (blq.mono B2.out.size)); clear Bq blq hzq)
        have F3 : Hid (FS base w3 f ⟨l, none⟩ (.slice ad n c)) := hidden (HFN.out.later B3.out)
        have c0 : w3.cell? ⟨f, 0, none⟩ = some (.slice ad n c) := F3.out.blk.cell 0
        have HNN := hidden hn
        clear hn
        go_upto_if 26 with fail
        clear c0
        have c1 : w3.cell? ⟨f, 1, none⟩ = some (.bool false) := F3.out.blk.cell 1
        have c2 : w3.cell? ⟨f, 2, none⟩ = some (.int .i64 0) := F3.out.blk.cell 2
        have f1 : w3.frozen? ⟨f, 1, none⟩ = false := F3.out.blk.frozen 1
        have f2 : w3.frozen? ⟨f, 2, none⟩ = false := F3.out.blk.frozen 2
        have g2 : (w3.setCell ⟨f, 1, none⟩ (.bool true)).cell? ⟨f, 2, none⟩ = some (.int .i64 0) := (Blk.set F3.out.blk 1 (.bool true)).cell 2
        have g3 : (w3.setCell ⟨f, 1, none⟩ (.bool true)).frozen? ⟨f, 2, none⟩ = false := (Blk.set F3.out.blk 1 (.bool true)).frozen 2
        go_wp2_with fail
        refine bodyPost_ret (results_none rfl _ _ _) rfl ?_
        have hcs : Chg (fun i => i = f) w3 ((w3.setCell ⟨f, 1, none⟩ (.bool true)).setCell ⟨f, 2, none⟩ (.int .i64 (p : Int))) := (Chg.set ⟨f, 1, none⟩ _ w3).trans (Chg.set ⟨f, 2, none⟩ _ _) (fun _ _ e => e)
        rw [HJ.out, HNN.out]
        exact ⟨by first | rfl | trivial, .slice ad n c, ⟨Blk.set (Blk.set F3.out.blk 1 _) 2 _, hcs.owns F3.out.own (fun g hg e => F3.out.ne (by rw [hg, e])), F3.out.ne, F3.out.ok, F3.out.l8⟩, (Chg.of_below (F := fun i => i = f ∨ (Value.slice ad n c).ownBlock = some i) B3.out).trans hcs (fun i _ e => .inl e), .inl rfl⟩
      · have HJ : Hid (Jm.add ⟨l, none⟩ m p = ⟨l ++ [m], none⟩) := hidden (by unfold Jm.add wrongM; simp [hmay, h8])
        have h8z : ((l.length : Int) == 8) = false := by simp; omega
        have hn8 := HFN.out.l8
        have hn8' : l.length ≤ 8 := hn8
        have HOW : Hid (w.ownsRow base 58 3 (.slice ad l.length c) l.length (cM l)) := hidden HFN.out.own
        have HNE : Hid (¬ (Value.slice ad l.length c).ownBlock = some f) := hidden HFN.out.ne
        have HOKL : Hid (∀ x ∈ l, OkM x) := hidden HFN.out.ok
        have HB0 : Hid (Blk w f 84 [.slice ad l.length c, .bool false, .int .i64 0]) := hidden HFN.out.blk
        clear hmay HFN HFS hn8
        generalize hn : l.length = n at *
        have HNN := hidden hn
        clear hn
        go_upto_region 5 with (refine wpList_new_var rfl rfl 67 6 (.tmp 15) rfl rfl rfl rfl 4 info56n (ruC y fv) rfl (one_ruC HONE.out) (by simp) rfl ?_; intro w3 Bq blq hzq; have B3 : Hid (Below w.heap.size w w3) := hidden (B2.out.trans (blq.mono B2.out.size)); have B23 := hidden blq; clear Bq blq hzq; have c0 : w3.cell? ⟨f, 0, none⟩ = some (.slice ad n c) := (HB0.out.later B3.out).cell 0)
        have fs : w3.frozen? ⟨f, 0, none⟩ = false := (HB0.out.later B3.out).frozen 0
        have hfl : f < w3.heap.size := (HB0.out.later B3.out).lt
        have HBM := hidden (HB2.out.later B23.out)
        have m0 : w3.cell? ⟨w.heap.size, 0, none⟩ = some (.string m.n) := HBM.out.cell 0
        have m1 : w3.cell? ⟨w.heap.size, 1, none⟩ = some (.int .i64 m.op) := HBM.out.cell 1
        have m2 : w3.cell? ⟨w.heap.size, 2, none⟩ = some (.string m.t) := HBM.out.cell 2
        have hwl : w.heap.size < w3.heap.size := HBM.out.lt
        have OW3 : Hid (w3.ownsRow base 58 3 (.slice ad n c) n (cM l)) := hidden (owl HOW.out B3.out)
        have hb3 : base ≤ w3.heap.size := by omega
        have HBK := hidden (HB0.out.later B3.out)
        go_region_law (refine step_pushT _ (by rfl) (.tmp 38) (.tmp 40) (by rfl) base (.slice ad n c) n (cM l) (by rfl) w3.drew OW3.out m (by rfl) (by rfl) (by omega) hb3 ?_
                       intro g9 c9 w9 o9 ch9 mv9
                       have bk9 : Blk w9 f 84 [.slice ad n c, .bool false, .int .i64 0] := ch9.blk HBK.out HNE.out
                       have cs9 : w9.cell? ⟨f, 0, none⟩ = some (.slice ad n c) := bk9.cell 0
                       have fs9 : w9.frozen? ⟨f, 0, none⟩ = false := bk9.frozen 0
                       have O9 := hidden o9
                       have HBK9 := hidden bk9
                       have CH9 : Hid (Chg (fun i => (Value.slice ad n c).ownBlock = some i) w3 w9) := hidden ((Chg.drew _ w3).trans ch9 (fun _ _ e => e))
                       have MV9 : Hid (Moved w3 (Value.slice ad n c).ownBlock (some g9)) := hidden mv9
                       clear o9 ch9 mv9 bk9)
        all_goals
          go_wp2_with fail
          go_end0
          have hgf : ¬ g9 = f := by
            rintro rfl
            rcases MV9.out with e2 | ⟨q, e2, hq⟩
            · exact HNE.out e2.symm
            · injection e2 with e2; omega
          have hcs := Chg.set ⟨f, 0, none⟩ (.slice (some ⟨g9, 0, none⟩) (n + 1) c9) w9
          rw [HJ.out, HNN.out]
          refine ⟨by first | rfl | trivial, .slice (some ⟨g9, 0, none⟩) (n + 1) c9, ⟨Blk.set HBK9.out 0 _, ?_, ?_, ?_, ?_⟩, ?_, ?_⟩
          · have h1 := hcs.owns O9.out (fun g hg e => by simp [Value.ownBlock] at hg; simp only at e; omega)
            show World.ownsRow _ base 58 3 _ (l ++ [m]).length (cM (l ++ [m]))
            rw [List.length_append, HNN.out, cM_append]
            simpa [cM] using h1
          · simp [Value.ownBlock]; exact hgf
          · intro x hx
            rcases List.mem_append.1 hx with hx | hx
            · exact HOKL.out x hx
            · rw [List.mem_singleton.1 hx]; exact HM.out
          · show (l ++ [m]).length ≤ 8
            rw [List.length_append, HNN.out]
            simp
            omega
          · exact ((Chg.of_below (F := fun i => i = f ∨ (Value.slice ad n c).ownBlock = some i) B3.out).trans CH9.out (fun i _ e => .inr e)).trans hcs (fun i _ e => .inl e)
          · rcases MV9.out with e2 | ⟨q, e2, hq⟩
            · exact .inl e2
            · exact .inr ⟨q, e2, by omega⟩

end Go.Proofs.YtanlgplgplncdaaGreatDoor.L

/-
  The program's reader: a set of matchers.
-/
namespace Go.Proofs.YtanlgplgplncdaaGreatDoor.L
open Go.RowKit
set_option linter.unusedVariables false
set_option linter.unusedSimpArgs false

def zF : List Value := [.slice none 0 0, .bool false, .int .i64 0]
theorem info73z : (Tryz.prog.info? 84).map (fun i => i.zero.map (·.cells)) = some (some zF.toArray) := by kernel_rfl
theorem size73 : (Tryz.prog.info? 84).map (·.size) = some 3 := by kernel_rfl
theorem res_set (tmps : Array Value) (w : World) (g : Nat) (x y z : Value) (c : Value) (hp : tmps.getD 2 undef = .pointer (some ⟨g, 0, none⟩)) (h : Blk w g 84 [x, y, z]) (h3 : tmps.getD 3 undef = c) :
    (results Tryz.f31 tmps).run Tryz.prog w = .ok (.tuple #[.agg #[x, y, z], c]) w := by
  have hr : Tryz.f31.results = #[.cell 2 84, .tmp 3] := by kernel_rfl
  have hp' : tmps[2]?.getD undef = .pointer (some ⟨g, 0, none⟩) := by simpa using hp
  have h3' : tmps[3]?.getD undef = c := by simpa using h3
  have c0 := h.cell 0
  have c1 := h.cell 1
  have c2 := h.cell 2
  simp at c0 c1 c2
  simp [results, hr, hp', h3', asAddr, loadVar, c0, c1, c2, go_sem]

theorem bl0 : Bl .s0 := fun i => by simp [stepM]
theorem bl1 : Bl .s1 := fun i => by simp [stepM]
theorem bl2 (J : Jm) : Bl (.s2 J) := fun i => by simp [stepM]
theorem bl5 (J : Jm) : Bl (.s5 J) := fun i => by simp [stepM]
theorem bl6 (J : Jm) : Bl (.s6 J) := fun i => by simp [stepM]
theorem s1_s2 {S : List UInt8} {a : Nat} (h : hr S a 125 = false) (h32 : S[a]? ≠ some 32) : runM (S.drop a) a .s1 = runM (S.drop a) a (.s2 ⟨[], none⟩) := by
  cases hx : S[a]? with
  | none => rw [List.drop_of_length_le (List.getElem?_eq_none_iff.1 hx), runM_nil, runM_nil]; rfl
  | some x =>
    have hne := hr_no h hx
    rw [drop_at hx]
    have h1 : x ≠ 32 := fun e => h32 (by rw [hx, e])
    · by_cases h2 : lett x = true
      · rw [runM_some (st' := .wd ⟨[], none⟩ a [x]) (by simp [stepM, h1, hne, h2]), runM_some (st' := .wd ⟨[], none⟩ a [x]) (by simp [stepM, h1, h2])]
      · rw [runM_none (by simp [stepM, h1, hne, h2]), runM_none (by simp [stepM, h1, h2])]
/-- What is left of a text behind its '}'. -/
theorem run_s6 (S : List UInt8) (a : Nat) (ha : a ≤ S.length) (J : Jm) : runM (S.drop a) a (.s6 J) = if sk S a = S.length then .done J else .fault (sk S a) := by
  rw [run_sk (bl6 J)]
  split
  · rename_i h
    rw [h, List.drop_length, runM_nil]
    rfl
  · rename_i h
    cases hx : S[sk S a]? with
    | none =>
      have := List.getElem?_eq_none_iff.1 hx
      have := sk_le (S := S) ha
      omega
    | some x =>
      rw [drop_at hx, runM_none]
      have n32 : x ≠ 32 := fun e => sk_next S a (by rw [hx, e])
      simp [stepM, n32]

/-- What set answers. -/
def SeR (w : World) (r : Nat) (s : ByteArray) (e : Ending) (w' : World) : Prop :=
  ∃ (J : Jm) (v : Value) (ok : Bool) (a' : Nat), e = .returned (.tuple #[.agg #[v, .bool J.bad.isSome, .int .i64 ((J.bad.getD 0 : Nat) : Int)], .bool ok]) ∧ Rd w' r s a' ∧ w'.ownsRow w.heap.size 58 3 v J.ls.length (cM J.ls) ∧ (∀ x ∈ J.ls, OkM x) ∧ J.ls.length ≤ 8 ∧ Chg (fun i => i = r) w w' ∧ a' ≤ s.size ∧
    (ok = true → runM (bts s) 0 .s0 = .done J) ∧ (ok = false → runM (bts s) 0 .s0 = .fault a')
theorem FS.zero {w : World} {f base : Nat} (h : Blk w f 84 zF) : FS base w f ⟨[], none⟩ (.slice none 0 0) := ⟨h, World.ownsRow_nil _ _ _ _, by simp [Value.ownBlock], by simp, by simp⟩

/-- The end of set: what is found is handed on. -/
theorem se_ret {w wx : World} {r g f : Nat} {s : ByteArray} {J : Jm} {v : Value} {a' : Nat} {ok : Bool} {base : Nat} (hb : base = w.heap.size) (hg : Blk wx g 84 zF) (hF : FS base wx f J v) (hR : Rd wx r s a') (hc : Chg (fun i => i = r) w wx) (hgw : w.heap.size ≤ g) (hgr : g ≠ r) (hgf : g ≠ f) (hgv : ¬ v.ownBlock = some g) (ha : a' ≤ s.size)
    (h1 : ok = true → runM (bts s) 0 .s0 = .done J) (h2 : ok = false → runM (bts s) 0 .s0 = .fault a') :
    SeR w r s (.returned (.tuple #[.agg #[v, .bool J.bad.isSome, .int .i64 ((J.bad.getD 0 : Nat) : Int)], .bool ok])) (wx.setCells g 0 [v, .bool J.bad.isSome, .int .i64 ((J.bad.getD 0 : Nat) : Int)]) := by
  subst hb
  have hcs := Chg.sets g [v, .bool J.bad.isSome, .int .i64 ((J.bad.getD 0 : Nat) : Int)] 0 wx
  exact ⟨J, v, ok, a', rfl, hR.chg hcs (fun e => hgr e.symm), hcs.owns hF.own (fun i hi e => hgv (by rw [hi, e])), hF.ok, hF.l8, hc.trans hcs (fun i hi e => by have e' : i = g := e; omega), ha, h1, h2⟩

end Go.Proofs.YtanlgplgplncdaaGreatDoor.L
