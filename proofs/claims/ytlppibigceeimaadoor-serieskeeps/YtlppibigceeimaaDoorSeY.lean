import Derived.Test.YtlppibigceeimaaDoorMlR
/-
  Package series: Last; the statement's sample.
-/
namespace Go.Proofs.YtlppibigceeimaaDoor
open Go.RowKit
set_option linter.unusedVariables false
set_option linter.unusedSimpArgs false

theorem res_last (tmps : Array Value) (w : World) (g : Nat) (a b c : Value) (hp : tmps.getD 6 undef = .pointer (some ⟨g, 0, none⟩)) (hc : tmps.getD 7 undef = c) (h0 : w.cell? ⟨g, 0, none⟩ = some a) (h1 : w.cell? ⟨g, 1, none⟩ = some b) (ha : a.oneCell' = true) (hb : b.oneCell' = true) :
    (results Tryd.f18 tmps).run Tryd.prog w = .ok (.tuple #[.agg #[a, b], c]) w := by
  have h : Tryd.f18.results = #[.cell 6 35, .tmp 7] := by kernel_rfl
  have hp' : tmps[6]?.getD undef = .pointer (some ⟨g, 0, none⟩) := by simpa using hp
  have hc' : tmps[7]?.getD undef = c := by simpa using hc
  simp [results, h, hp', hc', asAddr, loadVar, h0, h1, go_sem]
theorem info35 : (Tryd.prog.info? 35).map (fun i => i.zero.map (·.cells)) = some (some [Value.int .i64 0, .int .u64 0].toArray) := by kernel_rfl
set_option maxRecDepth 100000 in
set_option maxHeartbeats 4000000 in
theorem lastP (o : ByteArray) (k : Int) (F : Nat → Prop) (S p n : Nat) (st : K.Sx) (Z : ByteArray → List En) (w : World) (h : SQ F w S p n st Z) (hG : Gv w) (hlo : 2 ≤ w.heap.size) :
    Calls Tryd.prog 18 #[.pointer (some ⟨S, 0, none⟩), .string o, .int .i64 k] w fun e w' => e = .returned (.tuple #[.agg #[.int .i64 ((enL (Z o) k).2.getLast?.getD z0).t, .int .u64 (((enL (Z o) k).2.getLast?.getD z0).v : Int)], .bool (!(enL (Z o) k).2.isEmpty)]) ∧ Below w.heap.size w w' := by
  have hz := h.sz
  have hen := hz.en o k
  have HO := hidden (fun (wx : World) (hb : Below w.heap.size w wx) => openP o k F S p n st Z wx (h.later hb) (hG.later hb) (Nat.le_trans hlo hb.size))
  generalize enL (Z o) k = q9 at *
  obtain ⟨sl, A⟩ := q9
  simp only at *
  have hokg := okG hen.2.2.1
  have hris := (ris_open (l := []) hen.2.2.1 hen.2.1).1
  have hnil := gF_nil hen.2.2.1
  have hfl : (gF A).1.flatten ++ (gF A).2 = A := by rw [← gO_flat]; exact gF_flat A
  have hla : A.getLast?.getD z0 = (gF A).2.getLast?.getD z0 ∧ (!A.isEmpty) = (!(gF A).2.isEmpty) := by
    by_cases h0 : (gF A).2 = []
    · have : A = [] := hnil.1 h0
      rw [h0, this]
      exact ⟨rfl, rfl⟩
    · have hA : A ≠ [] := fun e => h0 (hnil.2 e)
      refine ⟨?_, by cases hq1 : A with | nil => exact absurd hq1 hA | cons a b => (cases hq2 : (gF (a :: b)).2 with | nil => (rw [hq1] at h0; exact absurd hq2 h0) | cons c d => rfl)⟩
      have e1 : A.getLast? = (gF A).2.getLast? := by
        rw [← hfl, List.getLast?_append]
        cases e : (gF A).2.getLast? with
        | none => exact absurd (List.getLast?_eq_none_iff.1 e) h0
        | some x => rw [hfl, e]; rfl
      rw [e1]
  rw [hla.1, hla.2]
  obtain ⟨op, hop⟩ : ∃ op, (gF A).2 = op := ⟨_, rfl⟩
  have hok2 : ∀ x ∈ op, OkS x := by rw [← hop]; exact hokg.ok2
  have hfew : op.length ≤ 1000 := by rw [← hop]; exact encC_few hokg.fit2
  rw [hop] at HO hris ⊢
  have HR := hidden hris
  have HK := hidden hok2
  clear h hz hen hG hlo hokg hris hnil hfl hla hop hok2
  go_enter Tryd.func18, Tryd.ntmps18
  go_wp2_with (first
    | (refine wpList_alloc_blk rfl 35 rfl 6 rfl [.int .i64 0, .int .u64 0] info35 ?_; intro w1 B1 bl1 hz1; have HB1 := hidden B1; have BL1 := hidden bl1; clear B1 bl1)
    | (refine wpList_alloc_blk rfl 75 rfl 8 rfl (riC z0 false) info75 ?_; intro w2 B2 bl2 hz2; have HB2 := hidden B2; have BL2 := hidden bl2; clear B2 bl2))
  have B02 : Hid (Below w.heap.size w w2) := hidden (BL1.out.trans (BL2.out.mono BL1.out.size))
  refine (HO.out w2 B02.out).mono ?_
  rintro e w3 ⟨ad1, c1, rfl, o1, k1, b1⟩
  have S1 := hidden (ss_of_owns o1 HK.out)
  have B3 := hidden b1
  have hadl : ∀ x, ad1 = some x → w2.heap.size ≤ x.block := by
    intro x hx
    rcases o1.2 with ⟨e0, _⟩ | ⟨g9, cap, cur, e0, hg9, _⟩
    · simp only [Value.slice.injEq] at e0
      rw [e0.1] at hx; cases hx
    · simp only [Value.slice.injEq] at e0
      rw [e0.1] at hx
      cases hx
      exact hg9
  have HAD := hidden hadl
  clear o1 k1 b1 hadl
  obtain ⟨M, hM⟩ : ∃ M, op.length = M := ⟨_, rfl⟩
  have HM := hidden hM
  rw [hM] at hfew ⊢
  clear hM
  go_wp2_with fail
  have HB3 : Hid (Blk w3 (w.heap.size + 1) 75 (riC z0 false)) := hidden (by have q := HB2.out; rw [hz1] at q; exact q.later B3.out)
  refine (eachRise w3 (w.heap.size + 1) (z0, false) ad1 M c1 op HB3.out S1.out HM.out (by omega) (fun x hx h0 e => by
    have := HAD.out x hx
    omega)).mono ?_
  rintro e w4 ⟨rfl, t4, g4⟩
  have hrf := ri_false op
  rw [decide_eq_true HR.out] at hrf
  rw [hrf.2 hrf.1] at t4
  have c0 : w4.cell? ⟨w.heap.size + 1, 0, none⟩ = some (.int .i64 (op.getLast?.getD z0).t) := t4.cell 0
  have c2 : w4.cell? ⟨w.heap.size + 1, 1, none⟩ = some (.int .u64 ((op.getLast?.getD z0).v : Int)) := t4.cell 1
  have c3 : w4.cell? ⟨w.heap.size + 1, 2, none⟩ = some (.bool (!op.isEmpty)) := t4.cell 2
  have hB4 : Blk w4 w.heap.size 35 [.int .i64 0, .int .u64 0] := g4.blk ((HB1.out.later BL2.out).later B3.out) (by omega)
  have HB4 := hidden hB4
  have d0 : w4.cell? ⟨w.heap.size, 0, none⟩ = some (.int .i64 0) := hB4.cell 0
  have d1 : w4.cell? ⟨w.heap.size, 1, none⟩ = some (.int .u64 0) := hB4.cell 1
  have f0 := hB4.frozen 0
  have f1 := hB4.frozen 1
  have hlt1 := hB4.lt
  have hlt2 := t4.lt
  have B4 : Hid (Below w.heap.size w w4) := hidden ((B02.out.trans (B3.out.mono B02.out.size)).trans (g4.below (Nat.le_trans B02.out.size B3.out.size) (fun i hi => by rw [hi]; omega)))
  clear t4 g4 hB4 hrf
  generalize (foldE riS op (z0, false)).1 = rr
  obtain ⟨lt, hlt⟩ : ∃ lt, (op.getLast?.getD z0).t = lt := ⟨_, rfl⟩
  obtain ⟨lv, hlv⟩ : ∃ lv, (op.getLast?.getD z0).v = lv := ⟨_, rfl⟩
  obtain ⟨lb, hlb⟩ : ∃ lb, (!op.isEmpty) = lb := ⟨_, rfl⟩
  rw [hlt] at c0
  rw [hlv] at c2
  rw [hlb] at c3
  have HV := hidden (And.intro hlt (And.intro hlv hlb))
  clear hlt hlv hlb
  go_wp2_with fail
  go_region
  have hN := ((HB4.out.set 0 (.int .i64 lt)).set 1 (.int .u64 (lv : Int))).drew
  obtain ⟨w9, hw9⟩ : ∃ w9, ((w4.setCell ⟨w.heap.size, 0, none⟩ (.int .i64 lt)).setCell ⟨w.heap.size, 1, none⟩ (.int .u64 (lv : Int))).drew = w9 := ⟨_, rfl⟩
  rw [hw9] at hN ⊢
  have HN := hidden hN
  have B9 : Hid (Below w.heap.size w w9) := hidden (by
    rw [← hw9]
    exact B4.out.trans ((((Chg.set ⟨w.heap.size, 0, none⟩ (.int .i64 lt) w4).below B4.out.size (fun i hi => by rw [hi]; exact Nat.le_refl _)).trans ((Chg.set ⟨w.heap.size, 1, none⟩ (.int .u64 (lv : Int)) _).below (by simp [World.setCell]; omega) (fun i hi => by rw [hi]; exact Nat.le_refl _))).drew))
  clear hN hw9
  go_wp2_with fail
  refine bodyPost_ret (res_last _ _ w.heap.size (.int .i64 lt) (.int .u64 (lv : Int)) (.bool lb) rfl rfl (HN.out.cell 0) (HN.out.cell 1) rfl rfl) rfl ?_
  exact ⟨by rw [HV.out.1, HV.out.2.1, HV.out.2.2], B9.out⟩

theorem res_sam (tmps : Array Value) (w : World) (g : Nat) (a b : Value) (hp : tmps.getD 4 undef = .pointer (some ⟨g, 0, none⟩)) (h0 : w.cell? ⟨g, 0, none⟩ = some a) (h1 : w.cell? ⟨g, 1, none⟩ = some b) (ha : a.oneCell' = true) (hb : b.oneCell' = true) :
    (results Tryd.f9 tmps).run Tryd.prog w = .ok (.agg #[a, b]) w := by
  have h : Tryd.f9.results = #[.cell 4 35] := by kernel_rfl
  have hp' : tmps[4]?.getD undef = .pointer (some ⟨g, 0, none⟩) := by simpa using hp
  simp [results, h, hp', asAddr, loadVar, h0, h1, go_sem]
set_option maxRecDepth 100000 in
theorem sampleP (t v : Int) (w : World) : Calls Tryd.prog 9 #[.int .i64 t, .int .u64 v] w fun e w' => e = .returned (.agg #[.int .i64 t, .int .u64 v]) ∧ Below w.heap.size w w' := by
  go_enter Tryd.func9, Tryd.ntmps9
  go_wp2_with fail
  have hN := Blk.new w 35 [.int .i64 t, .int .u64 v]
  refine bodyPost_ret (res_sam _ _ w.heap.size (.int .i64 t) (.int .u64 v) rfl (hN.cell 0) (hN.cell 1) rfl rfl) rfl ?_
  exact ⟨rfl, (Below.refl _ _).alloc (Nat.le_refl _) _⟩

end Go.Proofs.YtlppibigceeimaaDoor

/-
  Package series: Drop, purely and in memory.
-/
namespace Go.Proofs.YtlppibigceeimaaDoor
open Go.RowKit
set_option linter.unusedVariables false
set_option linter.unusedSimpArgs false

/-- Slots that were given back. -/
def relN (st : K.Sx) (gv : List Nat) : K.Sx := fun j => if j ∈ gv then none else st j
theorem relN_nil (st : K.Sx) : relN st [] = st := by funext j; simp [relN]
theorem relN_cons (st : K.Sx) (gv : List Nat) (i : Nat) : K.upS (relN st gv) i none = relN st (gv ++ [i]) := by
  funext j
  unfold K.upS relN
  by_cases h : j = i
  · simp [h]
  · simp [h]
def rmZ (Z : ByteArray → List En) (o : ByteArray) : ByteArray → List En := fun o' => if o' = o then [] else Z o'
theorem SZ.drop {n : Nat} {st : K.Sx} {Z : ByteArray → List En} (h : SZ n st Z) (o : ByteArray) {gv : List Nat} (hg : ∀ i, i ∈ gv ↔ i ∈ (Z o).flatMap slF) : SZ n (relN st gv) (rmZ Z o) := by
  have hin : ∀ i, i ∈ gv ↔ i < n ∧ ∃ d, st i = some (o, d) := fun i => (hg i).trans (h.mem o i)
  have hoth : ∀ o', ¬ o' = o → ∀ i d, relN st gv i = some (o', d) ↔ st i = some (o', d) := by
    intro o' ho i d
    unfold relN
    by_cases hi : i ∈ gv
    · rw [if_pos hi]
      obtain ⟨_, d2, e⟩ := (hin i).1 hi
      rw [e]
      constructor
      · intro e2; cases e2
      · intro e2; cases e2; exact absurd rfl ho
    · rw [if_neg hi]
  refine ⟨?_, ?_, ?_, ?_, ?_⟩
  · intro o'
    unfold rmZ
    split
    · exact List.Pairwise.nil
    · exact h.key o'
  · intro o' e he
    unfold rmZ at he
    split at he
    · simp at he
    · next ho =>
      refine (h.each o' e he).same (fun s hs => ?_)
      obtain ⟨_, d, e2⟩ := (h.mem o' s).1 (List.mem_flatMap.2 ⟨e, he, hs⟩)
      rw [e2]
      exact (hoth o' ho s d).2 e2
  · intro o'
    unfold rmZ
    split
    · simp
    · exact h.nd o'
  · intro o' i
    unfold rmZ
    split
    · next ho =>
      subst ho
      simp only [List.flatMap_nil, List.not_mem_nil, false_iff]
      rintro ⟨h1, d, h2⟩
      unfold relN at h2
      split at h2
      · cases h2
      · next h3 => exact h3 ((hin i).2 ⟨h1, d, h2⟩)
    · next ho =>
      rw [h.mem o' i]
      constructor
      · rintro ⟨h1, d, h2⟩
        exact ⟨h1, d, (hoth o' ho i d).2 h2⟩
      · rintro ⟨h1, d, h2⟩
        exact ⟨h1, d, (hoth o' ho i d).1 h2⟩
  · intro i o' d e
    unfold relN at e
    split at e
    · cases e
    · exact h.small i o' d e
/-- The pool, while slots are given back. -/
structure DM (w : World) (p n : Nat) (G : Nat → Prop) (st : K.Sx) (gv : List Nat) (r : Nat) (wx : World) : Prop where
  pool : ∃ Gx, K.PQ Gx wx p n (relN st gv) ∧ ∀ i, Gx i → G i ∨ (w.heap.size ≤ i ∧ i ≠ r)
  chg : Chg (fun j => G j ∨ j = r) w wx
  lt : r < wx.heap.size
  ge : w.heap.size ≤ r
theorem DM.give {w : World} {p n : Nat} {G : Nat → Prop} {st : K.Sx} {gv : List Nat} {r : Nat} {wx : World} (h : DM w p n G st gv r wx) {s : Nat} {o d : ByteArray} (hn : s < n) (hs : st s = some (o, d)) (hg : s ∉ gv) :
    Calls Tryd.prog 30 #[.pointer (some ⟨p, 0, none⟩), .int .i64 (s : Int)] wx fun e w2 => e = .returned (.int .i64 0) ∧ DM w p n G st (gv ++ [s]) r w2 ∧ Chg (fun i => G i ∨ (w.heap.size ≤ i ∧ i ≠ r)) wx w2 := by
  obtain ⟨Gx, h1, h2⟩ := h.pool
  have e : K.giveS (relN st gv) n (s : Int) = (0, relN st (gv ++ [s])) := by
    unfold K.giveS K.atS
    rw [if_pos ⟨by omega, by omega⟩, Int.toNat_natCast]
    have : relN st gv s = some (o, d) := by unfold relN; rw [if_neg hg]; exact hs
    rw [this]
    simp only [Option.map_some]
    rw [← relN_cons]
  refine (K.giveX (s : Int) Gx p n (relN st gv) wx h1).mono ?_
  rw [e]
  rintro e w2 ⟨rfl, F', k1, k2, k3⟩
  refine ⟨rfl, ⟨⟨F', k1, fun i hi => ?_⟩, h.chg.trans k2 (fun i hi e => ?_), Nat.lt_of_lt_of_le h.lt k2.size, h.ge⟩, k2.mono (fun i _ e => h2 i e)⟩
  · rcases k3 i hi with e | e
    · exact h2 i e
    · have := h.chg.size
      have := h.lt
      exact .inr ⟨by omega, by omega⟩
  · rcases h2 i e with e | ⟨e, _⟩
    · exact .inl e
    · omega

end Go.Proofs.YtlppibigceeimaaDoor
