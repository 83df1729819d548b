import Derived.Test.YtgmdpbahcbhfjaaGreatDoorJPwC
import Derived.RangeFuncBox
set_option linter.unusedSimpArgs false
set_option linter.unusedVariables false
set_option maxHeartbeats 40000000
set_option maxRecDepth 100000
/-
  Package index: union (post.Walk of all lists at once).
-/
namespace Go.Proofs.YtgmdpbahcbhfjaaGreatDoor.J
open Go Go.RowKit Go.Shelf
attribute [local go_sem] Oper.semAt_some

theorem runsF_len : ∀ l : List Nat, (runsF l).length ≤ l.length
  | [] => Nat.le_refl _
  | a :: l => by
    have ih := runsF_len l
    unfold runsF
    split
    · simp
    · rename_i b k r e
      rw [e] at ih
      simp only [List.length_cons] at ih
      split <;> simp only [List.length_cons] <;> omega
theorem owns_rebase {w : World} {base base' : Nat} {e : TypeId} {size : Nat} {v : Value} {n : Nat} {xs : List Value} (h : w.ownsRow base e size v n xs) (hb : base' ≤ base) : w.ownsRow base' e size v n xs := by
  refine ⟨h.1, ?_⟩
  rcases h.2 with h1 | ⟨g, cap, cur, e1, h2, r⟩
  · exact .inl h1
  · exact .inr ⟨g, cap, cur, e1, Nat.le_trans hb h2, r⟩
/-- What lies there while the walk is gone through. -/
structure UnI (S D : Nat) (w : World) (bx : Nat) (am : Option Addr) (m cm : Nat) (L : List Nat) (pre : List (Nat × Nat)) (A : World) : Prop where
  out : ∃ ao co, Blk A S 107 [.slice ao pre.length co] ∧ A.ownsRow D 114 1 (.slice ao pre.length co) pre.length (cells32 (pre.map Prod.fst))
  bb : Blk A bx 107 [.slice am m cm]
  ol : A.ownsRow S 114 1 (.slice am m cm) m (cells32 L)
  bel : Below S w A
  siz : D ≤ A.heap.size
theorem UnI.bk {S D : Nat} {w : World} {bx : Nat} {am : Option Addr} {m cm : Nat} {L : List Nat} {pre : List (Nat × Nat)} {A A' : World} (h : UnI S D w bx am m cm L pre A) {B : Nat} (hk : Bk B A A') (hB : S ≤ B) (hS : S ≤ w.heap.size) : UnI S D w bx am m cm L pre A' := by
  obtain ⟨⟨ao, co, h1, h2⟩, h3, h4, h5, h6⟩ := h
  exact ⟨⟨ao, co, hk.blk h1, hk.owns h2⟩, hk.blk h3, hk.owns h4, Bk.below h5 hk hB hS, Nat.le_trans h6 hk.size⟩
theorem UnI.push {S D : Nat} {w : World} {bx : Nat} {am : Option Addr} {m cm : Nat} {L : List Nat} {pre : List (Nat × Nat)} {A A' : World} {x : Nat × Nat} {g' cap' : Nat} (h : UnI S D w bx am m cm L pre A) (hbS : ¬ bx = S) (hbD : bx < D) (hmD : ∀ g, (Value.slice am m cm).ownBlock = some g → g < D) (hSD : S < D)
    (hv : Blk A' S 107 [.slice (some ⟨g', 0, none⟩) (pre.length + 1) cap']) (hr : A'.ownsRow D 114 1 (.slice (some ⟨g', 0, none⟩) (pre.length + 1) cap') (pre.length + 1) (cells32 (pre.map Prod.fst) ++ [.int .u32 (x.1 : Int)]))
    (hc : Chg (fun i => i = S ∨ D ≤ i) A A') (hSw : S ≤ w.heap.size) : UnI S D w bx am m cm L (pre ++ [x]) A' := by
  obtain ⟨⟨ao, co, h1, h2⟩, h3, h4, h5, h6⟩ := h
  refine ⟨⟨some ⟨g', 0, none⟩, cap', ?_, ?_⟩, hc.blk h3 (fun e => by rcases e with e | e <;> omega), hc.owns h4 (fun g hg e => ?_), h5.trans (hc.below (Nat.le_trans hSw h5.size) (fun i e => by rcases e with e | e <;> omega)), Nat.le_trans h6 hc.size⟩
  · rw [List.length_append, List.length_singleton]; exact hv
  · rw [List.length_append, List.length_singleton, List.map_append, cells32_append]; exact hr
  · have := hmD g hg
    rcases e with e | e
    · subst e
      have := (Blk.tg h1).one (owns_tg h4 _ hg)
      cases this
    · omega

set_option maxRecDepth 100000 in
set_option maxHeartbeats 8000000 in
theorem unionP (w : World) (ad : Option Addr) (n c : Nat) (xs : List Lst) (h : Lsw w ad xs) (hn : xs.length = n) (hn9 : n ≤ 1000) (hsum : lensum xs ≤ 1000000) (hnc : n ≤ c) (hc9 : c ≤ 9223372036854775807) :
    Calls Tryz.prog 74 #[.slice ad n c] w fun e w' => OutW w e w' ((wantF (lss xs)).map Prod.fst) := by
  have HL := hidden h
  clear h
  refine (callsIn_wide (n := 3)).1 (callsIn_of_wp_marks Tryz.func74 rfl trivial (wpIn_wide.2 ?_) rfl)
  simp only [Tryz.ntmps74, List.size_toArray, List.length_cons, List.length_nil, Nat.reduceAdd, Nat.reduceSub, Array.replicate_succ, Array.replicate_zero, List.push_toArray, List.append_toArray, List.nil_append, List.cons_append]
  go_wp2_with fail
  have hb0 : Below w.heap.size w (w.alloc (.cells #[.slice none 0 0] 107)) := (Below.refl _ _).alloc (Nat.le_refl _) _
  have HB0 := hidden (heap_alloc_new w (.cells #[.slice none 0 0] 107))
  refine (walkP _ ad n c xs (HL.out.below hb0) hn hn9 hsum hnc hc9).mono ?_
  rintro e w1 ⟨bx, am, m, cm, L, rfl, ⟨hbx, hbs, ho, hwr⟩, hm9, hrun, hbel⟩
  rw [World.size_alloc] at hbs ho hbel
  have HBX := hidden hbx
  have HO := hidden ho
  have HW := hidden hwr
  have HRUN := hidden hrun
  have HBL := hidden (hb0.trans (hbel.mono (Nat.le_succ _)))
  have HBB : Hid (Blk w1 w.heap.size 107 [.slice none 0 0]) := (hbel.block w.heap.size (by omega)).trans HB0.out
  have HBS := hidden hbs
  have HM := hidden hm9
  have HSZ : Hid (w.heap.size + 1 ≤ w1.heap.size) := hidden (by have := hbel.size; simpa using this)
  clear hbx ho hbel hb0 HB0 hbs hwr hrun hm9 hn hn9 hsum
  go_wp2_with fail
  refine wp_range (a := { tmps := _, defers := [] }) (gf := 133) (lb := #[.pointer (some ⟨bx, 0, none⟩)]) rfl (enters_of Tryz.func133 (by kernel_rfl) rfl) (runs_seqs bx am m cm L w1 (by have := HM.out; omega)) (Below.refl _ _) (fun _ => rfl)
    (fun pre A => UnI w.heap.size w1.heap.size w bx am m cm L pre A)
    (fun _ _ _ => False)
    ?hI (fun _ _ _ _ h _ => h) ?hR (fun pre A h => ⟨h.bb.cell 0, sw_of_owns h.ol HW.out⟩) ?h0
    (fun x => { tmps := #[.slice ad n c, undef, .slice none 0 0, .pointer (some ⟨w.heap.size, 0, none⟩), .int .u32 (x.1 : Int), .slice ad n c, .func (.func 133) #[] #[.pointer (some ⟨bx, 0, none⟩)], .int .u32 (x.1 : Int), .int .i64 (x.2 : Int), undef, undef, undef, undef, undef], defers := [] }) ?assign ?body ?done (fun _ _ _ _ _ _ h => h.elim)
  case hI => exact fun pre A B h hk => h.bk hk HBL.out.size (Nat.le_refl _)
  case hR => exact fun pre x A B h hk => h
  case h0 => exact ⟨⟨none, 0, HBB.out, World.ownsRow_nil _ _ _ _⟩, HBX.out, owns_rebase HO.out (Nat.le_succ _), HBL.out, Nat.le_refl _⟩
  case assign =>
    rintro n2 l2 ⟨k, v⟩ A K hK
    simp only [encR]
    gi_wp2
    exact hK
  case body =>
    rintro n2 lp pre ⟨x1, x2⟩ A hi ⟨rest, hrest⟩
    dsimp only
    have HI := hidden hi
    obtain ⟨⟨ao, co, hv, hrow⟩, _, _, _, hsz⟩ := hi
    have hp9 : pre.length ≤ 1000000 := by
      have h1 := runsF_len L
      have h2 := own_len HO.out
      have h3 := HM.out
      rw [hrest, List.length_append] at h1
      omega
    obtain ⟨i0, hi0, hz0, hz1, hz2⟩ := info_parts info23
    have c0 := hv.cell 0
    simp only [List.getElem?_cons_zero] at c0
    have HV := hidden hv
    have HROW := hidden hrow
    have HSI := hidden hsz
    have HREST := hidden hrest
    clear hv hrow hrest hsz
    gi_wp2_with (gi_at_builtin; refine wpListIn_append_own _ rfl _ _ 107 rfl w1.heap.size 114 i0 (.int .u32 0) 1 4 Tryz.underlying107 hi0 hz0 hz1 hz2 rfl (by decide) _ _ _ rfl (HROW.out.alloc _) ⟨A.heap.size, 0, none⟩ 1 1 [.int .u32 (x1 : Int)] rfl rfl (cell_one_new _ _ _) (by simp [Value.oneCell']) (by unfold maxLen; omega) (by omega) (by have := HSI.out; simp; omega) ?_; intro v' w6 hown' hgrow _; obtain ⟨g', cap', rfl⟩ := ownsRow_succ hown'; obtain ⟨hv1, hv2, hr2, hk2, hb2⟩ := Boxed.appended (n₀ := w.heap.size) (B := w.heap.size) HV.out (by decide) (owns_rebase HROW.out HBL.out.size) HI.out.bel.size (Nat.le_refl _) (owns_rebase hown' HBL.out.size) hgrow; have hc1 := hv1.cell; have hf1 := hv1.frozen; have HP := hidden (And.intro hk2 (And.intro hv2 (And.intro hown' hgrow))); clear hk2 hv2 hown' hgrow hb2 hr2 hv1)
    obtain ⟨hk2, hv2, hown', hgrow⟩ := HP.out
    have hSD : w.heap.size < w1.heap.size := HSZ.out
    have hgw : (A.alloc (.cells #[.int .u32 (x1 : Int)] 114)).grownBy w6 (Value.slice ao pre.length co).ownBlock := hgrow
    have hg1 : Chg (fun i => w1.heap.size ≤ i) A w6 := (Chg.alloc _ A _).trans (Chg.of_grown (F := fun i => w1.heap.size ≤ i) hgw (fun i hi => (HROW.out.lt i hi).1)) (fun i _ hi => hi)
    have hg2 : Chg (fun i => i = w.heap.size ∨ w1.heap.size ≤ i) A (w6.setCell ⟨w.heap.size, 0, none⟩ (.slice (some ⟨g', 0, none⟩) (pre.length + 1) cap')) := (hg1.mono (fun i _ hi => Or.inr hi)).trans (Chg.set ⟨w.heap.size, 0, none⟩ (.slice (some ⟨g', 0, none⟩) (pre.length + 1) cap') w6) (fun i _ hi => .inl hi)
    refine ⟨hk2.from _, trivial, HI.out.push ?_ ?_ ?_ hSD hv2 ?_ ?_ (Nat.le_refl _)⟩
    · intro e; have := HBS.out; omega
    · exact HBX.out.lt
    · exact fun g hg => owns_lt HO.out g hg
    · exact (Chg.set ⟨w.heap.size, 0, none⟩ (.slice (some ⟨g', 0, none⟩) (pre.length + 1) cap') w6).owns hown' (fun g hg e => by have h1 := (hown'.lt g hg).1; have e2 : g = w.heap.size := e; omega)
    · exact hg2
  case done =>
    rintro D ys A hD hS hi hK
    obtain ⟨⟨ao, co, hv, hrow⟩, _, _, hbel, hsz⟩ := hi
    have c0 := hv.cell 0
    simp only [List.getElem?_cons_zero] at c0
    go_wp2_with fail
    refine ⟨by simp, .inl ⟨_, _, rfl, run_takeDeferred hK, ?_⟩⟩
    refine ⟨_, results_tmp rfl _ _ _, ?_⟩
    subst hS
    have hbk := Bk.put (B := w1.heap.size) (.deferred none) hK rfl hD
    refine ⟨ao, co, ?_, ?_, Bk.below hbel hbk HBL.out.size (Nat.le_refl _)⟩
    · rw [← HRUN.out, List.length_map]; rfl
    · rw [← HRUN.out, List.length_map]
      exact owns_rebase (hbk.owns hrow) HBL.out.size
end Go.Proofs.YtgmdpbahcbhfjaaGreatDoor.J
