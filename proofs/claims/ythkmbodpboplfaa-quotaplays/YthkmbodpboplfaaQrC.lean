/-
  The document's quota: Put, Set.
-/
import Derived.Test.YthkmbodpboplfaaQrB
namespace Go.Proofs.Ythkmbodpboplfaa
open Go.RowKit
set_option linter.unusedVariables false
set_option linter.unusedSimpArgs false

theorem info67 : (Try.prog.info? 67).map (fun i => (i.zero.map (fun z => z.cells.size), i.size, i.bytes)) = some (some 6, 6, 56) := by kernel_rfl
theorem info67x : ∃ (i : TypeInfo) (z : Value), Try.prog.info? 67 = some i ∧ i.zero = some z ∧ i.size = 6 ∧ i.bytes = 56 ∧ z.cells.size = 6 := by
  have h := info67
  cases e : Try.prog.info? 67 with
  | none => rw [e] at h; cases h
  | some i =>
    rw [e] at h
    simp only [Option.map_some, Option.some.injEq, Prod.mk.injEq] at h
    obtain ⟨h1, h2, h3⟩ := h
    cases ez : i.zero with
    | none => rw [ez] at h1; cases h1
    | some z =>
      rw [ez] at h1
      simp only [Option.map_some, Option.some.injEq] at h1
      exact ⟨i, z, rfl, ez, h2, h3, h1⟩
theorem bnd_iff {a : Ac} (h1 : limB a.ms = true) (h2 : limB a.mx = true) : bndA a = a ↔ (0 ≤ a.se ∧ a.se ≤ a.ms ∧ 0 ≤ a.wr ∧ a.wr ≤ a.mx ∧ 0 ≤ a.wi) := by
  obtain ⟨m1, m2, m3, m4, m5⟩ := a
  simp [limB] at h1 h2
  simp only [bndA, Ac.mk.injEq, true_and]
  omega
theorem fnd_app : ∀ (l : List Kn) (s : ByteArray) (a : Ac), fnd l s = none → fnd (l ++ [(s, a)]) = updA (fnd l) s (some a)
  | [], s, a, h => by
    funext t
    simp only [List.nil_append, fnd, updA]
    by_cases ht : t = s
    · subst ht; simp
    · rw [if_neg (fun e => ht e.symm), if_neg ht]
  | x :: r, s, a, h => by
    have hx : ¬ x.1 = s := by
      intro e
      simp [fnd, e] at h
    have hr : fnd r s = none := by simpa [fnd, hx] using h
    have ih := fnd_app r s a hr
    funext t
    simp only [List.cons_append, fnd, ih, updA]
    by_cases ht : x.1 = t
    · have hts : ¬ t = s := fun e => hx (ht.trans e)
      simp [ht, hts]
    · simp [ht]
theorem fnd_none_mem : ∀ (l : List Kn) (s : ByteArray), fnd l s = none → ∀ x ∈ l, ¬ x.1 = s
  | [], s, h, x, hx => by simp at hx
  | y :: r, s, h, x, hx => by
    have hy : ¬ y.1 = s := by
      intro e
      simp [fnd, e] at h
    rcases List.mem_cons.1 hx with rfl | hx
    · exact hy
    · exact fnd_none_mem r s (by simpa [fnd, hy] using h) x hx
theorem kL_app (l : List Kn) (x : Kn) : kL (l ++ [x]) = kL l ++ kC x := by simp [kL]

theorem kC_one (x : Kn) : ∀ u ∈ kC x, u.oneCell' = true := by
  intro u hu
  simp [kC] at hu
  rcases hu with rfl | rfl | rfl | rfl | rfl | rfl <;> rfl
/-- One more behind the list. -/
theorem step_pushK (w : World) {ops : Array Oper} {o : Oper} {a : Act} {K : Act → World → Prop} {Q : Exit → Act → World → Prop} {E : Prop} (hgd : o.guard = none) (s x : Operand)
    (ho : o.op = .call { callee := .builtin .append, args := #[s, x], argTypes := #[55, 55] }) (base : Nat) (v : Value) (n : Nat) (xs : List Value) (hs : a.eval s = v) (w0 : World) (hown : w0.ownsRow base 67 6 v n xs) (y : Kn)
    (hw : w = w0.alloc (.cells (kC y).toArray 67)) (hx : a.eval x = .slice (some ⟨w0.heap.size, 0, none⟩) 1 1) (hn : n ≤ 9000) (hbase : base ≤ w0.heap.size)
    (h : ∀ g' c' w', w'.ownsRow base 67 6 (.slice (some ⟨g', 0, none⟩) (n + 1) c') (n + 1) (xs ++ kC y) → Chg (fun i => v.ownBlock = some i) w0 w' → Moved w0 v.ownBlock (some g') → K (a.put o.dst (.slice (some ⟨g', 0, none⟩) (n + 1) c')) w') :
    if Region.wanted o (yielded ops a.tmps) = true then Oper.wp Try.prog o a w K Q else E := by
  subst hw
  obtain ⟨i67, z67, q1, q2, q3, q4, q5⟩ := info67x
  refine step_pushN _ hgd s x 55 ho 67 i67 z67 6 56 Try.underlying55 q1 q2 q3 q4 q5 (by omega) base v n xs hs (hown.alloc _) ⟨w0.heap.size, 0, none⟩ (kC y) hx rfl (fun j u hu => by
    have := (Blk.new w0 67 (kC y)).cell (0 + j)
    rw [Addr.add_lit]
    refine this.trans ?_
    rw [Nat.zero_add]
    exact hu) (kC_one y) (by unfold maxLen; omega) (by omega) (by simp; omega) ?_
  intro g' c' w' ho' hp'
  exact h g' c' w' ho' hp'.chg.1 hp'.chg.2
theorem Rb.ne {w : World} {base p : Nat} {v : Value} {l : List Kn} (h : Rb w base p v l) : ¬ v.ownBlock = some p := by
  intro e
  have t2 := owns_tg h.row p e
  exact absurd (h.blk.tg.one t2) (by decide)

set_option maxRecDepth 100000 in
set_option maxHeartbeats 2000000 in
theorem putR (s : ByteArray) (a : Ac) (base p : Nat) (v : Value) (l : List Kn) (w : World) (h : Rb w base p v l) (hn : l.length ≤ 9000) (hw : a.wi ≤ 9223372036854775807) (hbase : base ≤ w.heap.size) :
    Calls Try.prog 20 #[.pointer (some ⟨p, 0, none⟩), .string s, aV a] w fun e w' => RbP w base p v l (putA (fnd l) s a) e w' := by
  have HL := hidden (fun (n : Int) (w : World) => limitR n w)
  have HA := hidden (fun (w' : World) (hb : Below w.heap.size w w') => atP s base p v l w' (h.later hb) hn)
  have HH := hidden h
  unfold putA
  by_cases h1 : (limB a.ms && limB a.mx) = false
  · rw [if_pos h1]
    obtain ⟨m1, m2, m3, m4, m5⟩ := a
    unfold aV aL
    simp only at h1
    by_cases h2 : limB m1 = false
    · clear h1 h
      go_enter Try.func20, Try.ntmps20
      go_wp2_with (refine (HL.out _ _).mono ?_; rintro e w3 ⟨rfl, rfl⟩; first | rw [h2] | skip)
      go_ret
      exact rbp_same HH.out below_alloc
    · simp only [Bool.not_eq_false] at h2
      have h3 : limB m2 = false := by rw [h2] at h1; simpa using h1
      clear h1 h
      go_enter Try.func20, Try.ntmps20
      go_wp2_with (refine (HL.out _ _).mono ?_; rintro e w3 ⟨rfl, rfl⟩; first | rw [h2] | rw [h3])
      go_ret
      exact rbp_same HH.out below_alloc
  rw [if_neg h1]
  simp only [Bool.not_eq_false, Bool.and_eq_true] at h1
  obtain ⟨h1, h2⟩ := h1
  by_cases h3 : ¬ bndA a = a
  · rw [if_pos h3]
    rw [bnd_iff h1 h2] at h3
    obtain ⟨m1, m2, m3, m4, m5⟩ := a
    unfold aV aL
    simp only at h1 h2 h3
    clear h
    rcases (show m3 < 0 ∨ (0 ≤ m3 ∧ m1 < m3) ∨ (0 ≤ m3 ∧ m3 ≤ m1 ∧ m4 < 0) ∨ (0 ≤ m3 ∧ m3 ≤ m1 ∧ 0 ≤ m4 ∧ m2 < m4) ∨ (0 ≤ m3 ∧ m3 ≤ m1 ∧ 0 ≤ m4 ∧ m4 ≤ m2 ∧ m5 < 0) by omega) with u1 | ⟨u1, u2⟩ | ⟨u1, u2, u3⟩ | ⟨u1, u2, u3, u4⟩ | ⟨u1, u2, u3, u4, u5⟩
    all_goals
      clear h3
      go_enter Try.func20, Try.ntmps20
      go_wp2_with (refine (HL.out _ _).mono ?_; rintro e w3 ⟨rfl, rfl⟩; first | rw [h1] | rw [h2])
      go_ret
      exact rbp_same HH.out below_alloc
  rw [if_neg h3]
  simp only [Decidable.not_not] at h3
  have ho := ok_of_put (by rw [h1, h2]; rfl) h3 hw
  rw [bnd_iff h1 h2] at h3
  obtain ⟨m1, m2, m3, m4, m5⟩ := a
  unfold aV aL
  simp only at h1 h2 h3
  obtain ⟨u1, u2, u3, u4, u5⟩ := h3
  rcases at_cases l s with ⟨e1, e2⟩ | ⟨i, ⟨t, c⟩, e1, ei, hx, et, e2⟩
  · rw [if_neg (by rw [e2]; simp)]
    rw [e1] at HA
    have hpl := h.blk.lt
    have HE := hidden (And.intro e1 e2)
    have HO := hidden ho
    clear e1 e2 ho h
    go_enter Try.func20, Try.ntmps20
    go_wp2_with (first | (refine (HL.out _ _).mono ?_; rintro e w3 ⟨rfl, rfl⟩; first | rw [h1] | rw [h2]) | (refine (HA.out _ below_alloc).mono ?_; clear HA; rintro e w4 ⟨rfl, rfl⟩))
    obtain ⟨w5, hw5⟩ : ∃ w5, w.alloc (Obj.cells #[.int .i64 m1, .int .i64 m2, .int .i64 m3, .int .i64 m4, .int .i64 m5] 32) = w5 := ⟨_, rfl⟩
    rw [hw5]
    have k5 : Blk w5 w.heap.size 32 [.int .i64 m1, .int .i64 m2, .int .i64 m3, .int .i64 m4, .int .i64 m5] := by
      rw [← hw5]
      exact Blk.new w 32 [.int .i64 m1, .int .i64 m2, .int .i64 m3, .int .i64 m4, .int .i64 m5]
    have b5 : Below w.heap.size w w5 := by rw [← hw5]; exact below_alloc
    clear hw5 u1 u2 u3 u4 u5 hw h1 h2
    have H5 := hidden (HH.out.later b5)
    have HB5 := hidden b5
    have hb5 : base ≤ w5.heap.size := by have := b5.size; omega
    have hp5 := H5.out.blk.lt
    have e0 := H5.out.blk.cell 0
    simp only [List.getElem?_cons_zero] at e0
    have z0 := k5.cell 0
    have z1 := k5.cell 1
    have z2 := k5.cell 2
    have z3 := k5.cell 3
    have z4 := k5.cell 4
    simp only [List.getElem?_cons_zero, List.getElem?_cons_succ] at z0 z1 z2 z3 z4
    have hk5 := k5.lt
    go_region_law (refine step_pushK _ (by rfl) (.tmp 59) (.tmp 63) (by rfl) base v l.length (kL l) (by rfl) w5.drew H5.out.row (s, ⟨m1, m2, m3, m4, m5⟩) (by rfl) (by rfl) hn hb5 ?_; intro g6 c6 w6 o6 q6 r6; have O6 := hidden o6; have Q6 := hidden q6; have R6 := hidden r6; clear o6 q6 r6; have B6 := hidden (Q6.out.blk (g := p) H5.out.blk H5.out.ne); have y0 := B6.out.cell 0; simp only [List.getElem?_cons_zero] at y0; have y1 := B6.out.frozen 0)
    all_goals
      go_wp2_with fail
      go_ret
      have hg6 : ¬ g6 = p := by
        intro e
        have t2 := owns_tg O6.out g6 rfl
        rw [e] at t2
        exact absurd (B6.out.tg.one t2) (by decide)
      have hrow := (Chg.set ⟨p, 0, none⟩ (.slice (some ⟨g6, 0, none⟩) (l.length + 1) c6) w6).owns O6.out (fun g hg e => hg6 (by rw [← (show g6 = g by simpa [Value.ownBlock] using hg)] at e; exact e))
      refine ⟨rfl, .slice (some ⟨g6, 0, none⟩) (l.length + 1) c6, l ++ [(s, ⟨m1, m2, m3, m4, m5⟩)], ⟨B6.out.set 0 _, ?_, ?_, ?_⟩, fnd_app l s _ HE.out.2, by simp, ?_, ?_⟩
      · rw [kL_app, List.length_append]
        exact hrow
      · rw [List.pairwise_append]
        refine ⟨H5.out.nodup, by simp, fun x hx y hy => ?_⟩
        rw [List.mem_singleton] at hy
        subst hy
        exact fnd_none_mem l s HE.out.2 x hx
      · intro x hx
        rcases List.mem_append.1 hx with hx | hx
        · exact H5.out.ok x hx
        · rw [List.mem_singleton] at hx
          subst hx
          exact HO.out
      · exact (((Chg.of_below HB5.out).trans (Chg.drew (RF p v) _) (fun _ _ hi => hi)).trans Q6.out (fun i _ hi => .inr hi)).trans (Chg.set ⟨p, 0, none⟩ _ w6) (fun i _ hi => .inl hi)
      · rcases R6.out with e | ⟨g, e, hg⟩
        · exact .inl e
        · refine .inr ⟨g, e, ?_⟩
          have := HB5.out.size
          have h9 : w5.drew.heap.size = w5.heap.size := rfl
          omega
  · rw [if_pos (by rw [e2]; simp)]
    rw [e1] at HA
    clear h e1 e2 et hx ei ho
    go_enter Try.func20, Try.ntmps20
    go_wp2_with (first | (refine (HL.out _ _).mono ?_; rintro e w3 ⟨rfl, rfl⟩; first | rw [h1] | rw [h2]) | (refine (HA.out _ below_alloc).mono ?_; clear HA; rintro e w4 ⟨rfl, rfl⟩))
    go_ret
    exact rbp_same HH.out below_alloc

theorem setR (s : ByteArray) (x y : Int) (base p : Nat) (v : Value) (l : List Kn) (w : World) (h : Rb w base p v l) (hn : l.length ≤ 9000) (hbase : base ≤ w.heap.size) :
    Calls Try.prog 17 #[.pointer (some ⟨p, 0, none⟩), .string s, .int .i64 x, .int .i64 y] w fun e w' => RbP w base p v l (putA (fnd l) s ⟨x, y, 0, 0, 0⟩) e w' := by
  have HP := hidden (putR s ⟨x, y, 0, 0, 0⟩ base p v l w h hn (by simp) hbase)
  clear h
  obtain ⟨R, hR⟩ : ∃ R, putA (fnd l) s ⟨x, y, 0, 0, 0⟩ = R := ⟨_, rfl⟩
  rw [hR] at HP ⊢
  clear hR
  unfold aV aL at HP
  go_enter Try.func17, Try.ntmps17
  go_wp2_with (refine HP.out.mono ?_; clear HP; rintro e w3 ⟨rfl, h3⟩; have H3 := hidden h3; clear h3)
  go_ret
  exact ⟨rfl, H3.out⟩

end Go.Proofs.Ythkmbodpboplfaa
