import Derived.Test.YtgmcfejmhlglkaaPrD
/-
  A pair's two disks have changed; a new pair.
-/
namespace Go.Proofs.Ytgmcfejmhlglkaa
open Go.RowKit
set_option linter.unusedVariables false
set_option linter.unusedSimpArgs false

/-- Both disks of a pair are of another state now; besides, blocks X that are none of its have changed. -/
theorem PS.set {w w2 : World} {m : PM} {t : It} {st : List It} {ks : List Kp} {Z X F1' F2' : Nat → Prop} {S' : St} (h : PS w m t st ks Z) (hA : Dk 80 82 w2 t.p F1' S') (hB : Dk 75 86 w2 t.q F2' S') (hne : ∀ k, F1' k → ¬ F2' k) (hC : Chg (fun k => t.F k ∨ X k) w w2) (hX : ∀ k, X k → ¬ FPp m t st k ∧ ¬ Z k)
    (h1 : ∀ k, F1' k → t.F k ∨ w.heap.size ≤ k) (h2 : ∀ k, F2' k → t.F k ∨ w.heap.size ≤ k) : PS w2 m ⟨t.p, t.q, F1', F2', S'⟩ st ks Z := by
  obtain ⟨hP, hK⟩ := h
  have hlt := hP.lt
  have offM : ∀ k, m.F k → ¬ (t.F k ∨ X k) := by
    rintro k hk (e | e)
    · obtain ⟨ty, g1, g2⟩ := hP.tgm k hk
      obtain ⟨ty2, g3, g4⟩ := hP.it.tg k e
      have := g1.one g3
      subst this
      rcases g2 with g2 | g2 | g2 | g2 | ⟨g2, g5⟩
      · subst g2; exact absurd g4 (by decide)
      · subst g2; exact absurd g4 (by decide)
      · subst g2; exact absurd g4 (by decide)
      · subst g2; exact absurd g4 (by decide)
      · exact hP.mt k e g5
    · exact (hX k e).1 (.inl hk)
  have offZ : ∀ k, Z k → ¬ (t.F k ∨ X k) := by
    rintro k hk (e | e)
    · exact hP.zt k hk e
    · exact (hX k e).2 hk
  have offS : ∀ (i : Nat) (s : It), st[i]? = some s → ∀ k, s.F k → ¬ (t.F k ∨ X k) := by
    rintro i s hs k hk (e | e)
    · exact hP.ap i s hs k e hk
    · exact (hX k e).1 (.inr (.inr ⟨i, s, hs, hk⟩))
  have new : ∀ k, (F1' k ∨ F2' k) → t.F k ∨ w.heap.size ≤ k := by
    rintro k (e | e)
    · exact h1 k e
    · exact h2 k e
  refine ⟨⟨hC.blk hP.blk (offM _ (.inl rfl)), hC.owns hP.dv (fun g hg => offM g (.inr (.inl hg))), hC.owns hP.xv (fun g hg => offM g (.inr (.inr (.inl hg)))), hC.owns hP.lv (fun g hg => offM g (.inr (.inr (.inr (.inl hg))))), hC.owns hP.mv (fun g hg => offM g (.inr (.inr (.inr (.inr hg))))), ⟨hA, hB, hne⟩, fun i s hs => (hP.its i s hs).chg hC (offS i s hs), ?_, hP.aps, ?_, hP.ms, hP.mb, ?_, hP.zs, hP.zm, fun k hk => Nat.lt_of_lt_of_le (hP.zl k hk) hC.size, fun k hk => ?_⟩, fun i k hk => (hK i k hk).chg hC offZ⟩
  · intro i s hs k hk e
    rcases new k hk with f | f
    · exact hP.ap i s hs k f e
    · have := (hP.its i s hs).lt k e
      omega
  · intro k hk e
    rcases new k hk with f | f
    · exact hP.mt k f e
    · have := (hP.mv.lt k e).2
      omega
  · intro k hk e
    rcases new k e with f | f
    · exact hP.zt k hk f
    · have := hP.zl k hk
      omega
  · obtain ⟨cs, fr, hh⟩ := hP.zty k hk
    exact ⟨cs, fr, by rw [hC.block k (hP.zl k hk) (offZ k hk)]; exact hh⟩

theorem built39 (p q : Nat) : Try.prog.built 39 [(0, .pointer (some ⟨p, 0, none⟩)), (1, .pointer (some ⟨q, 0, none⟩))] = some #[.pointer (some ⟨p, 0, none⟩), .pointer (some ⟨q, 0, none⟩), .slice none 0 0, .slice none 0 0, .slice none 0 0, .slice none 0 0] := by kernel_rfl
/-- A new pair. -/
theorem made_any (n : Int) (w : World) (hn : 1 ≤ n) (hn8 : n ≤ 8) : Calls Try.prog 6 #[.int .i64 n] w fun e w' => ∃ m t, e = .returned (.tuple #[.pointer (some ⟨m.pp, 0, none⟩), .bool true]) ∧ PS w' m t [] [] (fun _ => False) ∧ t.S = St.fresh n.toNat ∧ (∀ k, FPp m t [] k → w.heap.size ≤ k) ∧ Below w.heap.size w w' := by
  go_enter Try.func6, Try.ntmps6
  go_wp2_with fail
  refine (newP n w hn hn8).mono ?_
  rintro e w1 ⟨p, F1, rfl, hD1, hF1, hb1⟩
  have HD1 := hidden hD1
  have HF1 := hidden hF1
  have HB1 := hidden hb1
  clear hD1 hF1 hb1
  go_wp2_with fail
  refine (newR n w1 hn hn8).mono ?_
  rintro e w2 ⟨q, F2, rfl, hD2, hF2, hb2⟩
  have HD2 := hidden hD2
  have HF2 := hidden hF2
  have HB2 := hidden hb2
  clear hD2 hF2 hb2
  go_wp2_with (first
    | (refine wpList_build_to rfl 39 #[(0, .tmp 30), (1, .tmp 31)] rfl [(0, .pointer (some ⟨p, 0, none⟩)), (1, .pointer (some ⟨q, 0, none⟩))] #[.pointer (some ⟨p, 0, none⟩), .pointer (some ⟨q, 0, none⟩), .slice none 0 0, .slice none 0 0, .slice none 0 0, .slice none 0 0] ?_ (built39 _ _) ?_; kernel_rfl)
    | (refine wpList_box_blk rfl 39 (.tmp 32) rfl [.pointer (some ⟨p, 0, none⟩), .pointer (some ⟨q, 0, none⟩), .slice none 0 0, .slice none 0 0, .slice none 0 0, .slice none 0 0] rfl ?_; intro w3 B3 bl3 hz3; have HB3 := hidden B3; have HBL3 := hidden bl3; clear B3 bl3 hz3))
  go_ret2
  have l1 := HD1.out.lt
  have s1 := HB1.out.size
  have s2 := HB2.out.size
  have d1 : Dk 80 82 w3 p F1 (St.fresh n.toNat) := (HD1.out.chg (Chg.of_below (F := fun _ => False) HB2.out) (fun _ _ h => h)).chg (Chg.of_below (F := fun _ => False) HBL3.out) (fun _ _ h => h)
  have d2 : Dk 75 86 w3 q F2 (St.fresh n.toNat) := HD2.out.chg (Chg.of_below (F := fun _ => False) HBL3.out) (fun _ _ h => h)
  refine ⟨⟨w2.heap.size, .slice none 0 0, .slice none 0 0, .slice none 0 0, .slice none 0 0⟩, ⟨p, q, F1, F2, St.fresh n.toNat⟩, rfl, ⟨⟨HB3.out, World.ownsRow_nil _ _ _ _, World.ownsRow_nil _ _ _ _, World.ownsRow_nil _ _ _ _, World.ownsRow_nil _ _ _ _, ⟨d1, d2, fun k h1 h2 => ?_⟩, fun i s hs => (by simp at hs), fun i s hs => (by simp at hs), fun i j s u hs => (by simp at hs), fun k _ e => (by cases e), fun i s hs => (by simp at hs), fun z hz => (by simp at hz), fun k hk => hk.elim, fun i s hs => (by simp at hs), fun k hk => hk.elim, fun k hk => hk.elim, fun k hk => hk.elim⟩, fun i k hk => (by simp at hk)⟩, rfl, ?_, (HB1.out.trans (HB2.out.mono s1)).trans (HBL3.out.mono (by omega))⟩
  · have := l1 k h1
    have := HF2.out k h2
    omega
  · rintro k ((e | e | e | e | e) | (e | e) | ⟨i, s, hs, _⟩)
    · have e2 : k = w2.heap.size := e
      omega
    · cases e
    · cases e
    · cases e
    · cases e
    · exact HF1.out k e
    · have := HF2.out k e
      omega
    · simp at hs
theorem made_none (n : Int) (w : World) (hn : n < 1 ∨ 8 < n) : Calls Try.prog 6 #[.int .i64 n] w fun e w' => e = .returned (.tuple #[.pointer none, .bool true]) ∧ w' = w := by
  go_enter Try.func6, Try.ntmps6
  go_wp2_with fail
  refine (newP_none n w hn).mono ?_
  rintro e w1 ⟨rfl, rfl⟩
  go_wp2_with fail
  refine (newR_none n w1 hn).mono ?_
  rintro e w2 ⟨rfl, rfl⟩
  go_wp2_with fail
  go_ret2
  exact ⟨rfl, rfl⟩

end Go.Proofs.Ytgmcfejmhlglkaa

/-
  A pair whose disks are put by and taken up again.
-/
namespace Go.Proofs.Ytgmcfejmhlglkaa
open Go.RowKit
set_option linter.unusedVariables false
set_option linter.unusedSimpArgs false

/-- What is written when disks are put by. -/
def PM.D (m : PM) : Nat → Prop := fun i => i = m.pp ∨ m.dv.ownBlock = some i ∨ m.xv.ownBlock = some i
theorem PM.D.F {m : PM} {k : Nat} (h : m.D k) : m.F k := by
  rcases h with h | h | h
  · exact .inl h
  · exact .inr (.inl h)
  · exact .inr (.inr (.inl h))
section
variable {w w' : World} {m m' : PM} {t t' : It} {st st' : List It} {L : List Value} {M : List Int} {Z : Nat → Prop}
theorem PR.tgD (h : PR w m t st L M Z) {k : Nat} (e : m.D k) : ∃ ty, Tg w k ty ∧ (ty = 39 ∨ ty = 33 ∨ ty = 34) := by
  rcases e with rfl | e | e
  · exact ⟨_, h.blk.tg, .inl rfl⟩
  · exact ⟨_, owns_tg h.dv k e, .inr (.inl rfl)⟩
  · exact ⟨_, owns_tg h.xv k e, .inr (.inr rfl)⟩
theorem PR.offI (h : PR w m t st L M Z) {s : It} (hs : s.ok w) : ∀ k, s.F k → ¬ m.D k := by
  intro k hk e
  obtain ⟨ty, h1, h2⟩ := hs.tg k hk
  obtain ⟨ty2, h3, h4⟩ := h.tgD e
  have := h1.one h3
  subst this
  rcases h4 with rfl | rfl | rfl
  · exact absurd h2 (by decide)
  · exact absurd h2 (by decide)
  · exact absurd h2 (by decide)
theorem PR.offR (h : PR w m t st L M Z) {ty : TypeId} {v : Value} {n : Nat} {xs : List Value} (ho : w.ownsRow 0 ty 1 v n xs) (h1 : ty ≠ 39) (h2 : ty ≠ 33) (h3 : ty ≠ 34) : ∀ k, v.ownBlock = some k → ¬ m.D k := by
  intro k hk e
  obtain ⟨ty2, h4, h5⟩ := h.tgD e
  have := (owns_tg ho k hk).one h4
  subst this
  rcases h5 with e | e | e
  · exact h1 e
  · exact h2 e
  · exact h3 e
theorem PR.offZ (h : PR w m t st L M Z) : ∀ k, Z k → ¬ m.D k := fun k hk e => h.zF k hk (.inl e.F)
/-- The rows and the two names are others, the lists are the same. -/
theorem PR.re (h : PR w m t st L M Z) (hC : Chg m.D w w') (e1 : m'.lv = m.lv) (e2 : m'.mv = m.mv) (hB : Blk w' m'.pp 39 [.pointer (some ⟨t'.p, 0, none⟩), .pointer (some ⟨t'.q, 0, none⟩), m'.dv, m'.xv, m.lv, m.mv])
    (hd : w'.ownsRow 0 33 1 m'.dv st'.length (st'.map fun t => .pointer (some ⟨t.p, 0, none⟩))) (hx : w'.ownsRow 0 34 1 m'.xv st'.length (st'.map fun t => .pointer (some ⟨t.q, 0, none⟩)))
    (hit : t'.ok w') (hits : ∀ (i : Nat) (s : It), st'[i]? = some s → s.ok w') (hap : ∀ (i : Nat) (s : It), st'[i]? = some s → ∀ k, t'.F k → ¬ s.F k) (haps : ∀ (i j : Nat) (s u : It), st'[i]? = some s → st'[j]? = some u → i ≠ j → ∀ k, s.F k → ¬ u.F k)
    (hmt : ∀ k, t'.F k → m.mv.ownBlock ≠ some k) (hms : ∀ (i : Nat) (s : It), st'[i]? = some s → ∀ k, s.F k → m.mv.ownBlock ≠ some k) (hzt : ∀ k, Z k → ¬ t'.F k) (hzs : ∀ (i : Nat) (s : It), st'[i]? = some s → ∀ k, Z k → ¬ s.F k) : PR w' m' t' st' L M Z := by
  refine ⟨by rw [e1, e2]; exact hB, hd, hx, by rw [e1]; exact hC.owns h.lv (h.offR h.lv (by decide) (by decide) (by decide)), by rw [e2]; exact hC.owns h.mv (h.offR h.mv (by decide) (by decide) (by decide)), hit, hits, hap, haps, by rw [e2]; exact hmt, by rw [e2]; exact hms, h.mb, hzt, hzs, by rw [e2]; exact h.zm, fun k hk => Nat.lt_of_lt_of_le (h.zl k hk) hC.size, fun k hk => ?_⟩
  obtain ⟨cs, fr, hh⟩ := h.zty k hk
  exact ⟨cs, fr, by rw [hC.block k (h.zl k hk) (h.offZ k hk)]; exact hh⟩
theorem set_at {α : Type} {l : List α} {k i : Nat} {a b : α} (h : (l.set k a)[i]? = some b) : (i = k ∧ b = a) ∨ (i ≠ k ∧ l[i]? = some b) := by
  by_cases e : i = k
  · subst e
    rw [List.getElem?_set] at h
    simp only [if_true] at h
    split at h
    · exact .inl ⟨rfl, (Option.some.inj h).symm⟩
    · cases h
  · rw [List.getElem?_set_ne (fun x => e x.symm)] at h
    exact .inr ⟨e, h⟩
/-- The k-th is taken up, the present one is put by in its place. -/
theorem PR.swap (h : PR w m t st L M Z) {k : Nat} {s : It} (hs : st[k]? = some s) (hC : Chg m.D w w') (hB : Blk w' m.pp 39 [.pointer (some ⟨s.p, 0, none⟩), .pointer (some ⟨s.q, 0, none⟩), m.dv, m.xv, m.lv, m.mv])
    (hd : w'.ownsRow 0 33 1 m.dv st.length ((st.map fun t => Value.pointer (some ⟨t.p, 0, none⟩)).set k (.pointer (some ⟨t.p, 0, none⟩)))) (hx : w'.ownsRow 0 34 1 m.xv st.length ((st.map fun t => Value.pointer (some ⟨t.q, 0, none⟩)).set k (.pointer (some ⟨t.q, 0, none⟩)))) : PR w' m s (st.set k t) L M Z := by
  have ok : ∀ (u : It), u.ok w → u.ok w' := fun u hu => hu.chg hC (h.offI hu)
  refine h.re hC rfl rfl hB (by rw [List.length_set, List.map_set]; exact hd) (by rw [List.length_set, List.map_set]; exact hx) (ok _ (h.its k s hs)) ?_ ?_ ?_ (h.ms k s hs) ?_ (h.zs k s hs) ?_
  · intro i u hu
    rcases set_at hu with ⟨_, rfl⟩ | ⟨_, e⟩
    · exact ok _ h.it
    · exact ok _ (h.its i u e)
  · intro i u hu j hj
    rcases set_at hu with ⟨_, rfl⟩ | ⟨n, e⟩
    · exact fun x => h.ap k s hs j x hj
    · exact h.aps k i s u hs e (fun x => n x.symm) j hj
  · intro i j u v hu hv hij x hfx
    rcases set_at hu with ⟨rfl, rfl⟩ | ⟨n, e⟩
    · rcases set_at hv with ⟨rfl, rfl⟩ | ⟨n2, e2⟩
      · exact absurd rfl hij
      · exact h.ap j v e2 x hfx
    · rcases set_at hv with ⟨rfl, rfl⟩ | ⟨n2, e2⟩
      · exact fun y => h.ap i u e x y hfx
      · exact h.aps i j u v e e2 hij x hfx
  · intro i u hu
    rcases set_at hu with ⟨_, rfl⟩ | ⟨_, e⟩
    · exact h.mt
    · exact h.ms i u e
  · intro i u hu
    rcases set_at hu with ⟨_, rfl⟩ | ⟨_, e⟩
    · exact h.zt
    · exact h.zs i u e
theorem app_at {α : Type} {l : List α} {i : Nat} {a b : α} (h : (l ++ [a])[i]? = some b) : (i = l.length ∧ b = a) ∨ l[i]? = some b := by
  by_cases e : i < l.length
  · rw [List.getElem?_append_left e] at h
    exact .inr h
  · rw [List.getElem?_append_right (by omega)] at h
    have : i - l.length = 0 := by
      rcases Nat.eq_zero_or_pos (i - l.length) with h0 | h0
      · exact h0
      · rw [List.getElem?_eq_none (by simp; omega)] at h
        cases h
    rw [this] at h
    exact .inl ⟨by omega, (Option.some.inj h).symm⟩
/-- The present one is put by, new ones are taken. -/
theorem PR.more (h : PR w m t st L M Z) {dv xv : Value} (hC : Chg m.D w w') (hB : Blk w' m.pp 39 [.pointer (some ⟨t'.p, 0, none⟩), .pointer (some ⟨t'.q, 0, none⟩), dv, xv, m.lv, m.mv])
    (hd : w'.ownsRow 0 33 1 dv (st.length + 1) ((st.map fun t => Value.pointer (some ⟨t.p, 0, none⟩)) ++ [.pointer (some ⟨t.p, 0, none⟩)])) (hx : w'.ownsRow 0 34 1 xv (st.length + 1) ((st.map fun t => Value.pointer (some ⟨t.q, 0, none⟩)) ++ [.pointer (some ⟨t.q, 0, none⟩)]))
    (ht : t'.ok w') (hn : ∀ k, t'.F k → w.heap.size ≤ k) : PR w' { m with dv := dv, xv := xv } t' (st ++ [t]) L M Z := by
  have ok : ∀ (u : It), u.ok w → u.ok w' := fun u hu => hu.chg hC (h.offI hu)
  refine h.re (m' := { m with dv := dv, xv := xv }) hC rfl rfl hB (by rw [List.length_append, List.map_append]; exact hd) (by rw [List.length_append, List.map_append]; exact hx) ht ?_ ?_ ?_ ?_ ?_ ?_ ?_
  · intro i u hu
    rcases app_at hu with ⟨_, rfl⟩ | e
    · exact ok _ h.it
    · exact ok _ (h.its i u e)
  · intro i u hu k hk e
    have h1 := hn k hk
    rcases app_at hu with ⟨_, rfl⟩ | e2
    · have := h.it.lt k e
      omega
    · have := (h.its i u e2).lt k e
      omega
  · intro i j u v hu hv hij x hfx
    rcases app_at hu with ⟨rfl, rfl⟩ | e
    · rcases app_at hv with ⟨rfl, rfl⟩ | e2
      · exact absurd rfl hij
      · exact h.ap j v e2 x hfx
    · rcases app_at hv with ⟨rfl, rfl⟩ | e2
      · exact fun y => h.ap i u e x y hfx
      · exact h.aps i j u v e e2 hij x hfx
  · intro k hk e
    have := hn k hk
    have := (h.mv.lt k e).2
    omega
  · intro i u hu
    rcases app_at hu with ⟨_, rfl⟩ | e
    · exact h.mt
    · exact h.ms i u e
  · intro k hk e
    have := hn k e
    have := h.zl k hk
    omega
  · intro i u hu
    rcases app_at hu with ⟨_, rfl⟩ | e
    · exact h.zt
    · exact h.zs i u e
end
theorem PS.swap {w w' : World} {m : PM} {t : It} {st : List It} {ks : List Kp} {Z : Nat → Prop} (h : PS w m t st ks Z) {k : Nat} {s : It} (hs : st[k]? = some s) (hC : Chg m.D w w') (hB : Blk w' m.pp 39 [.pointer (some ⟨s.p, 0, none⟩), .pointer (some ⟨s.q, 0, none⟩), m.dv, m.xv, m.lv, m.mv])
    (hd : w'.ownsRow 0 33 1 m.dv st.length ((st.map fun t => Value.pointer (some ⟨t.p, 0, none⟩)).set k (.pointer (some ⟨t.p, 0, none⟩)))) (hx : w'.ownsRow 0 34 1 m.xv st.length ((st.map fun t => Value.pointer (some ⟨t.q, 0, none⟩)).set k (.pointer (some ⟨t.q, 0, none⟩)))) : PS w' m s (st.set k t) ks Z :=
  ⟨h.1.swap hs hC hB hd hx, fun i k hk => (h.2 i k hk).chg hC h.1.offZ⟩
theorem PS.more {w w' : World} {m : PM} {t t' : It} {st : List It} {ks : List Kp} {Z : Nat → Prop} (h : PS w m t st ks Z) {dv xv : Value} (hC : Chg m.D w w') (hB : Blk w' m.pp 39 [.pointer (some ⟨t'.p, 0, none⟩), .pointer (some ⟨t'.q, 0, none⟩), dv, xv, m.lv, m.mv])
    (hd : w'.ownsRow 0 33 1 dv (st.length + 1) ((st.map fun t => Value.pointer (some ⟨t.p, 0, none⟩)) ++ [.pointer (some ⟨t.p, 0, none⟩)])) (hx : w'.ownsRow 0 34 1 xv (st.length + 1) ((st.map fun t => Value.pointer (some ⟨t.q, 0, none⟩)) ++ [.pointer (some ⟨t.q, 0, none⟩)]))
    (ht : t'.ok w') (hn : ∀ k, t'.F k → w.heap.size ≤ k) : PS w' { m with dv := dv, xv := xv } t' (st ++ [t]) ks Z :=
  ⟨h.1.more hC hB hd hx ht hn, fun i k hk => (h.2 i k hk).chg hC h.1.offZ⟩

end Go.Proofs.Ytgmcfejmhlglkaa
