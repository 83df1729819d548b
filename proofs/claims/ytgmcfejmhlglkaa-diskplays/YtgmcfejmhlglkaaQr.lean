/-
  A pair whose disk at hand may be one of those that were put by: what it keeps, reads, tells. As PrM to PrD, but for two fields.
-/
import Derived.Test.YtgmcfejmhlglkaaPrD
namespace Go.Proofs.Ytgmcfejmhlglkaa.Q
open Go.RowKit
set_option linter.unusedVariables false
set_option linter.unusedSimpArgs false

structure PR (w : World) (m : PM) (t : It) (st : List It) (L : List Value) (M : List Int) (Z : Nat → Prop) : Prop where
  blk : Blk w m.pp 39 [.pointer (some ⟨t.p, 0, none⟩), .pointer (some ⟨t.q, 0, none⟩), m.dv, m.xv, m.lv, m.mv]
  dv : w.ownsRow 0 33 1 m.dv st.length (st.map fun t => .pointer (some ⟨t.p, 0, none⟩))
  xv : w.ownsRow 0 34 1 m.xv st.length (st.map fun t => .pointer (some ⟨t.q, 0, none⟩))
  lv : w.ownsRow 0 27 1 m.lv L.length L
  mv : w.ownsRow 0 5 1 m.mv M.length (cells8 M)
  it : t.ok w
  its : ∀ (i : Nat) (s : It), st[i]? = some s → s.ok w
  mt : ∀ k, t.F k → m.mv.ownBlock ≠ some k
  ms : ∀ (i : Nat) (s : It), st[i]? = some s → ∀ k, s.F k → m.mv.ownBlock ≠ some k
  mb : Byte M
  zt : ∀ k, Z k → ¬ t.F k
  zs : ∀ (i : Nat) (s : It), st[i]? = some s → ∀ k, Z k → ¬ s.F k
  zm : ∀ k, Z k → m.mv.ownBlock ≠ some k
  zl : ∀ k, Z k → k < w.heap.size
  zty : ∀ k, Z k → Tg w k 5
section
variable {w w' : World} {m : PM} {t : It} {st : List It} {L : List Value} {M : List Int} {Z : Nat → Prop}
theorem PR.tgm (h : PR w m t st L M Z) : ∀ k, m.F k → ∃ ty, Tg w k ty ∧ (ty = 39 ∨ ty = 33 ∨ ty = 34 ∨ ty = 27 ∨ (ty = 5 ∧ m.mv.ownBlock = some k)) := by
  rintro k (rfl | e | e | e | e)
  · exact ⟨_, h.blk.tg, .inl rfl⟩
  · exact ⟨_, owns_tg h.dv k e, .inr (.inl rfl)⟩
  · exact ⟨_, owns_tg h.xv k e, .inr (.inr (.inl rfl))⟩
  · exact ⟨_, owns_tg h.lv k e, .inr (.inr (.inr (.inl rfl)))⟩
  · exact ⟨_, owns_tg h.mv k e, .inr (.inr (.inr (.inr ⟨rfl, e⟩)))⟩
theorem PR.lt (h : PR w m t st L M Z) : ∀ k, FPp m t st k → k < w.heap.size := by
  rintro k (hk | hk | ⟨i, s, hs, hk⟩)
  · obtain ⟨ty, ⟨cs, fr, hh⟩, _⟩ := h.tgm k hk
    exact (Array.getElem?_eq_some_iff.1 hh).1
  · exact h.it.lt k hk
  · exact (h.its i s hs).lt k hk
theorem PR.chg {G : Nat → Prop} (h : PR w m t st L M Z) (hc : Chg G w w') (hG : ∀ k, FPp m t st k → ¬ G k) (hZ : ∀ k, Z k → ¬ G k) : PR w' m t st L M Z := by
  have hm : ∀ k, m.F k → ¬ G k := fun k hk => hG k (.inl hk)
  refine ⟨hc.blk h.blk (hm _ (.inl rfl)), hc.owns h.dv (fun g hg => hm g (.inr (.inl hg))), hc.owns h.xv (fun g hg => hm g (.inr (.inr (.inl hg)))), hc.owns h.lv (fun g hg => hm g (.inr (.inr (.inr (.inl hg))))), hc.owns h.mv (fun g hg => hm g (.inr (.inr (.inr (.inr hg))))), h.it.chg hc (fun k hk => hG k (.inr (.inl hk))), fun i s hs => (h.its i s hs).chg hc (fun k hk => hG k (.inr (.inr ⟨i, s, hs, hk⟩))), h.mt, h.ms, h.mb, h.zt, h.zs, h.zm, fun k hk => Nat.lt_of_lt_of_le (h.zl k hk) hc.size, fun k hk => ?_⟩
  obtain ⟨cs, fr, hh⟩ := h.zty k hk
  exact ⟨cs, fr, by rw [hc.block k (h.zl k hk) (hZ k hk)]; exact hh⟩
/-- What is kept is none of the pair's own. -/
theorem PR.zF (h : PR w m t st L M Z) : ∀ k, Z k → ¬ FPp m t st k := by
  rintro k hk (e | e | ⟨i, s, hs, e⟩)
  · obtain ⟨ty, h1, h2⟩ := h.tgm k e
    have e5 := (h.zty k hk).one h1
    subst e5
    rcases h2 with h2 | h2 | h2 | h2 | ⟨_, h2⟩
    · exact absurd h2 (by decide)
    · exact absurd h2 (by decide)
    · exact absurd h2 (by decide)
    · exact absurd h2 (by decide)
    · exact h.zm k hk h2
  · exact h.zt k hk e
  · exact h.zs i s hs k hk e
/-- One more list. -/
theorem PR.pushL (h : PR w m t st L M Z) {o : Obj} {w6 : World} {g6 c6 : Nat} {u : Value} (ho6 : w6.ownsRow 0 27 1 (.slice (some ⟨g6, 0, none⟩) (L.length + 1) c6) (L.length + 1) (L ++ [u])) (hp6 : Pushed (w.alloc o) w6 m.lv g6) :
    Blk w6 m.pp 39 [.pointer (some ⟨t.p, 0, none⟩), .pointer (some ⟨t.q, 0, none⟩), m.dv, m.xv, m.lv, m.mv] ∧
    PR (w6.setCell ⟨m.pp, 4, none⟩ (.slice (some ⟨g6, 0, none⟩) (L.length + 1) c6)) { m with lv := .slice (some ⟨g6, 0, none⟩) (L.length + 1) c6 } t st (L ++ [u]) M Z ∧
    Chg (fun k => k = m.pp ∨ m.lv.ownBlock = some k) w (w6.setCell ⟨m.pp, 4, none⟩ (.slice (some ⟨g6, 0, none⟩) (L.length + 1) c6)) ∧ (m.lv.ownBlock = some g6 ∨ w.heap.size ≤ g6) := by
  obtain ⟨hc, hm⟩ := hp6.chg
  have hlt := h.lt
  have hgn : m.lv.ownBlock = some g6 ∨ w.heap.size ≤ g6 := by
    rcases hm with e | ⟨g', e, hg'⟩
    · exact .inl e.symm
    · obtain rfl := Option.some.inj e
      exact .inr hg'
  have hppl : m.lv.ownBlock ≠ some m.pp := fun e => absurd ((owns_tg h.lv _ e).one h.blk.tg) (by decide)
  have hB6 := hc.blk h.blk hppl
  have hC : Chg (fun k => k = m.pp ∨ m.lv.ownBlock = some k) w (w6.setCell ⟨m.pp, 4, none⟩ (.slice (some ⟨g6, 0, none⟩) (L.length + 1) c6)) := (hc.mono (fun _ _ h => .inr h)).trans (Chg.set ⟨m.pp, 4, none⟩ _ w6) (fun _ _ h => .inl h)
  have offF : ∀ k, (t.F k ∨ ∃ (i : Nat) (s : It), st[i]? = some s ∧ s.F k) → ¬ (k = m.pp ∨ m.lv.ownBlock = some k) := by
    intro k hk e
    have hty : ∃ ty, Tg w k ty ∧ (ty = 80 ∨ ty = 82 ∨ ty = 75 ∨ ty = 86 ∨ ty = 5 ∨ ty = 3) := by
      rcases hk with hk | ⟨i, s, hs, hk⟩
      · exact h.it.tg k hk
      · exact (h.its i s hs).tg k hk
    obtain ⟨ty, h1, h2⟩ := hty
    rcases e with rfl | e
    · have := h1.one h.blk.tg
      subst this
      exact absurd h2 (by decide)
    · have := h1.one (owns_tg h.lv k e)
      subst this
      exact absurd h2 (by decide)
  have offZ : ∀ k, Z k → ¬ (k = m.pp ∨ m.lv.ownBlock = some k) := by
    intro k hk e
    rcases e with rfl | e
    · exact absurd ((h.zty _ hk).one h.blk.tg) (by decide)
    · exact absurd ((h.zty k hk).one (owns_tg h.lv k e)) (by decide)
  have own5 : ∀ (v : Value) (ty : TypeId) (n : Nat) (xs : List Value), w.ownsRow 0 ty 1 v n xs → ty ≠ 39 → ty ≠ 27 → (w6.setCell ⟨m.pp, 4, none⟩ (.slice (some ⟨g6, 0, none⟩) (L.length + 1) c6)).ownsRow 0 ty 1 v n xs := by
    intro v ty n xs ho h39 h27
    refine hC.owns ho (fun g hg e => ?_)
    rcases e with rfl | e
    · exact h39 ((owns_tg ho _ hg).one h.blk.tg)
    · exact h27 ((owns_tg ho g hg).one (owns_tg h.lv g e))
  have hg6pp : g6 ≠ m.pp := by
    rintro rfl
    rcases hgn with e | e
    · exact hppl e
    · have := h.blk.lt
      omega
  refine ⟨hB6, ⟨?_, own5 _ _ _ _ h.dv (by decide) (by decide), own5 _ _ _ _ h.xv (by decide) (by decide), ?_, own5 _ _ _ _ h.mv (by decide) (by decide), h.it.chg hC (fun k hk => offF k (.inl hk)), fun i s hs => (h.its i s hs).chg hC (fun k hk => offF k (.inr ⟨i, s, hs, hk⟩)), h.mt, h.ms, h.mb, h.zt, h.zs, h.zm, fun k hk => Nat.lt_of_lt_of_le (h.zl k hk) hC.size, fun k hk => ?_⟩, hC, hgn⟩
  · have := hB6.set 4 (.slice (some ⟨g6, 0, none⟩) (L.length + 1) c6)
    simpa only [List.set_cons_succ, List.set_cons_zero] using this
  · rw [List.length_append]
    exact (Chg.set ⟨m.pp, 4, none⟩ _ w6).owns ho6 (fun g hg e => hg6pp (by have e1 : g6 = g := Option.some.inj hg; have e2 : g = m.pp := e; omega))
  · obtain ⟨cs, fr, hh⟩ := h.zty k hk
    exact ⟨cs, fr, by rw [hC.block k (h.zl k hk) (offZ k hk)]; exact hh⟩
/-- One more mark. -/
theorem PR.pushM (h : PR w m t st L M Z) {o : Obj} {w6 : World} {g6 c6 : Nat} {x : Int} (hx : 0 ≤ x ∧ x ≤ 255) (ho6 : w6.ownsRow 0 5 1 (.slice (some ⟨g6, 0, none⟩) (M.length + 1) c6) (M.length + 1) (cells8 M ++ [.int .u8 x])) (hp6 : Pushed (w.alloc o) w6 m.mv g6) :
    Blk w6 m.pp 39 [.pointer (some ⟨t.p, 0, none⟩), .pointer (some ⟨t.q, 0, none⟩), m.dv, m.xv, m.lv, m.mv] ∧
    PR (w6.setCell ⟨m.pp, 5, none⟩ (.slice (some ⟨g6, 0, none⟩) (M.length + 1) c6)) { m with mv := .slice (some ⟨g6, 0, none⟩) (M.length + 1) c6 } t st L (M ++ [x]) Z ∧
    Chg (fun k => k = m.pp ∨ m.mv.ownBlock = some k) w (w6.setCell ⟨m.pp, 5, none⟩ (.slice (some ⟨g6, 0, none⟩) (M.length + 1) c6)) ∧ (m.mv.ownBlock = some g6 ∨ w.heap.size ≤ g6) := by
  obtain ⟨hc, hm⟩ := hp6.chg
  have hgn : m.mv.ownBlock = some g6 ∨ w.heap.size ≤ g6 := by
    rcases hm with e | ⟨g', e, hg'⟩
    · exact .inl e.symm
    · obtain rfl := Option.some.inj e
      exact .inr hg'
  have hppl : m.mv.ownBlock ≠ some m.pp := fun e => absurd ((owns_tg h.mv _ e).one h.blk.tg) (by decide)
  have hB6 := hc.blk h.blk hppl
  have hC : Chg (fun k => k = m.pp ∨ m.mv.ownBlock = some k) w (w6.setCell ⟨m.pp, 5, none⟩ (.slice (some ⟨g6, 0, none⟩) (M.length + 1) c6)) := (hc.mono (fun _ _ h => .inr h)).trans (Chg.set ⟨m.pp, 5, none⟩ _ w6) (fun _ _ h => .inl h)
  have offT : ∀ k, t.F k → ¬ (k = m.pp ∨ m.mv.ownBlock = some k) := by
    intro k hk e
    rcases e with rfl | e
    · obtain ⟨ty, h1, h2⟩ := h.it.tg _ hk
      have := h1.one h.blk.tg
      subst this
      exact absurd h2 (by decide)
    · exact h.mt k hk e
  have offS : ∀ (i : Nat) (s : It), st[i]? = some s → ∀ k, s.F k → ¬ (k = m.pp ∨ m.mv.ownBlock = some k) := by
    intro i s hs k hk e
    rcases e with rfl | e
    · obtain ⟨ty, h1, h2⟩ := (h.its i s hs).tg _ hk
      have := h1.one h.blk.tg
      subst this
      exact absurd h2 (by decide)
    · exact h.ms i s hs k hk e
  have offZ : ∀ k, Z k → ¬ (k = m.pp ∨ m.mv.ownBlock = some k) := by
    intro k hk e
    rcases e with rfl | e
    · exact absurd ((h.zty _ hk).one h.blk.tg) (by decide)
    · exact h.zm k hk e
  have own5 : ∀ (v : Value) (ty : TypeId) (n : Nat) (xs : List Value), w.ownsRow 0 ty 1 v n xs → ty ≠ 39 → ty ≠ 5 → (w6.setCell ⟨m.pp, 5, none⟩ (.slice (some ⟨g6, 0, none⟩) (M.length + 1) c6)).ownsRow 0 ty 1 v n xs := by
    intro v ty n xs ho h39 h27
    refine hC.owns ho (fun g hg e => ?_)
    rcases e with rfl | e
    · exact h39 ((owns_tg ho _ hg).one h.blk.tg)
    · exact h27 ((owns_tg ho g hg).one (owns_tg h.mv g e))
  have hg6pp : g6 ≠ m.pp := by
    rintro rfl
    rcases hgn with e | e
    · exact hppl e
    · have := h.blk.lt
      omega
  have new : ∀ k, k < w.heap.size → m.mv.ownBlock ≠ some k → (Value.slice (some ⟨g6, 0, none⟩) (M.length + 1) c6).ownBlock ≠ some k := by
    intro k hk hne e
    have e1 : g6 = k := Option.some.inj e
    subst e1
    rcases hgn with e | e
    · exact hne e
    · omega
  refine ⟨hB6, ⟨?_, own5 _ _ _ _ h.dv (by decide) (by decide), own5 _ _ _ _ h.xv (by decide) (by decide), own5 _ _ _ _ h.lv (by decide) (by decide), ?_, h.it.chg hC offT, fun i s hs => (h.its i s hs).chg hC (offS i s hs), fun k hk => new k (h.it.lt k hk) (h.mt k hk), fun i s hs k hk => new k ((h.its i s hs).lt k hk) (h.ms i s hs k hk), h.mb.append (fun z hz => by simp at hz; subst hz; exact hx), h.zt, h.zs, fun k hk => new k (h.zl k hk) (h.zm k hk), fun k hk => Nat.lt_of_lt_of_le (h.zl k hk) hC.size, fun k hk => ?_⟩, hC, hgn⟩
  · have := hB6.set 5 (.slice (some ⟨g6, 0, none⟩) (M.length + 1) c6)
    simpa only [List.set_cons_succ, List.set_cons_zero] using this
  · rw [List.length_append, cells8_append]
    exact (Chg.set ⟨m.pp, 5, none⟩ _ w6).owns ho6 (fun g hg e => hg6pp (by have e1 : g6 = g := Option.some.inj hg; have e2 : g = m.pp := e; omega))
  · obtain ⟨cs, fr, hh⟩ := h.zty k hk
    exact ⟨cs, fr, by rw [hC.block k (h.zl k hk) (offZ k hk)]; exact hh⟩
/-- One more block is kept. -/
theorem PR.addZ (h : PR w m t st L M Z) (g : Nat) (hg : Tg w g 5) (hF : ¬ FPp m t st g) : PR w m t st L M (fun k => Z k ∨ k = g) := by
  have hgl : g < w.heap.size := by
    obtain ⟨cs, fr, hh⟩ := hg
    exact (Array.getElem?_eq_some_iff.1 hh).1
  refine ⟨h.blk, h.dv, h.xv, h.lv, h.mv, h.it, h.its, h.mt, h.ms, h.mb, ?_, ?_, ?_, ?_, ?_⟩
  · rintro k (hk | rfl) e
    · exact h.zt k hk e
    · exact hF (.inr (.inl e))
  · rintro i s hs k (hk | rfl) e
    · exact h.zs i s hs k hk e
    · exact hF (.inr (.inr ⟨i, s, hs, e⟩))
  · rintro k (hk | rfl) e
    · exact h.zm k hk e
    · exact hF (.inl (.inr (.inr (.inr (.inr e)))))
  · rintro k (hk | rfl)
    · exact h.zl k hk
    · exact hgl
  · rintro k (hk | rfl)
    · exact h.zty k hk
    · exact hg
theorem PR.addZs (h : PR w m t st L M Z) (ad : Option Addr) (n c : Nat) (xs : List Value) (ho : w.ownsRow 0 5 1 (.slice ad n c) n xs) (hF : ∀ g, (Value.slice ad n c).ownBlock = some g → ¬ FPp m t st g) : PR w m t st L M (fun k => Z k ∨ (Value.slice ad n c).ownBlock = some k) := by
  cases hb : (Value.slice ad n c).ownBlock with
  | none =>
    have e : (fun k => Z k ∨ (none : Option Nat) = some k) = Z := by
      funext k
      simp
    rw [e]
    exact h
  | some g =>
    have := h.addZ g (owns_tg ho g hb) (hF g hb)
    have e : (fun k => Z k ∨ (some g : Option Nat) = some k) = (fun k => Z k ∨ k = g) := by
      funext k
      simp [eq_comm]
    rw [e]
    exact this
end


set_option maxRecDepth 10000 in
set_option maxHeartbeats 4000000 in
theorem keep_any (w : World) (m : PM) (t : It) (st : List It) (L : List Value) (M : List Int) (Z : Nat → Prop) (h : PR w m t st L M Z) (ad : Option Addr) (n c : Nat) (xs : List Int) (ho : w.ownsRow 0 5 1 (.slice ad n c) n (cells8 xs)) (hn : n ≤ 16777216) (hml : M.length = L.length) (hll : L.length ≤ 1099511627776)
    (hv : ∀ g, (Value.slice ad n c).ownBlock = some g → ¬ FPp m t st g ∧ ¬ Z g) (x : Int) (hx : x = ((L.length + 1 : Nat) : Int) % 256) :
    Calls Try.prog 53 #[.pointer (some ⟨m.pp, 0, none⟩), .slice ad n c] w fun e w' => e = .returned (.tuple #[]) ∧ ∃ m' a' c' Z', m'.pp = m.pp ∧ m'.dv = m.dv ∧ m'.xv = m.xv ∧ PR w' m' t st (L ++ [.slice ad n c] ++ [.slice a' (n + 40) c']) (M ++ [x] ++ [x]) Z' ∧ Sl w' ad n (List.replicate n x) ∧ Sl w' a' (n + 40) (List.replicate (n + 40) x) ∧ (∀ k, Z k → Z' k) ∧
      (∀ k, Z' k → Z k ∨ (Value.slice ad n c).ownBlock = some k ∨ w.heap.size ≤ k) ∧ (∀ y, ad = some y → Z' y.block) ∧ (∀ y, a' = some y → Z' y.block) ∧ Chg (fun k => m.F k ∨ (Value.slice ad n c).ownBlock = some k) w w' ∧ (∀ k, m'.F k → m.F k ∨ w.heap.size ≤ k) := by
  have hxb : 0 ≤ x ∧ x ≤ 255 := by omega
  have hlen : xs.length = n := by have := ho.1; rw [cells8_length] at this; omega
  have had : ad = none ∨ ∃ b, ad = some ⟨b, 0, none⟩ := by
    rcases ho.2 with ⟨h0, _⟩ | ⟨g, cap, cur, h0, _⟩
    · simp only [Value.slice.injEq] at h0
      exact .inl h0.1
    · simp only [Value.slice.injEq] at h0
      exact .inr ⟨g, h0.1⟩
  have c4 := h.blk.cell 4
  simp only [List.getElem?_cons_succ, List.getElem?_cons_zero] at c4
  obtain ⟨la, lc, hlv⟩ := owns_form h.lv
  rw [hlv] at c4
  obtain ⟨ma, mc, hmv⟩ := owns_form h.mv
  obtain ⟨N, hN⟩ : ∃ N, L.length = N := ⟨_, rfl⟩
  rw [hN] at c4 hll hx
  have hwr : IntKind.u8.wrap ((N : Int) + 1) = x := by
    rw [hx]
    simp [IntKind.wrap, IntKind.signed, IntKind.bits]
  have HH := hidden h
  have HO := hidden ho
  have HV := hidden hv
  have HAD := hidden had
  have HN := hidden hN
  have HLEN := hidden hlen
  have HLV := hidden hlv
  have HMV := hidden hmv
  have HMV2 := hidden hmv
  have HML := hidden hml
  have HX := hidden hxb
  have HXE := hidden hx
  obtain ⟨pp, hpp⟩ : ∃ pp, m.pp = pp := ⟨_, rfl⟩
  have HPP := hidden hpp
  rw [hpp] at c4
  simp only [hpp]
  clear h ho hv had hN hlen hlv hml hx hpp hmv
  obtain ⟨i0, hi0, hz0, hz1, hz2⟩ := info_parts info5
  obtain ⟨i27, hi27, hy0, hy1, hy2⟩ := info_parts info27
  go_enter Try.func53, Try.ntmps53
  go_wp2_with fail
  go_loopw [5] (fun iv wr => ∃ i : Nat, i ≤ n ∧ iv = .int .i64 (i : Int) ∧ wr.ownsRow 0 5 1 (.slice ad n c) n (cells8 (List.replicate i x ++ xs.drop i)) ∧ Chg (fun k => (Value.slice ad n c).ownBlock = some k) w wr) (fun iv _ => n - (intOf iv).toNat)
  case atStart => exact ⟨0, Nat.zero_le _, rfl, by simpa using HO.out, Chg.refl _ _⟩
  case round =>
    rename World => wr
    obtain ⟨i, hi, rfl, hO, hC⟩ := hrel
    have HC := hidden hC
    have HOr := hidden hO
    clear hC
    by_cases hin : i < n
    · obtain ⟨b, rfl⟩ : ∃ b, ad = some ⟨b, 0, none⟩ := by
        rcases HAD.out with rfl | hb
        · have := (owns_none HO.out rfl).1
          omega
        · exact hb
      have hci : wr.cell? ⟨b, i, none⟩ = some (.int .u8 (xs.getD i 0)) := owns_cell hO _ _ (fillx_cell xs x i (by rw [HLEN.out]; exact hin))
      have hfi := owns_frozen hO i
      clear hO
      have H2 : Hid ((wr.setCell ⟨b, i, none⟩ (.int .u8 x)).ownsRow 0 5 1 (.slice (some ⟨b, 0, none⟩) n c) n (cells8 (List.replicate (i + 1) x ++ xs.drop (i + 1)))) := by
        have := owns_setv HOr.out i (.int .u8 x) (by rw [cells8_length]; have := HLEN.out; simp; omega)
        rw [fillx_set xs x i (by rw [HLEN.out]; exact hin)] at this
        exact this
      have H3 : Hid (Chg (fun k => (Value.slice (some ⟨b, 0, none⟩) n c).ownBlock = some k) w (wr.setCell ⟨b, i, none⟩ (.int .u8 x))) := HC.out.trans (Chg.set ⟨b, i, none⟩ _ wr) (fun k _ e => by have e2 : k = b := e; subst e2; rfl)
      go_wp2_with fail
      refine ⟨⟨i + 1, by omega, by first | rfl | simp, H2.out, H3.out⟩, ?_⟩
      simp [intOf]
      omega
    · have hie : i = n := by omega
      subst hie
      clear hO
      have hPR1 : PR wr m t st L M Z := HH.out.chg HC.out (fun k hk e => (HV.out k e).1 hk) (fun k hk e => (HV.out k e).2 hk)
      have hO1 : wr.ownsRow 0 5 1 (.slice ad i c) i (cells8 (List.replicate i x)) := by
        have := HOr.out
        rw [List.drop_eq_nil_of_le (by rw [HLEN.out]; exact Nat.le_refl _), List.append_nil] at this
        exact this
      have d4 := hPR1.blk.cell 4
      simp only [List.getElem?_cons_succ, List.getElem?_cons_zero] at d4
      rw [HPP.out, HLV.out, HN.out] at d4
      have hol : wr.ownsRow 0 27 1 (.slice la N lc) N L := by
        have := hPR1.lv
        rw [HLV.out, HN.out] at this
        exact this
      have HOL := hidden hol
      have HPR1 := hidden hPR1
      have HO1 := hidden hO1
      clear hPR1 hO1 hol HOr
      go_upto_region 6 with (at_builtin; (refine wpList_push _ rfl (.tmp 28) (.tmp 30) 37 rfl 27 i27 (.slice none 0 0) 24 Try.underlying37 hi27 hy0 hy1 hy2 rfl 0 (.slice la N lc) N L rfl (by exact (Chg.alloc (fun _ => False) wr _).owns HOL.out (fun _ _ h => h)) ⟨wr.heap.size, 0, none⟩ (.slice ad i c) rfl (by first | (simp; done) | (simp; omega)) rfl (by unfold maxLen; omega) (by omega) (Nat.zero_le _) ?_); intro g6 c6 w6 ho6 hp6; obtain ⟨B6, P6, C6, G6⟩ := HPR1.out.pushL (by rw [HN.out]; exact ho6) (by rw [HLV.out, HN.out]; exact hp6); rw [HPP.out, HLV.out, HMV.out, HML.out, HN.out] at B6; rw [HPP.out, HN.out] at P6 C6; have d0 : w6.cell? ⟨pp, 4, none⟩ = some (.slice la N lc) := B6.cell 4; have f0 := B6.frozen 4; have HP6 := hidden P6; have HC6 := hidden C6; have HG6 := hidden G6; clear B6 P6 C6 G6 ho6 hp6)
      generalize w6.setCell ⟨pp, 4, none⟩ (.slice (some ⟨g6, 0, none⟩) (N + 1) c6) = w7 at HP6 HC6 ⊢
      clear d0 f0 d4
      have d5 : w7.cell? ⟨pp, 5, none⟩ = some (.slice ma N mc) := by have := HP6.out.blk.cell 5; simp only [List.getElem?_cons_succ, List.getElem?_cons_zero, HPP.out, HMV.out, HML.out, HN.out] at this; exact this
      have hmv7 : w7.ownsRow 0 5 1 (.slice ma N mc) N (cells8 M) := by have := HP6.out.mv; simp only [HMV.out, HML.out, HN.out] at this; exact this
      have HMV7 := hidden hmv7
      clear hmv7
      go_upto_region 7 with (at_builtin; (refine wpList_push _ rfl (.tmp 38) (.tmp 40) 27 rfl 5 i0 (.int .u8 0) 1 Try.underlying27 hi0 hz0 hz1 hz2 rfl 0 (.slice ma N mc) N (cells8 M) rfl (by exact (Chg.alloc (fun _ => False) w7 _).owns HMV7.out (fun _ _ h => h)) ⟨w7.heap.size, 0, none⟩ (.int .u8 x) rfl (by first | (simp; done) | (simp; omega)) rfl (by unfold maxLen; omega) (by omega) (Nat.zero_le _) ?_); intro g7 c7 w8 ho8 hp8; obtain ⟨B8, P8, C8, G8⟩ := HP6.out.pushM HX.out (by rw [HML.out, HN.out]; exact ho8) (by simp only [HMV.out, HML.out, HN.out]; exact hp8); simp only [HPP.out, HMV.out, HML.out, HN.out] at B8 P8 C8; have d0 : w8.cell? ⟨pp, 5, none⟩ = some (.slice ma N mc) := B8.cell 5; have f0 := B8.frozen 5; have HP8 := hidden P8; have HC8 := hidden C8; have HG8 := hidden G8; clear B8 P8 C8 G8 ho8 hp8)
      generalize w8.setCell ⟨pp, 5, none⟩ (.slice (some ⟨g7, 0, none⟩) (N + 1) c7) = w9 at HP8 HC8 ⊢
      clear d0 f0 d5
      have hvb : ∀ g, (Value.slice ad i c).ownBlock = some g → g < wr.heap.size ∧ g ≠ pp ∧ (Value.slice la N lc).ownBlock ≠ some g ∧ (Value.slice ma N mc).ownBlock ≠ some g := by
        intro g hg
        refine ⟨(HO1.out.lt g hg).2, fun e => (HV.out g hg).1 (.inl (.inl (by rw [HPP.out]; exact e))), fun e => (HV.out g hg).1 (.inl (.inr (.inr (.inr (.inl ?_))))), fun e => (HV.out g hg).1 (.inl (.inr (.inr (.inr (.inr ?_)))))⟩
        · rw [HLV.out, HN.out]
          exact e
        · rw [HMV.out, HML.out, HN.out]
          exact e
      have hC6' : Chg (fun k => k = pp ∨ (Value.slice la N lc).ownBlock = some k) wr w7 := by have := HC6.out; rw [HLV.out, HN.out] at this; exact this
      have hO9 : w9.ownsRow 0 5 1 (.slice ad i c) i (cells8 (List.replicate i x)) := by
        refine HC8.out.owns (hC6'.owns HO1.out (fun g hg e => ?_)) (fun g hg e => ?_)
        · obtain ⟨_, h1, h2, h3⟩ := hvb g hg
          rcases e with e | e
          · exact h1 e
          · exact h2 e
        · obtain ⟨_, h1, h2, h3⟩ := hvb g hg
          rcases e with e | e
          · exact h1 e
          · exact h3 e
      obtain ⟨m9, hm9⟩ : ∃ m9 : PM, ({ pp := pp, dv := m.dv, xv := m.xv, lv := Value.slice (some ⟨g6, 0, none⟩) (N + 1) c6, mv := Value.slice (some ⟨g7, 0, none⟩) (N + 1) c7 } : PM) = m9 := ⟨_, rfl⟩
      have hw7 : wr.heap.size ≤ w7.heap.size := hC6'.size
      have hgl6 : m.lv.ownBlock = some g6 ∨ wr.heap.size ≤ g6 := HG6.out
      have hgm7 : m.mv.ownBlock = some g7 ∨ w7.heap.size ≤ g7 := HG8.out
      have hwr0 : w.heap.size ≤ wr.heap.size := HC.out.size
      have hm9F : ∀ k, m9.F k → m.F k ∨ w.heap.size ≤ k := by
        rintro k hk
        rw [← hm9] at hk
        rcases hk with e | e | e | e | e
        · exact .inl (.inl (by rw [HPP.out]; exact e))
        · exact .inl (.inr (.inl e))
        · exact .inl (.inr (.inr (.inl e)))
        · have e1 : g6 = k := Option.some.inj e
          subst e1
          rcases hgl6 with e2 | e2
          · exact .inl (.inr (.inr (.inr (.inl e2))))
          · exact .inr (by omega)
        · have e1 : g7 = k := Option.some.inj e
          subst e1
          rcases hgm7 with e2 | e2
          · exact .inl (.inr (.inr (.inr (.inr e2))))
          · exact .inr (by omega)
      have hnF9 : ∀ g, (Value.slice ad i c).ownBlock = some g → ¬ FPp m9 t st g ∧ ¬ Z g := by
        intro g hg
        refine ⟨?_, (HV.out g hg).2⟩
        rintro (hk | hk)
        · rw [← hm9] at hk
          have hgl := (hvb g hg).1
          rcases hk with e | e | e | e | e
          · exact (hvb g hg).2.1 e
          · exact (HV.out g hg).1 (.inl (.inr (.inl e)))
          · exact (HV.out g hg).1 (.inl (.inr (.inr (.inl e))))
          · have e1 : g6 = g := Option.some.inj e
            subst e1
            rcases hgl6 with e2 | e2
            · exact (HV.out g6 hg).1 (.inl (.inr (.inr (.inr (.inl e2)))))
            · omega
          · have e1 : g7 = g := Option.some.inj e
            subst e1
            rcases hgm7 with e2 | e2
            · exact (HV.out g7 hg).1 (.inl (.inr (.inr (.inr (.inr e2)))))
            · omega
        · exact (HV.out g hg).1 (.inr hk)
      have hC9 : Chg (fun k => m.F k ∨ (Value.slice ad i c).ownBlock = some k) w w9 := by
        refine ((HC.out.mono (fun _ _ h => .inr h)).trans hC6' (fun k hk e => ?_)).trans HC8.out (fun k hk e => ?_)
        · rcases e with e | e
          · exact .inl (.inl (by rw [HPP.out]; exact e))
          · exact .inl (.inr (.inr (.inr (.inl (by rw [HLV.out, HN.out]; exact e)))))
        · rcases e with e | e
          · exact .inl (.inl (by rw [HPP.out]; exact e))
          · exact .inl (.inr (.inr (.inr (.inr (by rw [HMV.out, HML.out, HN.out]; exact e)))))
      rw [hm9] at HP8
      have hpp9 : m9.pp = pp := by rw [← hm9]
      have hlv9 : m9.lv = .slice (some ⟨g6, 0, none⟩) (N + 1) c6 := by rw [← hm9]
      have hmv9 : m9.mv = .slice (some ⟨g7, 0, none⟩) (N + 1) c7 := by rw [← hm9]
      have hdv9 : m9.dv = m.dv ∧ m9.xv = m.xv := by rw [← hm9]; exact ⟨rfl, rfl⟩
      have HO9 := hidden hO9
      have HNF := hidden hnF9
      have HC9 := hidden hC9
      have HMF := hidden hm9F
      have HPP9 := hidden hpp9
      have HLV9 := hidden hlv9
      have HMV9 := hidden hmv9
      have HDV9 := hidden hdv9
      clear hvb hC6' hO9 hw7 hgl6 hgm7 hwr0 hm9F hnF9 hC9 hpp9 hlv9 hmv9 hdv9 hm9 HC6 HC8 HG6 HG8 HP6 HMV7 HOL HPR1 HO1 HC
      go_wp2_with fail
      go_loopw [1, 6] (fun sv jv wz => ∃ (j : Nat) (a' : Option Addr) (c' : Nat), j ≤ 40 ∧ jv = .int .i64 (j : Int) ∧ sv = .slice a' (i + j) c' ∧ wz.ownsRow 0 5 1 (.slice a' (i + j) c') (i + j) (cells8 (List.replicate (i + j) x)) ∧ Sl wz ad i (List.replicate i x) ∧ PR wz m9 t st (L ++ [.slice ad i c]) (M ++ [x]) Z ∧ (∀ g, (Value.slice a' (i + j) c').ownBlock = some g → ((Value.slice ad i c).ownBlock = some g ∨ w.heap.size ≤ g) ∧ ¬ FPp m9 t st g ∧ ¬ Z g) ∧ (∀ g, (Value.slice ad i c).ownBlock = some g → ¬ FPp m9 t st g ∧ Tg wz g 5) ∧ Chg (fun k => m.F k ∨ (Value.slice ad i c).ownBlock = some k) w wz) (fun _ jv _ => 40 - (intOf jv).toNat)
      case atStart => exact ⟨0, ad, c, by omega, rfl, rfl, HO9.out, sl_of_owns HO9.out (byte_rep _ HX.out), HP8.out, fun g hg => ⟨.inl hg, HNF.out g hg⟩, fun g hg => ⟨(HNF.out g hg).1, owns_tg HO9.out g hg⟩, HC9.out⟩
      case round =>
        rename World => wz
        obtain ⟨j, a', c', hj, rfl, rfl, r1, r2, r3, r4, r5, r6⟩ := hrel
        have R1 := hidden r1
        have R2 := hidden r2
        have R3 := hidden r3
        have R4 := hidden r4
        have R5 := hidden r5
        have R6 := hidden r6
        clear r1 r2 r3 r4 r5 r6 HO9 HP8 HC9
        by_cases hj40 : j < 40
        · go_wp2_with (at_builtin; (refine wpList_push _ rfl (.tmp 48) (.tmp 50) 27 rfl 5 i0 (.int .u8 0) 1 Try.underlying27 hi0 hz0 hz1 hz2 rfl 0 (.slice a' (i + j) c') (i + j) (cells8 (List.replicate (i + j) x)) rfl (by exact (Chg.alloc (fun _ => False) wz _).owns R1.out (fun _ _ h => h)) ⟨wz.heap.size, 0, none⟩ (.int .u8 x) rfl (by first | (simp; done) | (simp; omega)) rfl (by unfold maxLen; omega) (by omega) (Nat.zero_le _) ?_); intro gj cj wj hoj hpj; have HOJ := hidden hoj; have HPJ := hidden hpj; clear hoj hpj)
          have e1 : cells8 (List.replicate (i + j) x) ++ [.int .u8 x] = cells8 (List.replicate (i + (j + 1)) x) := by
            rw [← Nat.add_assoc, List.replicate_succ', cells8_append]
            rfl
          have hoj := HOJ.out
          rw [e1] at hoj
          obtain ⟨hcj, hmj⟩ := HPJ.out.chg
          have hnew : ∀ g, (Value.slice (some ⟨gj, 0, none⟩) (i + (j + 1)) cj).ownBlock = some g → (Value.slice a' (i + j) c').ownBlock = some g ∨ wz.heap.size ≤ g := by
            intro g hg
            have e2 : gj = g := Option.some.inj hg
            subst e2
            rcases hmj with e | ⟨g', e, hg'⟩
            · exact .inl e.symm
            · obtain rfl := Option.some.inj e
              exact .inr hg'
          refine ⟨⟨j + 1, some ⟨gj, 0, none⟩, cj, by omega, by first | rfl | simp, by first | rfl | (rw [Nat.add_assoc]), hoj, sl_pushed HX.out R2.out HAD.out hoj HPJ.out, R3.out.chg hcj (fun k hk e => (R4.out k e).2.1 hk) (fun k hk e => (R4.out k e).2.2 hk), fun g hg => ?_, fun g hg => ⟨(R5.out g hg).1, ?_⟩, R6.out.trans hcj (fun k hk e => ?_)⟩, ?_⟩
          · rcases hnew g hg with e | e
            · exact R4.out g e
            · have hs := R6.out.size
              refine ⟨.inr (by omega), fun hk => ?_, fun hk => ?_⟩
              · have := R3.out.lt g hk
                omega
              · have := R3.out.zl g hk
                omega
          · obtain ⟨cs, fr, hh⟩ := (R5.out g hg).2
            have hgl := (Array.getElem?_eq_some_iff.1 hh).1
            by_cases he : g = gj
            · subst he
              exact owns_tg hoj g rfl
            · have hgr : wj.heap[g]? = wz.heap[g]? := by
                have ha : (wz.alloc (.cells #[.int .u8 x] 5)).heap[g]? = wz.heap[g]? := Below.heap_alloc _ _ _ hgl
                rcases HPJ.out with ⟨q1, q2⟩ | ⟨q1, q2⟩
                · rw [q2.block g (by simp; omega) (fun e => he (Option.some.inj e)), ha]
                · rw [q2.block g (by simp; omega) (fun e => by cases e), ha]
              exact ⟨cs, fr, by rw [hgr]; exact hh⟩
          · rcases (R4.out k e).1 with e2 | e2
            · exact .inr e2
            · omega
          · simp [intOf]
            omega
        · have hj4 : j = 40 := by omega
          subst hj4
          have d4 : wz.cell? ⟨pp, 4, none⟩ = some (.slice (some ⟨g6, 0, none⟩) (N + 1) c6) := by have := R3.out.blk.cell 4; simp only [List.getElem?_cons_succ, List.getElem?_cons_zero, HPP9.out, HLV9.out] at this; exact this
          have hol : wz.ownsRow 0 27 1 (.slice (some ⟨g6, 0, none⟩) (N + 1) c6) (N + 1) (L ++ [.slice ad i c]) := by have := R3.out.lv; simp only [HLV9.out, List.length_append, List.length_cons, List.length_nil, HN.out, Nat.zero_add] at this; exact this
          have HOL := hidden hol
          have hlen1 : (L ++ [Value.slice ad i c]).length = N + 1 := by simp [HN.out]
          have hlen2 : (M ++ [x]).length = N + 1 := by simp [HML.out, HN.out]
          have HL1 := hidden hlen1
          have HL2 := hidden hlen2
          clear hol hlen1 hlen2
          go_upto_region 12 with (at_builtin; (refine wpList_push _ rfl (.tmp 56) (.tmp 58) 37 rfl 27 i27 (.slice none 0 0) 24 Try.underlying37 hi27 hy0 hy1 hy2 rfl 0 (.slice (some ⟨g6, 0, none⟩) (N + 1) c6) (N + 1) (L ++ [.slice ad i c]) rfl (by exact (Chg.alloc (fun _ => False) wz _).owns HOL.out (fun _ _ h => h)) ⟨wz.heap.size, 0, none⟩ (.slice a' (i + 40) c') rfl (by first | (simp; done) | (simp; omega)) rfl (by unfold maxLen; omega) (by omega) (Nat.zero_le _) ?_); intro ga ca wa hoa hpa; obtain ⟨B6, P6, C6, G6⟩ := R3.out.pushL (by rw [HL1.out]; exact hoa) (by rw [HLV9.out]; exact hpa); simp only [HPP9.out, HLV9.out, HL1.out] at B6 P6 C6 G6; have d0 : wa.cell? ⟨pp, 4, none⟩ = some (.slice (some ⟨g6, 0, none⟩) (N + 1) c6) := B6.cell 4; have f0 := B6.frozen 4; have HPa := hidden P6; have HCa := hidden C6; have HGa := hidden G6; clear B6 P6 C6 G6 hoa hpa)
          generalize wa.setCell ⟨pp, 4, none⟩ (.slice (some ⟨ga, 0, none⟩) (N + 1 + 1) ca) = wb at HPa HCa ⊢
          clear d0 f0 d4
          have d5 : wb.cell? ⟨pp, 5, none⟩ = some (.slice (some ⟨g7, 0, none⟩) (N + 1) c7) := by have := HPa.out.blk.cell 5; simp only [List.getElem?_cons_succ, List.getElem?_cons_zero, HMV9.out] at this; exact this
          have hmvb : wb.ownsRow 0 5 1 (.slice (some ⟨g7, 0, none⟩) (N + 1) c7) (N + 1) (cells8 (M ++ [x])) := by have := HPa.out.mv; simp only [HMV9.out, HL2.out] at this; exact this
          have HMVb := hidden hmvb
          clear hmvb
          go_wp2_with (at_builtin; (refine wpList_push _ rfl (.tmp 66) (.tmp 68) 27 rfl 5 i0 (.int .u8 0) 1 Try.underlying27 hi0 hz0 hz1 hz2 rfl 0 (.slice (some ⟨g7, 0, none⟩) (N + 1) c7) (N + 1) (cells8 (M ++ [x])) rfl (by exact (Chg.alloc (fun _ => False) wb _).owns HMVb.out (fun _ _ h => h)) ⟨wb.heap.size, 0, none⟩ (.int .u8 x) rfl (by first | (simp; done) | (simp; omega)) rfl (by unfold maxLen; omega) (by omega) (Nat.zero_le _) ?_); intro gc cc wc hoc hpc; obtain ⟨B8, P8, C8, G8⟩ := HPa.out.pushM HX.out (by rw [HL2.out]; exact hoc) (by simp only [HMV9.out]; exact hpc); simp only [HMV9.out, HL2.out] at B8 P8 C8 G8; have d0 : wc.cell? ⟨pp, 5, none⟩ = some (.slice (some ⟨g7, 0, none⟩) (N + 1) c7) := B8.cell 5; have f0 := B8.frozen 5; have HPc := hidden P8; have HCc := hidden C8; have HGc := hidden G8; clear B8 P8 C8 G8 hoc hpc)
          go_end0
          generalize wc.setCell ⟨pp, 5, none⟩ (.slice (some ⟨gc, 0, none⟩) (N + 1 + 1) cc) = wd at HPc HCc ⊢
          have h9pp : m9.F pp := .inl HPP9.out.symm
          have h9g6 : m9.F g6 := .inr (.inr (.inr (.inl (by rw [HLV9.out]; rfl))))
          have h9g7 : m9.F g7 := .inr (.inr (.inr (.inr (by rw [HMV9.out]; rfl))))
          have offA : ∀ g, ¬ FPp m9 t st g → ¬ (g = pp ∨ (Value.slice (some ⟨g6, 0, none⟩) (N + 1) c6).ownBlock = some g) := by
            rintro g hg (e | e)
            · subst e
              exact hg (.inl h9pp)
            · have e1 : g6 = g := Option.some.inj e
              subst e1
              exact hg (.inl h9g6)
          have offC : ∀ g, ¬ FPp m9 t st g → ¬ (g = pp ∨ (Value.slice (some ⟨g7, 0, none⟩) (N + 1) c7).ownBlock = some g) := by
            rintro g hg (e | e)
            · subst e
              exact hg (.inl h9pp)
            · have e1 : g7 = g := Option.some.inj e
              subst e1
              exact hg (.inl h9g7)
          have nF : ∀ g, g < wz.heap.size → ¬ FPp m9 t st g → ¬ FPp { pp := pp, dv := m9.dv, xv := m9.xv, lv := Value.slice (some ⟨ga, 0, none⟩) (N + 1 + 1) ca, mv := Value.slice (some ⟨gc, 0, none⟩) (N + 1 + 1) cc } t st g := by
            rintro g hgl hg (hk | hk)
            · rcases hk with e | e | e | e | e
              · exact (offA g hg) (.inl e)
              · exact hg (.inl (.inr (.inl e)))
              · exact hg (.inl (.inr (.inr (.inl e))))
              · have e1 : ga = g := Option.some.inj e
                subst e1
                rcases HGa.out with e2 | e2
                · exact (offA ga hg) (.inr e2)
                · omega
              · have e1 : gc = g := Option.some.inj e
                subst e1
                rcases HGc.out with e2 | e2
                · exact (offC gc hg) (.inr e2)
                · have := HCa.out.size
                  omega
            · exact hg (.inr hk)
          have q1 : wd.ownsRow 0 5 1 (.slice a' (i + 40) c') (i + 40) (cells8 (List.replicate (i + 40) x)) := HCc.out.owns (HCa.out.owns R1.out (fun g hg => offA g (R4.out g hg).2.1)) (fun g hg => offC g (R4.out g hg).2.1)
          have vblk : ∀ y, ad = some y → (Value.slice ad i c).ownBlock = some y.block := by
            rintro y rfl
            rfl
          have q2 : Sl wd ad i (List.replicate i x) := HCc.out.sl (HCa.out.sl R2.out (fun y hy _ => offA y.block (R5.out _ (vblk y hy)).1)) (fun y hy _ => offC y.block (R5.out _ (vblk y hy)).1)
          have hz1 := HPc.out.addZs a' (i + 40) c' _ q1 (fun g hg => nF g (R1.out.lt g hg).2 (R4.out g hg).2.1)
          have hz2 : PR wd { pp := pp, dv := m9.dv, xv := m9.xv, lv := Value.slice (some ⟨ga, 0, none⟩) (N + 1 + 1) ca, mv := Value.slice (some ⟨gc, 0, none⟩) (N + 1 + 1) cc } t st (L ++ [.slice ad i c] ++ [.slice a' (i + 40) c']) (M ++ [x] ++ [x]) (fun k => (Z k ∨ (Value.slice a' (i + 40) c').ownBlock = some k) ∨ (Value.slice ad i c).ownBlock = some k) := by
            cases hb : (Value.slice ad i c).ownBlock with
            | none =>
              have e : (fun k => (Z k ∨ (Value.slice a' (i + 40) c').ownBlock = some k) ∨ (none : Option Nat) = some k) = (fun k => Z k ∨ (Value.slice a' (i + 40) c').ownBlock = some k) := by
                funext k
                simp
              rw [e]
              exact hz1
            | some g =>
              obtain ⟨r1, cs, fr, hh⟩ := R5.out g hb
              have hgl := (Array.getElem?_eq_some_iff.1 hh).1
              have htg : Tg wd g 5 := ⟨cs, fr, by rw [HCc.out.block g (Nat.lt_of_lt_of_le hgl HCa.out.size) (offC g r1), HCa.out.block g hgl (offA g r1)]; exact hh⟩
              have := hz1.addZ g htg (nF g hgl r1)
              have e : (fun k => (Z k ∨ (Value.slice a' (i + 40) c').ownBlock = some k) ∨ (some g : Option Nat) = some k) = (fun k => (Z k ∨ (Value.slice a' (i + 40) c').ownBlock = some k) ∨ k = g) := by
                funext k
                simp [eq_comm]
              rw [e]
              exact this
          refine ⟨rfl, { pp := pp, dv := m9.dv, xv := m9.xv, lv := Value.slice (some ⟨ga, 0, none⟩) (N + 1 + 1) ca, mv := Value.slice (some ⟨gc, 0, none⟩) (N + 1 + 1) cc }, a', c', (fun k => (Z k ∨ (Value.slice a' (i + 40) c').ownBlock = some k) ∨ (Value.slice ad i c).ownBlock = some k), rfl, HDV9.out.1, HDV9.out.2, hz2, q2, sl_of_owns q1 (byte_rep _ HX.out), fun k hk => .inl (.inl hk), ?_, fun y hy => .inr (vblk y hy), ?_, ?_, ?_⟩
          · rintro k ((hk | hk) | hk)
            · exact .inl hk
            · rcases (R4.out k hk).1 with e | e
              · exact .inr (.inl e)
              · exact .inr (.inr e)
            · exact .inr (.inl hk)
          · rintro y rfl
            exact .inl (.inr rfl)
          · refine (R6.out.trans HCa.out (fun k hk e => ?_)).trans HCc.out (fun k hk e => ?_)
            · rcases e with e | e
              · subst e
                exact .inl (.inl HPP.out.symm)
              · have e1 : g6 = k := Option.some.inj e
                subst e1
                rcases HMF.out g6 h9g6 with f | f
                · exact .inl f
                · omega
            · rcases e with e | e
              · subst e
                exact .inl (.inl HPP.out.symm)
              · have e1 : g7 = k := Option.some.inj e
                subst e1
                rcases HMF.out g7 h9g7 with f | f
                · exact .inl f
                · omega
          · have hs := R6.out.size
            have hs2 := HCa.out.size
            rintro k (e | e | e | e | e)
            · exact .inl (.inl (by rw [HPP.out]; exact e))
            · exact .inl (.inr (.inl (by rw [← HDV9.out.1]; exact e)))
            · exact .inl (.inr (.inr (.inl (by rw [← HDV9.out.2]; exact e))))
            · have e1 : ga = k := Option.some.inj e
              subst e1
              rcases HGa.out with e2 | e2
              · have e3 : g6 = ga := Option.some.inj e2
                subst e3
                exact HMF.out g6 h9g6
              · exact .inr (by omega)
            · have e1 : gc = k := Option.some.inj e
              subst e1
              rcases HGc.out with e2 | e2
              · have e3 : g7 = gc := Option.some.inj e2
                subst e3
                exact HMF.out g7 h9g7
              · exact .inr (by omega)



/-- A pair, with what it keeps. -/
def PS (w : World) (m : PM) (t : It) (st : List It) (ks : List Kp) (Z : Nat → Prop) : Prop := PR w m t st (ks.map Kp.v) (ks.map fun k => (k.m : Int)) Z ∧ ∀ (i : Nat) (k : Kp), ks[i]? = some k → k.ok w Z
theorem PS.chg {w w' : World} {m : PM} {t : It} {st : List It} {ks : List Kp} {Z G : Nat → Prop} (h : PS w m t st ks Z) (hc : Chg G w w') (hG : ∀ k, FPp m t st k → ¬ G k) (hZ : ∀ k, Z k → ¬ G k) : PS w' m t st ks Z := ⟨h.1.chg hc hG hZ, fun i k hk => (h.2 i k hk).chg hc hZ⟩
theorem PS.later {w w' : World} {m : PM} {t : It} {st : List It} {ks : List Kp} {Z : Nat → Prop} (h : PS w m t st ks Z) (hb : Below w.heap.size w w') : PS w' m t st ks Z := h.chg (Chg.of_below (F := fun _ => False) hb) (fun _ _ h => h) (fun _ _ h => h)

/-- A list is kept. -/
theorem keep_ps (w : World) (m : PM) (t : It) (st : List It) (ks : List Kp) (Z : Nat → Prop) (h : PS w m t st ks Z) (ad : Option Addr) (n c : Nat) (xs : List Int) (ho : w.ownsRow 0 5 1 (.slice ad n c) n (cells8 xs)) (hn : n ≤ 16777216) (hll : ks.length ≤ 1099511627776)
    (hv : ∀ g, (Value.slice ad n c).ownBlock = some g → ¬ FPp m t st g ∧ ¬ Z g) :
    Calls Try.prog 53 #[.pointer (some ⟨m.pp, 0, none⟩), .slice ad n c] w fun e w' => e = .returned (.tuple #[]) ∧ ∃ m' k1 k2 Z', m'.pp = m.pp ∧ PS w' m' t st (ks ++ [k1] ++ [k2]) Z' ∧
      (∀ k, Z k → Z' k) ∧ (∀ k, Z' k → Z k ∨ (Value.slice ad n c).ownBlock = some k ∨ w.heap.size ≤ k) ∧ Chg (fun k => m.F k ∨ (Value.slice ad n c).ownBlock = some k) w w' ∧ (∀ k, m'.F k → m.F k ∨ w.heap.size ≤ k) := by
  have hxm : (((ks.length + 1) % 256 : Nat) : Int) = (((ks.map Kp.v).length + 1 : Nat) : Int) % 256 := by simp
  refine (keep_any w m t st _ _ Z h.1 ad n c xs ho hn (by simp) (by simpa using hll) hv _ hxm).mono ?_
  rintro e w' ⟨rfl, m', a', c', Z', h1, h2, h3, h4, h5, h6, h7, h8, h9, h10, h11, h12⟩
  refine ⟨rfl, m', ⟨ad, n, c, (ks.length + 1) % 256⟩, ⟨a', n + 40, c', (ks.length + 1) % 256⟩, Z', h1, ⟨?_, ?_⟩, h7, h8, h11, h12⟩
  · simpa [List.map_append, Kp.v] using h4
  · intro i k hk
    have hzm : ∀ j, Z j → ¬ (m.F j ∨ (Value.slice ad n c).ownBlock = some j) := by
      rintro j hj (e | e)
      · exact h.1.zF j hj (.inl e)
      · exact (hv j e).2 hj
    rw [List.append_assoc] at hk
    by_cases hi : i < ks.length
    · rw [List.getElem?_append_left hi] at hk
      exact ((h.2 i k hk).chg h11 hzm).mono h7
    · rw [List.getElem?_append_right (by omega)] at hk
      have hm256 : (ks.length + 1) % 256 < 256 := Nat.mod_lt _ (by decide)
      rcases (show i - ks.length = 0 ∨ i - ks.length = 1 ∨ 2 ≤ i - ks.length by omega) with e | e | e
      · rw [e] at hk
        simp at hk
        subst hk
        exact ⟨h5, h9, hm256, by show n ≤ _; omega⟩
      · rw [e] at hk
        simp at hk
        subst hk
        exact ⟨h6, h10, hm256, by show n + 40 ≤ _; omega⟩
      · rw [List.getElem?_eq_none (by simpa using e)] at hk
        cases hk

set_option maxRecDepth 10000 in
set_option maxHeartbeats 4000000 in
theorem looks_any (w : World) (m : PM) (t : It) (st : List It) (ks : List Kp) (Z : Nat → Prop) (h : PS w m t st ks Z) (from_ : Int) (hf : -9223372036854775808 ≤ from_ ∧ from_ ≤ 9223372036854775807) (hll : ks.length ≤ 1099511627776) :
    Calls Try.prog 8 #[.pointer (some ⟨m.pp, 0, none⟩), .int .i64 from_] w fun e w' => e = .returned (.bool true) ∧ ∃ n, w' = w.drewN n := by
  obtain ⟨pp, hpp⟩ : ∃ pp, m.pp = pp := ⟨_, rfl⟩
  obtain ⟨N, hN⟩ : ∃ N, ks.length = N := ⟨_, rfl⟩
  obtain ⟨la, lc, hlv⟩ := owns_form h.1.lv
  obtain ⟨ma, mc, hmv⟩ := owns_form h.1.mv
  simp only [List.length_map, hN] at hlv hmv
  have c4 := h.1.blk.cell 4
  have c5 := h.1.blk.cell 5
  simp only [List.getElem?_cons_succ, List.getElem?_cons_zero, hpp, hlv, hmv] at c4 c5
  have hol : w.ownsRow 0 27 1 (.slice la N lc) N (ks.map Kp.v) := by have := h.1.lv; simp only [hlv, List.length_map, hN] at this; exact this
  have hom : w.ownsRow 0 5 1 (.slice ma N mc) N (cells8 (ks.map fun k => (k.m : Int))) := by have := h.1.mv; simp only [hmv, List.length_map, hN] at this; exact this
  have HH := hidden h
  have HN := hidden hN
  have HOL := hidden hol
  have HOM := hidden hom
  rw [hN] at hll
  simp only [hpp]
  clear h hN hol hom hlv hmv hpp
  have goal : ∀ (F0 : Int), 0 ≤ F0 → F0 ≤ 9223372036854775807 → True := fun _ _ _ => trivial
  clear goal
  obtain ⟨f0, hf0⟩ : ∃ f0 : Nat, max from_ 0 = (f0 : Int) := ⟨(max from_ 0).toNat, by omega⟩
  have hf1 : (f0 : Int) ≤ 9223372036854775807 := by omega
  have HF0 := hidden hf0
  clear hf0
  go_enter Try.func8, Try.ntmps8
  go_upto_region 1 with fail
  go_cut [5] from 7 to 8 (fun s5 wx => s5 = .int .i64 (f0 : Int) ∧ wx = w)
  case first =>
    by_cases hneg : 0 ≤ from_
    · have e : from_ = (f0 : Int) := by have := HF0.out; omega
      subst e
      go_wp2_with fail
      all_goals
        go_meet
        case rel => first | exact ⟨rfl, rfl⟩ | (refine ⟨?_, rfl⟩; congr 1; omega)
    · have e : f0 = 0 := by have := HF0.out; omega
      subst e
      go_wp2_with fail
      all_goals
        go_meet
        case rel => first | exact ⟨rfl, rfl⟩ | (refine ⟨?_, rfl⟩; congr 1; omega)
  case rest =>
    obtain ⟨rfl, hwc⟩ := hcut
    obtain rfl := hwc.symm
    clear hwc
    go_wp2_with fail
    go_loopw [5] (fun iv wr => ∃ (i q : Nat), (i : Int) ≤ 9223372036854775807 ∧ iv = .int .i64 (i : Int) ∧ wr = w.drewN q) (fun iv _ => (N - (intOf iv).toNat))
    case atStart => exact ⟨f0, 0, hf1, rfl, rfl⟩
    case round =>
      obtain ⟨i, q, hi, rfl, rfl⟩ := hrel
      by_cases hin : i < N
      · obtain ⟨k, hk⟩ : ∃ k, ks[i]? = some k := ⟨_, List.getElem?_eq_getElem (by have := HN.out; omega)⟩
        obtain ⟨hS, _, hm, hn⟩ := HH.out.2 i k hk
        obtain ⟨lb, lcc, hlb, _⟩ := owns_some HOL.out (by omega)
        obtain ⟨mb, mcc, hmb, _⟩ := owns_some HOM.out (by omega)
        simp only [Value.slice.injEq] at hlb hmb
        obtain ⟨rfl, _, rfl⟩ := hlb
        obtain ⟨rfl, _, rfl⟩ := hmb
        have d1 : w.cell? ⟨lb, i, none⟩ = some (.slice k.ad k.n k.c) := owns_cell HOL.out i _ (by simp [hk, Kp.v])
        have d2 : w.cell? ⟨mb, i, none⟩ = some (.int .u8 (k.m : Int)) := owns_cell HOM.out i _ (by simp [cells8, hk])
        have HS := hidden hS
        have hii : (i : Int) < (N : Int) := by omega
        clear hS hk
        obtain ⟨kad, kn, kc, km⟩ := k
        simp only at d1 d2 HS hm hn
        go_wp2_with fail
        go_loopw [6] (fun jv wr => ∃ (j q : Nat), j ≤ kn ∧ jv = .int .i64 (j : Int) ∧ wr = w.drewN q) (fun jv _ => (kn - (intOf jv).toNat))
        case atStart => exact ⟨0, q, by omega, rfl, rfl⟩
        case round =>
          obtain ⟨j, q2, hj, rfl, rfl⟩ := hrel
          by_cases hjn : j < kn
          · obtain ⟨b, off, rfl, _, hcc⟩ := HS.out.at (by omega)
            have d3 := hcc j hjn
            have e3 : (List.replicate kn (km : Int)).getD j 0 = (km : Int) := by simp [List.getD, hjn]
            rw [e3] at d3
            clear hcc e3
            have hji : (j : Int) < (kn : Int) := by omega
            go_wp2_with fail
            go_quiet (fail)
            go_wp2_with fail
            refine ⟨⟨j + 1, _, by omega, by first | rfl | simp, rfl⟩, ?_⟩
            simp [intOf]
            omega
          · have hjj : kn ≤ j := by omega
            go_wp2_with fail
            refine ⟨⟨i + 1, q2, by omega, by first | rfl | simp, rfl⟩, ?_⟩
            simp [intOf]
            omega
      · have hii : N ≤ i := by omega
        go_wp2_with fail
        go_ret
        exact ⟨rfl, q, rfl⟩


/-- What a call does to a pair that keeps its disks. -/
def PSs (w w' : World) (m : PM) (t : It) (st : List It) (ks : List Kp) (Z : Nat → Prop) (d : Nat) : Prop := ∃ m' ks' Z', m'.pp = m.pp ∧ PS w' m' t st ks' Z' ∧ ks'.length ≤ ks.length + d ∧ Chg (fun k => m.F k) w w' ∧ (∀ k, m'.F k → m.F k ∨ w.heap.size ≤ k) ∧ (∀ k, Z k → Z' k) ∧ (∀ k, Z' k → Z k ∨ w.heap.size ≤ k)

set_option maxRecDepth 10000 in
set_option maxHeartbeats 4000000 in
theorem reads_any (w : World) (m : PM) (t : It) (st : List It) (ks : List Kp) (Z : Nat → Prop) (h : PS w m t st ks Z) (f at_ n : Int) (ha : -9223372036854775808 ≤ at_ ∧ at_ ≤ 9223372036854775807) (hn : -9223372036854775808 ≤ n ∧ n ≤ 9223372036854775807) (hll : ks.length ≤ 1099511627770) :
    Calls Try.prog 30 #[.pointer (some ⟨m.pp, 0, none⟩), .int .i64 f, .int .i64 at_, .int .i64 n] w fun e w' => e = .returned (.bool true) ∧ PSs w w' m t st ks Z 4 := by
  obtain ⟨er, her⟩ : ∃ er, (t.S.read f at_ n).1 = er := ⟨_, rfl⟩
  obtain ⟨l, hl⟩ : ∃ l, (t.S.read f at_ n).2 = l := ⟨_, rfl⟩
  have hlen := read_len h.1.it.a f at_ n
  rw [hl] at hlen
  have c0 := h.1.blk.cell 0
  have c1 := h.1.blk.cell 1
  simp only [List.getElem?_cons_succ, List.getElem?_cons_zero] at c0 c1
  have HH := hidden h
  have HER := hidden her
  have HLL := hidden hl
  have HLT := hidden h.1.lt
  have HZL := hidden h.1.zl
  obtain ⟨pp, hpp⟩ : ∃ pp, m.pp = pp := ⟨_, rfl⟩
  have HPP := hidden hpp
  have hppl : pp < w.heap.size := by rw [← hpp]; exact h.1.blk.lt
  rw [hpp] at c0 c1
  simp only [hpp]
  clear h her hl hpp
  go_enter Try.func30, Try.ntmps30
  go_wp2_with fail
  refine (readP t.p t.F1 t.S w f at_ n HH.out.1.it.a ha hn).mono ?_
  rintro e w1 ⟨a1, n1, k1, rfl, ho1, hb1, bl1⟩
  rw [HLL.out] at ho1 hb1
  rw [HER.out]
  have HO1 := hidden ho1
  have HB1 := hidden hb1
  have BL1 := hidden bl1
  have d0 := below_cell bl1 hppl c0
  have d1 := below_cell bl1 hppl c1
  have HP1 := hidden (HH.out.later bl1)
  clear ho1 hb1 bl1 c0 c1
  go_wp2_with fail
  refine (readP t.p t.F1 t.S w1 f at_ n HP1.out.1.it.a ha hn).mono ?_
  rintro e w2 ⟨a2, n2, k2, rfl, ho2, hb2, bl2⟩
  rw [HLL.out] at ho2 hb2
  rw [HER.out]
  have HO2 := hidden ho2
  have BL2 := hidden bl2
  have hpp1 : pp < w1.heap.size := Nat.lt_of_lt_of_le hppl BL1.out.size
  have e1 := below_cell bl2 hpp1 d1
  have HP2 := hidden (HP1.out.later bl2)
  clear ho2 hb2 bl2 d0 d1
  go_wp2_with fail
  refine (readR t.q t.F2 t.S w2 f at_ n HP2.out.1.it.b ha hn).mono ?_
  rintro e w3 ⟨a3, n3, k3, rfl, ho3, hb3, bl3⟩
  rw [HLL.out] at ho3 hb3
  rw [HER.out]
  have HO3 := hidden ho3
  have BL3 := hidden bl3
  have HP3 := hidden (HP2.out.later bl3)
  clear ho3 hb3 bl3 e1
  have en1 : l.length = n1 := by have := HO1.out.1; rw [cells8_length] at this; omega
  have en2 : l.length = n2 := by have := HO2.out.1; rw [cells8_length] at this; omega
  have en3 : l.length = n3 := by have := HO3.out.1; rw [cells8_length] at this; omega
  have p1 : w3.ownsRow w.heap.size 5 1 (.slice a1 n1 k1) n1 (cells8 l) := (Chg.of_below (F := fun _ => False) BL3.out).owns ((Chg.of_below (F := fun _ => False) BL2.out).owns HO1.out (fun _ _ h => h)) (fun _ _ h => h)
  have p2 : w3.ownsRow w1.heap.size 5 1 (.slice a2 n2 k2) n2 (cells8 l) := (Chg.of_below (F := fun _ => False) BL3.out).owns HO2.out (fun _ _ h => h)
  have s1 := sl_of_owns p1 HB1.out
  have s2 := sl_of_owns p2 HB1.out
  have s3 := sl_of_owns HO3.out HB1.out
  have st1 := str_run (c := k1) s1
  have st2 := str_run (c := k2) s2
  have st3 := str_run (c := k3) s3
  obtain ⟨sv, hsv⟩ : ∃ sv, strOfNums l = sv := ⟨_, rfl⟩
  rw [hsv] at st1 st2 st3
  have HSV := hidden hsv
  have P1 := hidden p1
  have P2 := hidden p2
  have S2 := hidden s2
  have S3 := hidden s3
  have z1 := BL1.out.size
  have z2 := BL2.out.size
  have z3 := BL3.out.size
  have HEN := hidden en1
  have b1lt : ∀ g, (Value.slice a1 n1 k1).ownBlock = some g → w.heap.size ≤ g ∧ g < w1.heap.size := HO1.out.lt
  have b2lt : ∀ g, (Value.slice a2 n2 k2).ownBlock = some g → w1.heap.size ≤ g ∧ g < w2.heap.size := HO2.out.lt
  have b3lt : ∀ g, (Value.slice a3 n3 k3).ownBlock = some g → w2.heap.size ≤ g ∧ g < w3.heap.size := HO3.out.lt
  have HB1' := hidden b1lt
  have HB2' := hidden b2lt
  have HB3' := hidden b3lt
  clear p1 p2 s1 s2 s3 hsv b1lt b2lt b3lt
  go_wp2_with fail
  rw [← HPP.out]
  refine (keep_ps w3 m t st ks Z HP3.out a1 n1 k1 l (owns_zero P1.out) (by omega) (by omega) (fun g hg => ?_)).mono ?_
  · have := HB1'.out g hg
    exact ⟨fun hk => by have := HLT.out g hk; omega, fun hk => by have := HZL.out g hk; omega⟩
  rintro e w4 ⟨rfl, m4, ka, kb, Z4, hq1, hq2, hq3, hq4, hq5, hq6⟩
  have blkOf : ∀ (a : Option Addr) (nn kk : Nat) (y : Addr), a = some y → (Value.slice a nn kk).ownBlock = some y.block := by
    rintro a nn kk y rfl
    rfl
  have off2 : ∀ g, w1.heap.size ≤ g → ¬ (m.F g ∨ (Value.slice a1 n1 k1).ownBlock = some g) := by
    rintro g hg (e | e)
    · have := HLT.out g (.inl e)
      omega
    · have := HB1'.out g e
      omega
  have t2 : Sl w4 a2 n2 l := hq5.sl S2.out (fun y hy _ => off2 _ (HB2'.out _ (blkOf a2 n2 k2 y hy)).1)
  have t3 : Sl w4 a3 n3 l := hq5.sl S3.out (fun y hy _ => off2 _ (by have := (HB3'.out _ (blkOf a3 n3 k3 y hy)).1; omega))
  have st2 := str_run (c := k2) t2
  have st3 := str_run (c := k3) t3
  rw [HSV.out] at st2 st3
  have p4 : w4.ownsRow 0 5 1 (.slice a2 n2 k2) n2 (cells8 l) := hq5.owns (owns_zero P2.out) (fun g hg => off2 g (HB2'.out g hg).1)
  have P4 := hidden p4
  have Q1 := hidden hq1
  have Q2 := hidden hq2
  have Q3 := hidden hq3
  have Q4 := hidden hq4
  have Q5 := hidden hq5
  have Q6 := hidden hq6
  have z4 := hq5.size
  clear hq1 hq2 hq3 hq4 hq5 hq6 t2 t3 p4
  go_wp2_with fail
  rw [HPP.out, ← Q1.out.trans HPP.out]
  refine (keep_ps w4 m4 t st (ks ++ [ka] ++ [kb]) Z4 Q2.out a2 n2 k2 l P4.out (by omega) (by simp; omega) (fun g hg => ?_)).mono ?_
  · have hg2 := HB2'.out g hg
    refine ⟨?_, ?_⟩
    · rintro (e | e)
      · rcases Q6.out g e with f | f
        · have := HLT.out g (.inl f)
          omega
        · omega
      · have := HLT.out g (.inr e)
        omega
    · intro e
      rcases Q4.out g e with f | f | f
      · have := HZL.out g f
        omega
      · have := HB1'.out g f
        omega
      · omega
  rintro e w5 ⟨rfl, m5, kc, kd, Z5, r1, r2, r3, r4, r5, r6⟩
  have R1 := hidden r1
  have R2 := hidden r2
  have R3 := hidden r3
  have R4 := hidden r4
  have R5 := hidden r5
  have R6 := hidden r6
  clear r1 r2 r3 r4 r5 r6 st1 st2 st3
  go_wp2_with fail
  go_ret
  refine ⟨?_, m5, _, Z5, R1.out.trans Q1.out, R2.out, by first | (simp; done) | (simp; omega), ?_, ?_, fun k hk => R3.out k (Q3.out k hk), ?_⟩
  · first | rfl | simp
  · have b3 : Below w.heap.size w w3 := (BL1.out.trans (BL2.out.mono BL1.out.size)).trans (BL3.out.mono (by omega))
    refine ((Chg.of_below (F := fun k => m.F k) b3).trans Q5.out (fun k hk e => ?_)).trans R5.out (fun k hk e => ?_)
    · rcases e with e | e
      · exact e
      · have := HB1'.out k e
        omega
    · rcases e with e | e
      · rcases Q6.out k e with f | f
        · exact f
        · omega
      · have := HB2'.out k e
        omega
  · intro k hk
    rcases R6.out k hk with f | f
    · rcases Q6.out k f with f | f
      · exact .inl f
      · exact .inr (by omega)
    · exact .inr (by omega)
  · intro k hk
    rcases R4.out k hk with f | f | f
    · rcases Q4.out k f with f | f | f
      · exact .inl f
      · exact .inr (HB1'.out k f).1
      · exact .inr (by omega)
    · exact .inr (by have := (HB2'.out k f).1; omega)
    · exact .inr (by omega)



theorem PSs.trans {a b c : World} {m m1 : PM} {t : It} {st : List It} {ks ks1 : List Kp} {Z Z1 : Nat → Prop} {d e : Nat} (hpp : m1.pp = m.pp) (hks : ks1.length ≤ ks.length + d) (hc : Chg (fun k => m.F k) a b) (hF : ∀ k, m1.F k → m.F k ∨ a.heap.size ≤ k) (hZ : ∀ k, Z k → Z1 k) (hZ1 : ∀ k, Z1 k → Z k ∨ a.heap.size ≤ k) (h : PSs b c m1 t st ks1 Z1 e) : PSs a c m t st ks Z (d + e) := by
  obtain ⟨m2, ks2, Z2, h1, h2, h3, h4, h5, h6, h7⟩ := h
  have hs := hc.size
  refine ⟨m2, ks2, Z2, h1.trans hpp, h2, by omega, hc.trans h4 (fun k hk e => ?_), fun k hk => ?_, fun k hk => h6 k (hZ k hk), fun k hk => ?_⟩
  · rcases hF k e with f | f
    · exact f
    · omega
  · rcases h5 k hk with f | f
    · exact hF k f
    · exact .inr (by omega)
  · rcases h7 k hk with f | f
    · exact hZ1 k f
    · exact .inr (by omega)
theorem PSs.refl {w : World} {m : PM} {t : It} {st : List It} {ks : List Kp} {Z : Nat → Prop} (h : PS w m t st ks Z) (d : Nat) : PSs w w m t st ks Z d := ⟨m, ks, Z, rfl, h, by omega, Chg.refl _ _, fun k hk => .inl hk, fun k hk => hk, fun k hk => .inl hk⟩
theorem PSs.later {w w1 w2 : World} {m : PM} {t : It} {st : List It} {ks : List Kp} {Z : Nat → Prop} {d : Nat} (h : PSs w w1 m t st ks Z d) (hb : Below w1.heap.size w1 w2) : PSs w w2 m t st ks Z d := by
  obtain ⟨m2, ks2, Z2, h1, h2, h3, h4, h5, h6, h7⟩ := h
  exact ⟨m2, ks2, Z2, h1, h2.later hb, h3, h4.trans (Chg.of_below (F := fun _ => False) hb) (fun _ _ h => h.elim), h5, h6, h7⟩

set_option maxRecDepth 10000 in
set_option maxHeartbeats 4000000 in
theorem all_any (w : World) (m : PM) (t : It) (st : List It) (ks : List Kp) (Z : Nat → Prop) (h : PS w m t st ks Z) (hll : ks.length ≤ 1099511620000) :
    Calls Try.prog 9 #[.pointer (some ⟨m.pp, 0, none⟩)] w fun e w' => e = .returned (.bool true) ∧ PSs w w' m t st ks Z 40 := by
  have HH := hidden h
  obtain ⟨fb, fc, set, ops, ka, kn, kc, _, _, _, _, _, _, h8, h1⟩ := h.1.it.b.head
  obtain ⟨n, hn⟩ : ∃ n, t.S.L.length = n := ⟨_, rfl⟩
  rw [hn] at h8 h1
  have HN := hidden hn
  clear h hn
  obtain ⟨pp, hpp⟩ : ∃ pp, m.pp = pp := ⟨_, rfl⟩
  have HPP := hidden hpp
  simp only [hpp]
  clear hpp
  go_enter Try.func9, Try.ntmps9
  go_wp2_with fail
  go_loopw [3] (fun fv wr => ∃ k : Nat, k ≤ n + 2 ∧ fv = .int .i64 ((k : Int) - 1) ∧ PSs w wr m t st ks Z (4 * k)) (fun fv _ => (n + 2 - (intOf fv + 1).toNat))
  case atStart => exact ⟨0, by omega, rfl, PSs.refl HH.out 0⟩
  case round =>
    rename World => wr
    obtain ⟨k, hk, rfl, m1, ks1, Z1, q1, q2, q3, q4, q5, q6, q7⟩ := hrel
    have Q1 := hidden q1
    have Q2 := hidden q2
    have Q3 := hidden q3
    have Q4 := hidden q4
    have Q5 := hidden q5
    have Q6 := hidden q6
    have Q7 := hidden q7
    have c0 := q2.1.blk.cell 0
    have c1 := q2.1.blk.cell 1
    simp only [List.getElem?_cons_succ, List.getElem?_cons_zero, q1, HPP.out] at c0 c1
    have C0 : Hid (∀ w1, Lat wr w1 → w1.cell? ⟨pp, 0, none⟩ = some (.pointer (some ⟨t.p, 0, none⟩))) := fun w1 hl => by have := (Q2.out.later hl).1.blk.cell 0; simp only [List.getElem?_cons_succ, List.getElem?_cons_zero, Q1.out, HPP.out] at this; exact this
    have C1 : Hid (∀ w1, Lat wr w1 → w1.cell? ⟨pp, 1, none⟩ = some (.pointer (some ⟨t.q, 0, none⟩))) := fun w1 hl => by have := (Q2.out.later hl).1.blk.cell 1; simp only [List.getElem?_cons_succ, List.getElem?_cons_zero, Q1.out, HPP.out] at this; exact this
    obtain ⟨fb1, fc1, _, _, _, _, _, e0, _, _, _, _, _, _, _⟩ := q2.1.it.b.head
    rw [HN.out] at e0
    clear q1 q2 q3 q4 q5 q6 q7
    obtain ⟨f, hf⟩ : ∃ f : Int, (k : Int) - 1 = f := ⟨_, rfl⟩
    have HF := hidden hf
    have hfk : f + 1 = (k : Int) := by omega
    rw [hf]
    by_cases hkn : k < n + 2
    · have hle : f ≤ (n : Int) := by omega
      clear hf
      go_wp2_with fail
      refine all_r4 pp t.p t.q f (t.S.size f) (t.S.lasts f) _ _ _ (by rfl) (by rfl) (by rfl) C0.out C1.out (fun w1 hl => sizeP t.p t.F1 t.S w1 f (Q2.out.later hl).1.it.a) (fun w1 hl => sizeR t.q t.F2 t.S w1 f (Q2.out.later hl).1.it.b) (fun w1 hl => lastsP t.p t.F1 t.S w1 f (Q2.out.later hl).1.it.a) (fun w1 hl => lastsR t.q t.F2 t.S w1 f (Q2.out.later hl).1.it.b) ?_
      intros
      rename World => w2
      rename Lat wr w2 => hL2
      have R2 := hidden (Q2.out.later hL2)
      have HL2 := hidden hL2
      have d1 := C1.out w2 hL2
      clear hL2 c0 c1 e0
      simp only [Act.put, List.setIfInBounds_toArray, List.set_cons_succ, List.set_cons_zero]
      go_wp2_with fail
      refine (sizeR t.q t.F2 t.S w2 f R2.out.1.it.b).mono ?_
      rintro e w' ⟨rfl, hw⟩
      obtain rfl := hw.symm
      clear hw
      have hsz : t.S.size f = -1 ∨ ∃ z : Nat, t.S.size f = (z : Int) ∧ z ≤ 16777216 := by
        by_cases hr : 0 ≤ f ∧ f < t.S.L.length
        · obtain ⟨fb, fc, ad, c, x, hx, _, _, _, _, _, ht, _, _, _⟩ := R2.out.1.it.b.at f.toNat (by omega)
          refine .inr ⟨x.b.length, ?_, ht⟩
          unfold St.size
          rw [if_pos hr, hx]
        · exact .inl (if_neg hr)
      have fin : ∀ z : Int, 0 ≤ z → z ≤ 16777216 → Calls Try.prog 30 #[.pointer (some ⟨pp, 0, none⟩), .int .i64 f, .int .i64 0, .int .i64 z] w2 fun e w' => e = .returned (.bool true) ∧ PSs w w' m t st ks Z (4 * (k + 1)) := by
        intro z hz0 hz1
        have := reads_any w2 m1 t st ks1 Z1 R2.out f 0 z (by omega) (by omega) (by have := Q3.out; omega)
        rw [Q1.out, HPP.out] at this
        refine this.mono ?_
        rintro e w' ⟨rfl, hP⟩
        have hs := HL2.out.size
        have hP2 : PSs wr w' m1 t st ks1 Z1 4 := PSs.trans (d := 0) rfl (Nat.le_refl _) (Chg.of_below HL2.out) (fun k hk => .inl hk) (fun k hk => hk) (fun k hk => .inl hk) hP
        have := PSs.trans (d := 4 * k) Q1.out Q3.out Q4.out Q5.out Q6.out Q7.out hP2
        exact ⟨rfl, this⟩
      have HFIN := hidden fin
      clear fin
      rcases hsz with hsz | ⟨z, hsz, hz⟩
      · rw [hsz]
        go_wp2_with fail
        refine (HFIN.out 0 (by decide) (by decide)).mono ?_
        rintro e w3 ⟨rfl, hP⟩
        have HP := hidden hP
        clear hP
        go_wp2_with fail
        refine ⟨⟨k + 1, by omega, ?_, HP.out⟩, ?_⟩
        · congr 1
          have := HF.out
          omega
        · simp [intOf]
          have := HF.out
          omega
      · rw [hsz]
        have hz0 : (0 : Int) ≤ (z : Int) := by omega
        go_wp2_with fail
        all_goals
          refine (HFIN.out (z : Int) (by omega) (by omega)).mono ?_
          rintro e w3 ⟨rfl, hP⟩
          have HP := hidden hP
          clear hP
          go_wp2_with fail
          refine ⟨⟨k + 1, by omega, ?_, HP.out⟩, ?_⟩
          · congr 1
            have := HF.out
            omega
          · simp [intOf]
            have := HF.out
            omega
    · have hgt : (n : Int) < f := by omega
      clear hf
      go_wp2_with fail
      refine all_r9 pp t.p t.q t.S.on (t.S.falls : Int) _ _ _ (by rfl) (by rfl) C0.out C1.out (fun w1 hl => aliveP t.p t.F1 t.S w1 (Q2.out.later hl).1.it.a) (fun w1 hl => aliveR t.q t.F2 t.S w1 (Q2.out.later hl).1.it.b) (fun w1 hl => fallsP t.p t.F1 t.S w1 (Q2.out.later hl).1.it.a) (fun w1 hl => fallsR t.q t.F2 t.S w1 (Q2.out.later hl).1.it.b) ?_
      intros
      rename World => w2
      rename Lat wr w2 => hL2
      have HL2 := hidden hL2
      clear hL2 c0 c1 e0
      simp only [Act.put, List.setIfInBounds_toArray, List.set_cons_succ, List.set_cons_zero]
      go_wp2_with fail
      go_ret
      refine ⟨rfl, ?_⟩
      have h0 : PSs w wr m t st ks Z (4 * k) := ⟨m1, ks1, Z1, Q1.out, Q2.out, Q3.out, Q4.out, Q5.out, Q6.out, Q7.out⟩
      obtain ⟨m2, ks2, Z2, r1, r2, r3, r4⟩ := h0.later HL2.out
      exact ⟨m2, ks2, Z2, r1, r2, by omega, r4⟩


end Go.Proofs.Ytgmcfejmhlglkaa.Q
