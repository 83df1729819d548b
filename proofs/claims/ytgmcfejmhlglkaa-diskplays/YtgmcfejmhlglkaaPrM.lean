/-
  A pair: the program's disk and the document's, those that were left, and lists that came out with their owner's marks.
-/
import Derived.Test.YtgmcfejmhlglkaaLnA
import Derived.Test.YtgmcfejmhlglkaaCpB
namespace Go.Proofs.Ytgmcfejmhlglkaa
open Go.RowKit
set_option linter.unusedVariables false
set_option linter.unusedSimpArgs false

/-- Two disks that are one. -/
structure It where
  p : Nat
  q : Nat
  F1 : Nat → Prop
  F2 : Nat → Prop
  S : St
def It.F (t : It) : Nat → Prop := fun i => t.F1 i ∨ t.F2 i
structure It.ok (w : World) (t : It) : Prop where
  a : Dk 80 82 w t.p t.F1 t.S
  b : Dk 75 86 w t.q t.F2 t.S
  ne : ∀ i, t.F1 i → ¬ t.F2 i
theorem It.ok.lt {w : World} {t : It} (h : It.ok w t) : ∀ i, t.F i → i < w.heap.size := by
  rintro i (hi | hi)
  · exact h.a.lt i hi
  · exact h.b.lt i hi
theorem It.ok.chg {w w' : World} {t : It} {G : Nat → Prop} (h : It.ok w t) (hc : Chg G w w') (hG : ∀ i, t.F i → ¬ G i) : It.ok w' t := ⟨h.a.chg hc (fun i hi => hG i (.inl hi)), h.b.chg hc (fun i hi => hG i (.inr hi)), h.ne⟩
theorem It.ok.tg {w : World} {t : It} (h : It.ok w t) : ∀ i, t.F i → ∃ ty, Tg w i ty ∧ (ty = 80 ∨ ty = 82 ∨ ty = 75 ∨ ty = 86 ∨ ty = 5 ∨ ty = 3) := by
  rintro i (hi | hi)
  · rcases h.a.tg i hi with k | k | k | k
    · exact ⟨_, k, by decide⟩
    · exact ⟨_, k, by decide⟩
    · exact ⟨_, k, by decide⟩
    · exact ⟨_, k, by decide⟩
  · rcases h.b.tg i hi with k | k | k | k
    · exact ⟨_, k, by decide⟩
    · exact ⟨_, k, by decide⟩
    · exact ⟨_, k, by decide⟩
    · exact ⟨_, k, by decide⟩

/-- A list that came out: where, how long, with how much room; its mark. -/
structure Kp where
  ad : Option Addr
  n : Nat
  c : Nat
  m : Nat
def Kp.v (k : Kp) : Value := .slice k.ad k.n k.c
def Kp.ok (w : World) (Z : Nat → Prop) (k : Kp) : Prop := Sl w k.ad k.n (List.replicate k.n (k.m : Int)) ∧ (∀ x, k.ad = some x → Z x.block) ∧ k.m < 256 ∧ k.n ≤ 70368744177664
theorem Kp.ok.chg {w w' : World} {Z G : Nat → Prop} {k : Kp} (h : k.ok w Z) (hc : Chg G w w') (hG : ∀ i, Z i → ¬ G i) : k.ok w' Z := ⟨hc.sl h.1 (fun x hx _ e => hG _ (h.2.1 x hx) e), h.2⟩
theorem Kp.ok.mono {w : World} {Z Z' : Nat → Prop} {k : Kp} (h : k.ok w Z) (hz : ∀ i, Z i → Z' i) : k.ok w Z' := ⟨h.1, fun x hx => hz _ (h.2.1 x hx), h.2.2⟩

/-- The pair's own memory. -/
structure PM where
  pp : Nat
  dv : Value
  xv : Value
  lv : Value
  mv : Value
def PM.F (m : PM) : Nat → Prop := fun i => i = m.pp ∨ m.dv.ownBlock = some i ∨ m.xv.ownBlock = some i ∨ m.lv.ownBlock = some i ∨ m.mv.ownBlock = some i
structure PR (w : World) (m : PM) (t : It) (st : List It) (L : List Value) (M : List Int) (Z : Nat → Prop) : Prop where
  blk : Blk w m.pp 39 [.pointer (some ⟨t.p, 0, none⟩), .pointer (some ⟨t.q, 0, none⟩), m.dv, m.xv, m.lv, m.mv]
  dv : w.ownsRow 0 33 1 m.dv st.length (st.map fun t => .pointer (some ⟨t.p, 0, none⟩))
  xv : w.ownsRow 0 34 1 m.xv st.length (st.map fun t => .pointer (some ⟨t.q, 0, none⟩))
  lv : w.ownsRow 0 27 1 m.lv L.length L
  mv : w.ownsRow 0 5 1 m.mv M.length (cells8 M)
  it : t.ok w
  its : ∀ (i : Nat) (s : It), st[i]? = some s → s.ok w
  ap : ∀ (i : Nat) (s : It), st[i]? = some s → ∀ k, t.F k → ¬ s.F k
  aps : ∀ (i j : Nat) (s u : It), st[i]? = some s → st[j]? = some u → i ≠ j → ∀ k, s.F k → ¬ u.F k
  mt : ∀ k, t.F k → m.mv.ownBlock ≠ some k
  ms : ∀ (i : Nat) (s : It), st[i]? = some s → ∀ k, s.F k → m.mv.ownBlock ≠ some k
  mb : Byte M
  zt : ∀ k, Z k → ¬ t.F k
  zs : ∀ (i : Nat) (s : It), st[i]? = some s → ∀ k, Z k → ¬ s.F k
  zm : ∀ k, Z k → m.mv.ownBlock ≠ some k
  zl : ∀ k, Z k → k < w.heap.size
  zty : ∀ k, Z k → Tg w k 5
/-- All that may be written. -/
def FPp (m : PM) (t : It) (st : List It) : Nat → Prop := fun k => m.F k ∨ t.F k ∨ ∃ (i : Nat) (s : It), st[i]? = some s ∧ s.F k

section
variable {w w' : World} {m : PM} {t : It} {st : List It} {L : List Value} {M : List Int} {Z : Nat → Prop}
theorem PR.tgm (h : PR w m t st L M Z) : ∀ k, m.F k → ∃ ty, Tg w k ty ∧ (ty = 39 ∨ ty = 33 ∨ ty = 34 ∨ ty = 27 ∨ (ty = 5 ∧ m.mv.ownBlock = some k)) := by
  rintro k (rfl | e | e | e | e)
  · exact ⟨_, h.blk.tg, .inl rfl⟩
  · exact ⟨_, owns_tg h.dv k e, .inr (.inl rfl)⟩
  · exact ⟨_, owns_tg h.xv k e, .inr (.inr (.inl rfl))⟩
  · exact ⟨_, owns_tg h.lv k e, .inr (.inr (.inr (.inl rfl)))⟩
  · exact ⟨_, owns_tg h.mv k e, .inr (.inr (.inr (.inr ⟨rfl, e⟩)))⟩
theorem PR.lt (h : PR w m t st L M Z) : ∀ k, FPp m t st k → k < w.heap.size := by
  rintro k (hk | hk | ⟨i, s, hs, hk⟩)
  · obtain ⟨ty, ⟨cs, fr, hh⟩, _⟩ := h.tgm k hk
    exact (Array.getElem?_eq_some_iff.1 hh).1
  · exact h.it.lt k hk
  · exact (h.its i s hs).lt k hk
theorem PR.chg {G : Nat → Prop} (h : PR w m t st L M Z) (hc : Chg G w w') (hG : ∀ k, FPp m t st k → ¬ G k) (hZ : ∀ k, Z k → ¬ G k) : PR w' m t st L M Z := by
  have hm : ∀ k, m.F k → ¬ G k := fun k hk => hG k (.inl hk)
  refine ⟨hc.blk h.blk (hm _ (.inl rfl)), hc.owns h.dv (fun g hg => hm g (.inr (.inl hg))), hc.owns h.xv (fun g hg => hm g (.inr (.inr (.inl hg)))), hc.owns h.lv (fun g hg => hm g (.inr (.inr (.inr (.inl hg))))), hc.owns h.mv (fun g hg => hm g (.inr (.inr (.inr (.inr hg))))), h.it.chg hc (fun k hk => hG k (.inr (.inl hk))), fun i s hs => (h.its i s hs).chg hc (fun k hk => hG k (.inr (.inr ⟨i, s, hs, hk⟩))), h.ap, h.aps, h.mt, h.ms, h.mb, h.zt, h.zs, h.zm, fun k hk => Nat.lt_of_lt_of_le (h.zl k hk) hc.size, fun k hk => ?_⟩
  obtain ⟨cs, fr, hh⟩ := h.zty k hk
  exact ⟨cs, fr, by rw [hc.block k (h.zl k hk) (hZ k hk)]; exact hh⟩
/-- What is kept is none of the pair's own. -/
theorem PR.zF (h : PR w m t st L M Z) : ∀ k, Z k → ¬ FPp m t st k := by
  rintro k hk (e | e | ⟨i, s, hs, e⟩)
  · obtain ⟨ty, h1, h2⟩ := h.tgm k e
    have e5 := (h.zty k hk).one h1
    subst e5
    rcases h2 with h2 | h2 | h2 | h2 | ⟨_, h2⟩
    · exact absurd h2 (by decide)
    · exact absurd h2 (by decide)
    · exact absurd h2 (by decide)
    · exact absurd h2 (by decide)
    · exact h.zm k hk h2
  · exact h.zt k hk e
  · exact h.zs i s hs k hk e
/-- One more list. -/
theorem PR.pushL (h : PR w m t st L M Z) {o : Obj} {w6 : World} {g6 c6 : Nat} {u : Value} (ho6 : w6.ownsRow 0 27 1 (.slice (some ⟨g6, 0, none⟩) (L.length + 1) c6) (L.length + 1) (L ++ [u])) (hp6 : Pushed (w.alloc o) w6 m.lv g6) :
    Blk w6 m.pp 39 [.pointer (some ⟨t.p, 0, none⟩), .pointer (some ⟨t.q, 0, none⟩), m.dv, m.xv, m.lv, m.mv] ∧
    PR (w6.setCell ⟨m.pp, 4, none⟩ (.slice (some ⟨g6, 0, none⟩) (L.length + 1) c6)) { m with lv := .slice (some ⟨g6, 0, none⟩) (L.length + 1) c6 } t st (L ++ [u]) M Z ∧
    Chg (fun k => k = m.pp ∨ m.lv.ownBlock = some k) w (w6.setCell ⟨m.pp, 4, none⟩ (.slice (some ⟨g6, 0, none⟩) (L.length + 1) c6)) ∧ (m.lv.ownBlock = some g6 ∨ w.heap.size ≤ g6) := by
  obtain ⟨hc, hm⟩ := hp6.chg
  have hlt := h.lt
  have hgn : m.lv.ownBlock = some g6 ∨ w.heap.size ≤ g6 := by
    rcases hm with e | ⟨g', e, hg'⟩
    · exact .inl e.symm
    · obtain rfl := Option.some.inj e
      exact .inr hg'
  have hppl : m.lv.ownBlock ≠ some m.pp := fun e => absurd ((owns_tg h.lv _ e).one h.blk.tg) (by decide)
  have hB6 := hc.blk h.blk hppl
  have hC : Chg (fun k => k = m.pp ∨ m.lv.ownBlock = some k) w (w6.setCell ⟨m.pp, 4, none⟩ (.slice (some ⟨g6, 0, none⟩) (L.length + 1) c6)) := (hc.mono (fun _ _ h => .inr h)).trans (Chg.set ⟨m.pp, 4, none⟩ _ w6) (fun _ _ h => .inl h)
  have offF : ∀ k, (t.F k ∨ ∃ (i : Nat) (s : It), st[i]? = some s ∧ s.F k) → ¬ (k = m.pp ∨ m.lv.ownBlock = some k) := by
    intro k hk e
    have hty : ∃ ty, Tg w k ty ∧ (ty = 80 ∨ ty = 82 ∨ ty = 75 ∨ ty = 86 ∨ ty = 5 ∨ ty = 3) := by
      rcases hk with hk | ⟨i, s, hs, hk⟩
      · exact h.it.tg k hk
      · exact (h.its i s hs).tg k hk
    obtain ⟨ty, h1, h2⟩ := hty
    rcases e with rfl | e
    · have := h1.one h.blk.tg
      subst this
      exact absurd h2 (by decide)
    · have := h1.one (owns_tg h.lv k e)
      subst this
      exact absurd h2 (by decide)
  have offZ : ∀ k, Z k → ¬ (k = m.pp ∨ m.lv.ownBlock = some k) := by
    intro k hk e
    rcases e with rfl | e
    · exact absurd ((h.zty _ hk).one h.blk.tg) (by decide)
    · exact absurd ((h.zty k hk).one (owns_tg h.lv k e)) (by decide)
  have own5 : ∀ (v : Value) (ty : TypeId) (n : Nat) (xs : List Value), w.ownsRow 0 ty 1 v n xs → ty ≠ 39 → ty ≠ 27 → (w6.setCell ⟨m.pp, 4, none⟩ (.slice (some ⟨g6, 0, none⟩) (L.length + 1) c6)).ownsRow 0 ty 1 v n xs := by
    intro v ty n xs ho h39 h27
    refine hC.owns ho (fun g hg e => ?_)
    rcases e with rfl | e
    · exact h39 ((owns_tg ho _ hg).one h.blk.tg)
    · exact h27 ((owns_tg ho g hg).one (owns_tg h.lv g e))
  have hg6pp : g6 ≠ m.pp := by
    rintro rfl
    rcases hgn with e | e
    · exact hppl e
    · have := h.blk.lt
      omega
  refine ⟨hB6, ⟨?_, own5 _ _ _ _ h.dv (by decide) (by decide), own5 _ _ _ _ h.xv (by decide) (by decide), ?_, own5 _ _ _ _ h.mv (by decide) (by decide), h.it.chg hC (fun k hk => offF k (.inl hk)), fun i s hs => (h.its i s hs).chg hC (fun k hk => offF k (.inr ⟨i, s, hs, hk⟩)), h.ap, h.aps, h.mt, h.ms, h.mb, h.zt, h.zs, h.zm, fun k hk => Nat.lt_of_lt_of_le (h.zl k hk) hC.size, fun k hk => ?_⟩, hC, hgn⟩
  · have := hB6.set 4 (.slice (some ⟨g6, 0, none⟩) (L.length + 1) c6)
    simpa only [List.set_cons_succ, List.set_cons_zero] using this
  · rw [List.length_append]
    exact (Chg.set ⟨m.pp, 4, none⟩ _ w6).owns ho6 (fun g hg e => hg6pp (by have e1 : g6 = g := Option.some.inj hg; have e2 : g = m.pp := e; omega))
  · obtain ⟨cs, fr, hh⟩ := h.zty k hk
    exact ⟨cs, fr, by rw [hC.block k (h.zl k hk) (offZ k hk)]; exact hh⟩
/-- One more mark. -/
theorem PR.pushM (h : PR w m t st L M Z) {o : Obj} {w6 : World} {g6 c6 : Nat} {x : Int} (hx : 0 ≤ x ∧ x ≤ 255) (ho6 : w6.ownsRow 0 5 1 (.slice (some ⟨g6, 0, none⟩) (M.length + 1) c6) (M.length + 1) (cells8 M ++ [.int .u8 x])) (hp6 : Pushed (w.alloc o) w6 m.mv g6) :
    Blk w6 m.pp 39 [.pointer (some ⟨t.p, 0, none⟩), .pointer (some ⟨t.q, 0, none⟩), m.dv, m.xv, m.lv, m.mv] ∧
    PR (w6.setCell ⟨m.pp, 5, none⟩ (.slice (some ⟨g6, 0, none⟩) (M.length + 1) c6)) { m with mv := .slice (some ⟨g6, 0, none⟩) (M.length + 1) c6 } t st L (M ++ [x]) Z ∧
    Chg (fun k => k = m.pp ∨ m.mv.ownBlock = some k) w (w6.setCell ⟨m.pp, 5, none⟩ (.slice (some ⟨g6, 0, none⟩) (M.length + 1) c6)) ∧ (m.mv.ownBlock = some g6 ∨ w.heap.size ≤ g6) := by
  obtain ⟨hc, hm⟩ := hp6.chg
  have hgn : m.mv.ownBlock = some g6 ∨ w.heap.size ≤ g6 := by
    rcases hm with e | ⟨g', e, hg'⟩
    · exact .inl e.symm
    · obtain rfl := Option.some.inj e
      exact .inr hg'
  have hppl : m.mv.ownBlock ≠ some m.pp := fun e => absurd ((owns_tg h.mv _ e).one h.blk.tg) (by decide)
  have hB6 := hc.blk h.blk hppl
  have hC : Chg (fun k => k = m.pp ∨ m.mv.ownBlock = some k) w (w6.setCell ⟨m.pp, 5, none⟩ (.slice (some ⟨g6, 0, none⟩) (M.length + 1) c6)) := (hc.mono (fun _ _ h => .inr h)).trans (Chg.set ⟨m.pp, 5, none⟩ _ w6) (fun _ _ h => .inl h)
  have offT : ∀ k, t.F k → ¬ (k = m.pp ∨ m.mv.ownBlock = some k) := by
    intro k hk e
    rcases e with rfl | e
    · obtain ⟨ty, h1, h2⟩ := h.it.tg _ hk
      have := h1.one h.blk.tg
      subst this
      exact absurd h2 (by decide)
    · exact h.mt k hk e
  have offS : ∀ (i : Nat) (s : It), st[i]? = some s → ∀ k, s.F k → ¬ (k = m.pp ∨ m.mv.ownBlock = some k) := by
    intro i s hs k hk e
    rcases e with rfl | e
    · obtain ⟨ty, h1, h2⟩ := (h.its i s hs).tg _ hk
      have := h1.one h.blk.tg
      subst this
      exact absurd h2 (by decide)
    · exact h.ms i s hs k hk e
  have offZ : ∀ k, Z k → ¬ (k = m.pp ∨ m.mv.ownBlock = some k) := by
    intro k hk e
    rcases e with rfl | e
    · exact absurd ((h.zty _ hk).one h.blk.tg) (by decide)
    · exact h.zm k hk e
  have own5 : ∀ (v : Value) (ty : TypeId) (n : Nat) (xs : List Value), w.ownsRow 0 ty 1 v n xs → ty ≠ 39 → ty ≠ 5 → (w6.setCell ⟨m.pp, 5, none⟩ (.slice (some ⟨g6, 0, none⟩) (M.length + 1) c6)).ownsRow 0 ty 1 v n xs := by
    intro v ty n xs ho h39 h27
    refine hC.owns ho (fun g hg e => ?_)
    rcases e with rfl | e
    · exact h39 ((owns_tg ho _ hg).one h.blk.tg)
    · exact h27 ((owns_tg ho g hg).one (owns_tg h.mv g e))
  have hg6pp : g6 ≠ m.pp := by
    rintro rfl
    rcases hgn with e | e
    · exact hppl e
    · have := h.blk.lt
      omega
  have new : ∀ k, k < w.heap.size → m.mv.ownBlock ≠ some k → (Value.slice (some ⟨g6, 0, none⟩) (M.length + 1) c6).ownBlock ≠ some k := by
    intro k hk hne e
    have e1 : g6 = k := Option.some.inj e
    subst e1
    rcases hgn with e | e
    · exact hne e
    · omega
  refine ⟨hB6, ⟨?_, own5 _ _ _ _ h.dv (by decide) (by decide), own5 _ _ _ _ h.xv (by decide) (by decide), own5 _ _ _ _ h.lv (by decide) (by decide), ?_, h.it.chg hC offT, fun i s hs => (h.its i s hs).chg hC (offS i s hs), h.ap, h.aps, fun k hk => new k (h.it.lt k hk) (h.mt k hk), fun i s hs k hk => new k ((h.its i s hs).lt k hk) (h.ms i s hs k hk), h.mb.append (fun z hz => by simp at hz; subst hz; exact hx), h.zt, h.zs, fun k hk => new k (h.zl k hk) (h.zm k hk), fun k hk => Nat.lt_of_lt_of_le (h.zl k hk) hC.size, fun k hk => ?_⟩, hC, hgn⟩
  · have := hB6.set 5 (.slice (some ⟨g6, 0, none⟩) (M.length + 1) c6)
    simpa only [List.set_cons_succ, List.set_cons_zero] using this
  · rw [List.length_append, cells8_append]
    exact (Chg.set ⟨m.pp, 5, none⟩ _ w6).owns ho6 (fun g hg e => hg6pp (by have e1 : g6 = g := Option.some.inj hg; have e2 : g = m.pp := e; omega))
  · obtain ⟨cs, fr, hh⟩ := h.zty k hk
    exact ⟨cs, fr, by rw [hC.block k (h.zl k hk) (offZ k hk)]; exact hh⟩
/-- One more block is kept. -/
theorem PR.addZ (h : PR w m t st L M Z) (g : Nat) (hg : Tg w g 5) (hF : ¬ FPp m t st g) : PR w m t st L M (fun k => Z k ∨ k = g) := by
  have hgl : g < w.heap.size := by
    obtain ⟨cs, fr, hh⟩ := hg
    exact (Array.getElem?_eq_some_iff.1 hh).1
  refine ⟨h.blk, h.dv, h.xv, h.lv, h.mv, h.it, h.its, h.ap, h.aps, h.mt, h.ms, h.mb, ?_, ?_, ?_, ?_, ?_⟩
  · rintro k (hk | rfl) e
    · exact h.zt k hk e
    · exact hF (.inr (.inl e))
  · rintro i s hs k (hk | rfl) e
    · exact h.zs i s hs k hk e
    · exact hF (.inr (.inr ⟨i, s, hs, e⟩))
  · rintro k (hk | rfl) e
    · exact h.zm k hk e
    · exact hF (.inl (.inr (.inr (.inr (.inr e)))))
  · rintro k (hk | rfl)
    · exact h.zl k hk
    · exact hgl
  · rintro k (hk | rfl)
    · exact h.zty k hk
    · exact hg
theorem PR.addZs (h : PR w m t st L M Z) (ad : Option Addr) (n c : Nat) (xs : List Value) (ho : w.ownsRow 0 5 1 (.slice ad n c) n xs) (hF : ∀ g, (Value.slice ad n c).ownBlock = some g → ¬ FPp m t st g) : PR w m t st L M (fun k => Z k ∨ (Value.slice ad n c).ownBlock = some k) := by
  cases hb : (Value.slice ad n c).ownBlock with
  | none =>
    have e : (fun k => Z k ∨ (none : Option Nat) = some k) = Z := by
      funext k
      simp
    rw [e]
    exact h
  | some g =>
    have := h.addZ g (owns_tg ho g hb) (hF g hb)
    have e : (fun k => Z k ∨ (some g : Option Nat) = some k) = (fun k => Z k ∨ k = g) := by
      funext k
      simp [eq_comm]
    rw [e]
    exact this
end

end Go.Proofs.Ytgmcfejmhlglkaa
