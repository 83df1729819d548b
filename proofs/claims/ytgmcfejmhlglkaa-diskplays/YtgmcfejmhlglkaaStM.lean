/-
  A step of a pair: the program's call, then the document's.
-/
import Derived.Test.YtgmcfejmhlglkaaPrE
namespace Go.Proofs.Ytgmcfejmhlglkaa
open Go.RowKit
set_option linter.unusedVariables false
set_option linter.unusedSimpArgs false

/-- How often the power may have failed. -/
def Fb (B : Nat) (t : It) (st : List It) : Prop := t.S.falls ≤ B ∧ ∀ (i : Nat) (s : It), st[i]? = some s → s.S.falls ≤ B
/-- A pair behind a step. -/
def PX (w w' : World) (m : PM) (t : It) (st : List It) (ks : List Kp) (Z : Nat → Prop) (B : Nat) : Prop := ∃ m' t' st' ks' Z', m'.pp = m.pp ∧ PS w' m' t' st' ks' Z' ∧ ks'.length ≤ ks.length + 60 ∧ st'.length ≤ st.length + 1 ∧ Fb (B + 2) t' st' ∧ Chg (FPp m t st) w w' ∧ (∀ k, FPp m' t' st' k → FPp m t st k ∨ w.heap.size ≤ k) ∧ (∀ k, Z' k → Z k ∨ w.heap.size ≤ k)

theorem op_falls (S : St) : S.op.2.falls ≤ S.falls + 1 := by
  unfold St.op
  split
  · exact Nat.le_succ _
  · exact Nat.le_refl _
  · exact Nat.le_succ _
theorem append_falls (S : St) (f : Int) (b : List Int) : (S.append f b).2.falls ≤ S.falls + 1 := by
  unfold St.append
  split
  · exact Nat.le_succ _
  · split
    · exact Nat.le_succ _
    · split
      · exact Nat.le_succ _
      · exact op_falls _
theorem sync_falls (S : St) (f : Int) : (S.sync f).2.falls ≤ S.falls + 1 := by
  unfold St.sync
  split
  · exact Nat.le_succ _
  · split
    · exact op_falls _
    · split
      · exact Nat.le_succ _
      · exact op_falls S
theorem truncate_falls (S : St) (f n : Int) : (S.truncate f n).2.falls ≤ S.falls + 1 := by
  unfold St.truncate
  split
  · exact Nat.le_succ _
  · split
    · exact Nat.le_succ _
    · split
      · exact Nat.le_succ _
      · split
        · exact op_falls _
        · exact op_falls S
theorem fuse_falls (S : St) (o : Int) (K : List Int) : (S.setFuse o K).2.falls ≤ S.falls + 1 := by
  unfold St.setFuse
  split
  · exact Nat.le_succ _
  · split
    · exact Nat.le_succ _
    · exact Nat.le_succ _
theorem crash_falls (S : St) (K : List Int) : (S.crash K).falls ≤ S.falls + 1 := by
  unfold St.crash
  split
  · exact Nat.le_refl _
  · exact Nat.le_succ _

/-- The program's disk has changed, the document's not yet. -/
structure Half (w0 u : World) (t : It) (S' : St) (F1' : Nat → Prop) : Prop where
  d : Dk 80 82 u t.p F1' S'
  c : Chg t.F1 w0 u
  n : New w0 t.F1 F1'
section
variable {w w0 w1 w2 u : World} {m : PM} {t : It} {st : List It} {ks : List Kp} {Z : Nat → Prop} {S' : St}
theorem half_pre (h : PS w m t st ks Z) (hl : Lat w w1) : Dk 80 82 w1 t.p t.F1 t.S := h.1.it.a.chg (Chg.of_below (F := fun _ => False) hl) (fun _ _ h => h)
theorem half_a (h : PS w m t st ks Z) (hl : Lat w w1) (hD : Dks 80 82 w1 w2 t.p t.F1 S') : ∃ F1', Half w w2 t S' F1' ∧ ∀ k, F1' k → t.F1 k ∨ w1.heap.size ≤ k := by
  obtain ⟨F', h1, h2, h3⟩ := hD
  exact ⟨F', ⟨h1, (Chg.of_below hl).trans h2 (fun _ _ h => h), fun k hk => (h3 k hk).imp id (fun e => Nat.le_trans hl.size e)⟩, h3⟩
theorem Half.chg {F1' G : Nat → Prop} (h : Half w0 u t S' F1') {u' : World} (hc : Chg G u u') (hG : ∀ k, F1' k → ¬ G k) (hw : ∀ k, k < w0.heap.size → ¬ G k) : Half w0 u' t S' F1' := ⟨h.d.chg hc hG, h.c.trans hc (fun k hk e => absurd e (hw k hk)), h.n⟩
theorem Half.later {F1' : Nat → Prop} (h : Half w0 u t S' F1') {u' : World} (hl : Lat u u') : Half w0 u' t S' F1' := h.chg (Chg.of_below (F := fun _ => False) hl) (fun _ _ h => h) (fun _ _ h => h)
theorem Half.pre {F1' : Nat → Prop} (hH : Half w u t S' F1') (h : PS w m t st ks Z) : Dk 75 86 u t.q t.F2 t.S := h.1.it.b.chg hH.c (fun k hk e => h.1.it.ne k e hk)
theorem half_b {F1' : Nat → Prop} (hH : Half w w1 t S' F1') (h : PS w m t st ks Z) (hD : Dks 75 86 w1 w2 t.q t.F2 S') : ∃ F2', PS w2 m ⟨t.p, t.q, F1', F2', S'⟩ st ks Z ∧ Chg t.F w w2 ∧ ∀ k, (F1' k ∨ F2' k) → t.F k ∨ w.heap.size ≤ k := by
  obtain ⟨F2', h1, h2, h3⟩ := hD
  have hn2 : ∀ k, F1' k → ¬ t.F2 k := by
    intro k hk e
    rcases hH.n k hk with f | f
    · exact h.1.it.ne k f e
    · have := h.1.it.b.lt k e
      omega
  have hC : Chg t.F w w2 := (hH.c.mono (fun _ _ e => .inl e)).trans h2 (fun _ _ e => .inr e)
  have f1 : ∀ k, F1' k → t.F k ∨ w.heap.size ≤ k := fun k hk => (hH.n k hk).imp (fun e => .inl e) id
  have f2 : ∀ k, F2' k → t.F k ∨ w.heap.size ≤ k := fun k hk => (h3 k hk).imp (fun e => .inr e) (fun e => Nat.le_trans hH.c.size e)
  refine ⟨F2', h.set (X := fun _ => False) (hH.d.chg h2 hn2) h1 ?_ (hC.mono (fun _ _ e => .inl e)) (fun _ e => e.elim) f1 f2, hC, fun k hk => hk.elim (f1 k) (f2 k)⟩
  intro k hk e
  rcases h3 k e with f | f
  · exact hn2 k hk f
  · have := hH.d.lt k hk
    omega
theorem px_set {F1' F2' : Nat → Prop} {B : Nat} (hB : Fb B t st) (hf : S'.falls ≤ t.S.falls + 2) (h : PS w2 m ⟨t.p, t.q, F1', F2', S'⟩ st ks Z) (hC : Chg t.F w w2) (hn : ∀ k, (F1' k ∨ F2' k) → t.F k ∨ w.heap.size ≤ k) : PX w w2 m t st ks Z B := by
  refine ⟨m, _, st, ks, Z, rfl, h, Nat.le_add_right _ _, Nat.le_succ _, ⟨Nat.le_trans hf (by have := hB.1; omega), fun i s hs => Nat.le_trans (hB.2 i s hs) (by omega)⟩, hC.mono (fun _ _ e => .inr (.inl e)), ?_, fun k hk => .inl hk⟩
  rintro k (e | e | ⟨i, s, hs, e⟩)
  · exact .inl (.inl e)
  · exact (hn k e).imp (fun x => .inr (.inl x)) id
  · exact .inl (.inr (.inr ⟨i, s, hs, e⟩))
theorem PX.later {w' : World} {B : Nat} (h : PX w w2 m t st ks Z B) (hl : Lat w2 w') : PX w w' m t st ks Z B := by
  obtain ⟨m', t', st', ks', Z', h1, h2, h3, h4, h5, h6, h7, h8⟩ := h
  exact ⟨m', t', st', ks', Z', h1, h2.later hl, h3, h4, h5, h6.trans (Chg.of_below (F := fun _ => False) hl) (fun _ _ e => e.elim), h7, h8⟩
/-- From a world in which only new things were added. -/
theorem PX.from {B : Nat} (hl : Lat w w0) (h : PX w0 w2 m t st ks Z B) : PX w w2 m t st ks Z B := by
  obtain ⟨m', t', st', ks', Z', h1, h2, h3, h4, h5, h6, h7, h8⟩ := h
  exact ⟨m', t', st', ks', Z', h1, h2, h3, h4, h5, (Chg.of_below hl).trans h6 (fun _ _ e => e), fun k hk => (h7 k hk).imp id (fun e => Nat.le_trans hl.size e), fun k hk => (h8 k hk).imp id (fun e => Nat.le_trans hl.size e)⟩
theorem px_pss {B d : Nat} (hd : d ≤ 60) (hB : Fb B t st) (h : PSs w w2 m t st ks Z d) : PX w w2 m t st ks Z B := by
  obtain ⟨m', ks', Z', h1, h2, h3, h4, h5, h6, h7⟩ := h
  refine ⟨m', t, st, ks', Z', h1, h2, Nat.le_trans h3 (by omega), Nat.le_succ _, ⟨Nat.le_trans hB.1 (by omega), fun i s hs => Nat.le_trans (hB.2 i s hs) (by omega)⟩, h4.mono (fun _ _ e => .inl e), ?_, h7⟩
  rintro k (e | e | e)
  · exact (h5 k e).imp (fun x => .inl x) id
  · exact .inl (.inr (.inl e))
  · exact .inl (.inr (.inr e))
end

end Go.Proofs.Ytgmcfejmhlglkaa
