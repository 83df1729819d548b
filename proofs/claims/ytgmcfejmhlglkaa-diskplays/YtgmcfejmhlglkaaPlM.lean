/-
  DiskPlays: two pairs beside one another.
-/
import Derived.Test.YtgmcfejmhlglkaaStM
import Derived.Test.YtgmcfejmhlglkaaQr
namespace Go.Proofs.Ytgmcfejmhlglkaa
open Go.RowKit
set_option linter.unusedVariables false

theorem PS.q {w : World} {m : PM} {t : It} {st : List It} {ks : List Kp} {Z : Nat → Prop} (h : PS w m t st ks Z) : Q.PS w m t st ks Z :=
  ⟨⟨h.1.blk, h.1.dv, h.1.xv, h.1.lv, h.1.mv, h.1.it, h.1.its, h.1.mt, h.1.ms, h.1.mb, h.1.zt, h.1.zs, h.1.zm, h.1.zl, h.1.zty⟩, h.2⟩
/-- One of those that were put by is taken up; it stays among them. -/
theorem Q.PS.take {w w' : World} {m : PM} {t s : It} {st : List It} {ks : List Kp} {Z : Nat → Prop} (h : Q.PS w m t st ks Z) {k : Nat} (hs : st[k]? = some s) (hC : Chg (fun i => i = m.pp) w w') (hB : Blk w' m.pp 39 [.pointer (some ⟨s.p, 0, none⟩), .pointer (some ⟨s.q, 0, none⟩), m.dv, m.xv, m.lv, m.mv]) : Q.PS w' m s st ks Z := by
  have own : ∀ {ty : TypeId} {v : Value} {n : Nat} {xs : List Value}, w.ownsRow 0 ty 1 v n xs → ty ≠ 39 → w'.ownsRow 0 ty 1 v n xs := fun ho hne => hC.owns ho (fun g hg e => hne (by subst e; exact (owns_tg ho _ hg).one h.1.blk.tg))
  have off : ∀ {u : It}, u.ok w → u.ok w' := fun hu => hu.chg hC (fun i hi e => by
    obtain ⟨ty, h1, h2⟩ := hu.tg i hi
    subst e
    have := h1.one h.1.blk.tg
    subst this
    exact absurd h2 (by decide))
  have offZ : ∀ i, Z i → ¬ i = m.pp := fun i hi e => by
    subst e
    exact absurd ((h.1.zty _ hi).one h.1.blk.tg) (by decide)
  refine ⟨⟨hB, own h.1.dv (by decide), own h.1.xv (by decide), own h.1.lv (by decide), own h.1.mv (by decide), off (h.1.its k s hs), fun i u hu => off (h.1.its i u hu), h.1.ms k s hs, h.1.ms, h.1.mb, h.1.zs k s hs, h.1.zs, h.1.zm, fun i hi => Nat.lt_of_lt_of_le (h.1.zl i hi) hC.size, fun i hi => ?_⟩, fun i u hu => (h.2 i u hu).chg hC offZ⟩
  obtain ⟨cs, fr, hh⟩ := h.1.zty i hi
  exact ⟨cs, fr, by rw [hC.block i (h.1.zl i hi) (offZ i hi)]; exact hh⟩

/-- A pair behind a pointer, after i steps; or none. -/
def PV (w : World) (v : Value) (F Z : Nat → Prop) (i : Nat) : Prop :=
  (v = .pointer none ∧ (∀ k, ¬ F k) ∧ ∀ k, ¬ Z k) ∨ ∃ m t st ks, v = .pointer (some ⟨m.pp, 0, none⟩) ∧ PS w m t st ks Z ∧ F = FPp m t st ∧ Fb (2 * i) t st ∧ ks.length ≤ 60 * i ∧ st.length ≤ i
theorem PV.chg {w w' : World} {v : Value} {F Z G : Nat → Prop} {i : Nat} (h : PV w v F Z i) (hc : Chg G w w') (hG : ∀ k, F k → ¬ G k) (hZ : ∀ k, Z k → ¬ G k) : PV w' v F Z i := by
  rcases h with h | ⟨m, t, st, ks, h1, h2, h3, h4⟩
  · exact .inl h
  · subst h3
    exact .inr ⟨m, t, st, ks, h1, h2.chg hc hG hZ, rfl, h4⟩
theorem PV.later {w w' : World} {v : Value} {F Z : Nat → Prop} {i : Nat} (h : PV w v F Z i) (hb : Below w.heap.size w w') : PV w' v F Z i := h.chg (Chg.of_below (F := fun _ => False) hb) (fun _ _ h => h) (fun _ _ h => h)
theorem PV.lt {w : World} {v : Value} {F Z : Nat → Prop} {i : Nat} (h : PV w v F Z i) : (∀ k, F k → k < w.heap.size) ∧ ∀ k, Z k → k < w.heap.size := by
  rcases h with ⟨_, h1, h2⟩ | ⟨m, t, st, ks, h1, h2, h3, h4⟩
  · exact ⟨fun k hk => absurd hk (h1 k), fun k hk => absurd hk (h2 k)⟩
  · subst h3
    exact ⟨h2.1.lt, h2.1.zl⟩
theorem PV.more {w : World} {v : Value} {F Z : Nat → Prop} {i : Nat} (h : PV w v F Z i) : PV w v F Z (i + 1) := by
  rcases h with h | ⟨m, t, st, ks, h1, h2, h3, h4, h5, h6⟩
  · exact .inl h
  · exact .inr ⟨m, t, st, ks, h1, h2, h3, ⟨by have := h4.1; omega, fun j s hs => by have := h4.2 j s hs; omega⟩, by omega, by omega⟩
theorem pv_px {w w' : World} {m : PM} {t : It} {st : List It} {ks : List Kp} {Z : Nat → Prop} {i : Nat} (h : PX w w' m t st ks Z (2 * i)) (hk : ks.length ≤ 60 * i) (hs : st.length ≤ i) :
    ∃ F' Z', PV w' (.pointer (some ⟨m.pp, 0, none⟩)) F' Z' (i + 1) ∧ Chg (FPp m t st) w w' ∧ (∀ k, F' k → FPp m t st k ∨ w.heap.size ≤ k) ∧ (∀ k, Z' k → Z k ∨ w.heap.size ≤ k) := by
  obtain ⟨m', t', st', ks', Z', h1, h2, h3, h4, h5, h6, h7, h8⟩ := h
  exact ⟨_, Z', .inr ⟨m', t', st', ks', by rw [h1], h2, rfl, ⟨by have := h5.1; omega, fun j s hs => by have := h5.2 j s hs; omega⟩, by omega, by omega⟩, h6, h7, h8⟩

/-- Two pairs that have nothing to do with one another, and with what was there in W. -/
structure Tw (W w : World) (v1 v2 : Value) (F1 Z1 F2 Z2 : Nat → Prop) (i : Nat) : Prop where
  a : PV w v1 F1 Z1 i
  b : PV w v2 F2 Z2 i
  ff : ∀ k, F1 k → ¬ F2 k
  fz : ∀ k, F1 k → ¬ Z2 k
  zf : ∀ k, Z1 k → ¬ F2 k
  new : (∀ k, F1 k → W.heap.size ≤ k) ∧ (∀ k, F2 k → W.heap.size ≤ k)
  bel : Below W.heap.size W w
theorem Tw.swap {W w : World} {v1 v2 : Value} {F1 Z1 F2 Z2 : Nat → Prop} {i : Nat} (h : Tw W w v1 v2 F1 Z1 F2 Z2 i) : Tw W w v2 v1 F2 Z2 F1 Z1 i :=
  ⟨h.b, h.a, fun k h1 h2 => h.ff k h2 h1, fun k h1 h2 => h.zf k h2 h1, fun k h1 h2 => h.fz k h2 h1, ⟨h.new.2, h.new.1⟩, h.bel⟩
theorem Tw.later {W w w' : World} {v1 v2 : Value} {F1 Z1 F2 Z2 : Nat → Prop} {i : Nat} (h : Tw W w v1 v2 F1 Z1 F2 Z2 i) (hb : Below w.heap.size w w') : Tw W w' v1 v2 F1 Z1 F2 Z2 i :=
  ⟨h.a.later hb, h.b.later hb, h.ff, h.fz, h.zf, h.new, h.bel.trans (hb.mono h.bel.size)⟩
/-- The first one has gone on. -/
theorem Tw.step {W w w' : World} {v1 v2 : Value} {F1 Z1 F2 Z2 F1' Z1' : Nat → Prop} {i : Nat} (h : Tw W w v1 v2 F1 Z1 F2 Z2 i) (h1 : PV w' v1 F1' Z1' (i + 1)) (hc : Chg F1 w w') (hF : ∀ k, F1' k → F1 k ∨ w.heap.size ≤ k) (hZ : ∀ k, Z1' k → Z1 k ∨ w.heap.size ≤ k) : Tw W w' v1 v2 F1' Z1' F2 Z2 (i + 1) := by
  have hl2 := h.b.lt
  refine ⟨h1, (h.b.chg hc (fun k hk e => h.ff k e hk) (fun k hk e => h.fz k e hk)).more, fun k hk e => ?_, fun k hk e => ?_, fun k hk e => ?_, ⟨fun k hk => ?_, h.new.2⟩, h.bel.trans (hc.below h.bel.size h.new.1)⟩
  · rcases hF k hk with q | q
    · exact h.ff k q e
    · have := hl2.1 k e; omega
  · rcases hF k hk with q | q
    · exact h.fz k q e
    · have := hl2.2 k e; omega
  · rcases hZ k hk with q | q
    · exact h.zf k q e
    · have := hl2.1 k e; omega
  · rcases hF k hk with q | q
    · exact h.new.1 k q
    · have := h.bel.size; omega

/-- A step of the script, as it came in. -/
structure Stp where
  kd : Int
  dd : Int
  f : Int
  a : Int
  n : Int
  ba : Option Addr
  bn : Nat
  bc : Nat
  bs : List Int
  ka : Option Addr
  kn : Nat
  kc : Nat
  kl : List Int
def Stp.cells (s : Stp) : List Value := [.int .i64 s.kd, .int .i64 s.dd, .int .i64 s.f, .int .i64 s.a, .int .i64 s.n, .slice s.ba s.bn s.bc, .slice s.ka s.kn s.kc]
def I64 (n : Int) : Prop := -9223372036854775808 ≤ n ∧ n ≤ 9223372036854775807
structure Stp.ok (w : World) (s : Stp) : Prop where
  dd : I64 s.dd
  a : I64 s.a
  n : I64 s.n
  sl : Sl w s.ba s.bn s.bs
  non : s.ba = none → s.bn = 0 ∧ s.bc = 0
  bl : s.bn ≤ 140737488355328
  sn : Sn w s.ka s.kn s.kl
  kone : s.ka = none → s.kn = 0 ∧ s.kc = 0
  kl' : s.kn ≤ 140737488355328
/-- The script. -/
def Scr (W : World) (b off n : Nat) (S : Nat → Stp) : Prop := ∀ i, i < n → (∀ q u, (S i).cells[q]? = some u → W.cell? ⟨b, off + i * 7 + q, none⟩ = some u) ∧ (S i).ok W

end Go.Proofs.Ytgmcfejmhlglkaa
