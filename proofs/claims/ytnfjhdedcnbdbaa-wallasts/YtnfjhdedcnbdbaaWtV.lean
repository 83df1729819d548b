/-
  WalLasts: what a deed leaves, purely.
-/
import Derived.Test.YtnfjhdedcnbdbaaWtD
import Derived.Test.YtnfjhdedcnbdbaaWlG
import Derived.Test.YtnfjhdedcnbdbaaWlH
namespace Go.Proofs.Ytnfjhdedcnbdbaa
open Go.RowKit
set_option linter.unusedVariables false
set_option linter.unusedSimpArgs false

theorem built42z (g n c : Nat) : Try.prog.built 42 [(0, .slice (some ⟨g, 0, none⟩) n c)] = some #[.slice (some ⟨g, 0, none⟩) n c, .slice none 0 0] := by kernel_rfl
theorem zero42' : (Try.prog.info? 42).map (fun i => (i.zero.map (·.cells.size), i.size)) = some (some 2, 2) := by kernel_rfl
theorem zero48' : (Try.prog.info? 48).map (fun i => (i.zero.map (·.cells.size), i.size)) = some (some 4, 4) := by kernel_rfl
theorem format_full {S : St} {cap slots : Nat} {st : List Int} (h2 : 2 ≤ S.L.length) (hok : okH 1 cap slots = true) (hfit : ¬ st.length + 33 ≤ cap) (hc : cap ≤ 4194304) : S.format cap slots st = (60, S) := by
  unfold St.format
  rw [if_neg (by rw [hok]; simp; omega), if_pos]
  unfold fitsU weight
  by_cases hb : (st.length : Int) < 0 ∨ 4194280 < (st.length : Int)
  · rw [if_pos hb]; simp
  · rw [if_neg hb]; simp; omega
theorem LS_fuse {falls live : Nat} {h : Hd} {st : List Int} {recs : List (List Int)} {o k : Int} (ho : 0 ≤ o) : (LS falls live h st recs).setFuse o [k, k] = (0, LF falls live h st recs (fz (some (o.toNat, k)))) := by
  unfold St.setFuse
  rw [if_neg (by simp [LS]), if_neg (by omega), LS_len]
  rfl
/-- What holds of a log between the deeds. -/
structure LI (i size falls live : Nat) (h : Hd) (t : Tl) : Prop where
  k : Lgok h t.st t.recs
  cap : h.cap = size
  hl : live ≤ 1
  g : h.g ≤ i + 1
  fl : falls ≤ 2 * i
  rl : t.recs.length ≤ i
  fn : (⟨falls, live, h⟩ : Lw).fine


/-- A whole variable written. -/
theorem wpList_store_to {P : Program} {w : World} {ops : Array Oper} {rest : List Oper} {o : Oper} {a : Act} {Q : Exit → Act → World → Prop} (hg : o.guard = none) (ty : TypeId) (x y : Operand) (ho : o.op = .store ty x y) (hd : o.dst = none) (b : Nat) {t : TypeId} {l l0 : List Value} (hB : Blk w b t l0)
    (hx : a.eval x = .pointer (some ⟨b, 0, none⟩)) (hy : a.eval y = .agg l.toArray) (hl : l.length = l0.length) (hi : (P.info? ty).map (·.size) = some l.length) (hone : ∀ v ∈ l, v.oneCell' = true) (h : ∀ w2, Blk w2 b t l → Chg (fun i => i = b) w w2 → wpList P ops Q rest a w2) : wpList P ops Q (o :: rest) a w :=
  wpList_store_blk hg ty x y ho hd b hB hx hy hl hi hone (h _ (blk_stored hB hl) (chg_sets (fun i => i = b) b rfl _ 0 w))

/-- The switch is over. -/
structure Sw (falls live : Nat) (hd : Hd) (tt : Tl) (kd : Int) (fu : Option (Nat × Int)) (ev : Int) (fr sy : Nat) (S : St) (l : Lw) (nx : Tl) : Prop where
  oc : Oc falls live hd tt.st tt.recs nx.st nx.recs (fz fu) (stay fu sy fr) ev S l
  rl : nx.recs.length ≤ tt.recs.length + 1
  sy : 1 ≤ sy ∧ sy ≤ 2
  fr : fr ≤ 3033
  kd : (0 ≤ kd ∧ kd ≤ 3) ∨ (nx = tt ∧ ev = 0)
/-- What is told then. -/
def Tl.pick (c : Bool) (nx tt : Tl) : Tl := if c then nx else tt
structure LK (i size live : Nat) (h : Hd) (t : Tl) : Prop where
  k : Lgok h t.st t.recs
  cap : h.cap = size
  hl : live ≤ 1
  g : h.g ≤ i + 2
  rl : t.recs.length ≤ i + 1
theorem LK.li {i size live falls : Nat} {h : Hd} {t : Tl} (k : LK i size live h t) (hf : falls ≤ 2 * i + 2) (hn : (⟨falls, live, h⟩ : Lw).fine) : LI (i + 1) size falls live h t := ⟨k.k, k.cap, k.hl, k.g, by omega, k.rl, hn⟩
theorem fine_of {falls live : Nat} {h : Hd} {st : List Int} {recs : List (List Int)} (k : Lgok h st recs) (hl : live ≤ 1) (hf : falls ≤ 1099511627776) : (⟨falls, live, h⟩ : Lw).fine := by
  have h2 := h.ok_iff.1 k.ok
  have h3 := k.g
  exact ⟨hl, by show h.g < _; omega, h2.2.2.1, h2.2.2.2.2, hf⟩
section
variable {i size falls live : Nat} {hd : Hd} {tt : Tl} {kd : Int} {fu : Option (Nat × Int)} {ev : Int} {fr sy : Nat} {S : St} {l : Lw} {nx : Tl}
theorem LF_restart (falls live : Nat) (h : Hd) (st : List Int) (recs : List (List Int)) (f : Option (Nat × List Int)) : (LF falls live h st recs f).restart = LS falls live h st recs := rfl
theorem Sw.alive (h : Sw falls live hd tt kd fu ev fr sy S l nx) (L : LI i size falls live hd tt) (hi : i ≤ 200) (son : S.on = true) : ∃ live' h', S.restart = LS falls live' h' (Tl.pick (ev == 0) nx tt).st (Tl.pick (ev == 0) nx tt).recs ∧ l = ⟨falls, live', h'⟩ ∧ LI (i + 1) size falls live' h' (Tl.pick (ev == 0) nx tt) ∧
    S.restart.bytes l = ((laid h' (Tl.pick (ev == 0) nx tt).st (Tl.pick (ev == 0) nx tt).recs).length : Int) ∧ (ev = 0 ∨ ev = 60 ∧ (laid h' (Tl.pick (ev == 0) nx tt).st (Tl.pick (ev == 0) nx tt).recs).length = (laid hd tt.st tt.recs).length) := by
  have hf := L.fl
  have hg := L.g
  have hr := L.rl
  have hr2 := h.rl
  rcases h.oc with ⟨live', h', fu', he, hS, hl, hl1, hk, hc, hs, hg'⟩ | ⟨he, hS, hl⟩ | ⟨live', h', x, y, he, ho, _⟩
  · subst he hS hl
    have e : Tl.pick ((0 : Int) == 0) nx tt = nx := rfl
    rw [e]
    refine ⟨live', h', rfl, rfl, ⟨hk, by rw [hc]; exact L.cap, hl1, by omega, by omega, by omega, fine_of hk hl1 (by omega)⟩, ?_, .inl rfl⟩
    rw [LF_restart, ← LF_none]
    exact LF_bytes hl1 h'
  · subst he hS hl
    have e : Tl.pick ((60 : Int) == 0) nx tt = tt := rfl
    rw [e]
    refine ⟨live, hd, rfl, rfl, ⟨L.k, L.cap, L.hl, by omega, by omega, by omega, L.fn⟩, ?_, .inr ⟨rfl, rfl⟩⟩
    rw [LF_restart, ← LF_none]
    exact LF_bytes L.hl hd
  · rw [ho] at son; cases son
theorem Sw.crash (h : Sw falls live hd tt kd fu ev fr sy S l nx) (L : LI i size falls live hd tt) (son : S.on = true) (K : List Int) : ∃ live' h' x y, Cr (S.crash K) (falls + 1) live' h' (Tl.pick (ev == 0) nx tt).st (Tl.pick (ev == 0) nx tt).recs x y ∧ LK i size live' h' (Tl.pick (ev == 0) nx tt) := by
  have hg := L.g
  have hr := L.rl
  have hr2 := h.rl
  have hcr : S.crash K = S.fail K := by unfold St.crash; rw [if_pos son]
  rw [hcr]
  rcases h.oc with ⟨live', h', fu', he, hS, hl, hl1, hk, hc, hs, hg'⟩ | ⟨he, hS, hl⟩ | ⟨live', h', x, y, he, ho, _⟩
  · subst he hS hl
    have e : Tl.pick ((0 : Int) == 0) nx tt = nx := rfl
    rw [e]
    exact ⟨live', h', [], [], (LF.cr _ _ _ _ _ _).fail K, ⟨hk, by rw [hc]; exact L.cap, hl1, by omega, by omega⟩⟩
  · subst he hS hl
    have e : Tl.pick ((60 : Int) == 0) nx tt = tt := rfl
    rw [e]
    exact ⟨live, hd, [], [], (LF.cr _ _ _ _ _ _).fail K, ⟨L.k, L.cap, L.hl, by omega, by omega⟩⟩
  · rw [ho] at son; cases son
theorem Sw.dead (h : Sw falls live hd tt kd fu ev fr sy S l nx) (L : LI i size falls live hd tt) (hi : i ≤ 200) (son : S.on = false) : ev = 40 ∧ (∀ r, S.wappend l r = (40, S)) ∧ (∀ r, S.wcheck l r = (40, S, l)) ∧ S.bytes l = 0 ∧ l.fine ∧ S.falls ≤ 1099511627000 ∧
    ∃ live' h' x y, Cr S (falls + 1) live' h' (Tl.pick (stay fu sy fr) nx tt).st (Tl.pick (stay fu sy fr) nx tt).recs x y ∧ LK i size live' h' (Tl.pick (stay fu sy fr) nx tt) := by
  have hf := L.fl
  have hg := L.g
  have hr := L.rl
  have hr2 := h.rl
  rcases h.oc with ⟨live', h', fu', he, hS, hl, hl1, hk, hc, hs, hg'⟩ | ⟨he, hS, hl⟩ | ⟨live', h', x, y, he, ho, hS, hl, hfn, hl1, hk, hc, hs, hg'⟩
  · subst hS; cases son
  · subst hS; cases son
  · have hne : S.falls ≠ l.falls := by rw [hS.f, hl]; omega
    refine ⟨he, fun r => ?_, fun r => ?_, ?_, hfn, by rw [hS.f]; omega, live', h', x, y, ?_⟩
    · unfold St.wappend; rw [if_pos hne]
    · unfold St.wcheck; rw [if_pos hne]
    · unfold St.bytes; rw [if_neg hne]
    · unfold Tl.pick
      cases hst : stay fu sy fr with
      | false =>
        rw [hst] at hS hk
        exact ⟨hS, ⟨hk, by rw [hc]; exact L.cap, hl1, by omega, by show tt.recs.length ≤ _; omega⟩⟩
      | true =>
        rw [hst] at hS hk
        exact ⟨hS, ⟨hk, by rw [hc]; exact L.cap, hl1, by omega, by show nx.recs.length ≤ _; omega⟩⟩
theorem stay_eq {ops kp : Int} (hfu : (if 0 ≤ ops then some (ops.toNat, kp) else none) = fu) (h1 : 1 ≤ sy) : stay fu sy fr = decide ((sy : Int) < ops ∨ ((ops = (sy : Int) ∨ ops = (sy : Int) - 1) ∧ (fr : Int) ≤ kp)) := by
  by_cases ho : 0 ≤ ops
  · rw [if_pos ho] at hfu
    subst hfu
    unfold stay
    simp only
    rw [Bool.eq_iff_iff]
    simp
    omega
  · rw [if_neg ho] at hfu
    subst hfu
    unfold stay
    symm
    simp
    omega
theorem Sw.fle (h : Sw falls live hd tt kd fu ev fr sy S l nx) : S.falls ≤ falls + 1 := by
  rcases h.oc with ⟨live', h', fu', he, hS, hl, hl1, hk, hc, hs, hg'⟩ | ⟨he, hS, hl⟩ | ⟨live', h', x, y, he, ho, hS, _⟩
  · subst hS; exact Nat.le_succ _
  · subst hS; exact Nat.le_succ _
  · rw [hS.f]; exact Nat.le_refl _
theorem TI.rcm {W A : World} {p tb nb : Nat} {F : Nat → Prop} {lp : Nat} {S : St} {l : Lw} {t nx : Tl} {X : Nat → List Value → Prop} {Bb : Option Addr → List Int → Prop} (h : TI W A p tb nb F lp S l t nx X Bb) {sn rn : Nat} (e0 : t.st.length = sn) (e : t.recs.length = rn) :
    RecM (Mu F lp tb nb) A (.slice t.ra rn t.rc) t.recs t.els ∧ (t.ra = none → rn = 0 ∧ t.rc = 0) ∧ Blk A tb 42 [.slice t.sa sn t.sc, .slice t.ra rn t.rc] ∧ Sl A t.sa sn t.st := by
  subst e e0; exact ⟨h.ft.r, h.ft.rn, h.ftb, h.ft.s⟩
theorem TI.byt {W A : World} {p tb nb : Nat} {F : Nat → Prop} {lp : Nat} {S : St} {l : Lw} {t nx : Tl} {X : Nat → List Value → Prop} {ba : Option Addr} {bb : List Int} (h : TI W A p tb nb F lp S l t nx X (fun a c => a = ba ∧ c = bb)) {mb : Nat} (e : bb.length = mb) :
    Sl A ba mb bb ∧ ∀ z, ba = some z → 0 < mb → ¬ Mu F lp tb nb z.block := by
  subst e; exact h.fb _ _ ⟨rfl, rfl⟩
theorem Sl.zero (w : World) : Sl w none 0 [] := ⟨rfl, fun _ h => (by cases h), fun j hj => absurd hj (by simp)⟩
end

end Go.Proofs.Ytnfjhdedcnbdbaa
