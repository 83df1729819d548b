import Derived.Test.YtnfjhdedcnbdbaaGreatWgL
/-
  WalPlays: a step: its beginning and its end; the kinds that are none.
-/
namespace Go.Proofs.YtnfjhdedcnbdbaaGreat
open Go.RowKit
set_option linter.unusedVariables false
set_option linter.unusedSimpArgs false

set_option maxRecDepth 100000 in
theorem shortP (a : Option Addr) (n c : Nat) (w : World) (hc : n ≤ c) (hno : a = none → n = 0 ∧ c = 0) (hb : c ≤ 9223372036854775807) : Calls Tryz.prog 20 #[.slice a n c] w fun e w' => e = .returned (.slice a (min n 3000) c) ∧ w' = w := by
  by_cases h : 3000 < n
  · have h' : (3000 : Int) < (n : Int) := by omega
    obtain ⟨⟨g, off, cp⟩, hg⟩ : ∃ z, a = some z := by
      cases a with
      | none => have := hno rfl; omega
      | some z => exact ⟨z, rfl⟩
    subst hg
    rw [show min n 3000 = 3000 by omega]
    go_enter Tryz.func20, Tryz.ntmps20
    go_wp2_with fail
    go_ret
    exact ⟨rfl, rfl⟩
  · have h' : ¬ (3000 : Int) < (n : Int) := by omega
    rw [show min n 3000 = n by omega]
    go_enter Tryz.func20, Tryz.ntmps20
    go_wp2_with fail
    go_ret
    exact ⟨rfl, rfl⟩

/-- The two worlds, all of whose blocks are new. -/
structure WS (W A : World) (wp p x : Nat) (F G : Nat → Prop) (S : St) (lo mo : Option Addr) (ll : Option (Nat × Nat × Lw)) : Prop where
  ww : WW A wp p x F G S (.pointer lo) (.pointer mo)
  ll : LL W.heap.size A p x ll lo mo
  wp : W.heap.size ≤ wp
  F : ∀ i, F i → W.heap.size ≤ i
  G : ∀ i, G i → W.heap.size ≤ i
  bel : Lat W A
theorem WS.lat {W A A' : World} {wp p x : Nat} {F G : Nat → Prop} {S : St} {lo mo : Option Addr} {ll : Option (Nat × Nat × Lw)} (h : WS W A wp p x F G S lo mo ll) (hb : Lat A A') : WS W A' wp p x F G S lo mo ll :=
  ⟨h.ww.lat hb, h.ll.lat hb, h.wp, h.F, h.G, Lat.trans _ _ _ h.bel hb⟩
/-- A block that is none of theirs has changed. -/
theorem WS.other {W A A' : World} {wp p x : Nat} {F G : Nat → Prop} {S : St} {lo mo : Option Addr} {ll : Option (Nat × Nat × Lw)} (h : WS W A wp p x F G S lo mo ll) (g : Nat) (hg : Tg A g 5) (hgF : ¬ F g) (hgG : ¬ G g) (hW : W.heap.size ≤ g) (hc : Chg (fun i => i = g) A A') : WS W A' wp p x F G S lo mo ll := by
  have tw : Tg A wp 52 := Blk.tg h.ww.b
  refine ⟨⟨hc.blk h.ww.b (fun e => ?_), h.ww.d.chg hc (fun i hi e => hgF (e ▸ hi)), h.ww.r.chg hc (fun i hi e => hgG (e ▸ hi)), h.ww.ap⟩, ?_, h.wp, h.F, h.G, Below.trans h.bel (hc.below h.bel.size (fun i e => by omega))⟩
  · subst e; exact absurd (tw.one hg) (by decide)
  · match ll, h.ll with
    | none, hl => exact hl
    | some (lp, mp, l), ⟨h1, h2, h3, ⟨sv, h4⟩, h5⟩ =>
      have t1 : Tg A lp 73 := Blk.tg h3
      have t2 : Tg A mp 91 := Blk.tg h4
      exact ⟨h1, h2, h3.chg hc (fun e => by subst e; exact absurd (t1.one hg) (by decide)), ⟨sv, h4.chg hc (fun e => by subst e; exact absurd (t2.one hg) (by decide))⟩, h5⟩

/-- An op, as it comes in. -/
structure Opn where
  kd : Int
  nn : Int
  mm : Int
  ba : Option Addr
  bn : Nat
  bc : Nat
  bs : List Int
structure Opn.ok (w : World) (s : Opn) : Prop where
  kd : -9223372036854775808 ≤ s.kd ∧ s.kd ≤ 9223372036854775807
  nn : -9223372036854775808 ≤ s.nn ∧ s.nn ≤ 9223372036854775807
  mm : -9223372036854775808 ≤ s.mm ∧ s.mm ≤ 9223372036854775807
  sl : Sl w s.ba s.bn s.bs
  non : s.ba = none → s.bn = 0 ∧ s.bc = 0
  le : s.bn ≤ s.bc
  bl : s.bc ≤ 9223372036854775807
def Opn.agg (s : Opn) : Value := .agg #[.int .i64 s.kd, .int .i64 s.nn, .int .i64 s.mm, .slice s.ba s.bn s.bc]
/-- What a step leaves. -/
def Stepd (W : World) (wp p x : Nat) (nf nl : Nat) (e : Ending) (w' : World) : Prop := e = .returned (.bool true) ∧ ∃ F G S lo mo ll, WS W w' wp p x F G S lo mo ll ∧ S.falls ≤ nf ∧ FB nl S

set_option maxRecDepth 100000 in
set_option maxHeartbeats 0 in
theorem step_none (W : World) (wp p x : Nat) (F G : Nat → Prop) (S : St) (lo mo : Option Addr) (ll : Option (Nat × Nat × Lw)) (s : Opn) (nf nl : Nat) (w : World) (h : WS W w wp p x F G S lo mo ll) (hs : s.ok W) (hf : S.falls ≤ nf) (hl : FB nl S) (hk : s.kd < 0 ∨ 7 < s.kd) :
    Calls Tryz.prog 6 #[.pointer (some ⟨wp, 0, none⟩), s.agg] w fun e w' => Stepd W wp p x nf nl e w' := by
  have H := hidden h
  have HOK := hidden hs
  have HF := hidden hf
  have HLL := hidden hl
  obtain ⟨kd, nn, mm, ba, bn, bc, bs⟩ := s
  have k0 : ¬ kd = 0 := by dsimp only at hk; omega
  have k1 : ¬ kd = 1 := by dsimp only at hk; omega
  have k2 : ¬ kd = 2 := by dsimp only at hk; omega
  have k3 : ¬ kd = 3 := by dsimp only at hk; omega
  have k4 : ¬ kd = 4 := by dsimp only at hk; omega
  have k5 : ¬ kd = 5 := by dsimp only at hk; omega
  have k6 : ¬ kd = 6 := by dsimp only at hk; omega
  have k7 : ¬ kd = 7 := by dsimp only at hk; omega
  have hnn : nn ≤ 9223372036854775807 := hs.nn.2
  clear h hs hf hl hk
  unfold Opn.agg
  go_enter Tryz.func6, Tryz.ntmps6
  go_wp2_with (refine wpList_box_blk rfl 30 (.tmp 1) rfl [.int .i64 kd, .int .i64 nn, .int .i64 mm, .slice ba bn bc] rfl ?_; intro w1 B1 bl1 hz1; have HB1 := hidden B1; have HL1 : Hid (Lat w w1) := bl1; have x3 := B1.cell 3; simp only [List.getElem?_cons_succ, List.getElem?_cons_zero] at x3; clear B1 bl1 hz1)
  refine (shortP ba bn bc w1 HOK.out.le HOK.out.non HOK.out.bl).mono ?_
  rintro e w2 ⟨rfl, hw2⟩
  obtain rfl := hw2.symm
  clear hw2 x3
  obtain ⟨m, hm⟩ : ∃ m, min bn 3000 = m := ⟨_, rfl⟩
  have hm1 : m ≤ bn ∧ m ≤ 3000 := by omega
  rw [hm]
  have HSM : Hid (Sl W ba m (bs.take m)) := HOK.out.sl.take hm1.1
  have HSM1 : Hid (Sl w1 ba m (bs.take m)) := HSM.out.later (Lat.trans _ _ _ H.out.bel HL1.out)
  generalize bs.take m = bb at *
  clear hm
  go_wp2_with fail
  refine (lentP ba m bc bb w1 HSM1.out (by omega)).mono ?_
  rintro e w3 ⟨rfl, hB3, hb3⟩
  have HB3 := hidden hB3
  have HL3 : Hid (Lat w w3) := Lat.trans _ _ _ HL1.out hb3
  have HBO := hidden (HB1.out.later hb3)
  obtain ⟨gb, hgb⟩ : ∃ gb, w1.heap.size = gb := ⟨_, rfl⟩
  obtain ⟨ob, hob⟩ : ∃ ob, w.heap.size = ob := ⟨_, rfl⟩
  have HGB : Hid (W.heap.size ≤ gb ∧ w.heap.size ≤ gb) := by have h1 := HL1.out.size; have h2 := H.out.bel.size; exact ⟨by omega, by omega⟩
  rw [hgb] at HB3 ⊢
  rw [hob] at HBO ⊢
  have x0 := HBO.out.cell 0
  simp only [List.getElem?_cons_succ, List.getElem?_cons_zero] at x0
  have H3 := hidden (H.out.lat HL3.out)
  have HSW : Hid (Sl w3 ba m bb) := HSM1.out.later hb3
  have HNG : Hid (¬ F gb ∧ ¬ G gb) := ⟨fun k => by have h1 := H.out.ww.d.lt _ k; have h2 := HGB.out.2; omega, fun k => by have h1 := H.out.ww.r.lt _ k; have h2 := HGB.out.2; omega⟩
  have HBN : Hid (∀ z, ba = some z → 0 < m → z.block < W.heap.size) := fun z hz hp => HSM.out.lt z hz hp
  clear hB3 hb3 HSM1 HB1 HL1 hgb hob
  go_wp2_with fail
  refine (backP gb ba m bc bb w3 HB3.out HSW.out (fun z hz hp e => by have h1 := HBN.out z hz hp; have h2 := HGB.out.1; omega) (by omega)).mono ?_
  rintro e w4 ⟨rfl, hc4⟩
  have HBO4 := hidden (hc4.blk HBO.out (fun e => by have t1 : Tg w3 ob 30 := Blk.tg HBO.out; have t2 : Tg w3 gb 5 := Blk.tg HB3.out; subst e; exact absurd (t1.one t2) (by decide)))
  have H4 := hidden (H3.out.other gb (Blk.tg HB3.out) HNG.out.1 HNG.out.2 HGB.out.1 hc4)
  clear hc4 x0
  go_wp2_with fail
  refine (filesP wp p x F G S _ _ w4 H4.out.ww).mono ?_
  rintro e w5 ⟨rfl, hl5⟩
  have H5 := hidden (H4.out.lat hl5)
  have x1 := (HBO4.out.later hl5).cell 1
  simp only [List.getElem?_cons_succ, List.getElem?_cons_zero] at x1
  clear hl5
  go_wp2_with fail
  refine (looksP W.heap.size wp p x F G S lo mo ll nn w5 H5.out.ww H5.out.ll hnn).mono ?_
  rintro e w6 ⟨rfl, hl6⟩
  have H6 := hidden (H5.out.lat hl6)
  clear hl6 x1
  go_wp2_with fail
  go_ret
  exact ⟨rfl, F, G, S, lo, mo, ll, H6.out, HF.out, HLL.out⟩

end Go.Proofs.YtnfjhdedcnbdbaaGreat

/-
  WalPlays: the kinds of a step.
-/
namespace Go.Proofs.YtnfjhdedcnbdbaaGreat
open Go.RowKit
set_option linter.unusedVariables false
set_option linter.unusedSimpArgs false

section
variable {W A A1 A2 : World} {wp p x : Nat} {F G : Nat → Prop} {S S' : St} {lo mo : Option Addr} {ll : Option (Nat × Nat × Lw)}
theorem WS.r1 (h : WS W A wp p x F G S lo mo ll) (hd : Dks 64 79 A A1 p F S') : Dk 82 97 A1 x G S := by
  obtain ⟨F1, k1, k2, k3⟩ := hd
  exact h.ww.r.chg k2 (fun i hi k => h.ww.ap i k hi)
theorem WS.both (h : WS W A wp p x F G S lo mo ll) (hd : Dks 64 79 A A1 p F S') (hr : Dks 82 97 A1 A2 x G S') : ∃ F' G', WS W A2 wp p x F' G' S' lo mo ll ∧ Chg (fun i => F i ∨ G i) A A2 ∧ New A F F' ∧ New A G G' := by
  obtain ⟨F1, k1, k2, k3⟩ := hd
  obtain ⟨G1, j1, j2, j3⟩ := hr
  have hc : Chg (fun i => F i ∨ G i) A A2 := (k2.mono (fun i _ hi => .inl hi)).trans j2 (fun i _ hi => .inr hi)
  have gl := h.ww.r.lt
  have n2 : New A G G1 := fun i hi => by
    rcases j3 i hi with q | q
    · exact .inl q
    · exact .inr (Nat.le_trans k2.size q)
  refine ⟨F1, G1, ⟨⟨hc.blk h.ww.b (fun k => k.elim h.ww.nf.1 h.ww.nf.2), k1.chg j2 (fun i hi k => ?_), j1, fun i hi k => ?_⟩, ?_, h.wp, fun i hi => ?_, fun i hi => ?_, Below.trans h.bel (hc.below h.bel.size (fun i k => k.elim (h.F i) (h.G i)))⟩, hc, k3, n2⟩
  · rcases k3 i hi with q | q
    · exact h.ww.ap i q k
    · have := gl i k; omega
  · rcases j3 i k with q | q
    · rcases k3 i hi with r | r
      · exact h.ww.ap i r q
      · have := gl i q; omega
    · have := k1.lt i hi; omega
  · match ll, h.ll with
    | none, hl => exact hl
    | some (lp, mp, l), ⟨h1, h2, h3, ⟨sv, h4⟩, h5⟩ =>
      have t1 : Tg A lp 73 := Blk.tg h3
      have t2 : Tg A mp 91 := Blk.tg h4
      refine ⟨h1, h2, h3.chg hc ?_, ⟨sv, h4.chg hc ?_⟩, h5⟩
      · rintro (k | k)
        · rcases h.ww.d.tg _ k with q | q | q | q <;> exact absurd (t1.one q) (by decide)
        · rcases h.ww.r.tg _ k with q | q | q | q <;> exact absurd (t1.one q) (by decide)
      · rintro (k | k)
        · rcases h.ww.d.tg _ k with q | q | q | q <;> exact absurd (t2.one q) (by decide)
        · rcases h.ww.r.tg _ k with q | q | q | q <;> exact absurd (t2.one q) (by decide)
  · rcases k3 i hi with q | q
    · exact h.F i q
    · exact Nat.le_trans h.bel.size q
  · rcases n2 i hi with q | q
    · exact h.G i q
    · exact Nat.le_trans h.bel.size q
/-- The logs are put by. -/
theorem WS.drop (h : WS W A wp p x F G S lo mo ll) : WS W ((A.setCell ⟨wp, 1, none⟩ (.pointer none)).setCell ⟨wp, 3, none⟩ (.pointer none)) wp p x F G S none none none := by
  have hc : Chg (fun i => i = wp) A ((A.setCell ⟨wp, 1, none⟩ (.pointer none)).setCell ⟨wp, 3, none⟩ (.pointer none)) := (Chg.set ⟨wp, 1, none⟩ (.pointer none) A).trans (Chg.set ⟨wp, 3, none⟩ (.pointer none) _) (fun _ _ h => h)
  exact ⟨⟨(h.ww.b.set 1 (.pointer none)).set 3 (.pointer none), h.ww.d.chg hc (fun i hi e => h.ww.nf.1 (e ▸ hi)), h.ww.r.chg hc (fun i hi e => h.ww.nf.2 (e ▸ hi)), h.ww.ap⟩, ⟨rfl, rfl⟩, h.wp, h.F, h.G, Below.trans h.bel (hc.below h.bel.size (fun i e => by have := h.wp; omega))⟩
theorem chg_drop (A : World) (wp : Nat) : Chg (fun i => i = wp) A ((A.setCell ⟨wp, 1, none⟩ (.pointer none)).setCell ⟨wp, 3, none⟩ (.pointer none)) := (Chg.set ⟨wp, 1, none⟩ (.pointer none) A).trans (Chg.set ⟨wp, 3, none⟩ (.pointer none) _) (fun _ _ h => h)
end

set_option maxRecDepth 100000 in
set_option maxHeartbeats 0 in
theorem step_restart (W : World) (wp p x : Nat) (F G : Nat → Prop) (S : St) (lo mo : Option Addr) (ll : Option (Nat × Nat × Lw)) (s : Opn) (nf nl : Nat) (w : World) (h : WS W w wp p x F G S lo mo ll) (hs : s.ok W) (hf : S.falls ≤ nf) (hl : FB nl S) (hbf : nf ≤ 1099511620000) (hk : s.kd = 6) :
    Calls Tryz.prog 6 #[.pointer (some ⟨wp, 0, none⟩), s.agg] w fun e w' => Stepd W wp p x (nf + 0) (nl + 0) e w' := by
  have H := hidden h
  have HOK := hidden hs
  have HF := hidden hf
  have HLL := hidden hl
  obtain ⟨kd, nn, mm, ba, bn, bc, bs⟩ := s
  dsimp only at hk
  subst hk
  have hnn : nn ≤ 9223372036854775807 := hs.nn.2
  clear h hs hf hl
  unfold Opn.agg
  go_enter Tryz.func6, Tryz.ntmps6
  go_wp2_with (refine wpList_box_blk rfl 30 (.tmp 1) rfl [.int .i64 6, .int .i64 nn, .int .i64 mm, .slice ba bn bc] rfl ?_; intro w1 B1 bl1 hz1; have HB1 := hidden B1; have HL1 : Hid (Lat w w1) := bl1; have x3 := B1.cell 3; simp only [List.getElem?_cons_succ, List.getElem?_cons_zero] at x3; clear B1 bl1 hz1)
  refine (shortP ba bn bc w1 HOK.out.le HOK.out.non HOK.out.bl).mono ?_
  rintro e w2 ⟨rfl, hw2⟩
  obtain rfl := hw2.symm
  clear hw2 x3
  obtain ⟨m, hm⟩ : ∃ m, min bn 3000 = m := ⟨_, rfl⟩
  have hm1 : m ≤ bn ∧ m ≤ 3000 := by omega
  rw [hm]
  have HSM : Hid (Sl W ba m (bs.take m)) := HOK.out.sl.take hm1.1
  have HSM1 : Hid (Sl w1 ba m (bs.take m)) := HSM.out.later (Lat.trans _ _ _ H.out.bel HL1.out)
  generalize bs.take m = bb at *
  clear hm
  go_wp2_with fail
  refine (lentP ba m bc bb w1 HSM1.out (by omega)).mono ?_
  rintro e w3 ⟨rfl, hB3, hb3⟩
  have HB3 := hidden hB3
  have HL3 : Hid (Lat w w3) := Lat.trans _ _ _ HL1.out hb3
  have HBO := hidden (HB1.out.later hb3)
  obtain ⟨gb, hgb⟩ : ∃ gb, w1.heap.size = gb := ⟨_, rfl⟩
  obtain ⟨ob, hob⟩ : ∃ ob, w.heap.size = ob := ⟨_, rfl⟩
  have HGB : Hid (W.heap.size ≤ gb ∧ w.heap.size ≤ gb) := by have h1 := HL1.out.size; have h2 := H.out.bel.size; exact ⟨by omega, by omega⟩
  rw [hgb] at HB3 ⊢
  rw [hob] at HBO ⊢
  have x0 := HBO.out.cell 0
  simp only [List.getElem?_cons_succ, List.getElem?_cons_zero] at x0
  have H3 := hidden (H.out.lat HL3.out)
  have HSW : Hid (Sl w3 ba m bb) := HSM1.out.later hb3
  have HNG : Hid (¬ F gb ∧ ¬ G gb) := ⟨fun k => by have h1 := H.out.ww.d.lt _ k; have h2 := HGB.out.2; omega, fun k => by have h1 := H.out.ww.r.lt _ k; have h2 := HGB.out.2; omega⟩
  have HBN : Hid (∀ z, ba = some z → 0 < m → z.block < W.heap.size) := fun z hz hp => HSM.out.lt z hz hp
  clear hB3 hb3 HSM1 HB1 HL1 hgb hob
  have HFA : Hid (S.falls ≤ 1099511627776) := Nat.le_trans HF.out (by omega)
  have c0 : w3.cell? ⟨wp, 0, none⟩ = some (.pointer (some ⟨p, 0, none⟩)) := H3.out.ww.b.cell 0
  go_wp2_with fail
  refine (restartP p F S w3 H3.out.ww.d).mono ?_
  rintro e wm ⟨rfl, hDm⟩
  have HDM := hidden hDm
  have HRM := hidden (H3.out.r1 hDm)
  have c2 : wm.cell? ⟨wp, 2, none⟩ = some (.pointer (some ⟨x, 0, none⟩)) := by
    obtain ⟨F1, k1, k2, k3⟩ := hDm
    exact (k2.blk H3.out.ww.b H3.out.ww.nf.1).cell 2
  clear hDm c0 x0
  go_wp2_with fail
  refine (restartR x G S wm HRM.out).mono ?_
  rintro e wk ⟨rfl, hDk⟩
  obtain ⟨FK, GK, hWK, hcK, hnF, hnG⟩ := H3.out.both HDM.out hDk
  have HK := hidden hWK
  clear hDk hWK c2
  obtain ⟨SK, hSK⟩ : ∃ SK, S.restart = SK := ⟨_, rfl⟩
  rw [hSK] at HK
  have HFK : Hid (SK.falls ≤ nf + 0) := by rw [← hSK]; exact HF.out
  have HLK : Hid (FB (nl + 0) SK) := by rw [← hSK]; exact HLL.out
  obtain ⟨lk, hlk⟩ : ∃ y, lo = y := ⟨_, rfl⟩
  obtain ⟨mk, hmk⟩ : ∃ y, mo = y := ⟨_, rfl⟩
  obtain ⟨llk, hllk⟩ : ∃ y, ll = y := ⟨_, rfl⟩
  rw [hlk, hmk, hllk] at HK
  clear hlk hmk hllk hSK
  have HBK := hidden (hcK.blk HB3.out (fun k => k.elim HNG.out.1 HNG.out.2))
  have HOF : Hid (¬ F ob ∧ ¬ G ob) := by
    have t1 : Tg w3 ob 30 := Blk.tg HBO.out
    refine ⟨fun k => ?_, fun k => ?_⟩
    · rcases H3.out.ww.d.tg _ k with q | q | q | q <;> exact absurd (t1.one q) (by decide)
    · rcases H3.out.ww.r.tg _ k with q | q | q | q <;> exact absurd (t1.one q) (by decide)
  have HBOK := hidden (hcK.blk HBO.out (fun k => k.elim HOF.out.1 HOF.out.2))
  have HSK : Hid (Sl wk ba m bb) := hcK.sl HSW.out (fun z hz hp k => by
    have h1 := HBN.out z hz hp
    rcases k with k | k
    · have := H3.out.F _ k; omega
    · have := H3.out.G _ k; omega)
  have HNK : Hid (¬ FK gb ∧ ¬ GK gb) := by
    have hlt : gb < w3.heap.size := HB3.out.lt
    refine ⟨fun k => ?_, fun k => ?_⟩
    · rcases hnF gb k with q | q
      · exact HNG.out.1 q
      · omega
    · rcases hnG gb k with q | q
      · exact HNG.out.2 q
      · omega
  clear hcK hnF hnG
  go_wp2_with fail
  refine (backP gb ba m bc bb wk HBK.out HSK.out (fun z hz hp e => by have h1 := HBN.out z hz hp; have h2 := HGB.out.1; omega) (by omega)).mono ?_
  rintro e w4 ⟨rfl, hc4⟩
  have HBO9 := hidden (hc4.blk HBOK.out (fun e => by have t1 : Tg wk ob 30 := Blk.tg HBOK.out; have t2 : Tg wk gb 5 := Blk.tg HBK.out; subst e; exact absurd (t1.one t2) (by decide)))
  have H4 := hidden (HK.out.other gb (Blk.tg HBK.out) HNK.out.1 HNK.out.2 HGB.out.1 hc4)
  clear hc4
  go_wp2_with fail
  refine (filesP wp p x FK GK SK _ _ w4 H4.out.ww).mono ?_
  rintro e w5 ⟨rfl, hl5⟩
  have H5 := hidden (H4.out.lat hl5)
  have x1 := (HBO9.out.later hl5).cell 1
  simp only [List.getElem?_cons_succ, List.getElem?_cons_zero] at x1
  clear hl5
  go_wp2_with fail
  refine (looksP W.heap.size wp p x FK GK SK lk mk llk nn w5 H5.out.ww H5.out.ll hnn).mono ?_
  rintro e w6 ⟨rfl, hl6⟩
  have H6 := hidden (H5.out.lat hl6)
  clear hl6 x1
  go_wp2_with fail
  go_ret
  exact ⟨rfl, FK, GK, SK, lk, mk, llk, H6.out, HFK.out, HLK.out⟩


end Go.Proofs.YtnfjhdedcnbdbaaGreat

/-
  WalPlays: the kinds of a step: Format, lay, Append.
-/
namespace Go.Proofs.YtnfjhdedcnbdbaaGreat
open Go.RowKit
set_option linter.unusedVariables false
set_option linter.unusedSimpArgs false

theorem WS.blk {W A A' : World} {wp p x : Nat} {F G : Nat → Prop} {S S1 S2 : St} {lo mo : Option Addr} {ll : Option (Nat × Nat × Lw)} (h : WS W A wp p x F G S lo mo ll) (hI : Lat A A' ∨ Dks 64 79 A A' p F S1 ∨ ∃ A1, Dks 64 79 A A1 p F S1 ∧ Dks 82 97 A1 A' x G S2) {b : Nat} {t : TypeId} {l : List Value} (hB : Blk A b t l) (hF : ¬ F b) (hG : ¬ G b) : Blk A' b t l := by
  rcases hI with hI | ⟨F1, k1, k2, k3⟩ | ⟨A1, ⟨F1, k1, k2, k3⟩, ⟨G1, j1, j2, j3⟩⟩
  · exact hB.later hI
  · exact k2.blk hB hF
  · exact j2.blk (k2.blk hB hF) hG

set_option maxRecDepth 100000 in
set_option maxHeartbeats 0 in
theorem step_format (W : World) (wp p x : Nat) (F G : Nat → Prop) (S : St) (lo mo : Option Addr) (ll : Option (Nat × Nat × Lw)) (s : Opn) (nf nl : Nat) (w : World) (h : WS W w wp p x F G S lo mo ll) (hs : s.ok W) (hf : S.falls ≤ nf) (hl : FB nl S) (hbf : nf ≤ 1099511620000) (hk : s.kd = 0) :
    Calls Tryz.prog 6 #[.pointer (some ⟨wp, 0, none⟩), s.agg] w fun e w' => Stepd W wp p x (nf + 4) (nl + 3033) e w' := by
  have H := hidden h
  have HOK := hidden hs
  have HF := hidden hf
  have HLL := hidden hl
  obtain ⟨kd, nn, mm, ba, bn, bc, bs⟩ := s
  dsimp only at hk
  subst hk
  have hnn : nn ≤ 9223372036854775807 := hs.nn.2
  clear h hs hf hl
  unfold Opn.agg
  go_enter Tryz.func6, Tryz.ntmps6
  go_wp2_with (refine wpList_box_blk rfl 30 (.tmp 1) rfl [.int .i64 0, .int .i64 nn, .int .i64 mm, .slice ba bn bc] rfl ?_; intro w1 B1 bl1 hz1; have HB1 := hidden B1; have HL1 : Hid (Lat w w1) := bl1; have x3 := B1.cell 3; simp only [List.getElem?_cons_succ, List.getElem?_cons_zero] at x3; clear B1 bl1 hz1)
  refine (shortP ba bn bc w1 HOK.out.le HOK.out.non HOK.out.bl).mono ?_
  rintro e w2 ⟨rfl, hw2⟩
  obtain rfl := hw2.symm
  clear hw2 x3
  obtain ⟨m, hm⟩ : ∃ m, min bn 3000 = m := ⟨_, rfl⟩
  have hm1 : m ≤ bn ∧ m ≤ 3000 := by omega
  rw [hm]
  have HSM : Hid (Sl W ba m (bs.take m)) := HOK.out.sl.take hm1.1
  have HSM1 : Hid (Sl w1 ba m (bs.take m)) := HSM.out.later (Lat.trans _ _ _ H.out.bel HL1.out)
  generalize bs.take m = bb at *
  clear hm
  go_wp2_with fail
  refine (lentP ba m bc bb w1 HSM1.out (by omega)).mono ?_
  rintro e w3 ⟨rfl, hB3, hb3⟩
  have HB3 := hidden hB3
  have HL3 : Hid (Lat w w3) := Lat.trans _ _ _ HL1.out hb3
  have HBO := hidden (HB1.out.later hb3)
  obtain ⟨gb, hgb⟩ : ∃ gb, w1.heap.size = gb := ⟨_, rfl⟩
  obtain ⟨ob, hob⟩ : ∃ ob, w.heap.size = ob := ⟨_, rfl⟩
  have HGB : Hid (W.heap.size ≤ gb ∧ w.heap.size ≤ gb) := by have h1 := HL1.out.size; have h2 := H.out.bel.size; exact ⟨by omega, by omega⟩
  rw [hgb] at HB3 ⊢
  rw [hob] at HBO ⊢
  have x0 := HBO.out.cell 0
  simp only [List.getElem?_cons_succ, List.getElem?_cons_zero] at x0
  have H3 := hidden (H.out.lat HL3.out)
  have HSW : Hid (Sl w3 ba m bb) := HSM1.out.later hb3
  have HNG : Hid (¬ F gb ∧ ¬ G gb) := ⟨fun k => by have h1 := H.out.ww.d.lt _ k; have h2 := HGB.out.2; omega, fun k => by have h1 := H.out.ww.r.lt _ k; have h2 := HGB.out.2; omega⟩
  have HBN : Hid (∀ z, ba = some z → 0 < m → z.block < W.heap.size) := fun z hz hp => HSM.out.lt z hz hp
  clear hB3 hb3 HSM1 HB1 HL1 hgb hob
  have HFA : Hid (S.falls ≤ 1099511627776) := Nat.le_trans HF.out (by omega)
  have b1 : w3.cell? ⟨wp, 1, none⟩ = some (.pointer lo) := H3.out.ww.b.cell 1
  have b3 : w3.cell? ⟨wp, 3, none⟩ = some (.pointer mo) := H3.out.ww.b.cell 3
  have f1 := H3.out.ww.b.frozen 1
  have f3 := H3.out.ww.b.frozen 3
  have HWD := hidden H3.out.drop
  have HNE : Hid (gb ≠ wp ∧ ob ≠ wp) := by
    have t1 : Tg w3 wp 52 := Blk.tg H3.out.ww.b
    have t2 : Tg w3 gb 5 := Blk.tg HB3.out
    have t3 : Tg w3 ob 30 := Blk.tg HBO.out
    exact ⟨fun e => by subst e; exact absurd (t1.one t2) (by decide), fun e => by subst e; exact absurd (t1.one t3) (by decide)⟩
  have HBD := hidden ((chg_drop w3 wp).blk HB3.out HNE.out.1)
  have HOD := hidden ((chg_drop w3 wp).blk HBO.out HNE.out.2)
  have HSD := hidden ((chg_drop w3 wp).sl HSW.out (fun z hz hp e => by have h1 := HBN.out z hz hp; have h2 := H3.out.wp; omega))
  go_wp2_with fail
  clear b1 b3 f1 f3 x0
  generalize (w3.setCell ⟨wp, 1, none⟩ (.pointer none)).setCell ⟨wp, 3, none⟩ (.pointer none) = wd at *
  have HOF : Hid (¬ F ob ∧ ¬ G ob) := by
    have t1 : Tg wd ob 30 := Blk.tg HOD.out
    refine ⟨fun k => ?_, fun k => ?_⟩
    · rcases HWD.out.ww.d.tg _ k with q | q | q | q <;> exact absurd (t1.one q) (by decide)
    · rcases HWD.out.ww.r.tg _ k with q | q | q | q <;> exact absurd (t1.one q) (by decide)
  have HSG : Hid (Sl wd (some ⟨gb, 0, none⟩) m bb) := lent_sl HBD.out HSD.out.len HSD.out.byte
  have HNO : Hid (ba = none → m = 0 ∧ bc = 0) := fun h => by have h1 := HOK.out.non h; dsimp only at h1; omega
  have HBG : Hid (∀ z, ba = some z → 0 < m → ¬ G z.block ∧ ¬ F z.block) := fun z hz hp => ⟨fun k => by have h1 := HBN.out z hz hp; have h2 := HWD.out.G _ k; omega, fun k => by have h1 := HBN.out z hz hp; have h2 := HWD.out.F _ k; omega⟩
  have HLB := hidden HSD.out.len
  obtain ⟨q, hq⟩ : ∃ q, S.format nn mm bb = q := ⟨_, rfl⟩
  have HQ := hidden hq
  obtain ⟨ev, SK⟩ := q
  have HFK : Hid (SK.falls ≤ nf + 4) := by have h1 := fl_format S nn mm bb; rw [hq] at h1; have h2 := HF.out; show SK.falls ≤ _; dsimp only at h1; omega
  have HLK : Hid (FB (nl + 3033) SK) := by have h1 := HLL.out.format nn mm bb; rw [hq] at h1; exact h1.up (by have := HLB.out; omega)
  clear hq
  refine step_r8 wp ob p x gb m (m + 8) bc ba nn mm ev (fun A => Lat wd A) (fun A => Dks 64 79 wd A p F SK) (fun A => ∃ A1, Dks 64 79 wd A1 p F SK ∧ Dks 82 97 A1 A x G SK) wd _ _ (by rfl) (by rfl) (by rfl) (by rfl) (by rfl)
    (fun A hI => (HWD.out.blk hI HWD.out.ww.b HWD.out.ww.nf.1 HWD.out.ww.nf.2).cell 0) (fun A hI => (HWD.out.blk hI HWD.out.ww.b HWD.out.ww.nf.1 HWD.out.ww.nf.2).cell 2) (fun A hI => (HWD.out.blk hI HOD.out HOF.out.1 HOF.out.2).cell 1) (fun A hI => (HWD.out.blk hI HOD.out HOF.out.1 HOF.out.2).cell 2) (Lat.draw wd) (fun A hL => ?hca) (fun A hI => ?hcb) ?hq
  case hca =>
    refine (formatP p F S nn mm (some ⟨gb, 0, none⟩) m (m + 8) bb A (HWD.out.ww.d.lat hL) HFA.out (HSG.out.later hL) (fun h => by cases h) (fun z hz hp => by cases hz; exact HNG.out.1) (by omega)).mono ?_
    rw [HQ.out]
    rintro e A2 ⟨rfl, hd⟩
    exact ⟨rfl, Dks.lat hL hd⟩
  case hcb =>
    have hsA : Sl A ba m bb := by
      obtain ⟨F1, k1, k2, k3⟩ := hI
      exact k2.sl HSD.out (fun z hz hp => (HBG.out z hz hp).2)
    refine (rformatP x G S nn mm ba m bc bb A (HWD.out.r1 hI) HFA.out hsA HNO.out (fun z hz hp => (HBG.out z hz hp).1) (by omega)).mono ?_
    rw [HQ.out]
    rintro e A2 ⟨rfl, hd⟩
    exact ⟨rfl, A, hI, hd⟩
  case hq =>
  intros
  rename_i wk hI
  obtain ⟨A1, hd, hr⟩ := hI
  obtain ⟨FK, GK, hWK, hcK, hnF, hnG⟩ := HWD.out.both hd hr
  have HK := hidden hWK
  clear hd hr hWK
  simp only [Act.put, List.setIfInBounds_toArray, List.set_cons_succ, List.set_cons_zero]
  have HBK := hidden (hcK.blk HBD.out (fun k => k.elim HNG.out.1 HNG.out.2))
  have HBOK := hidden (hcK.blk HOD.out (fun k => k.elim HOF.out.1 HOF.out.2))
  have HSK : Hid (Sl wk ba m bb) := hcK.sl HSD.out (fun z hz hp k => by
    have h1 := HBN.out z hz hp
    rcases k with k | k
    · have := HWD.out.F _ k; omega
    · have := HWD.out.G _ k; omega)
  have HNK : Hid (¬ FK gb ∧ ¬ GK gb) := by
    have hlt : gb < wd.heap.size := HBD.out.lt
    refine ⟨fun k => ?_, fun k => ?_⟩
    · rcases hnF gb k with q | q
      · exact HNG.out.1 q
      · omega
    · rcases hnG gb k with q | q
      · exact HNG.out.2 q
      · omega
  clear hcK hnF hnG
  obtain ⟨lk, hlk⟩ : ∃ y : Option Addr, none = y := ⟨_, rfl⟩
  obtain ⟨mk, hmk⟩ : ∃ y : Option Addr, none = y := ⟨_, rfl⟩
  obtain ⟨llk, hllk⟩ : ∃ y : Option (Nat × Nat × Lw), none = y := ⟨_, rfl⟩
  have HK : Hid (WS W wk wp p x FK GK SK lk mk llk) := by rw [← hlk, ← hmk, ← hllk]; exact HK.out
  clear hlk hmk hllk
  go_wp2_with fail
  refine (backP gb ba m bc bb wk HBK.out HSK.out (fun z hz hp e => by have h1 := HBN.out z hz hp; have h2 := HGB.out.1; omega) (by omega)).mono ?_
  rintro e w4 ⟨rfl, hc4⟩
  have HBO9 := hidden (hc4.blk HBOK.out (fun e => by have t1 : Tg wk ob 30 := Blk.tg HBOK.out; have t2 : Tg wk gb 5 := Blk.tg HBK.out; subst e; exact absurd (t1.one t2) (by decide)))
  have H4 := hidden (HK.out.other gb (Blk.tg HBK.out) HNK.out.1 HNK.out.2 HGB.out.1 hc4)
  clear hc4
  go_wp2_with fail
  refine (filesP wp p x FK GK SK _ _ w4 H4.out.ww).mono ?_
  rintro e w5 ⟨rfl, hl5⟩
  have H5 := hidden (H4.out.lat hl5)
  have x1 := (HBO9.out.later hl5).cell 1
  simp only [List.getElem?_cons_succ, List.getElem?_cons_zero] at x1
  clear hl5
  go_wp2_with fail
  refine (looksP W.heap.size wp p x FK GK SK lk mk llk nn w5 H5.out.ww H5.out.ll hnn).mono ?_
  rintro e w6 ⟨rfl, hl6⟩
  have H6 := hidden (H5.out.lat hl6)
  clear hl6 x1
  go_wp2_with fail
  go_ret
  exact ⟨rfl, FK, GK, SK, lk, mk, llk, H6.out, HFK.out, HLK.out⟩

set_option maxRecDepth 100000 in
set_option maxHeartbeats 0 in
theorem step_lay (W : World) (wp p x : Nat) (F G : Nat → Prop) (S : St) (lo mo : Option Addr) (ll : Option (Nat × Nat × Lw)) (s : Opn) (nf nl : Nat) (w : World) (h : WS W w wp p x F G S lo mo ll) (hs : s.ok W) (hf : S.falls ≤ nf) (hl : FB nl S) (hbf : nf ≤ 1099511620000) (hk : s.kd = 7) :
    Calls Tryz.prog 6 #[.pointer (some ⟨wp, 0, none⟩), s.agg] w fun e w' => Stepd W wp p x (nf + 1) (nl + 3000) e w' := by
  have H := hidden h
  have HOK := hidden hs
  have HF := hidden hf
  have HLL := hidden hl
  obtain ⟨kd, nn, mm, ba, bn, bc, bs⟩ := s
  dsimp only at hk
  subst hk
  have hnn : nn ≤ 9223372036854775807 := hs.nn.2
  clear h hs hf hl
  unfold Opn.agg
  go_enter Tryz.func6, Tryz.ntmps6
  go_wp2_with (refine wpList_box_blk rfl 30 (.tmp 1) rfl [.int .i64 7, .int .i64 nn, .int .i64 mm, .slice ba bn bc] rfl ?_; intro w1 B1 bl1 hz1; have HB1 := hidden B1; have HL1 : Hid (Lat w w1) := bl1; have x3 := B1.cell 3; simp only [List.getElem?_cons_succ, List.getElem?_cons_zero] at x3; clear B1 bl1 hz1)
  refine (shortP ba bn bc w1 HOK.out.le HOK.out.non HOK.out.bl).mono ?_
  rintro e w2 ⟨rfl, hw2⟩
  obtain rfl := hw2.symm
  clear hw2 x3
  obtain ⟨m, hm⟩ : ∃ m, min bn 3000 = m := ⟨_, rfl⟩
  have hm1 : m ≤ bn ∧ m ≤ 3000 := by omega
  rw [hm]
  have HSM : Hid (Sl W ba m (bs.take m)) := HOK.out.sl.take hm1.1
  have HSM1 : Hid (Sl w1 ba m (bs.take m)) := HSM.out.later (Lat.trans _ _ _ H.out.bel HL1.out)
  generalize bs.take m = bb at *
  clear hm
  go_wp2_with fail
  refine (lentP ba m bc bb w1 HSM1.out (by omega)).mono ?_
  rintro e w3 ⟨rfl, hB3, hb3⟩
  have HB3 := hidden hB3
  have HL3 : Hid (Lat w w3) := Lat.trans _ _ _ HL1.out hb3
  have HBO := hidden (HB1.out.later hb3)
  obtain ⟨gb, hgb⟩ : ∃ gb, w1.heap.size = gb := ⟨_, rfl⟩
  obtain ⟨ob, hob⟩ : ∃ ob, w.heap.size = ob := ⟨_, rfl⟩
  have HGB : Hid (W.heap.size ≤ gb ∧ w.heap.size ≤ gb) := by have h1 := HL1.out.size; have h2 := H.out.bel.size; exact ⟨by omega, by omega⟩
  rw [hgb] at HB3 ⊢
  rw [hob] at HBO ⊢
  have x0 := HBO.out.cell 0
  simp only [List.getElem?_cons_succ, List.getElem?_cons_zero] at x0
  have H3 := hidden (H.out.lat HL3.out)
  have HSW : Hid (Sl w3 ba m bb) := HSM1.out.later hb3
  have HNG : Hid (¬ F gb ∧ ¬ G gb) := ⟨fun k => by have h1 := H.out.ww.d.lt _ k; have h2 := HGB.out.2; omega, fun k => by have h1 := H.out.ww.r.lt _ k; have h2 := HGB.out.2; omega⟩
  have HBN : Hid (∀ z, ba = some z → 0 < m → z.block < W.heap.size) := fun z hz hp => HSM.out.lt z hz hp
  clear hB3 hb3 HSM1 HB1 HL1 hgb hob
  have HFA : Hid (S.falls ≤ 1099511627776) := Nat.le_trans HF.out (by omega)
  have b1 : w3.cell? ⟨wp, 1, none⟩ = some (.pointer lo) := H3.out.ww.b.cell 1
  have b3 : w3.cell? ⟨wp, 3, none⟩ = some (.pointer mo) := H3.out.ww.b.cell 3
  have f1 := H3.out.ww.b.frozen 1
  have f3 := H3.out.ww.b.frozen 3
  have HWD := hidden H3.out.drop
  have HNE : Hid (gb ≠ wp ∧ ob ≠ wp) := by
    have t1 : Tg w3 wp 52 := Blk.tg H3.out.ww.b
    have t2 : Tg w3 gb 5 := Blk.tg HB3.out
    have t3 : Tg w3 ob 30 := Blk.tg HBO.out
    exact ⟨fun e => by subst e; exact absurd (t1.one t2) (by decide), fun e => by subst e; exact absurd (t1.one t3) (by decide)⟩
  have HBD := hidden ((chg_drop w3 wp).blk HB3.out HNE.out.1)
  have HOD := hidden ((chg_drop w3 wp).blk HBO.out HNE.out.2)
  have HSD := hidden ((chg_drop w3 wp).sl HSW.out (fun z hz hp e => by have h1 := HBN.out z hz hp; have h2 := H3.out.wp; omega))
  go_wp2_with fail
  clear b1 b3 f1 f3 x0
  generalize (w3.setCell ⟨wp, 1, none⟩ (.pointer none)).setCell ⟨wp, 3, none⟩ (.pointer none) = wd at *
  obtain ⟨n1, hn1⟩ : ∃ n1, bits .and .i64 nn 1 = n1 := ⟨_, rfl⟩
  have HOF : Hid (¬ F ob ∧ ¬ G ob) := by
    have t1 : Tg wd ob 30 := Blk.tg HOD.out
    refine ⟨fun k => ?_, fun k => ?_⟩
    · rcases HWD.out.ww.d.tg _ k with q | q | q | q <;> exact absurd (t1.one q) (by decide)
    · rcases HWD.out.ww.r.tg _ k with q | q | q | q <;> exact absurd (t1.one q) (by decide)
  have HSG : Hid (Sl wd (some ⟨gb, 0, none⟩) m bb) := lent_sl HBD.out HSD.out.len HSD.out.byte
  have HNO : Hid (ba = none → m = 0 ∧ bc = 0) := fun h => by have h1 := HOK.out.non h; dsimp only at h1; omega
  have HBG : Hid (∀ z, ba = some z → 0 < m → ¬ G z.block ∧ ¬ F z.block) := fun z hz hp => ⟨fun k => by have h1 := HBN.out z hz hp; have h2 := HWD.out.G _ k; omega, fun k => by have h1 := HBN.out z hz hp; have h2 := HWD.out.F _ k; omega⟩
  have HLB := hidden HSD.out.len
  obtain ⟨q, hq⟩ : ∃ q, S.append n1 bb = q := ⟨_, rfl⟩
  have HQ := hidden hq
  obtain ⟨ev, SK⟩ := q
  have HFK : Hid (SK.falls ≤ nf + 1) := by have h1 := fl_append S n1 bb; rw [hq] at h1; have h2 := HF.out; show SK.falls ≤ _; dsimp only at h1; omega
  have HLK : Hid (FB (nl + 3000) SK) := by have h1 := HLL.out.append n1 bb; rw [hq] at h1; exact h1.up (by have := HLB.out; omega)
  clear hq
  refine step_r28 wp ob p x gb m (m + 8) bc ba nn n1 ev (fun A => Lat wd A) (fun A => Dks 64 79 wd A p F SK) (fun A => ∃ A1, Dks 64 79 wd A1 p F SK ∧ Dks 82 97 A1 A x G SK) wd _ _ (by rfl) (by rfl) (by rfl) (by rfl) (by rfl)
    (fun A hI => (HWD.out.blk hI HWD.out.ww.b HWD.out.ww.nf.1 HWD.out.ww.nf.2).cell 0) (fun A hI => (HWD.out.blk hI HWD.out.ww.b HWD.out.ww.nf.1 HWD.out.ww.nf.2).cell 2) (fun A hI => (HWD.out.blk hI HOD.out HOF.out.1 HOF.out.2).cell 1) hn1 (Lat.draw wd) (fun A hL => ?hca) (fun A hI => ?hcb) ?hq
  case hca =>
    refine (appendP p F S A n1 (some ⟨gb, 0, none⟩) m (m + 8) bb (HWD.out.ww.d.lat hL) HFA.out (HSG.out.later hL) (fun h => by cases h) (by omega)).mono ?_
    rw [HQ.out]
    rintro e A2 ⟨rfl, hd⟩
    exact ⟨rfl, Dks.lat hL hd⟩
  case hcb =>
    have hsA : Sl A ba m bb := by
      obtain ⟨F1, k1, k2, k3⟩ := hI
      exact k2.sl HSD.out (fun z hz hp => (HBG.out z hz hp).2)
    refine (appendR x G S A n1 ba m bc bb (HWD.out.r1 hI) HFA.out hsA HNO.out (by omega) (fun z hz hp => (HBG.out z hz hp).1)).mono ?_
    rw [HQ.out]
    rintro e A2 ⟨rfl, hd⟩
    exact ⟨rfl, A, hI, hd⟩
  case hq =>
  intros
  rename_i wk hI
  obtain ⟨A1, hd, hr⟩ := hI
  obtain ⟨FK, GK, hWK, hcK, hnF, hnG⟩ := HWD.out.both hd hr
  have HK := hidden hWK
  clear hd hr hWK
  simp only [Act.put, List.setIfInBounds_toArray, List.set_cons_succ, List.set_cons_zero]
  have HBK := hidden (hcK.blk HBD.out (fun k => k.elim HNG.out.1 HNG.out.2))
  have HBOK := hidden (hcK.blk HOD.out (fun k => k.elim HOF.out.1 HOF.out.2))
  have HSK : Hid (Sl wk ba m bb) := hcK.sl HSD.out (fun z hz hp k => by
    have h1 := HBN.out z hz hp
    rcases k with k | k
    · have := HWD.out.F _ k; omega
    · have := HWD.out.G _ k; omega)
  have HNK : Hid (¬ FK gb ∧ ¬ GK gb) := by
    have hlt : gb < wd.heap.size := HBD.out.lt
    refine ⟨fun k => ?_, fun k => ?_⟩
    · rcases hnF gb k with q | q
      · exact HNG.out.1 q
      · omega
    · rcases hnG gb k with q | q
      · exact HNG.out.2 q
      · omega
  clear hcK hnF hnG
  obtain ⟨lk, hlk⟩ : ∃ y : Option Addr, none = y := ⟨_, rfl⟩
  obtain ⟨mk, hmk⟩ : ∃ y : Option Addr, none = y := ⟨_, rfl⟩
  obtain ⟨llk, hllk⟩ : ∃ y : Option (Nat × Nat × Lw), none = y := ⟨_, rfl⟩
  have HK : Hid (WS W wk wp p x FK GK SK lk mk llk) := by rw [← hlk, ← hmk, ← hllk]; exact HK.out
  clear hlk hmk hllk
  go_wp2_with fail
  refine (backP gb ba m bc bb wk HBK.out HSK.out (fun z hz hp e => by have h1 := HBN.out z hz hp; have h2 := HGB.out.1; omega) (by omega)).mono ?_
  rintro e w4 ⟨rfl, hc4⟩
  have HBO9 := hidden (hc4.blk HBOK.out (fun e => by have t1 : Tg wk ob 30 := Blk.tg HBOK.out; have t2 : Tg wk gb 5 := Blk.tg HBK.out; subst e; exact absurd (t1.one t2) (by decide)))
  have H4 := hidden (HK.out.other gb (Blk.tg HBK.out) HNK.out.1 HNK.out.2 HGB.out.1 hc4)
  clear hc4
  go_wp2_with fail
  refine (filesP wp p x FK GK SK _ _ w4 H4.out.ww).mono ?_
  rintro e w5 ⟨rfl, hl5⟩
  have H5 := hidden (H4.out.lat hl5)
  have x1 := (HBO9.out.later hl5).cell 1
  simp only [List.getElem?_cons_succ, List.getElem?_cons_zero] at x1
  clear hl5
  go_wp2_with fail
  refine (looksP W.heap.size wp p x FK GK SK lk mk llk nn w5 H5.out.ww H5.out.ll hnn).mono ?_
  rintro e w6 ⟨rfl, hl6⟩
  have H6 := hidden (H5.out.lat hl6)
  clear hl6 x1
  go_wp2_with fail
  go_ret
  exact ⟨rfl, FK, GK, SK, lk, mk, llk, H6.out, HFK.out, HLK.out⟩


end Go.Proofs.YtnfjhdedcnbdbaaGreat

/-
  WalPlays: the kinds of a step: Append, Open.
-/
namespace Go.Proofs.YtnfjhdedcnbdbaaGreat
open Go.RowKit
set_option linter.unusedVariables false
set_option linter.unusedSimpArgs false

theorem LL.low {B C : Nat} {A : World} {p x : Nat} {ll : Option (Nat × Nat × Lw)} {lo mo : Option Addr} (h : LL B A p x ll lo mo) (hb : C ≤ B) : LL C A p x ll lo mo := by
  match ll, h with
  | none, h => exact h
  | some (lp, mp, l), ⟨h1, h2, h3, h4, h5, h6, h7⟩ => exact ⟨h1, h2, h3, h4, h5, Nat.le_trans hb h6, Nat.le_trans hb h7⟩

set_option maxRecDepth 100000 in
set_option maxHeartbeats 0 in
theorem step_open (W : World) (wp p x : Nat) (F G : Nat → Prop) (S : St) (lo mo : Option Addr) (ll : Option (Nat × Nat × Lw)) (s : Opn) (nf nl : Nat) (w : World) (h : WS W w wp p x F G S lo mo ll) (hs : s.ok W) (hf : S.falls ≤ nf) (hl : FB nl S) (hbf : nf ≤ 1099511620000) (hbl : nl ≤ 1048576) (hk : s.kd = 1) :
    Calls Tryz.prog 6 #[.pointer (some ⟨wp, 0, none⟩), s.agg] w fun e w' => Stepd W wp p x (nf + 2) (nl + 0) e w' := by
  have H := hidden h
  have HOK := hidden hs
  have HF := hidden hf
  have HLL := hidden hl
  obtain ⟨kd, nn, mm, ba, bn, bc, bs⟩ := s
  dsimp only at hk
  subst hk
  have hnn : nn ≤ 9223372036854775807 := hs.nn.2
  clear h hs hf hl
  unfold Opn.agg
  go_enter Tryz.func6, Tryz.ntmps6
  go_wp2_with (refine wpList_box_blk rfl 30 (.tmp 1) rfl [.int .i64 1, .int .i64 nn, .int .i64 mm, .slice ba bn bc] rfl ?_; intro w1 B1 bl1 hz1; have HB1 := hidden B1; have HL1 : Hid (Lat w w1) := bl1; have x3 := B1.cell 3; simp only [List.getElem?_cons_succ, List.getElem?_cons_zero] at x3; clear B1 bl1 hz1)
  refine (shortP ba bn bc w1 HOK.out.le HOK.out.non HOK.out.bl).mono ?_
  rintro e w2 ⟨rfl, hw2⟩
  obtain rfl := hw2.symm
  clear hw2 x3
  obtain ⟨m, hm⟩ : ∃ m, min bn 3000 = m := ⟨_, rfl⟩
  have hm1 : m ≤ bn ∧ m ≤ 3000 := by omega
  rw [hm]
  have HSM : Hid (Sl W ba m (bs.take m)) := HOK.out.sl.take hm1.1
  have HSM1 : Hid (Sl w1 ba m (bs.take m)) := HSM.out.later (Lat.trans _ _ _ H.out.bel HL1.out)
  generalize bs.take m = bb at *
  clear hm
  go_wp2_with fail
  refine (lentP ba m bc bb w1 HSM1.out (by omega)).mono ?_
  rintro e w3 ⟨rfl, hB3, hb3⟩
  have HB3 := hidden hB3
  have HL3 : Hid (Lat w w3) := Lat.trans _ _ _ HL1.out hb3
  have HBO := hidden (HB1.out.later hb3)
  obtain ⟨gb, hgb⟩ : ∃ gb, w1.heap.size = gb := ⟨_, rfl⟩
  obtain ⟨ob, hob⟩ : ∃ ob, w.heap.size = ob := ⟨_, rfl⟩
  have HGB : Hid (W.heap.size ≤ gb ∧ w.heap.size ≤ gb) := by have h1 := HL1.out.size; have h2 := H.out.bel.size; exact ⟨by omega, by omega⟩
  rw [hgb] at HB3 ⊢
  rw [hob] at HBO ⊢
  have x0 := HBO.out.cell 0
  simp only [List.getElem?_cons_succ, List.getElem?_cons_zero] at x0
  have H3 := hidden (H.out.lat HL3.out)
  have HSW : Hid (Sl w3 ba m bb) := HSM1.out.later hb3
  have HNG : Hid (¬ F gb ∧ ¬ G gb) := ⟨fun k => by have h1 := H.out.ww.d.lt _ k; have h2 := HGB.out.2; omega, fun k => by have h1 := H.out.ww.r.lt _ k; have h2 := HGB.out.2; omega⟩
  have HBN : Hid (∀ z, ba = some z → 0 < m → z.block < W.heap.size) := fun z hz hp => HSM.out.lt z hz hp
  clear hB3 hb3 HSM1 HB1 HL1 hgb hob
  have HFA : Hid (S.falls ≤ 1099511627776) := Nat.le_trans HF.out (by omega)
  go_wp2_with fail
  refine (opensL wp p x F G S _ _ w3 H3.out.ww HFA.out (fun i => Nat.le_trans (HLL.out.file i) hbl)).mono ?_
  rintro e wk ⟨rfl, FK, GK, lk, mk, llk, hWW, hLL, hcK, hnF, hnG⟩
  obtain ⟨SK, hSK⟩ : ∃ y, S.opens.2 = y := ⟨_, rfl⟩
  have HFK : Hid (SK.falls ≤ nf + 2) := by rw [← hSK]; have h1 := fl_opens S; have h2 := HF.out; show S.opens.2.falls ≤ _; omega
  have HLK : Hid (FB (nl + 0) SK) := by rw [← hSK]; exact HLL.out.opens
  rw [hSK] at hWW
  clear hSK
  have HNE : Hid (gb ≠ wp ∧ ob ≠ wp) := by
    have t1 : Tg w3 wp 52 := Blk.tg H3.out.ww.b
    have t2 : Tg w3 gb 5 := Blk.tg HB3.out
    have t3 : Tg w3 ob 30 := Blk.tg HBO.out
    exact ⟨fun e => by subst e; exact absurd (t1.one t2) (by decide), fun e => by subst e; exact absurd (t1.one t3) (by decide)⟩
  have HK : Hid (WS W wk wp p x FK GK SK lk mk llk) := ⟨hWW, hLL.low H3.out.bel.size, H3.out.wp, fun i hi => by
    rcases hnF i hi with q | q
    · exact H3.out.F i q
    · exact Nat.le_trans H3.out.bel.size q, fun i hi => by
    rcases hnG i hi with q | q
    · exact H3.out.G i q
    · exact Nat.le_trans H3.out.bel.size q, Below.trans H3.out.bel (hcK.below H3.out.bel.size (fun i k => by
    rcases k with k | k | k
    · exact H3.out.F i k
    · exact H3.out.G i k
    · rw [k]; exact H3.out.wp))⟩
  have HOF : Hid (¬ F ob ∧ ¬ G ob) := by
    have t1 : Tg w3 ob 30 := Blk.tg HBO.out
    refine ⟨fun k => ?_, fun k => ?_⟩
    · rcases H3.out.ww.d.tg _ k with q | q | q | q <;> exact absurd (t1.one q) (by decide)
    · rcases H3.out.ww.r.tg _ k with q | q | q | q <;> exact absurd (t1.one q) (by decide)
  have HBK := hidden (hcK.blk HB3.out (fun k => k.elim HNG.out.1 (fun k => k.elim HNG.out.2 HNE.out.1)))
  have HBOK := hidden (hcK.blk HBO.out (fun k => k.elim HOF.out.1 (fun k => k.elim HOF.out.2 HNE.out.2)))
  have HSK : Hid (Sl wk ba m bb) := hcK.sl HSW.out (fun z hz hp k => by
    have h1 := HBN.out z hz hp
    rcases k with k | k | k
    · have := H3.out.F _ k; omega
    · have := H3.out.G _ k; omega
    · have := H3.out.wp; omega)
  have HNK : Hid (¬ FK gb ∧ ¬ GK gb) := by
    have hlt : gb < w3.heap.size := HB3.out.lt
    refine ⟨fun k => ?_, fun k => ?_⟩
    · rcases hnF gb k with q | q
      · exact HNG.out.1 q
      · omega
    · rcases hnG gb k with q | q
      · exact HNG.out.2 q
      · omega
  clear hcK hnF hnG hWW hLL x0
  go_wp2_with fail
  refine (backP gb ba m bc bb wk HBK.out HSK.out (fun z hz hp e => by have h1 := HBN.out z hz hp; have h2 := HGB.out.1; omega) (by omega)).mono ?_
  rintro e w4 ⟨rfl, hc4⟩
  have HBO9 := hidden (hc4.blk HBOK.out (fun e => by have t1 : Tg wk ob 30 := Blk.tg HBOK.out; have t2 : Tg wk gb 5 := Blk.tg HBK.out; subst e; exact absurd (t1.one t2) (by decide)))
  have H4 := hidden (HK.out.other gb (Blk.tg HBK.out) HNK.out.1 HNK.out.2 HGB.out.1 hc4)
  clear hc4
  go_wp2_with fail
  refine (filesP wp p x FK GK SK _ _ w4 H4.out.ww).mono ?_
  rintro e w5 ⟨rfl, hl5⟩
  have H5 := hidden (H4.out.lat hl5)
  have x1 := (HBO9.out.later hl5).cell 1
  simp only [List.getElem?_cons_succ, List.getElem?_cons_zero] at x1
  clear hl5
  go_wp2_with fail
  refine (looksP W.heap.size wp p x FK GK SK lk mk llk nn w5 H5.out.ww H5.out.ll hnn).mono ?_
  rintro e w6 ⟨rfl, hl6⟩
  have H6 := hidden (H5.out.lat hl6)
  clear hl6 x1
  go_wp2_with fail
  go_ret
  exact ⟨rfl, FK, GK, SK, lk, mk, llk, H6.out, HFK.out, HLK.out⟩

set_option maxRecDepth 100000 in
set_option maxHeartbeats 0 in
theorem step_append (W : World) (wp p x : Nat) (F G : Nat → Prop) (S : St) (lo mo : Option Addr) (ll : Option (Nat × Nat × Lw)) (s : Opn) (nf nl : Nat) (w : World) (h : WS W w wp p x F G S lo mo ll) (hs : s.ok W) (hf : S.falls ≤ nf) (hl : FB nl S) (hbf : nf ≤ 1099511620000) (hk : s.kd = 2) :
    Calls Tryz.prog 6 #[.pointer (some ⟨wp, 0, none⟩), s.agg] w fun e w' => Stepd W wp p x (nf + 2) (nl + 3009) e w' := by
  have H := hidden h
  have HOK := hidden hs
  have HF := hidden hf
  have HLL := hidden hl
  obtain ⟨kd, nn, mm, ba, bn, bc, bs⟩ := s
  dsimp only at hk
  subst hk
  have hnn : nn ≤ 9223372036854775807 := hs.nn.2
  clear h hs hf hl
  unfold Opn.agg
  go_enter Tryz.func6, Tryz.ntmps6
  go_wp2_with (refine wpList_box_blk rfl 30 (.tmp 1) rfl [.int .i64 2, .int .i64 nn, .int .i64 mm, .slice ba bn bc] rfl ?_; intro w1 B1 bl1 hz1; have HB1 := hidden B1; have HL1 : Hid (Lat w w1) := bl1; have x3 := B1.cell 3; simp only [List.getElem?_cons_succ, List.getElem?_cons_zero] at x3; clear B1 bl1 hz1)
  refine (shortP ba bn bc w1 HOK.out.le HOK.out.non HOK.out.bl).mono ?_
  rintro e w2 ⟨rfl, hw2⟩
  obtain rfl := hw2.symm
  clear hw2 x3
  obtain ⟨m, hm⟩ : ∃ m, min bn 3000 = m := ⟨_, rfl⟩
  have hm1 : m ≤ bn ∧ m ≤ 3000 := by omega
  rw [hm]
  have HSM : Hid (Sl W ba m (bs.take m)) := HOK.out.sl.take hm1.1
  have HSM1 : Hid (Sl w1 ba m (bs.take m)) := HSM.out.later (Lat.trans _ _ _ H.out.bel HL1.out)
  generalize bs.take m = bb at *
  clear hm
  go_wp2_with fail
  refine (lentP ba m bc bb w1 HSM1.out (by omega)).mono ?_
  rintro e w3 ⟨rfl, hB3, hb3⟩
  have HB3 := hidden hB3
  have HL3 : Hid (Lat w w3) := Lat.trans _ _ _ HL1.out hb3
  have HBO := hidden (HB1.out.later hb3)
  obtain ⟨gb, hgb⟩ : ∃ gb, w1.heap.size = gb := ⟨_, rfl⟩
  obtain ⟨ob, hob⟩ : ∃ ob, w.heap.size = ob := ⟨_, rfl⟩
  have HGB : Hid (W.heap.size ≤ gb ∧ w.heap.size ≤ gb) := by have h1 := HL1.out.size; have h2 := H.out.bel.size; exact ⟨by omega, by omega⟩
  rw [hgb] at HB3 ⊢
  rw [hob] at HBO ⊢
  have x0 := HBO.out.cell 0
  simp only [List.getElem?_cons_succ, List.getElem?_cons_zero] at x0
  have H3 := hidden (H.out.lat HL3.out)
  have HSW : Hid (Sl w3 ba m bb) := HSM1.out.later hb3
  have HNG : Hid (¬ F gb ∧ ¬ G gb) := ⟨fun k => by have h1 := H.out.ww.d.lt _ k; have h2 := HGB.out.2; omega, fun k => by have h1 := H.out.ww.r.lt _ k; have h2 := HGB.out.2; omega⟩
  have HBN : Hid (∀ z, ba = some z → 0 < m → z.block < W.heap.size) := fun z hz hp => HSM.out.lt z hz hp
  clear hB3 hb3 HSM1 HB1 HL1 hgb hob
  have HFA : Hid (S.falls ≤ 1099511627776) := Nat.le_trans HF.out (by omega)
  rcases ll with _ | ⟨lp, mp, l⟩
  · obtain ⟨hlo, hmo⟩ := H3.out.ll
    subst hlo hmo
    have b1 : w3.cell? ⟨wp, 1, none⟩ = some (.pointer none) := H3.out.ww.b.cell 1
    obtain ⟨wk, hwk⟩ : ∃ y, w3 = y := ⟨_, rfl⟩
    have HK : Hid (WS W wk wp p x F G S none none none) := by rw [← hwk]; exact H3.out
    have HBK : Hid (Blk wk gb 5 (cells8 (bb ++ List.replicate 8 201))) := by rw [← hwk]; exact HB3.out
    have HBOK : Hid (Blk wk ob 30 [.int .i64 2, .int .i64 nn, .int .i64 mm, .slice ba bn bc]) := by rw [← hwk]; exact HBO.out
    have HSK : Hid (Sl wk ba m bb) := by rw [← hwk]; exact HSW.out
    rw [hwk] at b1 x0 ⊢
    clear hwk
    have HNK := hidden HNG.out
    have HFK : Hid (S.falls ≤ nf + 2) := Nat.le_trans HF.out (Nat.le_add_right _ _)
    have HLK : Hid (FB (nl + 3009) S) := HLL.out.up (Nat.le_add_right _ _)
    go_wp2_with fail
    refine (backP gb ba m bc bb wk HBK.out HSK.out (fun z hz hp e => by have h1 := HBN.out z hz hp; have h2 := HGB.out.1; omega) (by omega)).mono ?_
    rintro e w4 ⟨rfl, hc4⟩
    have HBO9 := hidden (hc4.blk HBOK.out (fun e => by have t1 : Tg wk ob 30 := Blk.tg HBOK.out; have t2 : Tg wk gb 5 := Blk.tg HBK.out; subst e; exact absurd (t1.one t2) (by decide)))
    have H4 := hidden (HK.out.other gb (Blk.tg HBK.out) HNK.out.1 HNK.out.2 HGB.out.1 hc4)
    clear hc4 b1 x0
    go_wp2_with fail
    refine (filesP wp p x F G S _ _ w4 H4.out.ww).mono ?_
    rintro e w5 ⟨rfl, hl5⟩
    have H5 := hidden (H4.out.lat hl5)
    have x1 := (HBO9.out.later hl5).cell 1
    simp only [List.getElem?_cons_succ, List.getElem?_cons_zero] at x1
    clear hl5
    go_wp2_with fail
    refine (looksP W.heap.size wp p x F G S none none none nn w5 H5.out.ww H5.out.ll hnn).mono ?_
    rintro e w6 ⟨rfl, hl6⟩
    have H6 := hidden (H5.out.lat hl6)
    clear hl6 x1
    go_wp2_with fail
    go_ret
    exact ⟨rfl, F, G, S, none, none, none, H6.out, HFK.out, HLK.out⟩


  · obtain ⟨hlo, hmo, hlg, ⟨sv, hlq⟩, hfn, hlo1, hlo2⟩ := H3.out.ll
    subst hlo hmo
    have HLG := hidden hlg
    have HLQ := hidden hlq
    have HFN := hidden hfn
    have HLOW := hidden (And.intro hlo1 hlo2)
    clear hlg hlq hfn hlo1 hlo2
    have b1 : w3.cell? ⟨wp, 1, none⟩ = some (.pointer (some ⟨lp, 0, none⟩)) := H3.out.ww.b.cell 1
    have HWD := hidden H3.out
    have HBD := hidden HB3.out
    have HOD := hidden HBO.out
    have HSD := hidden HSW.out
    have HMF : Hid (¬ F mp) := fun k => by
      have t2 : Tg w3 mp 91 := Blk.tg HLQ.out
      rcases H3.out.ww.d.tg _ k with q | q | q | q <;> exact absurd (t2.one q) (by decide)
    go_wp2_with fail
    clear b1 x0
    obtain ⟨wd, hwd⟩ : ∃ y, w3 = y := ⟨_, rfl⟩
    rw [hwd] at HWD HBD HOD HSD HLG HLQ ⊢
    clear hwd
    have HOF : Hid (¬ F ob ∧ ¬ G ob) := by
      have t1 : Tg wd ob 30 := Blk.tg HOD.out
      refine ⟨fun k => ?_, fun k => ?_⟩
      · rcases HWD.out.ww.d.tg _ k with q | q | q | q <;> exact absurd (t1.one q) (by decide)
      · rcases HWD.out.ww.r.tg _ k with q | q | q | q <;> exact absurd (t1.one q) (by decide)
    have HSG : Hid (Sl wd (some ⟨gb, 0, none⟩) m bb) := lent_sl HBD.out HSD.out.len HSD.out.byte
    have HNO : Hid (ba = none → m = 0 ∧ bc = 0) := fun h => by have h1 := HOK.out.non h; dsimp only at h1; omega
    have HBG : Hid (∀ z, ba = some z → 0 < m → ¬ G z.block ∧ ¬ F z.block) := fun z hz hp => ⟨fun k => by have h1 := HBN.out z hz hp; have h2 := HWD.out.G _ k; omega, fun k => by have h1 := HBN.out z hz hp; have h2 := HWD.out.F _ k; omega⟩
    have HLB := hidden HSD.out.len
    obtain ⟨q, hq⟩ : ∃ q, S.wappend l bb = q := ⟨_, rfl⟩
    have HQ := hidden hq
    obtain ⟨ev, SK⟩ := q
    have HFK : Hid (SK.falls ≤ nf + 2) := by have h1 := fl_wappend S l bb; rw [hq] at h1; have h2 := HF.out; show SK.falls ≤ _; dsimp only at h1; omega
    have HLK : Hid (FB (nl + 3009) SK) := by have h1 := HLL.out.wappend l bb; rw [hq] at h1; exact h1.up (by have := HLB.out; omega)
    clear hq
    refine step_r13 wp lp mp gb m (m + 8) bc ba ev (fun A => Lat wd A) (fun A => Dks 64 79 wd A p F SK) (fun A => ∃ A1, Dks 64 79 wd A1 p F SK ∧ Dks 82 97 A1 A x G SK) wd _ _ (by rfl) (by rfl) (by rfl) (by rfl)
      (fun A hI => (HWD.out.blk hI HWD.out.ww.b HWD.out.ww.nf.1 HWD.out.ww.nf.2).cell 1) (fun A hI => (HWD.out.blk hI HWD.out.ww.b HWD.out.ww.nf.1 HWD.out.ww.nf.2).cell 3) (Lat.draw wd) (fun A hL => ?hca) (fun A hI => ?hcb) ?hq
    case hca =>
      refine (wappendP lp p F S l (some ⟨gb, 0, none⟩) m (m + 8) bb A (HWD.out.ww.d.lat hL) (HLG.out.lat hL) HFA.out (HSG.out.later hL) (fun h => by cases h) (by omega)).mono ?_
      rw [HQ.out]
      rintro e A2 ⟨rfl, hd, _⟩
      exact ⟨rfl, Dks.lat hL hd⟩
    case hcb =>
      have hsA : Sl A ba m bb := by
        obtain ⟨F1, k1, k2, k3⟩ := hI
        exact k2.sl HSD.out (fun z hz hp => (HBG.out z hz hp).2)
      have hlqA : Lq A mp x l sv := by
        obtain ⟨F1, k1, k2, k3⟩ := hI
        exact HLQ.out.chg k2 HMF.out
      refine (rappendP mp x G S l sv ba m bc bb A (HWD.out.r1 hI) hlqA HFA.out hsA HNO.out (by omega)).mono ?_
      rw [HQ.out]
      rintro e A2 ⟨rfl, hd, _⟩
      exact ⟨rfl, A, hI, hd⟩
    case hq =>
    intros
    rename_i wk hI
    obtain ⟨A1, hd, hr⟩ := hI
    obtain ⟨FK, GK, hWK, hcK, hnF, hnG⟩ := HWD.out.both hd hr
    have HK := hidden hWK
    clear hd hr hWK
    simp only [Act.put, List.setIfInBounds_toArray, List.set_cons_succ, List.set_cons_zero]
    have HBK := hidden (hcK.blk HBD.out (fun k => k.elim HNG.out.1 HNG.out.2))
    have HBOK := hidden (hcK.blk HOD.out (fun k => k.elim HOF.out.1 HOF.out.2))
    have HSK : Hid (Sl wk ba m bb) := hcK.sl HSD.out (fun z hz hp k => by
      have h1 := HBN.out z hz hp
      rcases k with k | k
      · have := HWD.out.F _ k; omega
      · have := HWD.out.G _ k; omega)
    have HNK : Hid (¬ FK gb ∧ ¬ GK gb) := by
      have hlt : gb < wd.heap.size := HBD.out.lt
      refine ⟨fun k => ?_, fun k => ?_⟩
      · rcases hnF gb k with q | q
        · exact HNG.out.1 q
        · omega
      · rcases hnG gb k with q | q
        · exact HNG.out.2 q
        · omega
    clear hcK hnF hnG
    obtain ⟨lk, hlk⟩ : ∃ y : Option Addr, some ⟨lp, 0, none⟩ = y := ⟨_, rfl⟩
    obtain ⟨mk, hmk⟩ : ∃ y : Option Addr, some ⟨mp, 0, none⟩ = y := ⟨_, rfl⟩
    obtain ⟨llk, hllk⟩ : ∃ y : Option (Nat × Nat × Lw), some (lp, mp, l) = y := ⟨_, rfl⟩
    have HK : Hid (WS W wk wp p x FK GK SK lk mk llk) := by rw [← hlk, ← hmk, ← hllk]; exact HK.out
    clear hlk hmk hllk
    go_wp2_with fail
    refine (backP gb ba m bc bb wk HBK.out HSK.out (fun z hz hp e => by have h1 := HBN.out z hz hp; have h2 := HGB.out.1; omega) (by omega)).mono ?_
    rintro e w4 ⟨rfl, hc4⟩
    have HBO9 := hidden (hc4.blk HBOK.out (fun e => by have t1 : Tg wk ob 30 := Blk.tg HBOK.out; have t2 : Tg wk gb 5 := Blk.tg HBK.out; subst e; exact absurd (t1.one t2) (by decide)))
    have H4 := hidden (HK.out.other gb (Blk.tg HBK.out) HNK.out.1 HNK.out.2 HGB.out.1 hc4)
    clear hc4
    go_wp2_with fail
    refine (filesP wp p x FK GK SK _ _ w4 H4.out.ww).mono ?_
    rintro e w5 ⟨rfl, hl5⟩
    have H5 := hidden (H4.out.lat hl5)
    have x1 := (HBO9.out.later hl5).cell 1
    simp only [List.getElem?_cons_succ, List.getElem?_cons_zero] at x1
    clear hl5
    go_wp2_with fail
    refine (looksP W.heap.size wp p x FK GK SK lk mk llk nn w5 H5.out.ww H5.out.ll hnn).mono ?_
    rintro e w6 ⟨rfl, hl6⟩
    have H6 := hidden (H5.out.lat hl6)
    clear hl6 x1
    go_wp2_with fail
    go_ret
    exact ⟨rfl, FK, GK, SK, lk, mk, llk, H6.out, HFK.out, HLK.out⟩



end Go.Proofs.YtnfjhdedcnbdbaaGreat

/-
  WalPlays: the kinds of a step: Checkpoint.
-/
namespace Go.Proofs.YtnfjhdedcnbdbaaGreat
open Go.RowKit
set_option linter.unusedVariables false
set_option linter.unusedSimpArgs false

theorem wcheck_fine {S : St} {l : Lw} (s : List Int) (h : l.fine) : (S.wcheck l s).2.2.fine := by
  unfold St.wcheck
  split
  · exact h
  · split
    · exact h
    · split
      · exact h
      · split
        · exact h
        · split
          · exact h
          · exact h.next
/-- Behind the program's Checkpoint. -/
def ChkA (lp p : Nat) (F : Nat → Prop) (S : St) (l : Lw) (A B : World) : Prop := ∃ F1, Dk 64 79 B p F1 S ∧ Chg (fun i => F i ∨ i = lp) A B ∧ New A F F1 ∧ Lg 73 B lp p l
def ChkB (mp x : Nat) (G : Nat → Prop) (S : St) (l : Lw) (A B : World) : Prop := ∃ G1 sv, Dk 82 97 B x G1 S ∧ Chg (fun i => G i ∨ i = mp) A B ∧ New A G G1 ∧ Lq B mp x l sv
section
variable {W A A1 A2 : World} {wp p x lp mp : Nat} {F G : Nat → Prop} {S S' : St} {lo mo : Option Addr} {l l' : Lw}
theorem WS.tags (h : WS W A wp p x F G S lo mo (some (lp, mp, l))) : (¬ F lp ∧ ¬ G lp ∧ ¬ F mp ∧ ¬ G mp) ∧ lp ≠ wp ∧ mp ≠ wp ∧ lp ≠ mp := by
  obtain ⟨_, _, h3, ⟨sv, h4⟩, _⟩ := h.ll
  have t1 : Tg A lp 73 := Blk.tg h3
  have t2 : Tg A mp 91 := Blk.tg h4
  have t3 : Tg A wp 52 := Blk.tg h.ww.b
  refine ⟨⟨fun k => ?_, fun k => ?_, fun k => ?_, fun k => ?_⟩, fun e => ?_, fun e => ?_, fun e => ?_⟩
  · rcases h.ww.d.tg _ k with q | q | q | q <;> exact absurd (t1.one q) (by decide)
  · rcases h.ww.r.tg _ k with q | q | q | q <;> exact absurd (t1.one q) (by decide)
  · rcases h.ww.d.tg _ k with q | q | q | q <;> exact absurd (t2.one q) (by decide)
  · rcases h.ww.r.tg _ k with q | q | q | q <;> exact absurd (t2.one q) (by decide)
  · subst e; exact absurd (t1.one t3) (by decide)
  · subst e; exact absurd (t2.one t3) (by decide)
  · subst e; exact absurd (t1.one t2) (by decide)
theorem WS.chk1 (h : WS W A wp p x F G S lo mo (some (lp, mp, l))) (hA : ChkA lp p F S' l' A A1) : Dk 82 97 A1 x G S ∧ ∃ sv, Lq A1 mp x l sv := by
  obtain ⟨F1, k1, k2, k3, k4⟩ := hA
  obtain ⟨⟨t1, t2, t3, t4⟩, t5, t6, t7⟩ := h.tags
  obtain ⟨_, _, h3, ⟨sv, h4⟩, _⟩ := h.ll
  refine ⟨h.ww.r.chg k2 (fun i hi k => ?_), sv, h4.chg k2 (fun k => ?_)⟩
  · rcases k with k | k
    · exact h.ww.ap i k hi
    · subst k; exact t2 hi
  · rcases k with k | k
    · exact t3 k
    · exact t7 k.symm
theorem WS.chk (h : WS W A wp p x F G S lo mo (some (lp, mp, l))) (hA : ChkA lp p F S' l' A A1) (hB : ChkB mp x G S' l' A1 A2) (hfn : l'.fine) : ∃ F' G', WS W A2 wp p x F' G' S' lo mo (some (lp, mp, l')) ∧ Chg (fun i => F i ∨ G i ∨ i = lp ∨ i = mp) A A2 ∧ New A F F' ∧ New A G G' := by
  obtain ⟨F1, k1, k2, k3, k4⟩ := hA
  obtain ⟨G1, sv, j1, j2, j3, j4⟩ := hB
  obtain ⟨⟨t1, t2, t3, t4⟩, t5, t6, t7⟩ := h.tags
  obtain ⟨h1, h2, h3, ⟨sv0, h4⟩, h5, h6, h7⟩ := h.ll
  have hc : Chg (fun i => F i ∨ G i ∨ i = lp ∨ i = mp) A A2 := (k2.mono (fun i _ hi => hi.elim .inl (fun e => .inr (.inr (.inl e))))).trans j2 (fun i _ hi => hi.elim (fun g => .inr (.inl g)) (fun e => .inr (.inr (.inr e))))
  have gl := h.ww.r.lt
  have n2 : New A G G1 := fun i hi => by
    rcases j3 i hi with q | q
    · exact .inl q
    · exact .inr (Nat.le_trans k2.size q)
  have hlow : ∀ i, (F i ∨ G i ∨ i = lp ∨ i = mp) → W.heap.size ≤ i := fun i k => by
    rcases k with k | k | k | k
    · exact h.F i k
    · exact h.G i k
    · rw [k]; exact h6
    · rw [k]; exact h7
  have hmlt : mp < A.heap.size := Blk.lt h4
  refine ⟨F1, G1, ⟨⟨hc.blk h.ww.b (fun k => ?_), k1.chg j2 (fun i hi k => ?_), j1, fun i hi k => ?_⟩, ⟨h1, h2, k4.chg j2 (fun k => ?_), ⟨sv, j4⟩, hfn, h6, h7⟩, h.wp, fun i hi => ?_, fun i hi => ?_, Below.trans h.bel (hc.below h.bel.size hlow)⟩, hc, k3, n2⟩
  · rcases k with k | k | k | k
    · exact h.ww.nf.1 k
    · exact h.ww.nf.2 k
    · exact t5 k.symm
    · exact t6 k.symm
  · rcases k with k | k
    · rcases k3 i hi with q | q
      · exact h.ww.ap i q k
      · have := gl i k; omega
    · subst k
      rcases k3 i hi with q | q
      · exact t3 q
      · omega
  · rcases j3 i k with q | q
    · rcases k3 i hi with r | r
      · exact h.ww.ap i r q
      · have := gl i q; omega
    · have := k1.lt i hi; omega
  · rcases k with k | k
    · exact t2 k
    · exact t7 k
  · rcases k3 i hi with q | q
    · exact h.F i q
    · exact Nat.le_trans h.bel.size q
  · rcases n2 i hi with q | q
    · exact h.G i q
    · exact Nat.le_trans h.bel.size q
theorem WS.blkc (h : WS W A wp p x F G S lo mo (some (lp, mp, l))) (hI : Lat A A2 ∨ ChkA lp p F S' l' A A2 ∨ ∃ A1, ChkA lp p F S' l' A A1 ∧ ChkB mp x G S' l' A1 A2) {b : Nat} {t : TypeId} {c : List Value} (hB : Blk A b t c) (hF : ¬ (F b ∨ b = lp)) (hG : ¬ (G b ∨ b = mp)) : Blk A2 b t c := by
  rcases hI with hI | ⟨F1, k1, k2, k3, k4⟩ | ⟨A1, ⟨F1, k1, k2, k3, k4⟩, ⟨G1, sv, j1, j2, j3, j4⟩⟩
  · exact hB.later hI
  · exact k2.blk hB hF
  · exact j2.blk (k2.blk hB hF) hG
end

set_option maxRecDepth 100000 in
set_option maxHeartbeats 0 in
theorem step_check (W : World) (wp p x : Nat) (F G : Nat → Prop) (S : St) (lo mo : Option Addr) (ll : Option (Nat × Nat × Lw)) (s : Opn) (nf nl : Nat) (w : World) (h : WS W w wp p x F G S lo mo ll) (hs : s.ok W) (hf : S.falls ≤ nf) (hl : FB nl S) (hbf : nf ≤ 1099511620000) (hk : s.kd = 3) :
    Calls Tryz.prog 6 #[.pointer (some ⟨wp, 0, none⟩), s.agg] w fun e w' => Stepd W wp p x (nf + 4) (nl + 3033) e w' := by
  have H := hidden h
  have HOK := hidden hs
  have HF := hidden hf
  have HLL := hidden hl
  obtain ⟨kd, nn, mm, ba, bn, bc, bs⟩ := s
  dsimp only at hk
  subst hk
  have hnn : nn ≤ 9223372036854775807 := hs.nn.2
  clear h hs hf hl
  unfold Opn.agg
  go_enter Tryz.func6, Tryz.ntmps6
  go_wp2_with (refine wpList_box_blk rfl 30 (.tmp 1) rfl [.int .i64 3, .int .i64 nn, .int .i64 mm, .slice ba bn bc] rfl ?_; intro w1 B1 bl1 hz1; have HB1 := hidden B1; have HL1 : Hid (Lat w w1) := bl1; have x3 := B1.cell 3; simp only [List.getElem?_cons_succ, List.getElem?_cons_zero] at x3; clear B1 bl1 hz1)
  refine (shortP ba bn bc w1 HOK.out.le HOK.out.non HOK.out.bl).mono ?_
  rintro e w2 ⟨rfl, hw2⟩
  obtain rfl := hw2.symm
  clear hw2 x3
  obtain ⟨m, hm⟩ : ∃ m, min bn 3000 = m := ⟨_, rfl⟩
  have hm1 : m ≤ bn ∧ m ≤ 3000 := by omega
  rw [hm]
  have HSM : Hid (Sl W ba m (bs.take m)) := HOK.out.sl.take hm1.1
  have HSM1 : Hid (Sl w1 ba m (bs.take m)) := HSM.out.later (Lat.trans _ _ _ H.out.bel HL1.out)
  generalize bs.take m = bb at *
  clear hm
  go_wp2_with fail
  refine (lentP ba m bc bb w1 HSM1.out (by omega)).mono ?_
  rintro e w3 ⟨rfl, hB3, hb3⟩
  have HB3 := hidden hB3
  have HL3 : Hid (Lat w w3) := Lat.trans _ _ _ HL1.out hb3
  have HBO := hidden (HB1.out.later hb3)
  obtain ⟨gb, hgb⟩ : ∃ gb, w1.heap.size = gb := ⟨_, rfl⟩
  obtain ⟨ob, hob⟩ : ∃ ob, w.heap.size = ob := ⟨_, rfl⟩
  have HGB : Hid (W.heap.size ≤ gb ∧ w.heap.size ≤ gb) := by have h1 := HL1.out.size; have h2 := H.out.bel.size; exact ⟨by omega, by omega⟩
  rw [hgb] at HB3 ⊢
  rw [hob] at HBO ⊢
  have x0 := HBO.out.cell 0
  simp only [List.getElem?_cons_succ, List.getElem?_cons_zero] at x0
  have H3 := hidden (H.out.lat HL3.out)
  have HSW : Hid (Sl w3 ba m bb) := HSM1.out.later hb3
  have HNG : Hid (¬ F gb ∧ ¬ G gb) := ⟨fun k => by have h1 := H.out.ww.d.lt _ k; have h2 := HGB.out.2; omega, fun k => by have h1 := H.out.ww.r.lt _ k; have h2 := HGB.out.2; omega⟩
  have HBN : Hid (∀ z, ba = some z → 0 < m → z.block < W.heap.size) := fun z hz hp => HSM.out.lt z hz hp
  clear hB3 hb3 HSM1 HB1 HL1 hgb hob
  have HFA : Hid (S.falls ≤ 1099511627776) := Nat.le_trans HF.out (by omega)
  rcases ll with _ | ⟨lp, mp, l⟩
  · obtain ⟨hlo, hmo⟩ := H3.out.ll
    subst hlo hmo
    have b1 : w3.cell? ⟨wp, 1, none⟩ = some (.pointer none) := H3.out.ww.b.cell 1
    obtain ⟨wk, hwk⟩ : ∃ y, w3 = y := ⟨_, rfl⟩
    have HK : Hid (WS W wk wp p x F G S none none none) := by rw [← hwk]; exact H3.out
    have HBK : Hid (Blk wk gb 5 (cells8 (bb ++ List.replicate 8 201))) := by rw [← hwk]; exact HB3.out
    have HBOK : Hid (Blk wk ob 30 [.int .i64 3, .int .i64 nn, .int .i64 mm, .slice ba bn bc]) := by rw [← hwk]; exact HBO.out
    have HSK : Hid (Sl wk ba m bb) := by rw [← hwk]; exact HSW.out
    rw [hwk] at b1 x0 ⊢
    clear hwk
    have HNK := hidden HNG.out
    have HFK : Hid (S.falls ≤ nf + 4) := Nat.le_trans HF.out (Nat.le_add_right _ _)
    have HLK : Hid (FB (nl + 3033) S) := HLL.out.up (Nat.le_add_right _ _)
    go_wp2_with fail
    refine (backP gb ba m bc bb wk HBK.out HSK.out (fun z hz hp e => by have h1 := HBN.out z hz hp; have h2 := HGB.out.1; omega) (by omega)).mono ?_
    rintro e w4 ⟨rfl, hc4⟩
    have HBO9 := hidden (hc4.blk HBOK.out (fun e => by have t1 : Tg wk ob 30 := Blk.tg HBOK.out; have t2 : Tg wk gb 5 := Blk.tg HBK.out; subst e; exact absurd (t1.one t2) (by decide)))
    have H4 := hidden (HK.out.other gb (Blk.tg HBK.out) HNK.out.1 HNK.out.2 HGB.out.1 hc4)
    clear hc4 b1 x0
    go_wp2_with fail
    refine (filesP wp p x F G S _ _ w4 H4.out.ww).mono ?_
    rintro e w5 ⟨rfl, hl5⟩
    have H5 := hidden (H4.out.lat hl5)
    have x1 := (HBO9.out.later hl5).cell 1
    simp only [List.getElem?_cons_succ, List.getElem?_cons_zero] at x1
    clear hl5
    go_wp2_with fail
    refine (looksP W.heap.size wp p x F G S none none none nn w5 H5.out.ww H5.out.ll hnn).mono ?_
    rintro e w6 ⟨rfl, hl6⟩
    have H6 := hidden (H5.out.lat hl6)
    clear hl6 x1
    go_wp2_with fail
    go_ret
    exact ⟨rfl, F, G, S, none, none, none, H6.out, HFK.out, HLK.out⟩


  · obtain ⟨hlo, hmo, hlg, ⟨sv, hlq⟩, hfn, hlo1, hlo2⟩ := H3.out.ll
    subst hlo hmo
    have HLG := hidden hlg
    have HLQ := hidden hlq
    have HFN := hidden hfn
    have HLOW := hidden (And.intro hlo1 hlo2)
    clear hlg hlq hfn hlo1 hlo2
    have b1 : w3.cell? ⟨wp, 1, none⟩ = some (.pointer (some ⟨lp, 0, none⟩)) := H3.out.ww.b.cell 1
    have HWD := hidden H3.out
    have HBD := hidden HB3.out
    have HOD := hidden HBO.out
    have HSD := hidden HSW.out
    have HMF : Hid (¬ F mp) := fun k => by
      have t2 : Tg w3 mp 91 := Blk.tg HLQ.out
      rcases H3.out.ww.d.tg _ k with q | q | q | q <;> exact absurd (t2.one q) (by decide)
    have HTG := hidden H3.out.tags
    go_wp2_with fail
    clear b1 x0
    obtain ⟨wd, hwd⟩ : ∃ y, w3 = y := ⟨_, rfl⟩
    rw [hwd] at HWD HBD HOD HSD HLG HLQ ⊢
    clear hwd
    have HOF : Hid (¬ F ob ∧ ¬ G ob) := by
      have t1 : Tg wd ob 30 := Blk.tg HOD.out
      refine ⟨fun k => ?_, fun k => ?_⟩
      · rcases HWD.out.ww.d.tg _ k with q | q | q | q <;> exact absurd (t1.one q) (by decide)
      · rcases HWD.out.ww.r.tg _ k with q | q | q | q <;> exact absurd (t1.one q) (by decide)
    have HSG : Hid (Sl wd (some ⟨gb, 0, none⟩) m bb) := lent_sl HBD.out HSD.out.len HSD.out.byte
    have HNO : Hid (ba = none → m = 0 ∧ bc = 0) := fun h => by have h1 := HOK.out.non h; dsimp only at h1; omega
    have HBG : Hid (∀ z, ba = some z → 0 < m → ¬ G z.block ∧ ¬ F z.block) := fun z hz hp => ⟨fun k => by have h1 := HBN.out z hz hp; have h2 := HWD.out.G _ k; omega, fun k => by have h1 := HBN.out z hz hp; have h2 := HWD.out.F _ k; omega⟩
    have HLB := hidden HSD.out.len
    obtain ⟨q, hq⟩ : ∃ q, S.wcheck l bb = q := ⟨_, rfl⟩
    have HQ := hidden hq
    obtain ⟨ev, SK, lK⟩ := q
    have HFK : Hid (SK.falls ≤ nf + 4) := by have h1 := fl_wcheck S l bb; rw [hq] at h1; have h2 := HF.out; show SK.falls ≤ _; dsimp only at h1; omega
    have HLK : Hid (FB (nl + 3033) SK) := by have h1 := HLL.out.wcheck l bb; rw [hq] at h1; exact h1.up (by have := HLB.out; omega)
    have HFNK : Hid lK.fine := by have h1 := wcheck_fine (S := S) bb HFN.out; rw [hq] at h1; exact h1
    clear hq
    have hwF : ¬ (F wp ∨ wp = lp) := fun k => k.elim HWD.out.ww.nf.1 (fun e => HTG.out.2.1 e.symm)
    have hwG : ¬ (G wp ∨ wp = mp) := fun k => k.elim HWD.out.ww.nf.2 (fun e => HTG.out.2.2.1 e.symm)
    refine step_r16 wp lp mp gb m (m + 8) bc ba ev (fun A => Lat wd A) (fun A => ChkA lp p F SK lK wd A) (fun A => ∃ A1, ChkA lp p F SK lK wd A1 ∧ ChkB mp x G SK lK A1 A) wd _ _ (by rfl) (by rfl) (by rfl) (by rfl)
      (fun A hI => (HWD.out.blkc hI HWD.out.ww.b hwF hwG).cell 1) (fun A hI => (HWD.out.blkc hI HWD.out.ww.b hwF hwG).cell 3) (Lat.draw wd) (fun A hL => ?hca) (fun A hI => ?hcb) ?hq
    case hca =>
      refine (wcheckP lp p F S l (some ⟨gb, 0, none⟩) m (m + 8) bb A (HWD.out.ww.d.lat hL) (HLG.out.lat hL) HFN.out HFA.out (HSG.out.later hL) (fun h => by cases h) (fun z hz hp => by cases hz; exact HNG.out.1) (by omega)).mono ?_
      rw [HQ.out]
      rintro e A2 ⟨rfl, F1, k1, k2, k3, k4⟩
      exact ⟨rfl, F1, k1, (Chg.of_below (F := fun i => F i ∨ i = lp) hL).trans k2 (fun _ _ h => h), fun i hi => (k3 i hi).elim .inl (fun q => .inr (Nat.le_trans hL.size q)), k4⟩
    case hcb =>
      obtain ⟨hdx, sv1, hlq1⟩ := HWD.out.chk1 hI
      have hsA : Sl A ba m bb := by
        obtain ⟨F1, k1, k2, k3, k4⟩ := hI
        exact k2.sl HSD.out (fun z hz hp k => by
          rcases k with k | k
          · exact (HBG.out z hz hp).2 k
          · have h1 := HBN.out z hz hp; have h2 := HLOW.out.1; omega)
      refine (rcheckP mp x G S l sv1 ba m bc bb A hdx hlq1 HFN.out HFA.out hsA HNO.out (by omega)).mono ?_
      rw [HQ.out]
      rintro e A2 ⟨rfl, G1, sv2, j1, j2, j3, j4⟩
      exact ⟨rfl, A, hI, G1, sv2, j1, j2, j3, j4⟩
    case hq =>
    intros
    rename_i wk hI
    obtain ⟨A1, hd, hr⟩ := hI
    obtain ⟨FK, GK, hWK, hcK, hnF, hnG⟩ := HWD.out.chk hd hr HFNK.out
    have HK := hidden hWK
    clear hd hr hWK
    simp only [Act.put, List.setIfInBounds_toArray, List.set_cons_succ, List.set_cons_zero]
    have HNL : Hid ((gb ≠ lp ∧ gb ≠ mp) ∧ ob ≠ lp ∧ ob ≠ mp) := by
      have t1 : Tg wd lp 73 := Blk.tg HLG.out
      have t2 : Tg wd mp 91 := Blk.tg HLQ.out
      have t3 : Tg wd gb 5 := Blk.tg HBD.out
      have t4 : Tg wd ob 30 := Blk.tg HOD.out
      refine ⟨⟨fun e => ?_, fun e => ?_⟩, fun e => ?_, fun e => ?_⟩
      · subst e; exact absurd (t1.one t3) (by decide)
      · subst e; exact absurd (t2.one t3) (by decide)
      · subst e; exact absurd (t1.one t4) (by decide)
      · subst e; exact absurd (t2.one t4) (by decide)
    have HBK := hidden (hcK.blk HBD.out (fun k => by
      rcases k with k | k | k | k
      · exact HNG.out.1 k
      · exact HNG.out.2 k
      · exact HNL.out.1.1 k
      · exact HNL.out.1.2 k))
    have HBOK := hidden (hcK.blk HOD.out (fun k => by
      rcases k with k | k | k | k
      · exact HOF.out.1 k
      · exact HOF.out.2 k
      · exact HNL.out.2.1 k
      · exact HNL.out.2.2 k))
    have HSK : Hid (Sl wk ba m bb) := hcK.sl HSD.out (fun z hz hp k => by
      have h1 := HBN.out z hz hp
      rcases k with k | k | k | k
      · exact (HBG.out z hz hp).2 k
      · exact (HBG.out z hz hp).1 k
      · have h2 := HLOW.out.1; omega
      · have h2 := HLOW.out.2; omega)
    have HNK : Hid (¬ FK gb ∧ ¬ GK gb) := by
      have hlt : gb < wd.heap.size := HBD.out.lt
      refine ⟨fun k => ?_, fun k => ?_⟩
      · rcases hnF gb k with q | q
        · exact HNG.out.1 q
        · omega
      · rcases hnG gb k with q | q
        · exact HNG.out.2 q
        · omega
    clear hcK hnF hnG
    obtain ⟨lk, hlk⟩ : ∃ y : Option Addr, some ⟨lp, 0, none⟩ = y := ⟨_, rfl⟩
    obtain ⟨mk, hmk⟩ : ∃ y : Option Addr, some ⟨mp, 0, none⟩ = y := ⟨_, rfl⟩
    obtain ⟨llk, hllk⟩ : ∃ y : Option (Nat × Nat × Lw), some (lp, mp, lK) = y := ⟨_, rfl⟩
    have HK : Hid (WS W wk wp p x FK GK SK lk mk llk) := by rw [← hlk, ← hmk, ← hllk]; exact HK.out
    clear hlk hmk hllk
    go_wp2_with fail
    refine (backP gb ba m bc bb wk HBK.out HSK.out (fun z hz hp e => by have h1 := HBN.out z hz hp; have h2 := HGB.out.1; omega) (by omega)).mono ?_
    rintro e w4 ⟨rfl, hc4⟩
    have HBO9 := hidden (hc4.blk HBOK.out (fun e => by have t1 : Tg wk ob 30 := Blk.tg HBOK.out; have t2 : Tg wk gb 5 := Blk.tg HBK.out; subst e; exact absurd (t1.one t2) (by decide)))
    have H4 := hidden (HK.out.other gb (Blk.tg HBK.out) HNK.out.1 HNK.out.2 HGB.out.1 hc4)
    clear hc4
    go_wp2_with fail
    refine (filesP wp p x FK GK SK _ _ w4 H4.out.ww).mono ?_
    rintro e w5 ⟨rfl, hl5⟩
    have H5 := hidden (H4.out.lat hl5)
    have x1 := (HBO9.out.later hl5).cell 1
    simp only [List.getElem?_cons_succ, List.getElem?_cons_zero] at x1
    clear hl5
    go_wp2_with fail
    refine (looksP W.heap.size wp p x FK GK SK lk mk llk nn w5 H5.out.ww H5.out.ll hnn).mono ?_
    rintro e w6 ⟨rfl, hl6⟩
    have H6 := hidden (H5.out.lat hl6)
    clear hl6 x1
    go_wp2_with fail
    go_ret
    exact ⟨rfl, FK, GK, SK, lk, mk, llk, H6.out, HFK.out, HLK.out⟩



end Go.Proofs.YtnfjhdedcnbdbaaGreat
