import Derived.Test.YtlppibigceeimaaDoorPlE
/-
  Package pool: Give.
-/
namespace Go.Proofs.YtlppibigceeimaaDoor.K
open Go.RowKit
set_option linter.unusedVariables false
set_option linter.unusedSimpArgs false

theorem give_none (k : Int) (p n g tb ob : Nat) (ow : ByteArray → Option Nat) (st : Sx) (w : World) (h : Pl w p n g tb ob ow st) (hk : al (tkL st n) k = none) :
    Calls Tryd.prog 30 #[.pointer (some ⟨p, 0, none⟩), .int .i64 k] w fun e w' => e = .returned (.int .i64 111) ∧ Below w.heap.size w w' := by
  obtain ⟨c0, c1, c2, c3⟩ := h.cells
  have l1 := h.lookT k
  rw [hk] at l1
  simp only [Option.getD_none, Option.isSome_none, leV] at l1
  clear h hk c0 c1 c3
  go_enter Tryd.func30, Tryd.ntmps30
  go_wp2_with fail
  go_ret
  exact ⟨rfl, (Below.refl _ _).alloc (Nat.le_refl _) _⟩
/-- An owner that has a slot has a set. -/
theorem Pl.has {w : World} {p n g tb ob i : Nat} {ow : ByteArray → Option Nat} {st : Sx} {o d : ByteArray} (h : Pl w p n g tb ob ow st) (hi : i < n) (hk : st i = some (o, d)) : ∃ sb, ow o = some sb := by
  cases e : ow o with
  | some sb => exact ⟨sb, rfl⟩
  | none =>
    have := h.non o e
    have hm : ((i : Int), uV) ∈ setL st n o := mem_setL.2 ⟨i, hi, ⟨d, hk⟩, rfl, rfl⟩
    rw [this] at hm
    simp at hm
theorem set_off (st : Sx) (n i : Nat) (o o' d : ByteArray) (hne : ¬ o' = o) (hs : st i = some (o, d)) : (setL st n o').Perm (setL (upS st i none) n o') := by
  have h := set_rm st n i o'
  have e : rm (setL st n o') (i : Int) = setL st n o' := by
    unfold rm
    rw [List.filter_eq_self]
    rintro ⟨k, v⟩ hm
    obtain ⟨j, hj, ⟨x, ex⟩, rfl, rfl⟩ := mem_setL.1 hm
    simp only [decide_eq_true_eq]
    intro e1
    obtain rfl : j = i := by omega
    rw [hs] at ex
    simp only [Option.some.injEq, Prod.mk.injEq] at ex
    exact hne ex.1.symm
  rw [e] at h
  exact h

/-- What Give leaves: the owner's set without it; without the set where it was the last. -/
theorem Pl.give {w w1 w2 : World} {p n g tb ob i sb : Nat} {ow : ByteArray → Option Nat} {st : Sx} {o d : ByteArray} (h : Pl w p n g tb ob ow st) (hi : i < n) (hk : st i = some (o, d)) (ho : ow o = some sb)
    (f1 : Fr w1 g ((n + 63) / 64) (fun j => decide (j < n) && (upS st i none j).isNone)) (t1 : Ml K3 w1 tb (tkL (upS st i none) n)) (k1 : Chg (fun j => j = g ∨ j = tb) w w1)
    (s2 : Ml K3 w2 sb (rm (setL st n o) (i : Int))) (k2 : Chg (fun j => j = sb) w1 w2) :
    (setL (upS st i none) n o ≠ [] → Pl w2 p n g tb ob ow (upS st i none)) ∧
    (setL (upS st i none) n o = [] → ∀ lo : List (ByteArray × Value), (∀ o, al lo o = (ow o).map fun sb => Value.map (some sb)) → ∀ w3, Ml Value.string w3 ob (rm lo o) → Chg (fun j => j = ob) w2 w3 → Pl w3 p n g tb ob (upO ow o none) (upS st i none)) := by
  obtain ⟨lo, l1, l2⟩ := h.own
  obtain ⟨s1, _, s4, s5⟩ := h.set o sb ho
  have hpg : ¬ p = g := fun e => absurd (h.blk.tg.one (e ▸ h.fr.tg)) (by decide)
  have hpt : ¬ p = tb := fun e => h.tk.tg 55 (e ▸ h.blk.tg)
  have hps : ¬ p = sb := fun e => s1.tg 55 (e ▸ h.blk.tg)
  have hpo : ¬ p = ob := fun e => l1.tg 55 (e ▸ h.blk.tg)
  have hgs : ¬ g = sb := fun e => s1.tg 33 (e ▸ h.fr.tg)
  have hgo : ¬ g = ob := fun e => l1.tg 33 (e ▸ h.fr.tg)
  have hfin : ∀ j, n ≤ j → upS st i none j = none := fun j hj => by
    unfold upS
    rw [if_neg (by omega)]
    exact h.fin j hj
  have hoth : ∀ o' sb', ow o' = some sb' → ¬ o' = o → Ml K3 w2 sb' (setL (upS st i none) n o') ∧ setL (upS st i none) n o' ≠ [] ∧ sb' ≠ tb ∧ sb' ≠ ob := by
    intro o' sb' e ho'
    obtain ⟨u1, u2, u3, u4⟩ := h.set o' sb' e
    have hss : ¬ sb' = sb := fun e2 => ho' (h.inj o' o sb (by rw [e, e2]) ho)
    have hp := set_off st n i o o' d ho' hk
    refine ⟨((u1.chg k1 (by rintro (e | e)
                            · exact u1.tg 33 (e ▸ h.fr.tg)
                            · exact u3 e)).chg k2 hss).perm hp, fun e0 => u2 ?_, u3, u4⟩
    rw [e0] at hp
    exact hp.eq_nil
  have hnon : ∀ o', ow o' = none → setL (upS st i none) n o' = [] := by
    intro o' e
    have ho' : ¬ o' = o := fun e2 => by rw [e2, ho] at e; cases e
    have hp := set_off st n i o o' d ho' hk
    rw [h.non o' e] at hp
    exact hp.symm.eq_nil
  have B2 := k2.blk (k1.blk h.blk (by rintro (e | e); exact hpg e; exact hpt e)) hps
  refine ⟨fun hne => ?_, fun he lo' lo2' w3 hlo k3 => ?_⟩
  · refine ⟨B2, h.n1, f1.chg k2 hgs, t1.chg k2 (fun e => s4 e.symm), ⟨lo, (l1.chg k1 (by rintro (e | e); exact hgo e.symm; exact h.ne e.symm)).chg k2 (fun e => s5 e.symm), l2⟩, fun o' sb' e => ?_, hnon, h.inj, h.ne, hfin⟩
    by_cases ho' : o' = o
    · subst ho'
      rw [ho] at e
      cases e
      exact ⟨s2.perm (set_rm st n i o'), hne, s4, s5⟩
    · exact hoth o' sb' e ho'
  · refine ⟨k3.blk B2 hpo, h.n1, (f1.chg k2 hgs).chg k3 hgo, (t1.chg k2 (fun e => s4 e.symm)).chg k3 h.ne, ⟨_, hlo, fun o' => ?_⟩, fun o' sb' e => ?_, fun o' e => ?_, fun o1 o2 sb' e1 e2 => ?_, h.ne, hfin⟩
    · unfold upO
      by_cases ho' : o' = o
      · subst ho'
        rw [if_pos rfl]
        exact al_none (fun p hp e => by
          unfold rm at hp
          have := (List.mem_filter.1 hp).2
          simp only [decide_eq_true_eq] at this
          exact this e)
      · rw [if_neg ho', al_rm_off lo' ho', lo2' o']
    · unfold upO at e
      split at e
      · cases e
      · next ho' =>
        obtain ⟨u1, u2, u3, u4⟩ := hoth o' sb' e ho'
        exact ⟨u1.chg k3 u4, u2, u3, u4⟩
    · unfold upO at e
      split at e
      · next ho' => rw [ho']; exact he
      · exact hnon o' e
    · unfold upO at e1 e2
      split at e1
      · cases e1
      · split at e2
        · cases e2
        · exact h.inj o1 o2 sb' e1 e2

set_option maxRecDepth 100000 in
set_option maxHeartbeats 2000000 in
theorem give_ok (i : Nat) (o d : ByteArray) (p n g tb ob : Nat) (ow : ByteArray → Option Nat) (st : Sx) (w : World) (h : Pl w p n g tb ob ow st) (hi : i < n) (hk : st i = some (o, d)) :
    Calls Tryd.prog 30 #[.pointer (some ⟨p, 0, none⟩), .int .i64 (i : Int)] w fun e w' => e = .returned (.int .i64 0) ∧ TkP w p n g tb ob ow (upS st i none) w' := by
  obtain ⟨sb, ho⟩ := h.has hi hk
  obtain ⟨c0, c1, c2, c3⟩ := h.cells
  have l1 := h.lookT (i : Int)
  rw [al_tk hi, hk] at l1
  simp only [Option.map_some, Option.getD_some, Option.isSome_some, leV] at l1
  have K5 := hidden (Blk.new w 93 [.string o, .string d])
  have hb5 : Below w.heap.size w (w.alloc (.cells [.string o, .string d].toArray 93)) := (Below.refl _ _).alloc (Nat.le_refl _) _
  have H5 := hidden (h.later hb5)
  have HB5 := hidden hb5
  have HR := hidden (releaseP i p n g tb ob st _ hi h.n1 H5.out.blk H5.out.fr H5.out.tk)
  have HK := hidden (And.intro hi (And.intro hk ho))
  clear h hk ho hi c0 c1 c3 hb5
  go_enter Tryd.func30, Tryd.ntmps30
  go_wp2_with (refine HR.out.mono ?_; clear HR; rintro e w1 ⟨rfl, f1, t1, k1⟩; have F1 := hidden f1; have T1 := hidden t1; have K1 := hidden k1; clear f1 t1 k1)
  obtain ⟨hi, hk, ho⟩ := HK.out
  obtain ⟨lo, lo1, lo2⟩ := H5.out.own
  obtain ⟨s1, _, s4, s5⟩ := H5.out.set o sb ho
  have hF5 := H5.out.fr
  have hpg : ¬ p = g := fun e => absurd (H5.out.blk.tg.one (e ▸ hF5.tg)) (by decide)
  have hpt : ¬ p = tb := fun e => H5.out.tk.tg 55 (e ▸ H5.out.blk.tg)
  have hps : ¬ p = sb := fun e => s1.tg 55 (e ▸ H5.out.blk.tg)
  have hgs : ¬ sb = g := fun e => s1.tg 33 (e ▸ hF5.tg)
  have hgo : ¬ ob = g := fun e => lo1.tg 33 (e ▸ hF5.tg)
  have hvg : ¬ w.heap.size = g := fun e => absurd (K5.out.tg.one (e ▸ hF5.tg)) (by decide)
  have hvt : ¬ w.heap.size = tb := fun e => H5.out.tk.tg 93 (e ▸ K5.out.tg)
  have hvs : ¬ w.heap.size = sb := fun e => s1.tg 93 (e ▸ K5.out.tg)
  have HB1 := hidden (K1.out.blk H5.out.blk (by rintro (e | e); exact hpg e; exact hpt e))
  have HV1 := hidden (K1.out.blk K5.out (by rintro (e | e); exact hvg e; exact hvt e))
  have HLO1 := hidden (lo1.chg K1.out (by rintro (e | e); exact hgo e; exact H5.out.ne e.symm))
  have HS1 := hidden (s1.chg K1.out (by rintro (e | e); exact hgs e; exact s4 e))
  have a3 := HB1.out.cell 3
  have a0 := HV1.out.cell 0
  simp only [List.getElem?_cons_zero, List.getElem?_cons_succ] at a3 a0
  have la : (Instr.lookup 53 (.map (some ob)) (.string o) false).run Tryd.prog w1.drew = .ok (.map (some sb)) w1.drew := by
    have := Ml.look (w := w1.drew) HLO1.out kyS Tryd.underlying53 (zero77 w1.drew) o false
    rw [lo2 o, ho] at this
    exact this
  obtain ⟨w2, r2, s2, k2, z2⟩ := Ml.drop (w := w1.drew) (P := Tryd.prog) (ty := 0) HS1.out kyI Tryd.underlying73 (i : Int)
  have k2' : Chg (fun j => j = sb) w1 w2 := (Chg.drew _ _).trans k2 (fun _ _ h => h)
  have HB2 := hidden (k2'.blk HB1.out hps)
  have HV2 := hidden (k2'.blk HV1.out hvs)
  have HLO2 := hidden (HLO1.out.chg k2' (fun e => s5 e.symm))
  have b3 := HB2.out.cell 3
  have b0 := HV2.out.cell 0
  simp only [List.getElem?_cons_zero, List.getElem?_cons_succ] at b3 b0
  have lb : (Instr.lookup 53 (.map (some ob)) (.string o) false).run Tryd.prog w2.drew = .ok (.map (some sb)) w2.drew := by
    have := Ml.look (w := w2.drew) HLO2.out kyS Tryd.underlying53 (zero77 w2.drew) o false
    rw [lo2 o, ho] at this
    exact this
  have ln := Ml.len (w := w2.drew) s2 (P := Tryd.prog) Tryd.underlying73 3
  have HG := hidden (H5.out.give hi hk ho F1.out T1.out K1.out s2 k2')
  have hlen : (rm (setL st n o) (i : Int)).length = (setL (upS st i none) n o).length := (set_rm st n i o).length_eq
  rw [hlen] at ln
  obtain ⟨w3, r3, s3, k3, z3⟩ := Ml.drop (w := w2.drew.drew) (P := Tryd.prog) (ty := 0) HLO2.out kyS Tryd.underlying53 o
  have hch : Hid (Chg (PF g tb ob ow) w w2) := hidden (((Chg.of_below HB5.out).trans K1.out (fun j _ hj => by
    rcases hj with e | e
    · exact .inl e
    · exact .inr (.inl e))).trans k2' (fun j _ hj => .inr (.inr (.inr ⟨o, by rw [hj]; exact ho⟩))))
  have HEnd : Hid ((setL (upS st i none) n o).length ≠ 0 → TkP w p n g tb ob ow (upS st i none) w2.drew) := hidden (fun hne => by
    have hp := HG.out.1 (fun e => hne (by rw [e]; rfl))
    exact ⟨ow, hp.later (below_drewN (Below.refl _ _) 1), hch.out.trans (Chg.drew _ _) (fun _ _ h => h), fun _ _ e => .inl e⟩)
  have HEnd2 : Hid ((setL (upS st i none) n o).length = 0 → TkP w p n g tb ob ow (upS st i none) w3) := hidden (fun he => by
    have k3' : Chg (fun j => j = ob) w2 w3 := ((Chg.drew _ _).trans (Chg.drew _ _) (fun _ _ h => h)).trans k3 (fun _ _ h => h)
    have hp := HG.out.2 (List.eq_nil_of_length_eq_zero he) lo lo2 w3 s3 k3'
    refine ⟨upO ow o none, hp, hch.out.trans k3' (fun j _ hj => .inr (.inr (.inl hj))), fun o' sb' e => ?_⟩
    unfold upO at e
    split at e
    · cases e
    · exact .inl e)
  generalize (setL (upS st i none) n o).length = T at *
  unfold K3 at r2
  clear s2 k2 k2' z2 s3 k3 z3 lo1 lo2 s1 hF5 hpg hpt hps hgs hgo hvg hvt hvs hi hk ho hlen s4 s5
  by_cases hT : T = 0
  · subst hT
    have HE := hidden (HEnd2.out rfl)
    clear HEnd HEnd2
    go_region
    all_goals
      go_wp2_with fail
      go_region
      all_goals
        go_wp2_with fail
        go_region
        all_goals
          go_wp2_with fail
          go_ret
          exact ⟨rfl, HE.out⟩
  · have HE := hidden (HEnd.out hT)
    have hT' : ((T : Int) == 0) = false := by simpa using hT
    clear HEnd HEnd2
    go_region
    all_goals
      go_wp2_with fail
      go_region
      all_goals
        go_wp2_with fail
        go_ret
        exact ⟨rfl, HE.out⟩

end Go.Proofs.YtlppibigceeimaaDoor.K

/-
  Package pool: its calls as a caller sees them.
-/
namespace Go.Proofs.YtlppibigceeimaaDoor.K
open Go.RowKit
set_option linter.unusedVariables false
set_option linter.unusedSimpArgs false

/-- What a call of the pool's may change: nothing below, and no cells but words. -/
def KF (base : Nat) (w : World) : Nat → Prop := fun i => base ≤ i ∧ ∀ t, Tg w i t → t = 33
abbrev Kp (base : Nat) (w w' : World) : Prop := Chg (KF base w) w w'
/-- A pool, wherever it lies from a block on. -/
def PB (base : Nat) (w : World) (p n : Nat) (st : Sx) : Prop := base ≤ p ∧ 0 < base ∧ ∃ g tb ob ow, Pl w p n g tb ob ow st ∧ ∀ i, PF g tb ob ow i → base ≤ i
theorem Pl.kf {w : World} {p n g tb ob base : Nat} {ow : ByteArray → Option Nat} {st : Sx} (h : Pl w p n g tb ob ow st) (hb : ∀ i, PF g tb ob ow i → base ≤ i) : ∀ i, PF g tb ob ow i → KF base w i := by
  intro i hi
  refine ⟨hb i hi, fun t ht => ?_⟩
  rcases hi with rfl | rfl | rfl | ⟨o, e⟩
  · exact ht.one h.fr.tg
  · exact absurd ht (h.tk.tg t)
  · obtain ⟨lo, l1, _⟩ := h.own
    exact absurd ht (l1.tg t)
  · exact absurd ht ((h.set o i e).1.tg t)
theorem PB.later {base : Nat} {w w' : World} {p n : Nat} {st : Sx} (h : PB base w p n st) (k : Below w.heap.size w w') : PB base w' p n st := by
  obtain ⟨h1, h2, g, tb, ob, ow, h3, h4⟩ := h
  exact ⟨h1, h2, g, tb, ob, ow, h3.later k, h4⟩
theorem Kp.blk {base : Nat} {w w' : World} (h : Kp base w w') {i : Nat} {t : TypeId} {L : List Value} (hB : Blk w i t L) (ht : t ≠ 33) : Blk w' i t L := Chg.blk h hB (fun hF => ht (hF.2 t hB.tg))
theorem Kp.bel {base : Nat} {w w' : World} (h : Kp base w w') (hb : base ≤ w.heap.size) : Below base w w' := Chg.below h hb (fun i hi => hi.1)
theorem Kp.gv {base : Nat} {w w' : World} (h : Kp base w w') (hb : 0 < base) (hG : Gv w) : Gv w' := hG.chg h (fun hF => by have := hF.1; omega)
theorem tkp_pb {base : Nat} {w w' : World} {p n g tb ob : Nat} {ow : ByteArray → Option Nat} {st st' : Sx} (h1 : base ≤ p) (h2 : 0 < base) (h : Pl w p n g tb ob ow st) (hb : ∀ i, PF g tb ob ow i → base ≤ i) (hw : base ≤ w.heap.size) (k : TkP w p n g tb ob ow st' w') : PB base w' p n st' ∧ Kp base w w' := by
  obtain ⟨ow', hp, hc, hm⟩ := k
  refine ⟨⟨h1, h2, g, tb, ob, ow', hp, fun i hi => ?_⟩, hc.mono (fun i _ hi => h.kf hb i hi)⟩
  rcases hi with e | e | e | ⟨o, e⟩
  · exact hb i (.inl e)
  · exact hb i (.inr (.inl e))
  · exact hb i (.inr (.inr (.inl e)))
  · rcases hm o i e with e | e
    · exact hb i (.inr (.inr (.inr ⟨o, e⟩)))
    · omega
theorem PB.size {base : Nat} {w : World} {p n : Nat} {st : Sx} (h : PB base w p n st) : base ≤ w.heap.size := by
  obtain ⟨h1, h2, g, tb, ob, ow, h3, h4⟩ := h
  have := h3.blk.lt
  omega

theorem newB (n : Nat) (h1 : 1 ≤ n) (h2 : n ≤ 65536) (w : World) (hw : 0 < w.heap.size) : Calls Tryd.prog 6 #[.int .i64 (n : Int)] w fun e w' => ∃ p, e = .returned (.tuple #[.pointer (some ⟨p, 0, none⟩), .int .i64 0]) ∧ PB w.heap.size w' p n (fun _ => none) ∧ Below w.heap.size w w' :=
  (newP n h1 h2 w).mono fun e w' ⟨p, g, tb, ob, he, hp, hb, hz, hf⟩ => ⟨p, he, ⟨hz, hw, g, tb, ob, _, hp, hf⟩, hb⟩
theorem newBad (k : Int) (hk : k < 1 ∨ 65536 < k) (w : World) : Calls Tryd.prog 6 #[.int .i64 k] w fun e w' => e = .returned (.tuple #[.pointer none, .int .i64 1]) ∧ w' = w := by
  rcases (show k < 1 ∨ (1 ≤ k ∧ 65536 < k) by omega) with h | ⟨h, h'⟩
  all_goals
    clear hk
    go_enter Tryd.func6, Tryd.ntmps6
    go_wp2_with fail
    go_ret2
    exact ⟨rfl, rfl⟩
def takeS (st : Sx) (n : Nat) (o : ByteArray) : Sx := match fst1 st n with
  | some i => upS st i (some (o, emp))
  | none => st
def takeV (st : Sx) (n : Nat) : Value := match fst1 st n with
  | some i => .tuple #[.int .i64 (i : Int), .int .i64 0]
  | none => .tuple #[.int .i64 0, .int .i64 110]
theorem takeB (o : ByteArray) (base p n : Nat) (st : Sx) (w : World) (h : PB base w p n st) (hG : Gv w) :
    Calls Tryd.prog 35 #[.pointer (some ⟨p, 0, none⟩), .string o] w fun e w' => e = .returned (takeV st n) ∧ PB base w' p n (takeS st n o) ∧ Kp base w w' := by
  have hz := h.size
  have h' := h
  obtain ⟨h1, h2, g, tb, ob, ow, h3, h4⟩ := h
  unfold takeV takeS
  cases hf : fst1 st n with
  | none => exact (take_none o p n g tb ob ow st w h3 hG hf).mono fun e w' ⟨e1, e2⟩ => ⟨e1, e2 ▸ h', e2 ▸ Chg.refl _ _⟩
  | some i =>
    cases ho : ow o with
    | none => exact (take_new o i p n g tb ob ow st w h3 hG hf ho).mono fun e w' ⟨e1, e2⟩ => ⟨e1, tkp_pb h1 h2 h3 h4 hz e2⟩
    | some sb => exact (take_old o i sb p n g tb ob ow st w h3 hG hf ho).mono fun e w' ⟨e1, e2⟩ => ⟨e1, tkp_pb h1 h2 h3 h4 hz e2⟩
/-- A slot's number, if it is taken. -/
def atS (st : Sx) (n : Nat) (k : Int) : Option (Nat × ByteArray × ByteArray) := if 0 ≤ k ∧ k < (n : Int) then (st k.toNat).map fun x => (k.toNat, x) else none
theorem atS_cases (st : Sx) (n : Nat) (k : Int) : (atS st n k = none ∧ al (tkL st n) k = none) ∨ ∃ i o d, atS st n k = some (i, o, d) ∧ k = (i : Int) ∧ i < n ∧ st i = some (o, d) ∧ al (tkL st n) k = some (leV o d) := by
  unfold atS
  by_cases hk : 0 ≤ k ∧ k < (n : Int)
  · obtain ⟨i, rfl⟩ : ∃ i : Nat, k = (i : Int) := ⟨k.toNat, by omega⟩
    have hi : i < n := by omega
    rw [if_pos hk, Int.toNat_natCast]
    cases e : st i with
    | none => exact .inl ⟨rfl, by rw [al_tk hi, e]; rfl⟩
    | some x =>
      obtain ⟨o, d⟩ := x
      exact .inr ⟨i, o, d, rfl, rfl, hi, e, by rw [al_tk hi, e]; rfl⟩
  · rw [if_neg hk]
    exact .inl ⟨rfl, al_tk_off (by omega)⟩
def giveS (st : Sx) (n : Nat) (k : Int) : Int × Sx := match atS st n k with
  | some (i, _) => (0, upS st i none)
  | none => (111, st)
theorem giveB (k : Int) (base p n : Nat) (st : Sx) (w : World) (h : PB base w p n st) :
    Calls Tryd.prog 30 #[.pointer (some ⟨p, 0, none⟩), .int .i64 k] w fun e w' => e = .returned (.int .i64 (giveS st n k).1) ∧ PB base w' p n (giveS st n k).2 ∧ Kp base w w' := by
  have hz := h.size
  have h' := h
  obtain ⟨h1, h2, g, tb, ob, ow, h3, h4⟩ := h
  unfold giveS
  rcases atS_cases st n k with ⟨e1, e2⟩ | ⟨i, o, d, e1, rfl, hi, hs, e2⟩
  · rw [e1]
    exact (give_none k p n g tb ob ow st w h3 e2).mono fun e w' ⟨e3, b⟩ => ⟨e3, h'.later b, Chg.of_below b⟩
  · rw [e1]
    exact (give_ok i o d p n g tb ob ow st w h3 hi hs).mono fun e w' ⟨e3, e4⟩ => ⟨e3, tkp_pb h1 h2 h3 h4 hz e4⟩
def putS (st : Sx) (n : Nat) (k : Int) (l : List Int) : Int × Sx := match atS st n k with
  | some (i, o, _) => if 128 < l.length then (1, st) else (0, upS st i (some (o, strOfNums l)))
  | none => (111, st)
theorem putB (k : Int) (ad : Option Addr) (len c : Nat) (l : List Int) (base p n : Nat) (st : Sx) (w : World) (h : PB base w p n st) (hs : Sl w ad len l) (hl : len ≤ 9223372036854775807) :
    Calls Tryd.prog 36 #[.pointer (some ⟨p, 0, none⟩), .int .i64 k, .slice ad len c] w fun e w' => e = .returned (.int .i64 (putS st n k l).1) ∧ PB base w' p n (putS st n k l).2 ∧ Kp base w w' := by
  have hz := h.size
  have h' := h
  obtain ⟨h1, h2, g, tb, ob, ow, h3, h4⟩ := h
  unfold putS
  rcases atS_cases st n k with ⟨e1, e2⟩ | ⟨i, o, d, e1, rfl, hi, hst, e2⟩
  · rw [e1]
    exact (put_none k ad len c p n g tb ob ow st w h3 e2).mono fun e w' ⟨e3, b⟩ => ⟨e3, h'.later b, Chg.of_below b⟩
  · rw [e1]
    simp only
    by_cases hlen : 128 < l.length
    · rw [if_pos hlen]
      exact (put_long i o d ad len c p n g tb ob ow st w h3 hi hst (by rw [← hs.len]; exact hlen) hl).mono fun e w' ⟨e3, b⟩ => ⟨e3, h'.later b, Chg.of_below b⟩
    · rw [if_neg hlen]
      exact (put_ok i o d ad len c l p n g tb ob ow st w h3 hi hst hs (by rw [← hs.len]; omega)).mono fun e w' ⟨e3, hp, hc⟩ => ⟨e3, ⟨h1, h2, g, tb, ob, ow, hp, h4⟩, hc.mono (fun j _ hj => h3.kf h4 j (.inr (.inl hj)))⟩
/-- Get tells nothing, or new bytes. -/
theorem getB (k : Int) (base p n : Nat) (st : Sx) (w : World) (h : PB base w p n st) :
    Calls Tryd.prog 41 #[.pointer (some ⟨p, 0, none⟩), .int .i64 k] w fun e w' => Below w.heap.size w w' ∧ ((atS st n k = none ∧ e = .returned (.tuple #[.slice none 0 0, .int .i64 111])) ∨
      ∃ i o d ga c, atS st n k = some (i, o, d) ∧ e = .returned (.tuple #[.slice (some ⟨ga, 0, none⟩) d.size c, .int .i64 0]) ∧ w.heap.size ≤ ga ∧ Sl w' (some ⟨ga, 0, none⟩) d.size (bts d) ∧ Tg w' ga 5) := by
  obtain ⟨h1, h2, g, tb, ob, ow, h3, h4⟩ := h
  rcases atS_cases st n k with ⟨e1, e2⟩ | ⟨i, o, d, e1, rfl, hi, hst, e2⟩
  · exact (get_none k p n g tb ob ow st w h3 e2).mono fun e w' ⟨e3, b⟩ => ⟨b, .inl ⟨e1, e3⟩⟩
  · exact (get_some _ o d p n g tb ob ow st w h3 e2).mono fun e w' ⟨ga, c, e3, z, s, b, t⟩ => ⟨b, .inr ⟨i, o, d, ga, c, e1, e3, z, s, t⟩⟩
theorem leftB (base p n : Nat) (st : Sx) (w : World) (h : PB base w p n st) : Calls Tryd.prog 11 #[.pointer (some ⟨p, 0, none⟩)] w fun e w' => e = .returned (.int .i64 ((n - (tkL st n).length : Nat) : Int)) ∧ Below w.heap.size w w' := by
  obtain ⟨h1, h2, g, tb, ob, ow, h3, h4⟩ := h
  exact leftP p n g tb ob ow st w h3
theorem usedB (o : ByteArray) (base p n : Nat) (st : Sx) (w : World) (h : PB base w p n st) : Calls Tryd.prog 17 #[.pointer (some ⟨p, 0, none⟩), .string o] w fun e w' => e = .returned (.int .i64 ((setL st n o).length : Int)) ∧ w' = w := by
  obtain ⟨h1, h2, g, tb, ob, ow, h3, h4⟩ := h
  exact usedP o p n g tb ob ow st w h3
end Go.Proofs.YtlppibigceeimaaDoor.K
