/-
  Package pool: Drop.
-/
import Derived.Test.YtjlpkgepiajapaaDoorPlG
import Derived.Test.YtjlpkgepiajapaaDoorMlR
namespace Go.Proofs.YtjlpkgepiajapaaDoor
open Go.RowKit
set_option linter.unusedVariables false
set_option linter.unusedSimpArgs false

/-- Slots that are let go. -/
def relS (st : Sx) (dn : List Int) : Sx := fun j => if (j : Int) ∈ dn then none else st j
theorem relS_nil (st : Sx) : relS st [] = st := by funext j; simp [relS]
theorem relS_cons (st : Sx) (dn : List Int) (i : Nat) : upS (relS st dn) i none = relS st ((i : Int) :: dn) := by
  funext j
  unfold upS relS
  by_cases h : j = i
  · simp [h]
  · have : ¬ (j : Int) = (i : Int) := by omega
    simp [h, this]
/-- All of an owner's. -/
def drpS (st : Sx) (o : ByteArray) : Sx := fun j => match st j with
  | some x => if x.1 = o then none else some x
  | none => none
theorem rel_all {st : Sx} {n : Nat} {o : ByteArray} {dn : List Int} (hfin : ∀ j, n ≤ j → st j = none) (h1 : ∀ q ∈ setL st n o, q.1 ∈ dn) (h2 : ∀ a ∈ dn, ∃ i d, i < n ∧ st i = some (o, d) ∧ a = ((i : Nat) : Int)) : relS st dn = drpS st o := by
  funext j
  unfold relS drpS
  by_cases hj : (j : Int) ∈ dn
  · obtain ⟨i, d, hi, hs, e⟩ := h2 _ hj
    obtain rfl : j = i := by omega
    rw [if_pos hj, hs]
    simp
  · rw [if_neg hj]
    cases e : st j with
    | none => rfl
    | some x =>
      obtain ⟨x1, x2⟩ := x
      by_cases hx : x1 = o
      · subst hx
        exfalso
        have hjn : j < n := by
          rcases Nat.lt_or_ge j n with h | h
          · exact h
          · rw [hfin j h] at e; cases e
        exact hj (h1 ((j : Int), uV) (mem_setL.2 ⟨j, hjn, ⟨x2, e⟩, rfl, rfl⟩))
      · simp [hx]
theorem set_drop_same (st : Sx) (n : Nat) (o : ByteArray) : setL (drpS st o) n o = [] := by
  rw [List.eq_nil_iff_forall_not_mem]
  rintro ⟨k, v⟩ hm
  obtain ⟨i, _, ⟨d, e⟩, _⟩ := mem_setL.1 hm
  unfold drpS at e
  split at e
  · split at e
    · cases e
    · next h => cases e; exact h rfl
  · cases e
theorem set_drop_off (st : Sx) (n : Nat) (o o' : ByteArray) (h : ¬ o' = o) : (setL st n o').Perm (setL (drpS st o) n o') := by
  rw [List.perm_ext_iff_of_nodup (nodup_keys_nodup (set_pw st n o')) (nodup_keys_nodup (set_pw _ n o'))]
  rintro ⟨k, v⟩
  rw [mem_setL, mem_setL]
  constructor
  · rintro ⟨j, hj, ⟨x, e⟩, rfl, rfl⟩
    exact ⟨j, hj, ⟨x, by unfold drpS; rw [e]; simp [h]⟩, rfl, rfl⟩
  · rintro ⟨j, hj, ⟨x, e⟩, rfl, rfl⟩
    refine ⟨j, hj, ⟨x, ?_⟩, rfl, rfl⟩
    unfold drpS at e
    split at e
    · next y hy =>
      split at e
      · cases e
      · rw [hy]; exact e
    · cases e
/-- What Drop leaves. -/
theorem Pl.drop {w w2 : World} {p n g tb ob : Nat} {ow : ByteArray → Option Nat} {st : Sx} {o : ByteArray} (h : Pl w p n g tb ob ow st) (lo : List (ByteArray × Value)) (lo2 : ∀ o, al lo o = (ow o).map fun sb => Value.map (some sb))
    (F : Nat → Prop) (hF : ∀ j, F j → j < w.heap.size → j = g ∨ j = tb ∨ j = ob) (k : Chg F w w2) (f2 : Fr w2 g ((n + 63) / 64) (fun j => decide (j < n) && (drpS st o j).isNone)) (t2 : Ml K3 w2 tb (tkL (drpS st o) n)) (s2 : Ml Value.string w2 ob (rm lo o)) :
    Pl w2 p n g tb ob (upO ow o none) (drpS st o) := by
  obtain ⟨lo', l1, _⟩ := h.own
  have hpg : ¬ p = g := fun e => absurd (h.blk.tg.one (e ▸ h.fr.tg)) (by decide)
  have hpt : ¬ p = tb := fun e => h.tk.tg 63 (e ▸ h.blk.tg)
  have hpo : ¬ p = ob := fun e => l1.tg 63 (e ▸ h.blk.tg)
  refine ⟨k.blk h.blk (fun e => by rcases hF p e h.blk.lt with e | e | e; exact hpg e; exact hpt e; exact hpo e), h.n1, f2, t2, ⟨_, s2, fun o' => ?_⟩, fun o' sb' e => ?_, fun o' e => ?_, fun o1 o2 sb' e1 e2 => ?_, h.ne, fun j hj => ?_⟩
  · unfold upO
    by_cases ho' : o' = o
    · subst ho'
      rw [if_pos rfl]
      exact al_none (fun q hq e => by
        unfold rm at hq
        have := (List.mem_filter.1 hq).2
        simp only [decide_eq_true_eq] at this
        exact this e)
    · rw [if_neg ho', al_rm_off lo ho', lo2 o']
  · unfold upO at e
    split at e
    · cases e
    · next ho' =>
      obtain ⟨u1, u2, u3, u4⟩ := h.set o' sb' e
      have hp := set_drop_off st n o o' ho'
      refine ⟨(u1.chg k (fun e => by
        rcases hF sb' e u1.lt with e | e | e
        · exact u1.tg 87 (e ▸ h.fr.tg)
        · exact u3 e
        · exact u4 e)).perm hp, fun e0 => u2 ?_, u3, u4⟩
      rw [e0] at hp
      exact hp.eq_nil
  · unfold upO at e
    split at e
    · next ho' => rw [ho']; exact set_drop_same st n o
    · next ho' =>
      have hp := set_drop_off st n o o' ho'
      rw [h.non o' e] at hp
      exact hp.symm.eq_nil
  · unfold upO at e1 e2
    split at e1
    · cases e1
    · split at e2
      · cases e2
      · exact h.inj o1 o2 sb' e1 e2
  · unfold drpS
    rw [h.fin j hj]

set_option maxHeartbeats 2000000 in
theorem drop_some (o : ByteArray) (sb p n g tb ob : Nat) (ow : ByteArray → Option Nat) (st : Sx) (w : World) (h : Pl w p n g tb ob ow st) (ho : ow o = some sb) :
    Calls Tryd.prog 15 #[.pointer (some ⟨p, 0, none⟩), .string o] w fun e w' => e = .returned (.int .i64 ((setL st n o).length : Int)) ∧ TkP w p n g tb ob ow (drpS st o) w' := by
  obtain ⟨c0, c1, c2, c3⟩ := h.cells
  have l1 := h.lookO o
  rw [ho] at l1
  obtain ⟨s1, _, s4, s5⟩ := h.set o sb ho
  obtain ⟨w1, r1, m1, b1⟩ := s1.range (P := Tryd.prog) Tryd.underlying77
  have HP := hidden h
  have HM1 := hidden m1
  have HB1 := hidden b1
  have HO := hidden ho
  have hsg : ¬ sb = g := fun e => s1.tg 87 (e ▸ h.fr.tg)
  clear h ho m1 b1 c0 c1 c2 s1
  go_enter Tryd.func15, Tryd.ntmps15
  go_wp2_with fail
  have HS : Hid (∃ dn cnt, Mr K3 w1 sb w.heap.size (setL st n o) dn cnt ∧ Fr w1 g ((n + 63) / 64) (fun j => decide (j < n) && (relS st dn j).isNone) ∧ Ml K3 w1 tb (tkL (relS st dn) n) ∧ Chg (fun j => j = g ∨ j = tb ∨ w.heap.size ≤ j) w w1 ∧ ∀ a ∈ dn, ∃ i d, i < n ∧ st i = some (o, d) ∧ a = ((i : Nat) : Int)) :=
    hidden ⟨[], _, HM1.out, by rw [relS_nil]; exact HP.out.fr.later HB1.out, by rw [relS_nil]; exact HP.out.tk.later HB1.out, Chg.of_below HB1.out, by simp⟩
  go_loopw [6] (fun v6 wx => Hid (∃ dn cnt, Mr K3 wx sb w.heap.size (setL st n o) dn cnt ∧ Fr wx g ((n + 63) / 64) (fun j => decide (j < n) && (relS st dn j).isNone) ∧ Ml K3 wx tb (tkL (relS st dn) n) ∧ Chg (fun j => j = g ∨ j = tb ∨ w.heap.size ≤ j) w wx ∧ ∀ a ∈ dn, ∃ i d, i < n ∧ st i = some (o, d) ∧ a = ((i : Nat) : Int))) (fun _ wx => wx.rangeLeft sb w.heap.size)
  case atStart => exact HS
  case round =>
    clear HS
    obtain ⟨dn, cnt, hM, hF, hT, hC, hD⟩ := hrel.out
    have n1 := HP.out.n1
    have hgl : g < w.heap.size := by obtain ⟨r, hr, _⟩ := HP.out.fr.ex; exact hr.lt
    have htl := HP.out.tk.lt
    have hpl := HP.out.blk.lt
    obtain ⟨lo, lo1, lo2⟩ := HP.out.own
    have hol := lo1.lt
    have hpg : ¬ p = g := fun e => absurd (HP.out.blk.tg.one (e ▸ HP.out.fr.tg)) (by decide)
    have hpt : ¬ p = tb := fun e => HP.out.tk.tg 63 (e ▸ HP.out.blk.tg)
    have hpo : ¬ p = ob := fun e => lo1.tg 63 (e ▸ HP.out.blk.tg)
    have hog : ¬ ob = g := fun e => lo1.tg 87 (e ▸ HP.out.fr.tg)
    have hB := hC.blk HP.out.blk (by rintro (e | e | e); exact hpg e; exact hpt e; omega)
    rcases hM.next (P := Tryd.prog) kyI 0 with ⟨hall, hr⟩ | ⟨a, v, w2, cnt', hav, hnd, hcnt, hr, hM2, hc2, hent⟩
    · have d3 := hB.cell 3
      simp only [List.getElem?_cons_zero, List.getElem?_cons_succ] at d3
      have hlo := lo1.chg hC (by rintro (e | e | e); exact hog e; exact HP.out.ne e.symm; omega)
      obtain ⟨w3, r3, s3, k3, z3⟩ := hlo.drop (P := Tryd.prog) (ty := 0) kyS Tryd.underlying61 o
      have hln := (hM.ml.chg k3 s5).len (P := Tryd.prog) Tryd.underlying77 3
      have hall2 := rel_all HP.out.fin hall hD
      rw [hall2] at hF hT
      have hgo : ¬ g = ob := fun e => hog e.symm
      have HE : Hid (TkP w p n g tb ob ow (drpS st o) w3) := hidden ⟨upO ow o none, HP.out.drop lo lo2 (fun j => (j = g ∨ j = tb ∨ w.heap.size ≤ j) ∨ j = ob) (fun j hj hlt => by
          rcases hj with (e | e | e) | e
          · exact .inl e
          · exact .inr (.inl e)
          · omega
          · exact .inr (.inr e)) ((hC.mono (fun j _ hj => .inl hj)).trans k3 (fun j _ hj => .inr hj)) (hF.chg k3 hgo) (hT.chg k3 HP.out.ne) s3,
        ((hC.mono (fun j hj hq => by
          rcases hq with e | e | e
          · exact .inl e
          · exact .inr (.inl e)
          · omega)).trans k3 (fun j _ hj => .inr (.inr (.inl hj)))), fun o' sb' e => by
          unfold upO at e
          split at e
          · cases e
          · exact .inl e⟩
      clear hM hF hT hC hD hall hall2 hB hlo lo1 lo2 s3 k3 z3 hrel HM1 HB1
      go_wp2_with fail
      go_ret
      exact ⟨rfl, HE.out⟩
    · obtain ⟨i, hi, ⟨d, hst⟩, rfl, rfl⟩ := mem_setL.1 hav
      have hB2 := hc2.blk hB (by omega)
      have hF2 := hF.chg hc2 (by omega)
      have hT2 := hT.chg hc2 (by omega)
      have HR := hidden (releaseP i p n g tb ob (relS st dn) w2 hi n1 hB2 hF2 hT2)
      rw [relS_cons] at HR
      have hend : Hid (∀ w3, Fr w3 g ((n + 63) / 64) (fun j => decide (j < n) && (relS st ((i : Int) :: dn) j).isNone) → Ml K3 w3 tb (tkL (relS st ((i : Int) :: dn)) n) → Chg (fun j => j = g ∨ j = tb) w2 w3 →
          (∃ dn cnt, Mr K3 w3 sb w.heap.size (setL st n o) dn cnt ∧ Fr w3 g ((n + 63) / 64) (fun j => decide (j < n) && (relS st dn j).isNone) ∧ Ml K3 w3 tb (tkL (relS st dn) n) ∧ Chg (fun j => j = g ∨ j = tb ∨ w.heap.size ≤ j) w w3 ∧ ∀ a ∈ dn, ∃ i d, i < n ∧ st i = some (o, d) ∧ a = ((i : Nat) : Int)) ∧ w3.rangeLeft sb w.heap.size < wr.rangeLeft sb w.heap.size) := hidden (fun w3 f3 t3 k3 => by
        have hm3 := hM2.chg k3 (by rintro (e | e); exact hsg e; exact s4 e) (by rintro (e | e) <;> omega)
        refine ⟨⟨_, _, hm3, f3, t3, (hC.trans hc2 (fun j _ hj => .inr (.inr (by omega)))).trans k3 (fun j _ hj => by
          rcases hj with e | e
          · exact .inl e
          · exact .inr (.inl e)), fun a ha => ?_⟩, ?_⟩
        · rcases List.mem_cons.1 ha with rfl | ha
          · exact ⟨i, d, hi, hst, rfl⟩
          · exact hD a ha
        · rw [hm3.left, hM.left]
          exact hcnt)
      unfold K3 at hr hent
      clear hM hF hT hC hD hB lo1 lo2 hB2 hF2 hT2 hM2 hc2 hrel hav hnd hcnt HM1 HB1
      go_wp2_with (refine HR.out.mono ?_; clear HR; rintro e w3 ⟨rfl, f3, t3, k3⟩; have HE := hidden (hend.out w3 f3 t3 k3); clear f3 t3 k3)
      exact ⟨hidden HE.out.1, HE.out.2⟩

theorem drop_same {st : Sx} {n : Nat} {o : ByteArray} (hfin : ∀ j, n ≤ j → st j = none) (h : setL st n o = []) : drpS st o = st := by
  have := rel_all (st := st) (n := n) (o := o) (dn := []) hfin (by rw [h]; simp) (by simp)
  rw [← this, relS_nil]
set_option maxHeartbeats 2000000 in
theorem drop_none (o : ByteArray) (p n g tb ob : Nat) (ow : ByteArray → Option Nat) (st : Sx) (w : World) (h : Pl w p n g tb ob ow st) (ho : ow o = none) :
    Calls Tryd.prog 15 #[.pointer (some ⟨p, 0, none⟩), .string o] w fun e w' => e = .returned (.int .i64 ((setL st n o).length : Int)) ∧ TkP w p n g tb ob ow (drpS st o) w' := by
  obtain ⟨c0, c1, c2, c3⟩ := h.cells
  have l1 := h.lookO o
  rw [ho] at l1
  have hs0 := h.non o ho
  have hds := drop_same h.fin hs0
  have r1 := run_range_nilMap (P := Tryd.prog) w 77 3 78 Tryd.underlying77
  have r2 := run_next_nilMap (P := Tryd.prog) w 0 0 0 #[]
  obtain ⟨w1, hw1⟩ : ∃ w1, w.alloc (.mapIter none 0 #[] 0) = w1 := ⟨_, rfl⟩
  rw [hw1] at r1 r2
  have b1 : Below w.heap.size w w1 := by rw [← hw1]; exact (Below.refl _ _).alloc (Nat.le_refl _) _
  clear hw1
  obtain ⟨lo, lo1, lo2⟩ := h.own
  obtain ⟨w3, r3, s3, k3, z3⟩ := (lo1.later b1).drop (P := Tryd.prog) (ty := 0) kyS Tryd.underlying61 o
  have hgo : ¬ g = ob := fun e => lo1.tg 87 (e ▸ h.fr.tg)
  have d3 := (h.blk.later b1).cell 3
  simp only [List.getElem?_cons_zero, List.getElem?_cons_succ] at d3
  have hln : (Builtin.len_ #[77] 3 #[.map none]).run Tryd.prog w3 = .ok (.int .i64 0) w3 := Maps.len_nil Tryd.underlying77 3
  have HE : Hid (TkP w p n g tb ob ow (drpS st o) w3) := hidden ⟨upO ow o none, h.drop lo lo2 (fun j => w.heap.size ≤ j ∨ j = ob) (fun j hj hlt => by
      rcases hj with e | e
      · omega
      · exact .inr (.inr e)) (((Chg.of_below b1 : Chg (fun j => w.heap.size ≤ j ∨ j = ob) w w1)).trans k3 (fun j _ hj => .inr hj)) (by rw [hds]; exact (h.fr.later b1).chg k3 hgo) (by rw [hds]; exact (h.tk.later b1).chg k3 h.ne) s3,
    ((Chg.of_below b1 : Chg (PF g tb ob ow) w w1)).trans k3 (fun j _ hj => .inr (.inr (.inl hj))), fun o' sb' e => by
      unfold upO at e
      split at e
      · cases e
      · exact .inl e⟩
  rw [hs0]
  clear h ho c0 c1 c2 hs0 hds b1 lo1 lo2 s3 k3 z3 hgo
  go_enter Tryd.func15, Tryd.ntmps15
  go_wp2_with fail
  go_loopw [6] (fun v6 wx => wx = w1) (fun _ _ => 0)
  case atStart => rfl
  case round =>
    subst hrel
    go_wp2_with fail
    go_ret
    exact ⟨rfl, HE.out⟩

end Go.Proofs.YtjlpkgepiajapaaDoor
