import Derived.Test.YtlppibigceeimaaDoorPlC
/-
  Package pool: Take.
-/
namespace Go.Proofs.YtlppibigceeimaaDoor.K
open Go.RowKit
set_option linter.unusedVariables false
set_option linter.unusedSimpArgs false

theorem lst_spec {S : Nat → Bool} : ∀ {n i j : Nat}, lst S n i = some j → i ≤ j ∧ j < i + n ∧ S j = true
  | 0, i, j, h => by cases h
  | n + 1, i, j, h => by
    unfold lst at h
    split at h
    · next e =>
      cases h
      exact ⟨Nat.le_refl _, by omega, e⟩
    · obtain ⟨h1, h2, h3⟩ := lst_spec h
      exact ⟨by omega, by omega, h3⟩
/-- The first that is free. -/
def fst1 (st : Sx) (n : Nat) : Option Nat := lst (fun j => decide (j < n) && (st j).isNone) (64 * ((n + 63) / 64)) 0
theorem fst_spec {st : Sx} {n i : Nat} (h : fst1 st n = some i) : i < n ∧ st i = none := by
  obtain ⟨_, _, h3⟩ := lst_spec h
  simp only [Bool.and_eq_true, decide_eq_true_eq, Option.isNone_iff_eq_none] at h3
  exact h3
def emp : ByteArray := ⟨#[]⟩
/-- A set with one more. -/
def upO (ow : ByteArray → Option Nat) (o : ByteArray) (x : Option Nat) : ByteArray → Option Nat := fun o' => if o' = o then x else ow o'
/-- What Take leaves. -/
def TkP (w : World) (p n g tb ob : Nat) (ow : ByteArray → Option Nat) (st' : Sx) (w' : World) : Prop :=
  ∃ ow', Pl w' p n g tb ob ow' st' ∧ Chg (PF g tb ob ow) w w' ∧ ∀ o sb, ow' o = some sb → ow o = some sb ∨ w.heap.size ≤ sb
theorem free_take (st : Sx) (n i : Nat) (x : ByteArray × ByteArray) (hi : i < n) (j : Nat) : (!decide (j = i) && (decide (j < n) && (st j).isNone)) = (decide (j < n) && (upS st i (some x) j).isNone) := by
  unfold upS
  by_cases h : j = i
  · simp [h]
  · simp [h]
theorem set_ne (st : Sx) (n i : Nat) (o d : ByteArray) (hi : i < n) : setL (upS st i (some (o, d))) n o ≠ [] := by
  intro e
  have : ((i : Int), uV) ∈ setL (upS st i (some (o, d))) n o := mem_setL.2 ⟨i, hi, ⟨d, by simp [upS]⟩, rfl, rfl⟩
  rw [e] at this
  simp at this

theorem al_rm_off {α : Type} [DecidableEq α] (l : List (α × Value)) {k k' : α} (h : ¬ k' = k) : al (rm l k) k' = al l k' := by
  unfold al rm
  rw [List.find?_filter]
  congr 2
  funext a
  by_cases e : a.1 = k'
  · have : ¬ a.1 = k := fun e2 => h (e.symm.trans e2)
    simp [e, h]
  · simp [e]
theorem map_ne (sb : Nat) (w : World) : (binOp .eql 73 (.map (some sb)) (.map none)).run Tryd.prog w = .ok (.bool false) w := by kernel_rfl
theorem map_eq (w : World) : (binOp .eql 73 (.map none) (.map none)).run Tryd.prog w = .ok (.bool true) w := by kernel_rfl
theorem take_none (o : ByteArray) (p n g tb ob : Nat) (ow : ByteArray → Option Nat) (st : Sx) (w : World) (h : Pl w p n g tb ob ow st) (hG : Gv w) (hf : fst1 st n = none) :
    Calls Tryd.prog 35 #[.pointer (some ⟨p, 0, none⟩), .string o] w fun e w' => e = .returned (.tuple #[.int .i64 0, .int .i64 110]) ∧ w' = w := by
  obtain ⟨c0, c1, c2, c3⟩ := h.cells
  have HL := hidden (leastP g ((n + 63) / 64) ((n + 63) / 64) _ w h.fr (by have := h.n1; omega) hG)
  unfold fst1 at hf
  rw [hf] at HL
  unfold lstV at HL
  simp only [Option.getD_none, Option.isSome_none] at HL
  clear h hf c0 c2 c3
  obtain ⟨m, hm⟩ : ∃ m, (n + 63) / 64 = m := ⟨_, rfl⟩
  rw [hm] at HL c1
  clear hm
  go_enter Tryd.func35, Tryd.ntmps35
  go_wp2_with (refine HL.out.mono ?_; clear HL; rintro e w3 ⟨rfl, rfl⟩)
  go_ret2
  exact ⟨rfl, rfl⟩

set_option maxRecDepth 100000 in
set_option maxHeartbeats 1000000 in
theorem take_old (o : ByteArray) (i sb p n g tb ob : Nat) (ow : ByteArray → Option Nat) (st : Sx) (w : World) (h : Pl w p n g tb ob ow st) (hG : Gv w) (hf : fst1 st n = some i) (ho : ow o = some sb) :
    Calls Tryd.prog 35 #[.pointer (some ⟨p, 0, none⟩), .string o] w fun e w' => e = .returned (.tuple #[.int .i64 (i : Int), .int .i64 0]) ∧ TkP w p n g tb ob ow (upS st i (some (o, emp))) w' := by
  obtain ⟨hin, hst⟩ := fst_spec hf
  have n1 := h.n1
  obtain ⟨c0, c1, c2, c3⟩ := h.cells
  have HL := hidden (leastP g ((n + 63) / 64) ((n + 63) / 64) _ w h.fr (by omega) hG)
  unfold fst1 at hf
  rw [hf] at HL
  unfold lstV at HL
  simp only [Option.getD_some, Option.isSome_some] at HL
  have HR := hidden (removeP g ((n + 63) / 64) ((n + 63) / 64) i _ w h.fr (Nat.le_refl _) (by omega) (by omega))
  have HP := hidden h
  have hpg : ¬ p = g := fun e => absurd (h.blk.tg.one (e ▸ h.fr.tg)) (by decide)
  have htg : ¬ tb = g := fun e => h.tk.tg 33 (e ▸ h.fr.tg)
  have hpt : ¬ p = tb := fun e => h.tk.tg 55 (e ▸ h.blk.tg)
  have hog : ¬ ob = g := fun e => by obtain ⟨lo, h1, _⟩ := h.own; exact h1.tg 33 (e ▸ h.fr.tg)
  have hsg : ¬ sb = g := fun e => (h.set o sb ho).1.tg 33 (e ▸ h.fr.tg)
  have hfin : Hid (∀ w1 w2 w3, Fr w1 g ((n + 63) / 64) (fun j => !decide (j = i) && (decide (j < n) && (st j).isNone)) → Chg (fun j => j = g) w w1 → Ml K3 w2 tb (((i : Int), leV o emp) :: rm (tkL st n) (i : Int)) → Chg (fun j => j = tb) w1 w2 → Ml K3 w3 sb (((i : Int), uV) :: rm (setL st n o) (i : Int)) → Chg (fun j => j = sb) w2 w3 → TkP w p n g tb ob ow (upS st i (some (o, emp))) w3) := hidden (by
    intro w1 w2 w3 f1 k1 t2 k2 s3 k3
    obtain ⟨lo, l1, l2⟩ := h.own
    obtain ⟨s1, s2, s4, s5⟩ := h.set o sb ho
    have hsp : ¬ p = sb := fun e => s1.tg 55 (e ▸ h.blk.tg)
    refine ⟨ow, ⟨k3.blk (k2.blk (k1.blk h.blk hpg) hpt) hsp, h.n1, ?_, ?_, ⟨lo, ((l1.chg k1 hog).chg k2 (fun e => h.ne e.symm)).chg k3 (fun e => s5 e.symm), l2⟩, ?_, ?_, h.inj, h.ne, ?_⟩, ?_, fun o' sb' e => .inl e⟩
    · exact ((f1.chg k2 (fun e => htg e.symm)).chg k3 (fun e => hsg e.symm)).mono (fun j _ => free_take st n i _ hin j)
    · exact (t2.chg k3 (fun e => s4 e.symm)).perm (tk_add st n i o emp hin)
    · intro o' sb' e
      by_cases ho' : o' = o
      · subst ho'
        rw [ho] at e
        cases e
        exact ⟨s3.perm (set_add st n i o' emp hin), set_ne st n i o' emp hin, s4, s5⟩
      · obtain ⟨u1, u2, u3, u4⟩ := h.set o' sb' e
        have hss : ¬ sb' = sb := fun e2 => ho' (h.inj o' o sb (by rw [e, e2]) ho)
        have hp := set_other st n i o o' emp ho' hst
        refine ⟨((((u1.chg k1 (fun e => u1.tg 33 (e ▸ h.fr.tg))).chg k2 u3).chg k3 hss)).perm hp, fun e0 => u2 ?_, u3, u4⟩
        rw [e0] at hp
        exact hp.eq_nil
    · intro o' e
      have ho' : ¬ o' = o := fun e2 => by rw [e2, ho] at e; cases e
      have hp := set_other st n i o o' emp ho' hst
      rw [h.non o' e] at hp
      exact hp.symm.eq_nil
    · intro j hj
      unfold upS
      rw [if_neg (by omega)]
      exact h.fin j hj
    · exact (((k1.mono (fun j _ hj => .inl hj)).trans k2 (fun j _ hj => .inr (.inl hj)))).trans k3 (fun j _ hj => .inr (.inr (.inr ⟨o, by rw [hj]; exact ho⟩))))
  have HO := hidden ho
  clear hf hG n1 c0 c3
  obtain ⟨m, hm⟩ : ∃ m, (n + 63) / 64 = m := ⟨_, rfl⟩
  rw [hm] at HL HR c1 hfin
  have HM := hidden hm
  clear h hm ho
  have hmn := fun (w : World) => map_ne sb w
  go_enter Tryd.func35, Tryd.ntmps35
  go_wp2_with (first
    | (refine HL.out.mono ?_; clear HL; rintro e w0 ⟨rfl, rfl⟩)
    | (refine HR.out.mono ?_; clear HR; rintro e w1 ⟨rfl, f1, k1⟩
       have B1 := k1.blk HP.out.blk hpg
       have d2 := B1.cell 2
       simp only [List.getElem?_cons_zero, List.getElem?_cons_succ] at d2
       obtain ⟨w2, r2, t2, k2, z2⟩ := (HP.out.tk.chg k1 htg).store (P := Tryd.prog) kyI Tryd.underlying52 (i : Int) (leV o emp)
       have B2 := k2.blk B1 hpt
       have d3 := B2.cell 3
       simp only [List.getElem?_cons_zero, List.getElem?_cons_succ] at d3
       have l2 : (Instr.lookup 53 (.map (some ob)) (.string o) false).run Tryd.prog w2 = .ok (.map (some sb)) w2 := by
         obtain ⟨lo, l1, l3⟩ := HP.out.own
         have := ((l1.chg k1 hog).chg k2 (fun e => HP.out.ne e.symm)).look kyS Tryd.underlying53 (zero77 w2) o false
         rw [l3 o, HO.out] at this
         exact this
       obtain ⟨w3, r3, s3, k3, z3⟩ := (((HP.out.set o sb HO.out).1.chg k1 hsg).chg k2 (HP.out.set o sb HO.out).2.2.1).store (P := Tryd.prog) kyI Tryd.underlying73 (i : Int) uV
       have HF := hidden (hfin.out w1 w2 w3 f1 k1 t2 k2 s3 k3)
       unfold K3 leV emp at r2
       unfold K3 uV at r3
       clear f1 k1 B1 t2 k2 z2 B2 s3 k3 z3))
  go_ret2
  exact ⟨rfl, HF.out⟩
set_option maxRecDepth 100000 in
set_option maxHeartbeats 1000000 in
theorem take_new (o : ByteArray) (i p n g tb ob : Nat) (ow : ByteArray → Option Nat) (st : Sx) (w : World) (h : Pl w p n g tb ob ow st) (hG : Gv w) (hf : fst1 st n = some i) (ho : ow o = none) :
    Calls Tryd.prog 35 #[.pointer (some ⟨p, 0, none⟩), .string o] w fun e w' => e = .returned (.tuple #[.int .i64 (i : Int), .int .i64 0]) ∧ TkP w p n g tb ob ow (upS st i (some (o, emp))) w' := by
  obtain ⟨hin, hst⟩ := fst_spec hf
  have n1 := h.n1
  obtain ⟨c0, c1, c2, c3⟩ := h.cells
  have HL := hidden (leastP g ((n + 63) / 64) ((n + 63) / 64) _ w h.fr (by omega) hG)
  unfold fst1 at hf
  rw [hf] at HL
  unfold lstV at HL
  simp only [Option.getD_some, Option.isSome_some] at HL
  have HR := hidden (removeP g ((n + 63) / 64) ((n + 63) / 64) i _ w h.fr (Nat.le_refl _) (by omega) (by omega))
  have HP := hidden h
  have hpg : ¬ p = g := fun e => absurd (h.blk.tg.one (e ▸ h.fr.tg)) (by decide)
  have htg : ¬ tb = g := fun e => h.tk.tg 33 (e ▸ h.fr.tg)
  have hpt : ¬ p = tb := fun e => h.tk.tg 55 (e ▸ h.blk.tg)
  have hog : ¬ ob = g := fun e => by obtain ⟨lo, h1, _⟩ := h.own; exact h1.tg 33 (e ▸ h.fr.tg)
  have hfin : Hid (∀ (lo : List (ByteArray × Value)) (l1 : Ml Value.string w ob lo) (l2 : ∀ o, al lo o = (ow o).map fun sb => Value.map (some sb)) (w1 w2 w3 w4 : World), Fr w1 g ((n + 63) / 64) (fun j => !decide (j = i) && (decide (j < n) && (st j).isNone)) → Chg (fun j => j = g) w w1 → Ml K3 w2 tb (((i : Int), leV o emp) :: rm (tkL st n) (i : Int)) → Chg (fun j => j = tb) w1 w2 →
      Ml Value.string w3 ob ((o, Value.map (some w2.heap.size)) :: rm lo o) → Chg (fun j => j = ob) (w2.alloc (.map #[] 0)) w3 → Ml K3 w4 w2.heap.size (((i : Int), uV) :: rm ([] : List (Int × Value)) (i : Int)) → Chg (fun j => j = w2.heap.size) w3 w4 → TkP w p n g tb ob ow (upS st i (some (o, emp))) w4) := hidden (by
    intro lo l1 l2 w1 w2 w3 w4 f1 k1 t2 k2 s3 k3 s4 k4
    have hz : w.heap.size ≤ w2.heap.size := Nat.le_trans k1.size k2.size
    have hpl := h.blk.lt
    have htl := h.tk.lt
    have hol := l1.lt
    have hgl : g < w.heap.size := by obtain ⟨r, hr, _⟩ := h.fr.ex; exact hr.lt
    have hnew : Chg (fun j => j = w2.heap.size) w2 (w2.alloc (.map #[] 0)) := Chg.alloc _ _ _
    have hpo : ¬ p = ob := fun e => l1.tg 55 (e ▸ h.blk.tg)
    have hall : Chg (PF g tb ob ow) w w4 := ((((k1.mono (fun j _ hj => .inl hj)).trans k2 (fun j _ hj => .inr (.inl hj))).trans (Chg.alloc (fun _ => False) w2 _) (fun j _ hj => hj.elim)).trans k3 (fun j _ hj => .inr (.inr (.inl hj)))).trans k4 (fun j hj e => by omega)
    refine ⟨upO ow o (some w2.heap.size), ⟨k4.blk (k3.blk ((k2.blk (k1.blk h.blk hpg) hpt).alloc _) hpo) (by omega), h.n1, ?_, ?_, ⟨_, s3.chg k4 (by omega), fun o' => ?_⟩, ?_, ?_, ?_, h.ne, ?_⟩, hall, ?_⟩
    · exact ((((f1.chg k2 (fun e => htg e.symm)).later ((Below.refl _ _).alloc (Nat.le_refl _) _)).chg k3 (fun e => hog e.symm)).chg k4 (by omega)).mono (fun j _ => free_take st n i _ hin j)
    · exact (((t2.later ((Below.refl _ _).alloc (Nat.le_refl _) _)).chg k3 h.ne).chg k4 (by omega)).perm (tk_add st n i o emp hin)
    · unfold upO
      by_cases ho' : o' = o
      · subst ho'
        simp [al]
      · rw [if_neg ho', ← l2 o']
        have : ¬ o = o' := fun e => ho' e.symm
        rw [← al_rm_off lo ho']
        unfold al
        rw [List.find?_cons_of_neg (by simpa using this)]
    · intro o' sb' e
      unfold upO at e
      by_cases ho' : o' = o
      · subst ho'
        rw [if_pos rfl] at e
        cases e
        have e0 := h.non o' ho
        refine ⟨?_, set_ne st n i o' emp hin, by omega, by omega⟩
        have := set_add st n i o' emp hin
        rw [e0] at this
        exact s4.perm this
      · rw [if_neg ho'] at e
        obtain ⟨u1, u2, u3, u4⟩ := h.set o' sb' e
        have hul := u1.lt
        have hp := set_other st n i o o' emp ho' hst
        refine ⟨(((((u1.chg k1 (fun e => u1.tg 33 (e ▸ h.fr.tg))).chg k2 u3).later ((Below.refl _ _).alloc (Nat.le_refl _) _)).chg k3 u4).chg k4 (by omega)).perm hp, fun e0 => u2 ?_, u3, u4⟩
        rw [e0] at hp
        exact hp.eq_nil
    · intro o' e
      unfold upO at e
      by_cases ho' : o' = o
      · rw [if_pos ho'] at e
        cases e
      · rw [if_neg ho'] at e
        have hp := set_other st n i o o' emp ho' hst
        rw [h.non o' e] at hp
        exact hp.symm.eq_nil
    · intro o1 o2 sb' e1 e2
      unfold upO at e1 e2
      by_cases g1 : o1 = o
      · by_cases g2 : o2 = o
        · rw [g1, g2]
        · rw [if_pos g1] at e1
          rw [if_neg g2] at e2
          cases e1
          have := (h.set o2 _ e2).1.lt
          omega
      · rw [if_neg g1] at e1
        by_cases g2 : o2 = o
        · rw [if_pos g2] at e2
          cases e2
          have := (h.set o1 _ e1).1.lt
          omega
        · rw [if_neg g2] at e2
          exact h.inj o1 o2 sb' e1 e2
    · intro j hj
      unfold upS
      rw [if_neg (by omega)]
      exact h.fin j hj
    · intro o' sb' e
      unfold upO at e
      split at e
      · cases e
        exact .inr hz
      · exact .inl e)
  have HO := hidden ho
  clear hf hG n1 c0 c3
  obtain ⟨m, hm⟩ : ∃ m, (n + 63) / 64 = m := ⟨_, rfl⟩
  rw [hm] at HL HR c1 hfin
  have HM := hidden hm
  clear h hm ho
  go_enter Tryd.func35, Tryd.ntmps35
  go_wp2_with (first
    | (refine HL.out.mono ?_; clear HL; rintro e w0 ⟨rfl, rfl⟩)
    | (refine HR.out.mono ?_; clear HR; rintro e w1 ⟨rfl, f1, k1⟩
       have B1 := k1.blk HP.out.blk hpg
       have d2 := B1.cell 2
       simp only [List.getElem?_cons_zero, List.getElem?_cons_succ] at d2
       obtain ⟨w2, r2, t2, k2, z2⟩ := (HP.out.tk.chg k1 htg).store (P := Tryd.prog) kyI Tryd.underlying52 (i : Int) (leV o emp)
       have B2 := k2.blk B1 hpt
       have d3 := B2.cell 3
       simp only [List.getElem?_cons_zero, List.getElem?_cons_succ] at d3
       have l2 : (Instr.lookup 53 (.map (some ob)) (.string o) false).run Tryd.prog w2 = .ok (.map none) w2 := by
         obtain ⟨lo, l1, l3⟩ := HP.out.own
         have := ((l1.chg k1 hog).chg k2 (fun e => HP.out.ne e.symm)).look kyS Tryd.underlying53 (zero77 w2) o false
         rw [l3 o, HO.out] at this
         exact this
       obtain ⟨lo, l1, l3⟩ := HP.out.own
       have lo2 := ((l1.chg k1 hog).chg k2 (fun e => HP.out.ne e.symm)).later (w' := w2.alloc (.map #[] 0)) ((Below.refl _ _).alloc (Nat.le_refl _) _)
       obtain ⟨w3, r3, s3, k3, z3⟩ := lo2.store (P := Tryd.prog) kyS Tryd.underlying53 o (.map (some w2.heap.size))
       have d3' := (B2.alloc (.map #[] 0)).cell 3
       simp only [List.getElem?_cons_zero, List.getElem?_cons_succ] at d3'
       have hpo : ¬ p = ob := fun e => l1.tg 55 (e ▸ HP.out.blk.tg)
       have d4 := (k3.blk (B2.alloc (.map #[] 0)) hpo).cell 3
       simp only [List.getElem?_cons_zero, List.getElem?_cons_succ] at d4
       have l4 : (Instr.lookup 53 (.map (some ob)) (.string o) false).run Tryd.prog w3 = .ok (.map (some w2.heap.size)) w3 := by
         have := s3.look kyS Tryd.underlying53 (zero77 w3) o false
         simpa [al] using this
       have hol := l1.lt
       have hz := Nat.le_trans k1.size k2.size
       have hb9 : ¬ w2.heap.size = ob := by omega
       have m3 : Ml K3 w3 w2.heap.size [] := (Ml.made K3 w2).chg k3 hb9
       obtain ⟨w4, r4, s4, k4, z4⟩ := m3.store (P := Tryd.prog) kyI Tryd.underlying73 (i : Int) uV
       have HF := hidden (hfin.out lo l1 l3 w1 w2 w3 w4 f1 k1 t2 k2 s3 k3 s4 k4)
       unfold K3 leV emp at r2
       unfold K3 uV at r4
       have hmm := @run_makeMap Tryd.prog
       have hnn := fun (w : World) => map_eq w
       clear f1 k1 B1 t2 k2 z2 B2 s3 k3 z3 s4 k4 z4 m3 lo2 l1 l3 hol hz))
  go_ret2
  exact ⟨rfl, HF.out⟩

end Go.Proofs.YtlppibigceeimaaDoor.K

/-
  Package pool: Put, Give.
-/
namespace Go.Proofs.YtlppibigceeimaaDoor.K
open Go.RowKit
set_option linter.unusedVariables false
set_option linter.unusedSimpArgs false

theorem put_none (k : Int) (ad : Option Addr) (len c : Nat) (p n g tb ob : Nat) (ow : ByteArray → Option Nat) (st : Sx) (w : World) (h : Pl w p n g tb ob ow st) (hk : al (tkL st n) k = none) :
    Calls Tryd.prog 36 #[.pointer (some ⟨p, 0, none⟩), .int .i64 k, .slice ad len c] w fun e w' => e = .returned (.int .i64 111) ∧ Below w.heap.size w w' := by
  obtain ⟨c0, c1, c2, c3⟩ := h.cells
  have l1 := h.lookT k
  rw [hk] at l1
  simp only [Option.getD_none, Option.isSome_none, leV] at l1
  clear h hk c0 c1 c3
  go_enter Tryd.func36, Tryd.ntmps36
  go_wp2_with fail
  go_ret
  exact ⟨rfl, (Below.refl _ _).alloc (Nat.le_refl _) _⟩
theorem put_long (i : Nat) (o d : ByteArray) (ad : Option Addr) (len c : Nat) (p n g tb ob : Nat) (ow : ByteArray → Option Nat) (st : Sx) (w : World) (h : Pl w p n g tb ob ow st) (hi : i < n) (hk : st i = some (o, d)) (hl : 128 < len) (hl2 : len ≤ 9223372036854775807) :
    Calls Tryd.prog 36 #[.pointer (some ⟨p, 0, none⟩), .int .i64 (i : Int), .slice ad len c] w fun e w' => e = .returned (.int .i64 1) ∧ Below w.heap.size w w' := by
  obtain ⟨c0, c1, c2, c3⟩ := h.cells
  have l1 := h.lookT (i : Int)
  rw [al_tk hi, hk] at l1
  simp only [Option.map_some, Option.getD_some, Option.isSome_some, leV] at l1
  have hlz : (128 : Int) < (len : Int) := by omega
  clear h hk c0 c1 c3 hi
  go_enter Tryd.func36, Tryd.ntmps36
  go_wp2_with fail
  go_ret
  exact ⟨rfl, (Below.refl _ _).alloc (Nat.le_refl _) _⟩
theorem upS_isNone {st : Sx} {i : Nat} {x y : ByteArray × ByteArray} (h : st i = some x) (j : Nat) : (upS st i (some y) j).isNone = (st j).isNone := by
  unfold upS
  split
  · next e => rw [e, h]; rfl
  · rfl
theorem set_keep (st : Sx) (n i : Nat) (o d d' o' : ByteArray) (hs : st i = some (o, d)) : (setL st n o').Perm (setL (upS st i (some (o, d'))) n o') := by
  rw [List.perm_ext_iff_of_nodup (nodup_keys_nodup (set_pw st n o')) (nodup_keys_nodup (set_pw _ n o'))]
  rintro ⟨k, v⟩
  rw [mem_setL, mem_setL]
  constructor
  · rintro ⟨j, hj, ⟨x, e⟩, rfl, rfl⟩
    by_cases hji : j = i
    · subst hji
      rw [hs] at e
      cases e
      exact ⟨j, hj, ⟨d', by simp [upS]⟩, rfl, rfl⟩
    · exact ⟨j, hj, ⟨x, by unfold upS; rw [if_neg hji]; exact e⟩, rfl, rfl⟩
  · rintro ⟨j, hj, ⟨x, e⟩, rfl, rfl⟩
    unfold upS at e
    split at e
    · next h =>
      subst h
      cases e
      exact ⟨j, hj, ⟨d, hs⟩, rfl, rfl⟩
    · exact ⟨j, hj, ⟨x, e⟩, rfl, rfl⟩
/-- What lies in a slot is laid anew. -/
theorem Pl.put {w w' : World} {p n g tb ob i : Nat} {ow : ByteArray → Option Nat} {st : Sx} {o d d' : ByteArray} (h : Pl w p n g tb ob ow st) (hi : i < n) (hk : st i = some (o, d)) (t : Ml K3 w' tb (((i : Int), leV o d') :: rm (tkL st n) (i : Int))) (k : Chg (fun j => j = tb) w w') : Pl w' p n g tb ob ow (upS st i (some (o, d'))) := by
  obtain ⟨lo, l1, l2⟩ := h.own
  refine ⟨k.blk h.blk (fun e => h.tk.tg 55 (e ▸ h.blk.tg)), h.n1, ?_, t.perm (tk_add st n i o d' hi), ⟨lo, l1.chg k (fun e => h.ne e.symm), l2⟩, fun o' sb e => ?_, fun o' e => ?_, h.inj, h.ne, fun j hj => ?_⟩
  · exact (h.fr.chg k (fun e => h.tk.tg 33 (e ▸ h.fr.tg))).mono (fun j _ => by rw [upS_isNone hk])
  · obtain ⟨u1, u2, u3, u4⟩ := h.set o' sb e
    have hp := set_keep st n i o d d' o' hk
    refine ⟨(u1.chg k u3).perm hp, fun e0 => u2 ?_, u3, u4⟩
    rw [e0] at hp
    exact hp.eq_nil
  · have hp := set_keep st n i o d d' o' hk
    rw [h.non o' e] at hp
    exact hp.symm.eq_nil
  · unfold upS
    rw [if_neg (by omega)]
    exact h.fin j hj

theorem put_ok (i : Nat) (o d : ByteArray) (ad : Option Addr) (len c : Nat) (l : List Int) (p n g tb ob : Nat) (ow : ByteArray → Option Nat) (st : Sx) (w : World) (h : Pl w p n g tb ob ow st) (hi : i < n) (hk : st i = some (o, d)) (hs : Sl w ad len l) (hl : len ≤ 128) :
    Calls Tryd.prog 36 #[.pointer (some ⟨p, 0, none⟩), .int .i64 (i : Int), .slice ad len c] w fun e w' => e = .returned (.int .i64 0) ∧ Pl w' p n g tb ob ow (upS st i (some (o, strOfNums l))) ∧ Chg (fun j => j = tb) w w' := by
  obtain ⟨c0, c1, c2, c3⟩ := h.cells
  have l1 := h.lookT (i : Int)
  rw [al_tk hi, hk] at l1
  simp only [Option.map_some, Option.getD_some, Option.isSome_some, leV] at l1
  have hpl := h.blk.lt
  have hcv : ∀ (ob : Obj), (convert 70 9 (.slice ad len c)).run Tryd.prog (w.alloc ob) = .ok (.string (strOfNums l)) (w.alloc ob) := fun ob => run_string_of 70 5 9 Tryd.underlying70 Tryd.underlying5 Tryd.underlying9 (hs.later ((Below.refl _ _).alloc (Nat.le_refl _) _))
  have HP := hidden h
  have HK := hidden (And.intro hi hk)
  have hlz : ¬ (128 : Int) < (len : Int) := by omega
  clear h hk c0 c1 c3 hs hi
  generalize strOfNums l = d' at *
  go_enter Tryd.func36, Tryd.ntmps36
  go_wp2_with fail
  obtain ⟨w5, hw5⟩ : ∃ w5, w.alloc (Obj.cells #[.string o, .string d'] 93) = w5 := ⟨_, rfl⟩
  have k5 : Blk w5 w.heap.size 93 [.string o, .string d'] := by rw [← hw5]; exact Blk.new w 93 [.string o, .string d']
  have b5 : Below w.heap.size w w5 := by rw [← hw5]; exact (Below.refl _ _).alloc (Nat.le_refl _) _
  first | rw [hw5] | skip
  clear hw5 hcv l1 c2 hlz
  have H5 := hidden (HP.out.later b5)
  have e2 := H5.out.cells.2.2.1
  have z0 := k5.cell 0
  have z1 := k5.cell 1
  simp only [List.getElem?_cons_zero, List.getElem?_cons_succ] at z0 z1
  obtain ⟨w6, r6, t6, k6, _⟩ := Ml.store (w := w5.drew) (P := Tryd.prog) H5.out.tk kyI Tryd.underlying52 (i : Int) (leV o d')
  have T6 := hidden t6
  have K6 := hidden k6
  unfold K3 leV at r6
  clear t6 k6
  go_region
  all_goals
    go_wp2_with fail
    go_ret
    have k7 : Chg (fun j => j = tb) w5 w6 := (Chg.drew _ _).trans K6.out (fun _ _ h => h)
    exact ⟨rfl, H5.out.put HK.out.1 HK.out.2 T6.out k7, (Chg.of_below b5).trans k7 (fun _ _ h => h)⟩

end Go.Proofs.YtlppibigceeimaaDoor.K
