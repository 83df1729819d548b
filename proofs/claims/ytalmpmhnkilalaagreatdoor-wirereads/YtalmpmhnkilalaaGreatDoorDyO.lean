import Derived.Test.YtalmpmhnkilalaaGreatDoorDyF
import Derived.Test.YtalmpmhnkilalaaGreatDoorDyE
import Derived.Test.YtalmpmhnkilalaaGreatDoorRqM
import Derived.Test.YtalmpmhnkilalaaGreatDoorRqL
import Derived.Deep.CutRange
/-
  The document's reader in memory: a field of a request. By gendyo21.py.
-/
namespace Go.Proofs.YtalmpmhnkilalaaGreatDoor
open Go.RowKit
set_option linter.unusedVariables false
set_option linter.unusedSimpArgs false

/-- A field whose rows lie behind B. -/
def FD (B : Nat) (w : World) : FM → Prop
  | .tk ad n c l => Sl w ad n l ∧ (∀ y, ad = some y → 0 < n → B ≤ y.block) ∧ n ≤ 1048576
  | m => FO B 0 w m
theorem FD.mem {B : Nat} {w : World} {m : FM} (h : FD B w m) : m.mem w := by
  cases m with
  | tk ad n c l => exact ⟨h.1, by have := h.2.2; omega⟩
  | _ => exact FO.mem (B := B) (K := 0) h
theorem FD.chg {B : Nat} {w w' : World} {m : FM} {F : Nat → Prop} (h : FD B w m) (hc : Chg F w w') (h0 : ¬ F 0) (hF : ∀ i, F i → ¬ Ty w i 45 ∧ ¬ Ty w i 47 ∧ ¬ Ty w i 50 ∧ ¬ Ty w i 52 ∧ ¬ Ty w i 59 ∧ ¬ Ty w i 9) (ht : ∀ y n c l, m = .tk (some y) n c l → 0 < n → ¬ F y.block) : FD B w' m := by
  cases m with
  | tk ad n c l => exact ⟨hc.sl h.1 (fun y hy hn => ht y n c l (by rw [hy]) hn), h.2⟩
  | tx d => exact FO.chg (m := .tx d) (B := B) (K := 0) h hc h0 hF
  | qu d => exact FO.chg (m := .qu d) (B := B) (K := 0) h hc h0 hF
  | ws ad c xs => exact FO.chg (m := .ws ad c xs) (B := B) (K := 0) h hc h0 hF
  | ms ad c l => exact FO.chg (m := .ms ad c l) (B := B) (K := 0) h hc h0 hF
  | tm n => exact FO.chg (m := .tm n) (B := B) (K := 0) h hc h0 hF
  | am n => exact FO.chg (m := .am n) (B := B) (K := 0) h hc h0 hF
  | se ad c xs => exact FO.chg (m := .se ad c xs) (B := B) (K := 0) h hc h0 hF
  | ro ad c xs => exact FO.chg (m := .ro ad c xs) (B := B) (K := 0) h hc h0 hF
  | nu n => exact FO.chg (m := .nu n) (B := B) (K := 0) h hc h0 hF
  | ts ad c l => exact FO.chg (m := .ts ad c l) (B := B) (K := 0) h hc h0 hF
theorem FD.later {B : Nat} {w w' : World} {m : FM} (h : FD B w m) (hb : Below w.heap.size w w') : FD B w' m := h.chg (Chg.of_below (F := fun _ => False) hb) (fun e => e) (fun _ e => e.elim) (fun _ _ _ _ _ _ e => e)
theorem FD.mono {B B' : Nat} {w : World} {m : FM} (hB : B ≤ B') (h : FD B' w m) : FD B w m := by
  cases m with
  | tk ad n c l => exact ⟨h.1, fun y hy hn => Nat.le_trans hB (h.2.1 y hy hn), h.2.2⟩
  | tx d => exact FO.mono (w := w) (m := .tx d) (K := 0) hB h
  | qu d => exact FO.mono (w := w) (m := .qu d) (K := 0) hB h
  | ws ad c xs => exact FO.mono (w := w) (m := .ws ad c xs) (K := 0) hB h
  | ms ad c l => exact FO.mono (w := w) (m := .ms ad c l) (K := 0) hB h
  | tm n => exact FO.mono (w := w) (m := .tm n) (K := 0) hB h
  | am n => exact FO.mono (w := w) (m := .am n) (K := 0) hB h
  | se ad c xs => exact FO.mono (w := w) (m := .se ad c xs) (K := 0) hB h
  | ro ad c xs => exact FO.mono (w := w) (m := .ro ad c xs) (K := 0) hB h
  | nu n => exact FO.mono (w := w) (m := .nu n) (K := 0) hB h
  | ts ad c l => exact FO.mono (w := w) (m := .ts ad c l) (K := 0) hB h
def Ri.amV (s : Ri) : Int := if (s.cnt 1099511627775).ok then ((Q.dec s.b).1 : Int) else 0
/-- A field, purely. -/
def Ri.fld (f : Nat) (s : Ri) : FV × Ri := match f with
  | 0 => (.ws s.wrs.1, s.wrs.2) | 1 => (.ms s.mats.1, s.mats.2) | 2 => (.tm (Q.unfold' (Q.dec s.b).1), s.num) | 3 => (.tm (Q.unfold' (Q.dec s.b).1), s.num)
  | 4 => (.qu (strOfNums (txL s.b 4096)), s.txt 4096) | 5 => (.tx (strOfNums (txL s.b 64)), s.txt 64)
  | 6 => (.am s.amV, s.cnt 1099511627775) | 7 => (.am s.amV, s.cnt 1099511627775) | 8 => (.am s.amV, s.cnt 1099511627775) | _ => (.tk (txL s.b 64), s.txt 64)
def updM (fm : Nat → FM) (i : Nat) (m : FM) : Nat → FM := fun j => if j = i then m else fm j
/-- What a call of it leaves. -/
def FdP (w : World) (p K g f : Nat) (k : Int) (fm : Nat → FM) (x : FV) (s' : Ri) : Ending → World → Prop := fun e w' => e = .returned (.tuple #[]) ∧ ∃ m : FM, It w' p K s' ∧ Blk w' g 26 (cQ k (updM fm (f + 2) m)) ∧ m.fv = x ∧ FD w.heap.size w' m ∧ Chg (fun i => i = p ∨ i = g) w w'
theorem mats_op {s : Ri} (h : Byte s.b) : ∀ x ∈ s.mats.1, I64n x.op := by
  have key : ∀ (n : Nat) (t : Ri) (acc : List Ma), Byte t.b → (∀ x ∈ acc, I64n x.op) → ∀ x ∈ (Ri.rep Ri.mat Ri.matN n t acc).1, I64n x.op := by
    intro n
    induction n with
    | zero => intro t acc _ ha; exact ha
    | succ n ih =>
      intro t acc ht ha
      rw [Ri.rep]
      split
      · refine ih _ _ ?_ ?_
        · have h1 : Byte (t.txt 64).b := ht.drop _
          have h2 : Byte (t.txt 64).opN.b := by
            show Byte (t.txt 64).one.2.b
            revert h1
            generalize t.txt 64 = u
            intro h1
            obtain ⟨b1, o1⟩ := u
            cases o1 with
            | false => rw [one_no]; exact h1
            | true =>
              cases b1 with
              | nil => exact h1
              | cons y r => exact fun z hz => h1 z (by simp; exact .inr hz)
          exact h2.drop _
        · intro x hx
          rcases List.mem_append.1 hx with hx | hx
          · exact ha x hx
          · rw [List.mem_singleton] at hx
            subst hx
            show I64n (t.txt 64).one.1
            have h1 : Byte (t.txt 64).b := ht.drop _
            revert h1
            generalize t.txt 64 = u
            intro h1
            obtain ⟨b1, o1⟩ := u
            unfold I64n
            cases o1 with
            | false => rw [one_no]; show (-9223372036854775808 : Int) ≤ 0 ∧ (0 : Int) ≤ 9223372036854775807; omega
            | true =>
              cases b1 with
              | nil => show (-9223372036854775808 : Int) ≤ 0 ∧ (0 : Int) ≤ 9223372036854775807; omega
              | cons y r => have := h1 y (by simp); show (-9223372036854775808 : Int) ≤ y ∧ y ≤ 9223372036854775807; omega
      · exact ha
  exact key _ _ _ (h.drop _) (by simp)

set_option maxRecDepth 8000 in
set_option maxHeartbeats 2000000 in
theorem field0 (p K g : Nat) (s : Ri) (k : Int) (fm : Nat → FM) (w : World) (h : It w p K s) (hg : Blk w g 26 (cQ k fm)) (hgp : g ≠ p) (hgK : g ≠ K) (hg0 : ¬ 0 = g) :
    Calls Tryz.prog 38 #[.pointer (some ⟨p, 0, none⟩), .pointer (some ⟨g, 0, none⟩), .int .i64 0] w (FdP w p K g 0 k fm (s.fld 0).1 (s.fld 0).2) := by
  have HC := hidden (writesI p K s w h)
  have HWL := hidden (wrs_len (s := s) h.byte)
  have HZ : Hid (¬ 0 = g) := hidden hg0
  have hby := h.byte
  have hgw := hg.lt
  have hpw := h.lt
  have HG := hidden hg
  clear h hg
  go_enter Tryz.func38, Tryz.ntmps38
  go_wp2_with fail
  refine HC.out.mono ?_
  rintro e w1 ⟨v, rfl, hQ, hv⟩
  obtain ⟨xs, hpr, ⟨ad, c, rfl⟩, ho, hm⟩ := hv
  have HX := hidden (And.intro hpr (And.intro ho hm))
  clear hpr ho hm
  have hB1 := hQ.chg.blk HG.out (fun e => hgp e)
  have c4 := hB1.cell 3
  rw [show (3 : Nat) = 2 + 1 from rfl, cQ_at k fm 2 (by omega)] at c4
  have f4 := hB1.frozen 3
  have HB1 := hidden hB1
  have HQ := hidden hQ
  clear hQ hB1
  have fin : ∀ (wq : World) (m : FM), Below w1.heap.size w1 wq → m.fv = (s.fld 0).1 → FD w.heap.size wq m → (∀ i, i = g → ¬ Ty wq i 45 ∧ ¬ Ty wq i 47 ∧ ¬ Ty wq i 50 ∧ ¬ Ty wq i 52 ∧ ¬ Ty wq i 59 ∧ ¬ Ty wq i 9) → (∀ y n l c, m = .tk (some y) n c l → ¬ y.block = g) → FdP w p K g 0 k fm (s.fld 0).1 (s.fld 0).2 (.returned (.tuple #[])) (wq.setCell ⟨g, 3, none⟩ m.val) := by
    intro wq m hb hfv hfd hty hne
    have hS5 : Chg (fun i => i = g) wq (wq.setCell ⟨g, 3, none⟩ m.val) := (Chg.set ⟨g, 3, none⟩ _ wq).mono (fun i _ hi => hi)
    refine ⟨rfl, m, ((HQ.out.it.later hb).chg hS5 (fun e => hgp e.symm) (fun e => hgK e.symm)), (HB1.out.later hb).set 3 m.val, hfv, ?_, ((HQ.out.chg.mono (fun i _ hi => .inl hi)).trans (Chg.of_below (F := fun i => i = p ∨ i = g) hb) (fun i _ hi => hi)).trans hS5 (fun i _ hi => .inr hi)⟩
    exact hfd.chg hS5 HZ.out hty (fun y n c l e hn => hne y n l c e)
  have HF := hidden fin
  have HTY : Hid (∀ wq, Below w1.heap.size w1 wq → ∀ i, i = g → ¬ Ty wq i 45 ∧ ¬ Ty wq i 47 ∧ ¬ Ty wq i 50 ∧ ¬ Ty wq i 52 ∧ ¬ Ty wq i 59 ∧ ¬ Ty wq i 9) := hidden (fun wq hb i hi => by
    subst hi
    have ht := ty_blk (HB1.out.later hb)
    exact ⟨fun e => absurd (ht.ne e) (by decide), fun e => absurd (ht.ne e) (by decide), fun e => absurd (ht.ne e) (by decide), fun e => absurd (ht.ne e) (by decide), fun e => absurd (ht.ne e) (by decide), fun e => absurd (ht.ne e) (by decide)⟩)
  clear fin
  go_wp2_with fail
  go_end0
  exact HF.out w1 (.ws ad c xs) (Below.refl _ _) (by show FV.ws (xs.map prS) = _; rw [HX.out.1]; rfl) (⟨HX.out.2.1, fun x hx => ⟨HX.out.2.2 x hx, by have h1 := HWL.out (prS x) (by rw [← HX.out.1]; exact List.mem_map_of_mem hx); have h2 := (HX.out.2.2 x hx).2.1; have h3 : (prS x).2.length = x.S.length := rfl; omega⟩⟩) (HTY.out w1 (Below.refl _ _)) (fun y n l c e => by cases e)

set_option maxRecDepth 8000 in
set_option maxHeartbeats 2000000 in
theorem field1 (p K g : Nat) (s : Ri) (k : Int) (fm : Nat → FM) (w : World) (h : It w p K s) (hg : Blk w g 26 (cQ k fm)) (hgp : g ≠ p) (hgK : g ≠ K) (hg0 : ¬ 0 = g) :
    Calls Tryz.prog 38 #[.pointer (some ⟨p, 0, none⟩), .pointer (some ⟨g, 0, none⟩), .int .i64 1] w (FdP w p K g 1 k fm (s.fld 1).1 (s.fld 1).2) := by
  have HC := hidden (matchersI p K s w h)
  have HOP := hidden (mats_op h.byte.1)
  have HZ : Hid (¬ 0 = g) := hidden hg0
  have hby := h.byte
  have hgw := hg.lt
  have hpw := h.lt
  have HG := hidden hg
  clear h hg
  go_enter Tryz.func38, Tryz.ntmps38
  go_wp2_with fail
  refine HC.out.mono ?_
  rintro e w1 ⟨v, rfl, hQ, hv⟩
  obtain ⟨ad, c, rfl, ho⟩ := hv
  have HX := hidden ho
  clear ho
  have hB1 := hQ.chg.blk HG.out (fun e => hgp e)
  have c4 := hB1.cell 4
  rw [show (4 : Nat) = 3 + 1 from rfl, cQ_at k fm 3 (by omega)] at c4
  have f4 := hB1.frozen 4
  have HB1 := hidden hB1
  have HQ := hidden hQ
  clear hQ hB1
  have fin : ∀ (wq : World) (m : FM), Below w1.heap.size w1 wq → m.fv = (s.fld 1).1 → FD w.heap.size wq m → (∀ i, i = g → ¬ Ty wq i 45 ∧ ¬ Ty wq i 47 ∧ ¬ Ty wq i 50 ∧ ¬ Ty wq i 52 ∧ ¬ Ty wq i 59 ∧ ¬ Ty wq i 9) → (∀ y n l c, m = .tk (some y) n c l → ¬ y.block = g) → FdP w p K g 1 k fm (s.fld 1).1 (s.fld 1).2 (.returned (.tuple #[])) (wq.setCell ⟨g, 4, none⟩ m.val) := by
    intro wq m hb hfv hfd hty hne
    have hS5 : Chg (fun i => i = g) wq (wq.setCell ⟨g, 4, none⟩ m.val) := (Chg.set ⟨g, 4, none⟩ _ wq).mono (fun i _ hi => hi)
    refine ⟨rfl, m, ((HQ.out.it.later hb).chg hS5 (fun e => hgp e.symm) (fun e => hgK e.symm)), (HB1.out.later hb).set 4 m.val, hfv, ?_, ((HQ.out.chg.mono (fun i _ hi => .inl hi)).trans (Chg.of_below (F := fun i => i = p ∨ i = g) hb) (fun i _ hi => hi)).trans hS5 (fun i _ hi => .inr hi)⟩
    exact hfd.chg hS5 HZ.out hty (fun y n c l e hn => hne y n l c e)
  have HF := hidden fin
  have HTY : Hid (∀ wq, Below w1.heap.size w1 wq → ∀ i, i = g → ¬ Ty wq i 45 ∧ ¬ Ty wq i 47 ∧ ¬ Ty wq i 50 ∧ ¬ Ty wq i 52 ∧ ¬ Ty wq i 59 ∧ ¬ Ty wq i 9) := hidden (fun wq hb i hi => by
    subst hi
    have ht := ty_blk (HB1.out.later hb)
    exact ⟨fun e => absurd (ht.ne e) (by decide), fun e => absurd (ht.ne e) (by decide), fun e => absurd (ht.ne e) (by decide), fun e => absurd (ht.ne e) (by decide), fun e => absurd (ht.ne e) (by decide), fun e => absurd (ht.ne e) (by decide)⟩)
  clear fin
  go_wp2_with fail
  go_end0
  exact HF.out w1 (.ms ad c s.mats.1) (Below.refl _ _) rfl (⟨HX.out, HOP.out⟩) (HTY.out w1 (Below.refl _ _)) (fun y n l c e => by cases e)

set_option maxRecDepth 8000 in
set_option maxHeartbeats 2000000 in
theorem field2 (p K g : Nat) (s : Ri) (k : Int) (fm : Nat → FM) (w : World) (h : It w p K s) (hg : Blk w g 26 (cQ k fm)) (hgp : g ≠ p) (hgK : g ≠ K) (hg0 : ¬ 0 = g) :
    Calls Tryz.prog 38 #[.pointer (some ⟨p, 0, none⟩), .pointer (some ⟨g, 0, none⟩), .int .i64 2] w (FdP w p K g 2 k fm (s.fld 2).1 (s.fld 2).2) := by
  have HC := hidden (signedI p K s w h)
  have hub := (Q.dec_bound s.b h.byte.1).1
  have HZ : Hid (¬ 0 = g) := hidden hg0
  have hby := h.byte
  have hgw := hg.lt
  have hpw := h.lt
  have HG := hidden hg
  clear h hg
  go_enter Tryz.func38, Tryz.ntmps38
  go_wp2_with fail
  refine HC.out.mono ?_
  rintro e w1 ⟨v, rfl, hQ, hv⟩
  subst hv
  have hB1 := hQ.chg.blk HG.out (fun e => hgp e)
  have c4 := hB1.cell 5
  rw [show (5 : Nat) = 4 + 1 from rfl, cQ_at k fm 4 (by omega)] at c4
  have f4 := hB1.frozen 5
  have HB1 := hidden hB1
  have HQ := hidden hQ
  clear hQ hB1
  have fin : ∀ (wq : World) (m : FM), Below w1.heap.size w1 wq → m.fv = (s.fld 2).1 → FD w.heap.size wq m → (∀ i, i = g → ¬ Ty wq i 45 ∧ ¬ Ty wq i 47 ∧ ¬ Ty wq i 50 ∧ ¬ Ty wq i 52 ∧ ¬ Ty wq i 59 ∧ ¬ Ty wq i 9) → (∀ y n l c, m = .tk (some y) n c l → ¬ y.block = g) → FdP w p K g 2 k fm (s.fld 2).1 (s.fld 2).2 (.returned (.tuple #[])) (wq.setCell ⟨g, 5, none⟩ m.val) := by
    intro wq m hb hfv hfd hty hne
    have hS5 : Chg (fun i => i = g) wq (wq.setCell ⟨g, 5, none⟩ m.val) := (Chg.set ⟨g, 5, none⟩ _ wq).mono (fun i _ hi => hi)
    refine ⟨rfl, m, ((HQ.out.it.later hb).chg hS5 (fun e => hgp e.symm) (fun e => hgK e.symm)), (HB1.out.later hb).set 5 m.val, hfv, ?_, ((HQ.out.chg.mono (fun i _ hi => .inl hi)).trans (Chg.of_below (F := fun i => i = p ∨ i = g) hb) (fun i _ hi => hi)).trans hS5 (fun i _ hi => .inr hi)⟩
    exact hfd.chg hS5 HZ.out hty (fun y n c l e hn => hne y n l c e)
  have HF := hidden fin
  have HTY : Hid (∀ wq, Below w1.heap.size w1 wq → ∀ i, i = g → ¬ Ty wq i 45 ∧ ¬ Ty wq i 47 ∧ ¬ Ty wq i 50 ∧ ¬ Ty wq i 52 ∧ ¬ Ty wq i 59 ∧ ¬ Ty wq i 9) := hidden (fun wq hb i hi => by
    subst hi
    have ht := ty_blk (HB1.out.later hb)
    exact ⟨fun e => absurd (ht.ne e) (by decide), fun e => absurd (ht.ne e) (by decide), fun e => absurd (ht.ne e) (by decide), fun e => absurd (ht.ne e) (by decide), fun e => absurd (ht.ne e) (by decide), fun e => absurd (ht.ne e) (by decide)⟩)
  clear fin
  go_wp2_with fail
  go_end0
  exact HF.out w1 (.tm (Q.unfold' (Q.dec s.b).1)) (Below.refl _ _) rfl (show I64n _ by unfold I64n Q.unfold'; split <;> omega) (HTY.out w1 (Below.refl _ _)) (fun y n l c e => by cases e)

set_option maxRecDepth 8000 in
set_option maxHeartbeats 2000000 in
theorem field3 (p K g : Nat) (s : Ri) (k : Int) (fm : Nat → FM) (w : World) (h : It w p K s) (hg : Blk w g 26 (cQ k fm)) (hgp : g ≠ p) (hgK : g ≠ K) (hg0 : ¬ 0 = g) :
    Calls Tryz.prog 38 #[.pointer (some ⟨p, 0, none⟩), .pointer (some ⟨g, 0, none⟩), .int .i64 3] w (FdP w p K g 3 k fm (s.fld 3).1 (s.fld 3).2) := by
  have HC := hidden (signedI p K s w h)
  have hub := (Q.dec_bound s.b h.byte.1).1
  have HZ : Hid (¬ 0 = g) := hidden hg0
  have hby := h.byte
  have hgw := hg.lt
  have hpw := h.lt
  have HG := hidden hg
  clear h hg
  go_enter Tryz.func38, Tryz.ntmps38
  go_wp2_with fail
  refine HC.out.mono ?_
  rintro e w1 ⟨v, rfl, hQ, hv⟩
  subst hv
  have hB1 := hQ.chg.blk HG.out (fun e => hgp e)
  have c4 := hB1.cell 6
  rw [show (6 : Nat) = 5 + 1 from rfl, cQ_at k fm 5 (by omega)] at c4
  have f4 := hB1.frozen 6
  have HB1 := hidden hB1
  have HQ := hidden hQ
  clear hQ hB1
  have fin : ∀ (wq : World) (m : FM), Below w1.heap.size w1 wq → m.fv = (s.fld 3).1 → FD w.heap.size wq m → (∀ i, i = g → ¬ Ty wq i 45 ∧ ¬ Ty wq i 47 ∧ ¬ Ty wq i 50 ∧ ¬ Ty wq i 52 ∧ ¬ Ty wq i 59 ∧ ¬ Ty wq i 9) → (∀ y n l c, m = .tk (some y) n c l → ¬ y.block = g) → FdP w p K g 3 k fm (s.fld 3).1 (s.fld 3).2 (.returned (.tuple #[])) (wq.setCell ⟨g, 6, none⟩ m.val) := by
    intro wq m hb hfv hfd hty hne
    have hS5 : Chg (fun i => i = g) wq (wq.setCell ⟨g, 6, none⟩ m.val) := (Chg.set ⟨g, 6, none⟩ _ wq).mono (fun i _ hi => hi)
    refine ⟨rfl, m, ((HQ.out.it.later hb).chg hS5 (fun e => hgp e.symm) (fun e => hgK e.symm)), (HB1.out.later hb).set 6 m.val, hfv, ?_, ((HQ.out.chg.mono (fun i _ hi => .inl hi)).trans (Chg.of_below (F := fun i => i = p ∨ i = g) hb) (fun i _ hi => hi)).trans hS5 (fun i _ hi => .inr hi)⟩
    exact hfd.chg hS5 HZ.out hty (fun y n c l e hn => hne y n l c e)
  have HF := hidden fin
  have HTY : Hid (∀ wq, Below w1.heap.size w1 wq → ∀ i, i = g → ¬ Ty wq i 45 ∧ ¬ Ty wq i 47 ∧ ¬ Ty wq i 50 ∧ ¬ Ty wq i 52 ∧ ¬ Ty wq i 59 ∧ ¬ Ty wq i 9) := hidden (fun wq hb i hi => by
    subst hi
    have ht := ty_blk (HB1.out.later hb)
    exact ⟨fun e => absurd (ht.ne e) (by decide), fun e => absurd (ht.ne e) (by decide), fun e => absurd (ht.ne e) (by decide), fun e => absurd (ht.ne e) (by decide), fun e => absurd (ht.ne e) (by decide), fun e => absurd (ht.ne e) (by decide)⟩)
  clear fin
  go_wp2_with fail
  go_end0
  exact HF.out w1 (.tm (Q.unfold' (Q.dec s.b).1)) (Below.refl _ _) rfl (show I64n _ by unfold I64n Q.unfold'; split <;> omega) (HTY.out w1 (Below.refl _ _)) (fun y n l c e => by cases e)

set_option maxRecDepth 8000 in
set_option maxHeartbeats 2000000 in
theorem field4 (p K g : Nat) (s : Ri) (k : Int) (fm : Nat → FM) (w : World) (h : It w p K s) (hg : Blk w g 26 (cQ k fm)) (hgp : g ≠ p) (hgK : g ≠ K) (hg0 : ¬ 0 = g) :
    Calls Tryz.prog 38 #[.pointer (some ⟨p, 0, none⟩), .pointer (some ⟨g, 0, none⟩), .int .i64 4] w (FdP w p K g 4 k fm (s.fld 4).1 (s.fld 4).2) := by
  have HC := hidden (textI p K s 4096 w h (by omega))
  have HZ : Hid (¬ 0 = g) := hidden hg0
  have hby := h.byte
  have hgw := hg.lt
  have hpw := h.lt
  have HG := hidden hg
  clear h hg
  go_enter Tryz.func38, Tryz.ntmps38
  go_wp2_with fail
  refine HC.out.mono ?_
  rintro e w1 ⟨v, rfl, hQ, hv⟩
  subst hv
  have hB1 := hQ.chg.blk HG.out (fun e => hgp e)
  have c4 := hB1.cell 7
  rw [show (7 : Nat) = 6 + 1 from rfl, cQ_at k fm 6 (by omega)] at c4
  have f4 := hB1.frozen 7
  have HB1 := hidden hB1
  have HQ := hidden hQ
  clear hQ hB1
  have fin : ∀ (wq : World) (m : FM), Below w1.heap.size w1 wq → m.fv = (s.fld 4).1 → FD w.heap.size wq m → (∀ i, i = g → ¬ Ty wq i 45 ∧ ¬ Ty wq i 47 ∧ ¬ Ty wq i 50 ∧ ¬ Ty wq i 52 ∧ ¬ Ty wq i 59 ∧ ¬ Ty wq i 9) → (∀ y n l c, m = .tk (some y) n c l → ¬ y.block = g) → FdP w p K g 4 k fm (s.fld 4).1 (s.fld 4).2 (.returned (.tuple #[])) (wq.setCell ⟨g, 7, none⟩ m.val) := by
    intro wq m hb hfv hfd hty hne
    have hS5 : Chg (fun i => i = g) wq (wq.setCell ⟨g, 7, none⟩ m.val) := (Chg.set ⟨g, 7, none⟩ _ wq).mono (fun i _ hi => hi)
    refine ⟨rfl, m, ((HQ.out.it.later hb).chg hS5 (fun e => hgp e.symm) (fun e => hgK e.symm)), (HB1.out.later hb).set 7 m.val, hfv, ?_, ((HQ.out.chg.mono (fun i _ hi => .inl hi)).trans (Chg.of_below (F := fun i => i = p ∨ i = g) hb) (fun i _ hi => hi)).trans hS5 (fun i _ hi => .inr hi)⟩
    exact hfd.chg hS5 HZ.out hty (fun y n c l e hn => hne y n l c e)
  have HF := hidden fin
  have HTY : Hid (∀ wq, Below w1.heap.size w1 wq → ∀ i, i = g → ¬ Ty wq i 45 ∧ ¬ Ty wq i 47 ∧ ¬ Ty wq i 50 ∧ ¬ Ty wq i 52 ∧ ¬ Ty wq i 59 ∧ ¬ Ty wq i 9) := hidden (fun wq hb i hi => by
    subst hi
    have ht := ty_blk (HB1.out.later hb)
    exact ⟨fun e => absurd (ht.ne e) (by decide), fun e => absurd (ht.ne e) (by decide), fun e => absurd (ht.ne e) (by decide), fun e => absurd (ht.ne e) (by decide), fun e => absurd (ht.ne e) (by decide), fun e => absurd (ht.ne e) (by decide)⟩)
  clear fin
  go_wp2_with fail
  go_end0
  exact HF.out w1 (.qu (strOfNums (txL s.b 4096))) (Below.refl _ _) rfl (trivial) (HTY.out w1 (Below.refl _ _)) (fun y n l c e => by cases e)

set_option maxRecDepth 8000 in
set_option maxHeartbeats 2000000 in
theorem field5 (p K g : Nat) (s : Ri) (k : Int) (fm : Nat → FM) (w : World) (h : It w p K s) (hg : Blk w g 26 (cQ k fm)) (hgp : g ≠ p) (hgK : g ≠ K) (hg0 : ¬ 0 = g) :
    Calls Tryz.prog 38 #[.pointer (some ⟨p, 0, none⟩), .pointer (some ⟨g, 0, none⟩), .int .i64 5] w (FdP w p K g 5 k fm (s.fld 5).1 (s.fld 5).2) := by
  have HC := hidden (textI p K s 64 w h (by omega))
  have HZ : Hid (¬ 0 = g) := hidden hg0
  have hby := h.byte
  have hgw := hg.lt
  have hpw := h.lt
  have HG := hidden hg
  clear h hg
  go_enter Tryz.func38, Tryz.ntmps38
  go_wp2_with fail
  refine HC.out.mono ?_
  rintro e w1 ⟨v, rfl, hQ, hv⟩
  subst hv
  have hB1 := hQ.chg.blk HG.out (fun e => hgp e)
  have c4 := hB1.cell 8
  rw [show (8 : Nat) = 7 + 1 from rfl, cQ_at k fm 7 (by omega)] at c4
  have f4 := hB1.frozen 8
  have HB1 := hidden hB1
  have HQ := hidden hQ
  clear hQ hB1
  have fin : ∀ (wq : World) (m : FM), Below w1.heap.size w1 wq → m.fv = (s.fld 5).1 → FD w.heap.size wq m → (∀ i, i = g → ¬ Ty wq i 45 ∧ ¬ Ty wq i 47 ∧ ¬ Ty wq i 50 ∧ ¬ Ty wq i 52 ∧ ¬ Ty wq i 59 ∧ ¬ Ty wq i 9) → (∀ y n l c, m = .tk (some y) n c l → ¬ y.block = g) → FdP w p K g 5 k fm (s.fld 5).1 (s.fld 5).2 (.returned (.tuple #[])) (wq.setCell ⟨g, 8, none⟩ m.val) := by
    intro wq m hb hfv hfd hty hne
    have hS5 : Chg (fun i => i = g) wq (wq.setCell ⟨g, 8, none⟩ m.val) := (Chg.set ⟨g, 8, none⟩ _ wq).mono (fun i _ hi => hi)
    refine ⟨rfl, m, ((HQ.out.it.later hb).chg hS5 (fun e => hgp e.symm) (fun e => hgK e.symm)), (HB1.out.later hb).set 8 m.val, hfv, ?_, ((HQ.out.chg.mono (fun i _ hi => .inl hi)).trans (Chg.of_below (F := fun i => i = p ∨ i = g) hb) (fun i _ hi => hi)).trans hS5 (fun i _ hi => .inr hi)⟩
    exact hfd.chg hS5 HZ.out hty (fun y n c l e hn => hne y n l c e)
  have HF := hidden fin
  have HTY : Hid (∀ wq, Below w1.heap.size w1 wq → ∀ i, i = g → ¬ Ty wq i 45 ∧ ¬ Ty wq i 47 ∧ ¬ Ty wq i 50 ∧ ¬ Ty wq i 52 ∧ ¬ Ty wq i 59 ∧ ¬ Ty wq i 9) := hidden (fun wq hb i hi => by
    subst hi
    have ht := ty_blk (HB1.out.later hb)
    exact ⟨fun e => absurd (ht.ne e) (by decide), fun e => absurd (ht.ne e) (by decide), fun e => absurd (ht.ne e) (by decide), fun e => absurd (ht.ne e) (by decide), fun e => absurd (ht.ne e) (by decide), fun e => absurd (ht.ne e) (by decide)⟩)
  clear fin
  go_wp2_with fail
  go_end0
  exact HF.out w1 (.tx (strOfNums (txL s.b 64))) (Below.refl _ _) rfl (trivial) (HTY.out w1 (Below.refl _ _)) (fun y n l c e => by cases e)

set_option maxRecDepth 8000 in
set_option maxHeartbeats 2000000 in
theorem field6 (p K g : Nat) (s : Ri) (k : Int) (fm : Nat → FM) (w : World) (h : It w p K s) (hg : Blk w g 26 (cQ k fm)) (hgp : g ≠ p) (hgK : g ≠ K) (hg0 : ¬ 0 = g) :
    Calls Tryz.prog 38 #[.pointer (some ⟨p, 0, none⟩), .pointer (some ⟨g, 0, none⟩), .int .i64 6] w (FdP w p K g 6 k fm (s.fld 6).1 (s.fld 6).2) := by
  have HC := hidden (countI p K s 1099511627775 w h (by omega))
  have HZ : Hid (¬ 0 = g) := hidden hg0
  have hby := h.byte
  have hgw := hg.lt
  have hpw := h.lt
  have HG := hidden hg
  clear h hg
  go_enter Tryz.func38, Tryz.ntmps38
  go_wp2_with fail
  refine HC.out.mono ?_
  rintro e w1 ⟨v, rfl, hQ, hv⟩
  have hv2 : v = .int .i64 s.amV := hv
  clear hv
  subst hv2
  have hB1 := hQ.chg.blk HG.out (fun e => hgp e)
  have c4 := hB1.cell 9
  rw [show (9 : Nat) = 8 + 1 from rfl, cQ_at k fm 8 (by omega)] at c4
  have f4 := hB1.frozen 9
  have HB1 := hidden hB1
  have HQ := hidden hQ
  clear hQ hB1
  have fin : ∀ (wq : World) (m : FM), Below w1.heap.size w1 wq → m.fv = (s.fld 6).1 → FD w.heap.size wq m → (∀ i, i = g → ¬ Ty wq i 45 ∧ ¬ Ty wq i 47 ∧ ¬ Ty wq i 50 ∧ ¬ Ty wq i 52 ∧ ¬ Ty wq i 59 ∧ ¬ Ty wq i 9) → (∀ y n l c, m = .tk (some y) n c l → ¬ y.block = g) → FdP w p K g 6 k fm (s.fld 6).1 (s.fld 6).2 (.returned (.tuple #[])) (wq.setCell ⟨g, 9, none⟩ m.val) := by
    intro wq m hb hfv hfd hty hne
    have hS5 : Chg (fun i => i = g) wq (wq.setCell ⟨g, 9, none⟩ m.val) := (Chg.set ⟨g, 9, none⟩ _ wq).mono (fun i _ hi => hi)
    refine ⟨rfl, m, ((HQ.out.it.later hb).chg hS5 (fun e => hgp e.symm) (fun e => hgK e.symm)), (HB1.out.later hb).set 9 m.val, hfv, ?_, ((HQ.out.chg.mono (fun i _ hi => .inl hi)).trans (Chg.of_below (F := fun i => i = p ∨ i = g) hb) (fun i _ hi => hi)).trans hS5 (fun i _ hi => .inr hi)⟩
    exact hfd.chg hS5 HZ.out hty (fun y n c l e hn => hne y n l c e)
  have HF := hidden fin
  have HTY : Hid (∀ wq, Below w1.heap.size w1 wq → ∀ i, i = g → ¬ Ty wq i 45 ∧ ¬ Ty wq i 47 ∧ ¬ Ty wq i 50 ∧ ¬ Ty wq i 52 ∧ ¬ Ty wq i 59 ∧ ¬ Ty wq i 9) := hidden (fun wq hb i hi => by
    subst hi
    have ht := ty_blk (HB1.out.later hb)
    exact ⟨fun e => absurd (ht.ne e) (by decide), fun e => absurd (ht.ne e) (by decide), fun e => absurd (ht.ne e) (by decide), fun e => absurd (ht.ne e) (by decide), fun e => absurd (ht.ne e) (by decide), fun e => absurd (ht.ne e) (by decide)⟩)
  clear fin
  go_wp2_with fail
  go_end0
  exact HF.out w1 (.am s.amV) (Below.refl _ _) rfl (show I64n _ by unfold I64n Ri.amV Ri.cnt; split <;> rename_i hh <;> first | (simp at hh; omega) | omega) (HTY.out w1 (Below.refl _ _)) (fun y n l c e => by cases e)

set_option maxRecDepth 8000 in
set_option maxHeartbeats 2000000 in
theorem field7 (p K g : Nat) (s : Ri) (k : Int) (fm : Nat → FM) (w : World) (h : It w p K s) (hg : Blk w g 26 (cQ k fm)) (hgp : g ≠ p) (hgK : g ≠ K) (hg0 : ¬ 0 = g) :
    Calls Tryz.prog 38 #[.pointer (some ⟨p, 0, none⟩), .pointer (some ⟨g, 0, none⟩), .int .i64 7] w (FdP w p K g 7 k fm (s.fld 7).1 (s.fld 7).2) := by
  have HC := hidden (countI p K s 1099511627775 w h (by omega))
  have HZ : Hid (¬ 0 = g) := hidden hg0
  have hby := h.byte
  have hgw := hg.lt
  have hpw := h.lt
  have HG := hidden hg
  clear h hg
  go_enter Tryz.func38, Tryz.ntmps38
  go_wp2_with fail
  refine HC.out.mono ?_
  rintro e w1 ⟨v, rfl, hQ, hv⟩
  have hv2 : v = .int .i64 s.amV := hv
  clear hv
  subst hv2
  have hB1 := hQ.chg.blk HG.out (fun e => hgp e)
  have c4 := hB1.cell 10
  rw [show (10 : Nat) = 9 + 1 from rfl, cQ_at k fm 9 (by omega)] at c4
  have f4 := hB1.frozen 10
  have HB1 := hidden hB1
  have HQ := hidden hQ
  clear hQ hB1
  have fin : ∀ (wq : World) (m : FM), Below w1.heap.size w1 wq → m.fv = (s.fld 7).1 → FD w.heap.size wq m → (∀ i, i = g → ¬ Ty wq i 45 ∧ ¬ Ty wq i 47 ∧ ¬ Ty wq i 50 ∧ ¬ Ty wq i 52 ∧ ¬ Ty wq i 59 ∧ ¬ Ty wq i 9) → (∀ y n l c, m = .tk (some y) n c l → ¬ y.block = g) → FdP w p K g 7 k fm (s.fld 7).1 (s.fld 7).2 (.returned (.tuple #[])) (wq.setCell ⟨g, 10, none⟩ m.val) := by
    intro wq m hb hfv hfd hty hne
    have hS5 : Chg (fun i => i = g) wq (wq.setCell ⟨g, 10, none⟩ m.val) := (Chg.set ⟨g, 10, none⟩ _ wq).mono (fun i _ hi => hi)
    refine ⟨rfl, m, ((HQ.out.it.later hb).chg hS5 (fun e => hgp e.symm) (fun e => hgK e.symm)), (HB1.out.later hb).set 10 m.val, hfv, ?_, ((HQ.out.chg.mono (fun i _ hi => .inl hi)).trans (Chg.of_below (F := fun i => i = p ∨ i = g) hb) (fun i _ hi => hi)).trans hS5 (fun i _ hi => .inr hi)⟩
    exact hfd.chg hS5 HZ.out hty (fun y n c l e hn => hne y n l c e)
  have HF := hidden fin
  have HTY : Hid (∀ wq, Below w1.heap.size w1 wq → ∀ i, i = g → ¬ Ty wq i 45 ∧ ¬ Ty wq i 47 ∧ ¬ Ty wq i 50 ∧ ¬ Ty wq i 52 ∧ ¬ Ty wq i 59 ∧ ¬ Ty wq i 9) := hidden (fun wq hb i hi => by
    subst hi
    have ht := ty_blk (HB1.out.later hb)
    exact ⟨fun e => absurd (ht.ne e) (by decide), fun e => absurd (ht.ne e) (by decide), fun e => absurd (ht.ne e) (by decide), fun e => absurd (ht.ne e) (by decide), fun e => absurd (ht.ne e) (by decide), fun e => absurd (ht.ne e) (by decide)⟩)
  clear fin
  go_wp2_with fail
  go_end0
  exact HF.out w1 (.am s.amV) (Below.refl _ _) rfl (show I64n _ by unfold I64n Ri.amV Ri.cnt; split <;> rename_i hh <;> first | (simp at hh; omega) | omega) (HTY.out w1 (Below.refl _ _)) (fun y n l c e => by cases e)

set_option maxRecDepth 8000 in
set_option maxHeartbeats 2000000 in
theorem field8 (p K g : Nat) (s : Ri) (k : Int) (fm : Nat → FM) (w : World) (h : It w p K s) (hg : Blk w g 26 (cQ k fm)) (hgp : g ≠ p) (hgK : g ≠ K) (hg0 : ¬ 0 = g) :
    Calls Tryz.prog 38 #[.pointer (some ⟨p, 0, none⟩), .pointer (some ⟨g, 0, none⟩), .int .i64 8] w (FdP w p K g 8 k fm (s.fld 8).1 (s.fld 8).2) := by
  have HC := hidden (countI p K s 1099511627775 w h (by omega))
  have HZ : Hid (¬ 0 = g) := hidden hg0
  have hby := h.byte
  have hgw := hg.lt
  have hpw := h.lt
  have HG := hidden hg
  clear h hg
  go_enter Tryz.func38, Tryz.ntmps38
  go_wp2_with fail
  refine HC.out.mono ?_
  rintro e w1 ⟨v, rfl, hQ, hv⟩
  have hv2 : v = .int .i64 s.amV := hv
  clear hv
  subst hv2
  have hB1 := hQ.chg.blk HG.out (fun e => hgp e)
  have c4 := hB1.cell 11
  rw [show (11 : Nat) = 10 + 1 from rfl, cQ_at k fm 10 (by omega)] at c4
  have f4 := hB1.frozen 11
  have HB1 := hidden hB1
  have HQ := hidden hQ
  clear hQ hB1
  have fin : ∀ (wq : World) (m : FM), Below w1.heap.size w1 wq → m.fv = (s.fld 8).1 → FD w.heap.size wq m → (∀ i, i = g → ¬ Ty wq i 45 ∧ ¬ Ty wq i 47 ∧ ¬ Ty wq i 50 ∧ ¬ Ty wq i 52 ∧ ¬ Ty wq i 59 ∧ ¬ Ty wq i 9) → (∀ y n l c, m = .tk (some y) n c l → ¬ y.block = g) → FdP w p K g 8 k fm (s.fld 8).1 (s.fld 8).2 (.returned (.tuple #[])) (wq.setCell ⟨g, 11, none⟩ m.val) := by
    intro wq m hb hfv hfd hty hne
    have hS5 : Chg (fun i => i = g) wq (wq.setCell ⟨g, 11, none⟩ m.val) := (Chg.set ⟨g, 11, none⟩ _ wq).mono (fun i _ hi => hi)
    refine ⟨rfl, m, ((HQ.out.it.later hb).chg hS5 (fun e => hgp e.symm) (fun e => hgK e.symm)), (HB1.out.later hb).set 11 m.val, hfv, ?_, ((HQ.out.chg.mono (fun i _ hi => .inl hi)).trans (Chg.of_below (F := fun i => i = p ∨ i = g) hb) (fun i _ hi => hi)).trans hS5 (fun i _ hi => .inr hi)⟩
    exact hfd.chg hS5 HZ.out hty (fun y n c l e hn => hne y n l c e)
  have HF := hidden fin
  have HTY : Hid (∀ wq, Below w1.heap.size w1 wq → ∀ i, i = g → ¬ Ty wq i 45 ∧ ¬ Ty wq i 47 ∧ ¬ Ty wq i 50 ∧ ¬ Ty wq i 52 ∧ ¬ Ty wq i 59 ∧ ¬ Ty wq i 9) := hidden (fun wq hb i hi => by
    subst hi
    have ht := ty_blk (HB1.out.later hb)
    exact ⟨fun e => absurd (ht.ne e) (by decide), fun e => absurd (ht.ne e) (by decide), fun e => absurd (ht.ne e) (by decide), fun e => absurd (ht.ne e) (by decide), fun e => absurd (ht.ne e) (by decide), fun e => absurd (ht.ne e) (by decide)⟩)
  clear fin
  go_wp2_with fail
  go_end0
  exact HF.out w1 (.am s.amV) (Below.refl _ _) rfl (show I64n _ by unfold I64n Ri.amV Ri.cnt; split <;> rename_i hh <;> first | (simp at hh; omega) | omega) (HTY.out w1 (Below.refl _ _)) (fun y n l c e => by cases e)

set_option maxRecDepth 8000 in
set_option maxHeartbeats 2000000 in
theorem field9 (p K g : Nat) (s : Ri) (k : Int) (fm : Nat → FM) (w : World) (h : It w p K s) (hg : Blk w g 26 (cQ k fm)) (hgp : g ≠ p) (hgK : g ≠ K) (hg0 : ¬ 0 = g) :
    Calls Tryz.prog 38 #[.pointer (some ⟨p, 0, none⟩), .pointer (some ⟨g, 0, none⟩), .int .i64 9] w (FdP w p K g 9 k fm (s.fld 9).1 (s.fld 9).2) := by
  have HC := hidden (textI p K s 64 w h (by omega))
  have HZ : Hid (¬ 0 = g) := hidden hg0
  have hby := h.byte
  have hgw := hg.lt
  have hpw := h.lt
  have HG := hidden hg
  clear h hg
  go_enter Tryz.func38, Tryz.ntmps38
  go_wp2_with fail
  refine HC.out.mono ?_
  rintro e w1 ⟨v, rfl, hQ, hv⟩
  subst hv
  have hB1 := hQ.chg.blk HG.out (fun e => hgp e)
  have c4 := hB1.cell 12
  rw [show (12 : Nat) = 11 + 1 from rfl, cQ_at k fm 11 (by omega)] at c4
  have f4 := hB1.frozen 12
  have HB1 := hidden hB1
  have HQ := hidden hQ
  clear hQ hB1
  have fin : ∀ (wq : World) (m : FM), Below w1.heap.size w1 wq → m.fv = (s.fld 9).1 → FD w.heap.size wq m → (∀ i, i = g → ¬ Ty wq i 45 ∧ ¬ Ty wq i 47 ∧ ¬ Ty wq i 50 ∧ ¬ Ty wq i 52 ∧ ¬ Ty wq i 59 ∧ ¬ Ty wq i 9) → (∀ y n l c, m = .tk (some y) n c l → ¬ y.block = g) → FdP w p K g 9 k fm (s.fld 9).1 (s.fld 9).2 (.returned (.tuple #[])) (wq.setCell ⟨g, 12, none⟩ m.val) := by
    intro wq m hb hfv hfd hty hne
    have hS5 : Chg (fun i => i = g) wq (wq.setCell ⟨g, 12, none⟩ m.val) := (Chg.set ⟨g, 12, none⟩ _ wq).mono (fun i _ hi => hi)
    refine ⟨rfl, m, ((HQ.out.it.later hb).chg hS5 (fun e => hgp e.symm) (fun e => hgK e.symm)), (HB1.out.later hb).set 12 m.val, hfv, ?_, ((HQ.out.chg.mono (fun i _ hi => .inl hi)).trans (Chg.of_below (F := fun i => i = p ∨ i = g) hb) (fun i _ hi => hi)).trans hS5 (fun i _ hi => .inr hi)⟩
    exact hfd.chg hS5 HZ.out hty (fun y n c l e hn => hne y n l c e)
  have HF := hidden fin
  have HTY : Hid (∀ wq, Below w1.heap.size w1 wq → ∀ i, i = g → ¬ Ty wq i 45 ∧ ¬ Ty wq i 47 ∧ ¬ Ty wq i 50 ∧ ¬ Ty wq i 52 ∧ ¬ Ty wq i 59 ∧ ¬ Ty wq i 9) := hidden (fun wq hb i hi => by
    subst hi
    have ht := ty_blk (HB1.out.later hb)
    exact ⟨fun e => absurd (ht.ne e) (by decide), fun e => absurd (ht.ne e) (by decide), fun e => absurd (ht.ne e) (by decide), fun e => absurd (ht.ne e) (by decide), fun e => absurd (ht.ne e) (by decide), fun e => absurd (ht.ne e) (by decide)⟩)
  clear fin
  have kc := fun (w : World) => Lib.run_convert_string_bytes (P := Tryz.prog) w 9 22 5 (strOfNums (txL s.b 64)) Tryz.underlying9 Tryz.underlying22 Tryz.underlying5
  have HBW := hidden (Go.Joins.below_bytesWorld w1.heap.size w1 5 (strOfNums (txL s.b 64)) (Nat.le_refl _))
  have HSB := hidden (sl_bytes w1 (strOfNums (txL s.b 64)))
  have hcg : (Lib.bytesWorld w1 5 (strOfNums (txL s.b 64))).cell? ⟨g, 12, none⟩ = some (fm 11).val := by
    have := (HB1.out.later HBW.out).cell 12
    rw [show (12 : Nat) = 11 + 1 from rfl, cQ_at k fm 11 (by omega)] at this
    exact this
  have hfg := (HB1.out.later HBW.out).frozen 12
  have hsz : (strOfNums (txL s.b 64)).size = (txL s.b 64).length := strOf_size _
  have hbt : bts (strOfNums (txL s.b 64)) = txL s.b 64 := bts_strOf _ (txL_byte hby.1 64)
  have hln := txL_len hby.1 64
  have hgl : g < w1.heap.size := HB1.out.lt
  have hws : w.heap.size ≤ w1.heap.size := HQ.out.chg.size
  go_wp2_with fail
  go_end0
  refine HF.out _ (.tk (some ⟨w1.heap.size, 0, none⟩) _ _ (txL s.b 64)) HBW.out rfl ⟨?_, fun y hy _ => ?_, ?_⟩ (HTY.out _ HBW.out) (fun y n l c e => ?_)
  · have hsb := HSB.out
    rw [hbt, hsz] at hsb
    exact hsb
  · injection hy with hy
    subst hy
    exact hws
  · have := hby.2
    omega
  · injection e with e _ _ _
    injection e with e
    subst e
    show ¬ w1.heap.size = g
    omega

theorem fieldI (p K g f : Nat) (hf : f < 10) (s : Ri) (k : Int) (fm : Nat → FM) (w : World) (h : It w p K s) (hg : Blk w g 26 (cQ k fm)) (hgp : g ≠ p) (hgK : g ≠ K) (hg0 : ¬ 0 = g) :
    Calls Tryz.prog 38 #[.pointer (some ⟨p, 0, none⟩), .pointer (some ⟨g, 0, none⟩), .int .i64 (f : Int)] w (FdP w p K g f k fm (s.fld f).1 (s.fld f).2) := by
  rcases (by omega : f = 0 ∨ f = 1 ∨ f = 2 ∨ f = 3 ∨ f = 4 ∨ f = 5 ∨ f = 6 ∨ f = 7 ∨ f = 8 ∨ f = 9) with rfl | rfl | rfl | rfl | rfl | rfl | rfl | rfl | rfl | rfl
  · exact field0 p K g s k fm w h hg hgp hgK hg0
  · exact field1 p K g s k fm w h hg hgp hgK hg0
  · exact field2 p K g s k fm w h hg hgp hgK hg0
  · exact field3 p K g s k fm w h hg hgp hgK hg0
  · exact field4 p K g s k fm w h hg hgp hgK hg0
  · exact field5 p K g s k fm w h hg hgp hgK hg0
  · exact field6 p K g s k fm w h hg hgp hgK hg0
  · exact field7 p K g s k fm w h hg hgp hgK hg0
  · exact field8 p K g s k fm w h hg hgp hgK hg0
  · exact field9 p K g s k fm w h hg hgp hgK hg0
end Go.Proofs.YtalmpmhnkilalaaGreatDoor

/-
  The document's uses. By gendxe20.py.
-/
namespace Go.Proofs.YtalmpmhnkilalaaGreatDoor
open Go.RowKit
set_option linter.unusedVariables false
set_option linter.unusedSimpArgs false

/-- The document's fields of a kind. -/
def docL (k : Int) : Option (List Nat) :=
  if k = 1 then some [0] else if k = 2 then some [1, 2, 3] else if k = 3 then some [4] else if k = 4 ∨ k = 5 then some [1]
  else if k = 6 then some [1, 5] else if k = 7 ∨ k = 17 then some [] else if k = 16 then some [6, 7] else if k = 18 then some [9, 8, 1]
  else if k = 19 then some [9] else none
theorem docL_fields (k : Int) : fieldsK k = (docL k).map (fun L => 0 :: 1 :: L.map (· + 2)) := by
  unfold fieldsK docL
  repeat' split
  all_goals rfl
theorem docL_lt {k : Int} {L : List Nat} (h : docL k = some L) : (∀ i ∈ L, i < 10) ∧ L.length ≤ 3 := by
  unfold docL at h
  repeat' split at h
  all_goals first | (cases h; done) | (injection h with h; subst h; exact ⟨by decide, by decide⟩)
def usesQ (w : World) (k : Int) (e : Ending) (w' : World) : Prop :=
  Below w.heap.size w w' ∧ match docL k with
    | some l => ∃ ad c, e = .returned (.tuple #[.slice ad l.length c, .bool true]) ∧ In w' ad l
    | none => e = .returned (.tuple #[.slice none 0 0, .bool false])

set_option maxHeartbeats 2000000 in
theorem usesD (k : Int) (w : World) (h0 : -9223372036854775808 ≤ k) (h1 : k ≤ 9223372036854775807) : Calls Tryz.prog 28 #[.int .i64 k] w (usesQ w k) := by
  by_cases k1 : k = 1
  · subst k1
    go_enter Tryz.func28, Tryz.ntmps28
    go_wp2_with fail
    go_ret2
    exact ⟨(Below.refl _ _).alloc (Nat.le_refl _) _, _, _, rfl, in_lit w [0] _ rfl _⟩
  by_cases k2 : k = 2
  · subst k2
    go_enter Tryz.func28, Tryz.ntmps28
    go_wp2_with fail
    go_ret2
    exact ⟨(Below.refl _ _).alloc (Nat.le_refl _) _, _, _, rfl, in_lit w [1, 2, 3] _ rfl _⟩
  by_cases k3 : k = 3
  · subst k3
    go_enter Tryz.func28, Tryz.ntmps28
    go_wp2_with fail
    go_ret2
    exact ⟨(Below.refl _ _).alloc (Nat.le_refl _) _, _, _, rfl, in_lit w [4] _ rfl _⟩
  by_cases k4 : k = 4
  · subst k4
    go_enter Tryz.func28, Tryz.ntmps28
    go_wp2_with fail
    go_ret2
    exact ⟨(Below.refl _ _).alloc (Nat.le_refl _) _, _, _, rfl, in_lit w [1] _ rfl _⟩
  by_cases k5 : k = 5
  · subst k5
    go_enter Tryz.func28, Tryz.ntmps28
    go_wp2_with fail
    go_ret2
    exact ⟨(Below.refl _ _).alloc (Nat.le_refl _) _, _, _, rfl, in_lit w [1] _ rfl _⟩
  by_cases k6 : k = 6
  · subst k6
    go_enter Tryz.func28, Tryz.ntmps28
    go_wp2_with fail
    go_ret2
    exact ⟨(Below.refl _ _).alloc (Nat.le_refl _) _, _, _, rfl, in_lit w [1, 5] _ rfl _⟩
  by_cases k7 : k = 7
  · subst k7
    go_enter Tryz.func28, Tryz.ntmps28
    go_wp2_with fail
    go_ret2
    exact ⟨Below.refl _ _, none, 0, rfl, fun h => absurd rfl h⟩
  by_cases k17 : k = 17
  · subst k17
    go_enter Tryz.func28, Tryz.ntmps28
    go_wp2_with fail
    go_ret2
    exact ⟨Below.refl _ _, none, 0, rfl, fun h => absurd rfl h⟩
  by_cases k16 : k = 16
  · subst k16
    go_enter Tryz.func28, Tryz.ntmps28
    go_wp2_with fail
    go_ret2
    exact ⟨(Below.refl _ _).alloc (Nat.le_refl _) _, _, _, rfl, in_lit w [6, 7] _ rfl _⟩
  by_cases k18 : k = 18
  · subst k18
    go_enter Tryz.func28, Tryz.ntmps28
    go_wp2_with fail
    go_ret2
    exact ⟨(Below.refl _ _).alloc (Nat.le_refl _) _, _, _, rfl, in_lit w [9, 8, 1] _ rfl _⟩
  by_cases k19 : k = 19
  · subst k19
    go_enter Tryz.func28, Tryz.ntmps28
    go_wp2_with fail
    go_ret2
    exact ⟨(Below.refl _ _).alloc (Nat.le_refl _) _, _, _, rfl, in_lit w [9] _ rfl _⟩
  have hd : docL k = none := by unfold docL; simp [k1, k2, k3, k4, k5, k6, k7, k17, k16, k18, k19]
  have HD := hidden hd
  clear hd
  go_enter Tryz.func28, Tryz.ntmps28
  go_wp2_with fail
  go_ret2
  unfold usesQ
  rw [HD.out]
  exact ⟨Below.refl _ _, rfl⟩

/-- The same, and where the list lies. -/
def usesQ2 (w : World) (k : Int) (e : Ending) (w' : World) : Prop :=
  Below w.heap.size w w' ∧ match docL k with
    | some l => ∃ ad c, e = .returned (.tuple #[.slice ad l.length c, .bool true]) ∧ In w' ad l ∧ ∀ x, ad = some x → w.heap.size ≤ x.block
    | none => e = .returned (.tuple #[.slice none 0 0, .bool false])

set_option maxHeartbeats 2000000 in
theorem usesE (k : Int) (w : World) (h0 : -9223372036854775808 ≤ k) (h1 : k ≤ 9223372036854775807) : Calls Tryz.prog 28 #[.int .i64 k] w (usesQ2 w k) := by
  by_cases k1 : k = 1
  · subst k1
    go_enter Tryz.func28, Tryz.ntmps28
    go_wp2_with fail
    go_ret2
    exact ⟨(Below.refl _ _).alloc (Nat.le_refl _) _, _, _, rfl, in_lit w [0] _ rfl _, fun x hx => by cases hx; exact Nat.le_refl _⟩
  by_cases k2 : k = 2
  · subst k2
    go_enter Tryz.func28, Tryz.ntmps28
    go_wp2_with fail
    go_ret2
    exact ⟨(Below.refl _ _).alloc (Nat.le_refl _) _, _, _, rfl, in_lit w [1, 2, 3] _ rfl _, fun x hx => by cases hx; exact Nat.le_refl _⟩
  by_cases k3 : k = 3
  · subst k3
    go_enter Tryz.func28, Tryz.ntmps28
    go_wp2_with fail
    go_ret2
    exact ⟨(Below.refl _ _).alloc (Nat.le_refl _) _, _, _, rfl, in_lit w [4] _ rfl _, fun x hx => by cases hx; exact Nat.le_refl _⟩
  by_cases k4 : k = 4
  · subst k4
    go_enter Tryz.func28, Tryz.ntmps28
    go_wp2_with fail
    go_ret2
    exact ⟨(Below.refl _ _).alloc (Nat.le_refl _) _, _, _, rfl, in_lit w [1] _ rfl _, fun x hx => by cases hx; exact Nat.le_refl _⟩
  by_cases k5 : k = 5
  · subst k5
    go_enter Tryz.func28, Tryz.ntmps28
    go_wp2_with fail
    go_ret2
    exact ⟨(Below.refl _ _).alloc (Nat.le_refl _) _, _, _, rfl, in_lit w [1] _ rfl _, fun x hx => by cases hx; exact Nat.le_refl _⟩
  by_cases k6 : k = 6
  · subst k6
    go_enter Tryz.func28, Tryz.ntmps28
    go_wp2_with fail
    go_ret2
    exact ⟨(Below.refl _ _).alloc (Nat.le_refl _) _, _, _, rfl, in_lit w [1, 5] _ rfl _, fun x hx => by cases hx; exact Nat.le_refl _⟩
  by_cases k7 : k = 7
  · subst k7
    go_enter Tryz.func28, Tryz.ntmps28
    go_wp2_with fail
    go_ret2
    exact ⟨Below.refl _ _, none, 0, rfl, fun h => absurd rfl h, fun x hx => by cases hx⟩
  by_cases k17 : k = 17
  · subst k17
    go_enter Tryz.func28, Tryz.ntmps28
    go_wp2_with fail
    go_ret2
    exact ⟨Below.refl _ _, none, 0, rfl, fun h => absurd rfl h, fun x hx => by cases hx⟩
  by_cases k16 : k = 16
  · subst k16
    go_enter Tryz.func28, Tryz.ntmps28
    go_wp2_with fail
    go_ret2
    exact ⟨(Below.refl _ _).alloc (Nat.le_refl _) _, _, _, rfl, in_lit w [6, 7] _ rfl _, fun x hx => by cases hx; exact Nat.le_refl _⟩
  by_cases k18 : k = 18
  · subst k18
    go_enter Tryz.func28, Tryz.ntmps28
    go_wp2_with fail
    go_ret2
    exact ⟨(Below.refl _ _).alloc (Nat.le_refl _) _, _, _, rfl, in_lit w [9, 8, 1] _ rfl _, fun x hx => by cases hx; exact Nat.le_refl _⟩
  by_cases k19 : k = 19
  · subst k19
    go_enter Tryz.func28, Tryz.ntmps28
    go_wp2_with fail
    go_ret2
    exact ⟨(Below.refl _ _).alloc (Nat.le_refl _) _, _, _, rfl, in_lit w [9] _ rfl _, fun x hx => by cases hx; exact Nat.le_refl _⟩
  have hd : docL k = none := by unfold docL; simp [k1, k2, k3, k4, k5, k6, k7, k17, k16, k18, k19]
  have HD := hidden hd
  clear hd
  go_enter Tryz.func28, Tryz.ntmps28
  go_wp2_with fail
  go_ret2
  unfold usesQ2
  rw [HD.out]
  exact ⟨Below.refl _ _, rfl⟩

end Go.Proofs.YtalmpmhnkilalaaGreatDoor

/-
  The document's own Decode. By gendyq21.py.
-/
namespace Go.Proofs.YtalmpmhnkilalaaGreatDoor
open Go.RowKit
set_option linter.unusedVariables false
set_option linter.unusedSimpArgs false

def updV (f : Nat → FV) (i : Nat) (v : FV) : Nat → FV := fun j => if j = i then v else f j
/-- The fields of a kind, one behind the other. -/
def Ri.flds : List Nat → (Nat → FV) → Ri → (Nat → FV) × Ri
  | [], f, s => (f, s)
  | i :: r, f, s => if s.ok then Ri.flds r (updV f (i + 2) (s.fld i).1) (s.fld i).2 else (f, s)
theorem flds_no (L : List Nat) (f : Nat → FV) {s : Ri} (h : s.ok = false) : Ri.flds L f s = (f, s) := by
  cases L with
  | nil => rfl
  | cons i r => rw [Ri.flds, h]; rfl
theorem flds_yes {L : List Nat} {i x : Nat} (hx : L[i]? = some x) (f : Nat → FV) {s : Ri} (h : s.ok = true) : Ri.flds (L.drop i) f s = Ri.flds (L.drop (i + 1)) (updV f (x + 2) (s.fld x).1) (s.fld x).2 := by
  obtain ⟨hi, he⟩ := List.getElem?_eq_some_iff.1 hx
  rw [List.drop_eq_getElem_cons hi, he, Ri.flds, if_pos h]
def dqL (k : Int) : List Nat := (docL k).getD []
def dqS0 (b : List Int) : Ri := (Ri.mk b true).one.2
def dqK (b : List Int) : Int := (Ri.mk b true).one.1
def dqS2 (b : List Int) : Ri := ⟨(dqS0 b).b, (dqS0 b).ok && (docL (dqK b)).isSome⟩
def dqF (b : List Int) : Nat → FV := updV (updV zQ 0 (.tx (strOfNums (txL (dqS2 b).b 64)))) 1 (.tk (txL ((dqS2 b).txt 64).b 64))
def dqD (b : List Int) : (Nat → FV) × Ri := Ri.flds (dqL (dqK b)) (dqF b) (((dqS2 b).txt 64).txt 64)
/-- The document's Decode, purely. -/
def docD (b : List Int) : Option (Int × (Nat → FV)) := if 65536 < b.length then none else if (dqD b).2.ok = true ∧ (dqD b).2.b.length = 0 then some (dqK b, (dqD b).1) else none
/-- What it leaves. -/
def DocP (w : World) (o : Option (Int × (Nat → FV))) (e : Ending) (w' : World) : Prop :=
  Below w.heap.size w w' ∧ match o with
    | some (k, f) => ∃ (fm : Nat → FM), e = .returned (.tuple #[.agg (cQ k fm).toArray, .int .i64 0]) ∧ ∀ j, j < 12 → (fm j).fv = f j ∧ FD w.heap.size w' (fm j)
    | none => e = .returned (.tuple #[.agg (cQ 0 (fun i => zM (kdQ i))).toArray, .int .i64 180])
theorem zM_fd (B : Nat) (w : World) (k : Kd) : FD B w (zM k) := by
  cases k with
  | tk => exact ⟨Sl.nil _ _, fun y hy => (by cases hy), by decide⟩
  | tx => exact zM_fo B 0 w .tx
  | qu => exact zM_fo B 0 w .qu
  | ws => exact zM_fo B 0 w .ws
  | ms => exact zM_fo B 0 w .ms
  | tm => exact zM_fo B 0 w .tm
  | am => exact zM_fo B 0 w .am
  | se => exact zM_fo B 0 w .se
  | ro => exact zM_fo B 0 w .ro
  | nu => exact zM_fo B 0 w .nu
  | ts => exact zM_fo B 0 w .ts
theorem it_cellD {w : World} {p K : Nat} {s : Ri} (h : It w p K s) : ∃ ad c, w.cell? ⟨p, 0, none⟩ = some (.slice ad s.b.length c) := by
  obtain ⟨_, _, ad, n, c, hB⟩ := h
  refine ⟨ad, c, ?_⟩
  have := hB.blk.cell 0
  rw [hB.sl.len]
  simpa using this
theorem built89d (ad : Option Addr) (n c : Nat) : Tryz.prog.built 89 [(0, .slice ad n c), (1, .bool true)] = some #[.slice ad n c, .bool true] := by kernel_rfl
theorem one_bdD {s : Ri} (h : Byte s.b) : 0 ≤ s.one.1 ∧ s.one.1 ≤ 255 := by
  obtain ⟨b, ok⟩ := s
  cases ok with
  | false => rw [one_no]; show (0 : Int) ≤ 0 ∧ (0 : Int) ≤ 255; omega
  | true =>
    cases b with
    | nil => show (0 : Int) ≤ 0 ∧ (0 : Int) ≤ 255; omega
    | cons x t =>
      have := h x (by simp)
      show 0 ≤ x ∧ x ≤ 255
      omega
theorem res_dec16 (tmps : Array Value) (w : World) (g : Nat) (l : List Value) (hl : l.length = 13) (hp : tmps.getD 2 undef = .pointer (some ⟨g, 0, none⟩)) (hB : Blk w g 26 l) : (results Tryz.f16 tmps).run Tryz.prog w = .ok (.tuple #[.agg l.toArray, tmps.getD 3 undef]) w := by
  have h : Tryz.f16.results = #[.cell 2 26, .tmp 3] := by kernel_rfl
  have hp' : tmps[2]?.getD undef = .pointer (some ⟨g, 0, none⟩) := by simpa using hp
  match l, hl with
  | [a, b, c, d, e, f, g1, h9, i, j, k, m, n], _ =>
    have h0 := hB.cell 0
    have h1 := hB.cell 1
    have h2 := hB.cell 2
    have h3 := hB.cell 3
    have h4 := hB.cell 4
    have h5 := hB.cell 5
    have h6 := hB.cell 6
    have h7 := hB.cell 7
    have h8 := hB.cell 8
    have h10 := hB.cell 9
    have h11 := hB.cell 10
    have h12 := hB.cell 11
    have h13 := hB.cell 12
    simp at h0 h1 h2 h3 h4 h5 h6 h7 h8 h10 h11 h12 h13
    simp [results, h, hp', asAddr, loadVar, h0, h1, h2, h3, h4, h5, h6, h7, h8, h10, h11, h12, h13, go_sem]
end Go.Proofs.YtalmpmhnkilalaaGreatDoor
