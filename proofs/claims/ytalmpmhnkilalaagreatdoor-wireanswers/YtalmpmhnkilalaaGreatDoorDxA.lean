import Derived.Test.YtalmpmhnkilalaaGreatDoorDwA
import Derived.Test.YtalmpmhnkilalaaGreatDoorRefA
import Derived.Test.YtalmpmhnkilalaaGreatDoorDcC
import Derived.Test.YtalmpmhnkilalaaGreatDoorWwA
import Derived.Test.YtalmpmhnkilalaaGreatDoorWwG
import Derived.Test.YtalmpmhnkilalaaGreatDoorBlk
import Derived.Deep.CutRange
/-
  The document's writer in memory: count, text.
-/
namespace Go.Proofs.YtalmpmhnkilalaaGreatDoor
open Go.RowKit
set_option linter.unusedVariables false
set_option linter.unusedSimpArgs false

/-- The document's writer in memory: its block, its row's block, what it holds. -/
structure OV (w : World) (p : Nat) (rb : Option Nat) (s : Od) (v : Value) : Prop where
  ne : rb ≠ some p
  own : v.ownBlock = rb
  blk : Blk w p 80 [v, .bool s.ok]
  row : w.ownsRow 0 5 1 v s.b.length (cells8 s.b)
  byte : Byte s.b
def Ot (w : World) (p : Nat) (rb : Option Nat) (s : Od) : Prop := ∃ v, OV w p rb s v
/-- Its row's block is the old one, a new one, or none. -/
def Mvn (w : World) (rb rb' : Option Nat) : Prop := ∀ g, rb' = some g → rb = some g ∨ w.heap.size ≤ g
theorem Mvn.refl (w : World) (rb : Option Nat) : Mvn w rb rb := fun g h => .inl h
theorem Mvn.trans {a b : World} {r s t : Option Nat} (h : Mvn a r s) (k : Mvn b s t) (hs : a.heap.size ≤ b.heap.size) : Mvn a r t := fun g hg => by
  rcases k g hg with e | e
  · exact h g e
  · exact .inr (by omega)
/-- What a call leaves. -/
def OR (w : World) (p : Nat) (rb : Option Nat) (s : Od) (w' : World) : Prop := ∃ rb', Ot w' p rb' s ∧ Chg (fpt p rb) w w' ∧ Mvn w rb rb'
def OQ (w : World) (p : Nat) (rb : Option Nat) (s : Od) : Ending → World → Prop := fun e w' => e = .returned (.tuple #[]) ∧ OR w p rb s w'

theorem Ot.lt {w : World} {p : Nat} {rb : Option Nat} {s : Od} (h : Ot w p rb s) : ∀ i, fpt p rb i → i < w.heap.size := by
  obtain ⟨v, h⟩ := h
  rintro i (rfl | hi)
  · exact h.blk.lt
  · have := h.own
    subst this
    exact owns_lt h.row i hi
theorem OV.chg {F : Nat → Prop} {a b : World} {p : Nat} {rb : Option Nat} {s : Od} {v : Value} (h : OV a p rb s v) (hc : Chg F a b) (hF : ∀ i, fpt p rb i → ¬ F i) : OV b p rb s v := by
  obtain ⟨h0, h1, h2, h3, h4⟩ := h
  subst h1
  exact ⟨h0, rfl, hc.blk h2 (hF p (.inl rfl)), hc.owns h3 (fun g hg => hF g (.inr hg)), h4⟩
theorem Ot.chg {F : Nat → Prop} {a b : World} {p : Nat} {rb : Option Nat} {s : Od} (h : Ot a p rb s) (hc : Chg F a b) (hF : ∀ i, fpt p rb i → ¬ F i) : Ot b p rb s := by
  obtain ⟨v, h⟩ := h
  exact ⟨v, h.chg hc hF⟩
theorem Ot.later {a b : World} {p : Nat} {rb : Option Nat} {s : Od} (h : Ot a p rb s) (hb : Below a.heap.size a b) : Ot b p rb s :=
  h.chg (Chg.of_below (F := fun _ => False) hb) (fun _ _ e => e)
theorem Ot.byte {w : World} {p : Nat} {rb : Option Nat} {s : Od} (h : Ot w p rb s) : Byte s.b := by
  obtain ⟨v, h⟩ := h
  exact h.byte
theorem OV.setOk {w : World} {p : Nat} {rb : Option Nat} {s : Od} {v : Value} (h : OV w p rb s v) (x : Bool) : OV (w.setCell ⟨p, 1, none⟩ (.bool x)) p rb { s with ok := x } v := by
  obtain ⟨h0, h1, h2, h3, h4⟩ := h
  subst h1
  refine ⟨h0, rfl, h2.set 1 _, (Chg.set ⟨p, 1, none⟩ _ w).owns h3 (fun g hg e => h0 ?_), h4⟩
  simp at e
  rw [hg, e]
/-- Another row in its place. -/
theorem OV.fresh {w w6 : World} {p : Nat} {rb : Option Nat} {s : Od} {v : Value} {ad : Option Addr} {n c : Nat} {L : List Int} (h : OV w p rb s v) (hb : Below w.heap.size w w6) (ho : w6.ownsRow w.heap.size 5 1 (.slice ad n c) n (cells8 L)) (hL : Byte L) (h0 : 0 < n) :
    OR w p rb ⟨L, s.ok⟩ (w6.setCell ⟨p, 0, none⟩ (.slice ad n c)) ∧ ∃ rb', OV (w6.setCell ⟨p, 0, none⟩ (.slice ad n c)) p rb' ⟨L, s.ok⟩ (.slice ad n c) := by
  have hp := h.blk.lt
  have hl : L.length = n := by have := ho.1; rw [cells8_length] at this; omega
  have hm : Mvn w rb (Value.slice ad n c).ownBlock := fun g hg => .inr (ho.lt g hg).1
  have hne : (Value.slice ad n c).ownBlock ≠ some p := fun e => by
    have := (ho.lt p e).1
    omega
  have hB6 := h.blk.later hb
  have hV : OV (w6.setCell ⟨p, 0, none⟩ (.slice ad n c)) p (Value.slice ad n c).ownBlock ⟨L, s.ok⟩ (.slice ad n c) := by
    refine ⟨hne, rfl, hB6.set 0 _, ?_, hL⟩
    show (w6.setCell ⟨p, 0, none⟩ (.slice ad n c)).ownsRow 0 5 1 _ L.length _
    rw [hl]
    exact (Chg.set ⟨p, 0, none⟩ _ w6).owns (owns_zero ho) (fun g hg e => hne (by rw [hg, e]))
  exact ⟨⟨_, ⟨_, hV⟩, (Chg.of_below hb).trans ((Chg.set ⟨p, 0, none⟩ _ w6).mono (G := fpt p rb) (fun i _ hi => .inl hi)) (fun _ _ e => e), hm⟩, _, hV⟩
theorem fpt_mvn {w : World} {p : Nat} {rb rb1 : Option Nat} (hm : Mvn w rb rb1) (i : Nat) (hi : i < w.heap.size) (e : fpt p rb1 i) : fpt p rb i := by
  rcases e with rfl | e
  · exact .inl rfl
  · rcases hm i e with e | e
    · exact .inr e
    · omega
theorem OR.trans {w w1 w2 : World} {p : Nat} {rb rb1 : Option Nat} {s : Od} (hc : Chg (fpt p rb) w w1) (hm : Mvn w rb rb1) (h : OR w1 p rb1 s w2) : OR w p rb s w2 := by
  obtain ⟨rb2, h1, h2, h3⟩ := h
  exact ⟨rb2, h1, hc.trans h2 (fun i hi e => fpt_mvn hm i hi e), hm.trans h3 hc.size⟩
theorem OR.after {w w1 w2 : World} {p : Nat} {rb : Option Nat} {s : Od} (hb : Below w.heap.size w w1) (h : OR w1 p rb s w2) : OR w p rb s w2 := h.trans (Chg.of_below hb) (Mvn.refl _ _)
/-- What lies still while it writes. -/
theorem keep_om {w w1 : World} {p : Nat} {rb rb1 : Option Nat} {Q : World → Prop} (h : ∀ wx, Chg (fpt p rb) w wx → Q wx) (hC : Chg (fpt p rb) w w1) (hM : Mvn w rb rb1) : ∀ wx, Chg (fpt p rb1) w1 wx → Q wx :=
  fun wx hx => h wx (hC.trans hx (fun i hi hf => fpt_mvn hM i hi hf))

theorem must_if (s : Od) (x : Bool) : s.must x = ⟨s.b, s.ok && x⟩ := rfl

set_option maxHeartbeats 1000000 in
set_option maxRecDepth 4000 in
theorem countO (p : Nat) (rb : Option Nat) (s : Od) (n most : Int) (w : World) (h : Ot w p rb s) (hn : I64 n) (hm : I64 most) (hb : s.b.length ≤ 1000000000000) :
    Calls Tryz.prog 43 #[.pointer (some ⟨p, 0, none⟩), .int .i64 n, .int .i64 most] w (OQ w p rb (s.count n most)) := by
  obtain ⟨v, h⟩ := h
  obtain ⟨a1, c1, rfl⟩ := owns_form h.row
  obtain ⟨B, ok⟩ := s
  simp only at h hb
  obtain ⟨k, hk⟩ : ∃ k, B.length = k := ⟨_, rfl⟩
  replace h : OV w p rb ⟨B, ok⟩ (.slice a1 k c1) := by rw [← hk]; exact h
  have f0 := h.blk.frozen 0
  have f1 := h.blk.frozen 1
  have c0 : w.cell? ⟨p, 0, none⟩ = some (.slice a1 k c1) := h.blk.cell 0
  have cO : w.cell? ⟨p, 1, none⟩ = some (.bool ok) := h.blk.cell 1
  have HV := hidden h
  have HK := hidden hk
  clear h hk
  have hno : ∀ (hc : (ok && (decide (0 ≤ n) && decide (n ≤ most))) = false), OQ w p rb (Od.count ⟨B, ok⟩ n most) (.returned (.tuple #[])) (w.setCell ⟨p, 1, none⟩ (.bool false)) := by
    intro hc
    have e : Od.count ⟨B, ok⟩ n most = ⟨B, false⟩ := by
      unfold Od.count
      rw [must_if]
      simp only [hc]
      rfl
    rw [e]
    exact ⟨rfl, rb, ⟨_, HV.out.setOk false⟩, (Chg.set ⟨p, 1, none⟩ _ w).mono (fun i _ hi => .inl hi), Mvn.refl _ _⟩
  have HNO := hidden hno
  clear hno
  cases ok with
  | false =>
    go_enter Tryz.func43, Tryz.ntmps43
    go_wp2_with fail
    go_end0
    exact HNO.out rfl
  | true =>
    by_cases h0 : 0 ≤ n
    · by_cases h1 : n ≤ most
      · obtain ⟨N, rfl⟩ : ∃ N : Nat, n = (N : Int) := ⟨n.toNat, by omega⟩
        have hN9 : N ≤ 9223372036854775807 := by have := hn.2; omega
        clear HNO
        have e : Od.count ⟨B, true⟩ (N : Int) most = ⟨B ++ Q.enc N, true⟩ := by
          unfold Od.count Od.must Od.put
          simp [h1]
        rw [e]
        have hgrp := Q.grp_le N
        go_enter Tryz.func43, Tryz.ntmps43
        go_wp2_with fail
        obtain ⟨w1, hw1⟩ : ∃ w1, w.setCell ⟨p, 1, none⟩ (.bool true) = w1 := ⟨_, rfl⟩
        have HV1 : Hid (OV w1 p rb ⟨B, true⟩ (.slice a1 k c1)) := hidden (by rw [← hw1]; exact HV.out.setOk true)
        have HC1 : Hid (Chg (fpt p rb) w w1) := hidden (by rw [← hw1]; exact (Chg.set ⟨p, 1, none⟩ _ w).mono (fun i _ hi => .inl hi))
        rw [hw1]
        clear hw1
        refine (Q.refPutUint_any a1 k c1 N B w1 (by have := HV1.out.row; simp only [HK.out] at this; exact sl_of_owns this HV1.out.byte) (by have := HV1.out.row; simp only [HK.out] at this; exact (owns_cap this).2.2.2) (by have := HK.out; omega) (by omega)).mono ?_
        rintro en w2 ⟨ad2, c2, rfl, o2, b2⟩
        have HO2 := hidden o2
        have HB2 := hidden b2
        have f2 := (HV1.out.blk.later b2).frozen 0
        have d0 : w2.cell? ⟨p, 0, none⟩ = some (.slice a1 k c1) := (HV1.out.blk.later b2).cell 0
        clear o2 b2
        go_wp2_with fail
        go_end0
        exact ⟨rfl, ((HV1.out.fresh HB2.out HO2.out (HV1.out.byte.append (Q.enc_byte _ (by omega))) (by omega)).1).trans HC1.out (Mvn.refl _ _)⟩
      · go_enter Tryz.func43, Tryz.ntmps43
        go_wp2_with fail
        go_end0
        exact HNO.out (by simp [h1])
    · go_enter Tryz.func43, Tryz.ntmps43
      go_wp2_with fail
      go_end0
      exact HNO.out (by simp; omega)

set_option maxHeartbeats 1000000 in
set_option maxRecDepth 4000 in
theorem textO (p : Nat) (rb : Option Nat) (s : Od) (d : ByteArray) (most : Nat) (w : World) (h : Ot w p rb s) (hm : most ≤ 1000000000000) (hb : s.b.length ≤ 1000000000000) :
    Calls Tryz.prog 30 #[.pointer (some ⟨p, 0, none⟩), .string d, .int .i64 (most : Int)] w (OQ w p rb (s.text d most)) := by
  obtain ⟨v, h⟩ := h
  obtain ⟨a1, c1, rfl⟩ := owns_form h.row
  obtain ⟨B, ok⟩ := s
  simp only at h hb
  obtain ⟨k, hk⟩ : ∃ k, B.length = k := ⟨_, rfl⟩
  replace h : OV w p rb ⟨B, ok⟩ (.slice a1 k c1) := by rw [← hk]; exact h
  have f0 := h.blk.frozen 0
  have f1 := h.blk.frozen 1
  have c0 : w.cell? ⟨p, 0, none⟩ = some (.slice a1 k c1) := h.blk.cell 0
  have cO : w.cell? ⟨p, 1, none⟩ = some (.bool ok) := h.blk.cell 1
  have HV := hidden h
  have HK := hidden hk
  clear h hk
  have hno : ∀ (hc : (ok && decide (d.size ≤ most)) = false), OQ w p rb (Od.text ⟨B, ok⟩ d most) (.returned (.tuple #[])) (w.setCell ⟨p, 1, none⟩ (.bool false)) := by
    intro hc
    have e : Od.text ⟨B, ok⟩ d most = ⟨B, false⟩ := by
      unfold Od.text
      rw [must_if]
      simp only [hc]
      rfl
    rw [e]
    exact ⟨rfl, rb, ⟨_, HV.out.setOk false⟩, (Chg.set ⟨p, 1, none⟩ _ w).mono (fun i _ hi => .inl hi), Mvn.refl _ _⟩
  have HNO := hidden hno
  clear hno
  cases ok with
  | false =>
    go_enter Tryz.func30, Tryz.ntmps30
    go_wp2_with fail
    go_end0
    exact HNO.out rfl
  | true =>
    by_cases h1 : d.size ≤ most
    · clear HNO
      have e : Od.text ⟨B, true⟩ d most = ⟨B ++ encT d, true⟩ := by
        unfold Od.text Od.must Od.put
        simp [h1]
      rw [e]
      have kc := fun (w : World) => Lib.run_convert_string_bytes (P := Tryz.prog) w 9 22 5 d Tryz.underlying9 Tryz.underlying22 Tryz.underlying5
      go_enter Tryz.func30, Tryz.ntmps30
      go_wp2_with fail
      obtain ⟨w1, hw1⟩ : ∃ w1, w.setCell ⟨p, 1, none⟩ (.bool true) = w1 := ⟨_, rfl⟩
      have hsz : w.heap.size = w1.heap.size := by rw [← hw1]; simp
      have HV1 : Hid (OV w1 p rb ⟨B, true⟩ (.slice a1 k c1)) := hidden (by rw [← hw1]; exact HV.out.setOk true)
      have HC1 : Hid (Chg (fpt p rb) w w1) := hidden (by rw [← hw1]; exact (Chg.set ⟨p, 1, none⟩ _ w).mono (fun i _ hi => .inl hi))
      rw [hw1, hsz]
      have HSB := hidden (sl_bytes w1 d)
      have HBW := hidden (Go.Joins.below_bytesWorld w1.heap.size w1 5 d (Nat.le_refl _))
      obtain ⟨w3, hw3⟩ : ∃ w3, Lib.bytesWorld w1 5 d = w3 := ⟨_, rfl⟩
      obtain ⟨cc, hcc⟩ : ∃ cc, grownCap w1 d.size 0 5 = cc := ⟨_, rfl⟩
      rw [hw3] at HSB HBW
      rw [hw3, hcc]
      clear hw1 hw3 hcc
      have hgrp := Q.grp_le d.size
      refine (Q.refPutBytes_any a1 k c1 B (some ⟨w1.heap.size, 0, none⟩) d.size cc (bts d) w3 ((Chg.of_below (F := fun _ => False) HBW.out).sl (by have := HV1.out.row; simp only [HK.out] at this; exact sl_of_owns this HV1.out.byte) (fun _ _ _ e => e)) HSB.out (by have := HV1.out.row; simp only [HK.out] at this; exact (owns_cap this).2.2.2) (fun h => by cases h) (by have := HK.out; omega)).mono ?_
      rintro en w2 ⟨ad2, c2, rfl, o2, b2⟩
      have HV3 := hidden (HV1.out.chg (Chg.of_below (F := fun _ => False) HBW.out) (fun _ _ e => e))
      rw [List.append_assoc] at o2
      have HO2 := hidden o2
      have HB2 := hidden b2
      have f2 := (HV3.out.blk.later b2).frozen 0
      have d0 : w2.cell? ⟨p, 0, none⟩ = some (.slice a1 k c1) := (HV3.out.blk.later b2).cell 0
      clear o2 b2
      go_wp2_with fail
      go_end0
      exact ⟨rfl, (((HV3.out.fresh HB2.out HO2.out (HV1.out.byte.append (encT_byte d (by omega))) (by omega)).1).after HBW.out).trans HC1.out (Mvn.refl _ _)⟩
    · have h1' : ¬ ((d.size : Int) ≤ (most : Int)) := by omega
      go_enter Tryz.func30, Tryz.ntmps30
      go_wp2_with fail
      go_end0
      exact HNO.out (by simp; omega)

end Go.Proofs.YtalmpmhnkilalaaGreatDoor

/-
  The document's writer: labels, samples, less.
-/
namespace Go.Proofs.YtalmpmhnkilalaaGreatDoor
open Go.RowKit
set_option linter.unusedVariables false
set_option linter.unusedSimpArgs false

theorem eachO_next {α : Type} (step : Od → α → Od) (l : List α) (s : Od) (i : Nat) (x : α) (hx : l[i]? = some x) : eachO step (l.take (i + 1)) s = if (eachO step (l.take i) s).ok then step (eachO step (l.take i) s) x else eachO step (l.take i) s := by
  unfold eachO
  rw [List.take_add_one, hx, List.foldl_append]
  rfl
theorem eachO_rest {α : Type} (step : Od → α → Od) (l : List α) (s : Od) (i : Nat) (h : (eachO step (l.take i) s).ok = false) : eachO step l s = eachO step (l.take i) s := by
  have e : eachO step l s = eachO step (l.drop i) (eachO step (l.take i) s) := by
    conv => lhs; rw [← List.take_append_drop i l]
    unfold eachO
    rw [List.foldl_append]
  rw [e, eachO_no step _ _ h]
theorem OR.refl {w : World} {p : Nat} {rb : Option Nat} {s : Od} (h : Ot w p rb s) : OR w p rb s w := ⟨rb, h, Chg.refl _ _, Mvn.refl _ _⟩
theorem OR.chg {w w' : World} {p : Nat} {rb : Option Nat} {s : Od} (h : OR w p rb s w') : Chg (fpt p rb) w w' := by obtain ⟨_, _, h, _⟩ := h; exact h
theorem OR.size {w w' : World} {p : Nat} {rb : Option Nat} {s : Od} (h : OR w p rb s w') : w.heap.size ≤ w'.heap.size := h.chg.size
/-- A count that is too great. -/
theorem count_no {s : Od} {n most : Int} (h : ¬ (0 ≤ n ∧ n ≤ most)) : (s.count n most).ok = false := by
  unfold Od.count Od.must Od.put
  have : (decide (0 ≤ n) && decide (n ≤ most)) = false := by simp; omega
  rw [this]
  simp

set_option maxHeartbeats 2000000 in
set_option maxRecDepth 8000 in
theorem labelsO (p : Nat) (rb : Option Nat) (s : Od) (ad : Option Addr) (N c : Nat) (l : List La) (w : World) (h : Ot w p rb s) (hN : l.length = N) (hN9 : N ≤ 9223372036854775807) (hE : ∀ wx, Chg (fpt p rb) w wx → Es wx ad 2 (l.map La.cells)) (hb : s.b.length ≤ 900000000000) :
    Calls Tryz.prog 44 #[.pointer (some ⟨p, 0, none⟩), .slice ad N c] w (OQ w p rb (s.labels l)) := by
  have HE := hidden hE
  have HN := hidden hN
  have HO := hidden h
  clear h hE hN
  go_enter Tryz.func44, Tryz.ntmps44
  go_wp2_with fail
  refine (countO p rb s (N : Int) 16 w HO.out ⟨by omega, by omega⟩ ⟨by omega, by omega⟩ (by omega)).mono ?_
  rintro e w1 ⟨rfl, hR⟩
  obtain ⟨s1, hs1⟩ : ∃ s1, s.count (N : Int) 16 = s1 := ⟨_, rfl⟩
  rw [hs1] at hR
  have HR1 := hidden hR
  have HL1 : Hid (s1.b.length ≤ 900000000010) := hidden (by rw [← hs1]; have := (dwt_count (N : Int) 16 (by omega)).len s; omega)
  have HS1 := hidden hs1
  clear hR hs1
  go_wp2_with fail
  go_loopw [4] (fun v4 wx => ∃ i : Nat, v4 = .int .i64 (i : Int) ∧ i ≤ N ∧ Hid (OR w p rb (eachO oLabel (l.take i) s1) wx)) (fun v4 _ => N - (intOf v4).toNat)
  case atStart => exact ⟨0, rfl, by omega, HR1⟩
  case round =>
    obtain ⟨i, rfl, hi, hI⟩ := hrel
    have hfin : ∀ (hq : i = N ∨ (eachO oLabel (l.take i) s1).ok = false), OQ w p rb (s.labels l) (.returned (.tuple #[])) wr := fun hq => by
      refine ⟨rfl, ?_⟩
      have e : s.labels l = eachO oLabel l s1 := by
        show eachO oLabel l (s.count (l.length : Int) 16) = _
        rw [HN.out, HS1.out]
      rw [e]
      rcases hq with hq | hq
      · have := hI.out
        rw [hq, ← HN.out, List.take_length] at this
        exact this
      · rw [eachO_rest oLabel l s1 i hq]
        exact hI.out
    have HFIN := hidden hfin
    clear hfin
    obtain ⟨st, hst⟩ : ∃ st, eachO oLabel (l.take i) s1 = st := ⟨_, rfl⟩
    rw [hst] at hI HFIN
    have HST := hidden hst
    clear hst
    obtain ⟨rb1, hO1, hC1, hM1⟩ := hI.out
    have HO1 := hidden hO1
    have HC1 := hidden hC1
    have HM1 := hidden hM1
    obtain ⟨v1, hv1⟩ := hO1
    have cO : wr.cell? ⟨p, 1, none⟩ = some (.bool st.ok) := hv1.blk.cell 1
    clear hv1 hC1 hM1
    obtain ⟨ok, hok⟩ : ∃ ok, st.ok = ok := ⟨_, rfl⟩
    rw [hok] at cO
    have HOK := hidden hok
    clear hok
    by_cases hin : i < N
    · have hin' : (i : Int) < (N : Int) := by omega
      cases ok with
      | false =>
        go_wp2_with fail
        go_end0
        exact HFIN.out (.inr HOK.out)
      | true =>
        obtain ⟨x, hx⟩ : ∃ x, l[i]? = some x := ⟨l[i]'(by have := HN.out; omega), by simp⟩
        have hxm : (l.map La.cells)[i]? = some [.string x.n, .string x.v] := by rw [List.getElem?_map, hx]; rfl
        have hN16 : N ≤ 16 := by
          by_cases h16 : N ≤ 16
          · exact h16
          · exfalso
            have h1 : s1.ok = false := by rw [← HS1.out]; exact count_no (by omega)
            have h2 := eachO_no oLabel (l.take i) s1 h1
            rw [HST.out] at h2
            have h3 := HOK.out
            rw [h2, h1] at h3
            cases h3
        have HLS : Hid (st.b.length ≤ 900000003000) := hidden (by
          have h1 := (dwt_each (l.take i) (fun x _ => dwt_label x)).len s1
          rw [HST.out] at h1
          have h2 : (l.take i).length ≤ 16 := by rw [List.length_take]; omega
          have := Nat.mul_le_mul_right 148 h2
          have := HL1.out
          omega)
        have HXT : Hid (∀ wx, Chg (fpt p rb) w wx → ∃ b1 o1, ad = some ⟨b1, o1, none⟩ ∧ wx.cell? ⟨b1, o1 + i * 2, none⟩ = some (.string x.n) ∧ wx.cell? ⟨b1, o1 + i * 2 + 1, none⟩ = some (.string x.v)) := hidden (fun wx hc => by
          obtain ⟨b1, o1, e, _, hcell⟩ := HE.out wx hc (by intro h0; rw [h0] at hxm; simp at hxm)
          have e0 := hcell i _ hxm 0 _ rfl
          have e1 := hcell i _ hxm 1 _ rfl
          rw [Nat.add_zero] at e0
          exact ⟨b1, o1, e, e0, e1⟩)
        have HNX : Hid (eachO oLabel (l.take (i + 1)) s1 = oLabel st x) := hidden (by rw [eachO_next oLabel l s1 i x hx, HST.out, if_pos HOK.out])
        obtain ⟨b1, o1, rfl, k0, k1⟩ := HXT.out wr HC1.out
        clear hx hxm
        go_wp2_with fail
        refine (textO p rb1 st x.n 64 wr HO1.out (by omega) (by have := HLS.out; omega)).mono ?_
        rintro e w2 ⟨rfl, hR2⟩
        have HR2 := hidden (OR.trans HC1.out HM1.out hR2)
        clear hR2 k0 k1
        obtain ⟨rb2, hO2, hC2, hM2⟩ := HR2.out
        have HO2 := hidden hO2
        have HC2 := hidden hC2
        have HM2 := hidden hM2
        obtain ⟨b2, o2, hbe, k0, k1⟩ := HXT.out w2 HC2.out
        simp only [Option.some.injEq, Addr.mk.injEq, and_true] at hbe
        obtain ⟨rfl, rfl⟩ := hbe
        clear hO2 hC2 hM2
        go_wp2_with fail
        refine (textO p rb2 (st.text x.n 64) x.v 64 w2 HO2.out (by omega) (by have := (dwt_text x.n 64 (by omega)).len st; have := HLS.out; omega)).mono ?_
        rintro e w3 ⟨rfl, hR3⟩
        have HR3 := hidden (OR.trans HC2.out HM2.out hR3)
        clear hR3 k0 k1
        go_wp2_with fail
        refine ⟨⟨i + 1, by first | rfl | simp, by omega, hidden (by rw [HNX.out]; exact HR3.out)⟩, ?_⟩
        show N - ((i : Int) + 1).toNat < N - (i : Int).toNat
        omega
    · obtain rfl : i = N := by omega
      go_wp2_with fail
      go_end0
      exact HFIN.out (.inl (by first | rfl | trivial))

set_option maxHeartbeats 2000000 in
set_option maxRecDepth 8000 in
theorem samplesO (p : Nat) (rb : Option Nat) (s : Od) (ad : Option Addr) (N c : Nat) (l : List Sm) (w : World) (h : Ot w p rb s) (hN : l.length = N) (hN9 : s.ok = true → N ≤ 1000000) (hS : Ss w ad l) (hb : s.b.length ≤ 900000000000) :
    Calls Tryz.prog 45 #[.pointer (some ⟨p, 0, none⟩), .slice ad N c] w (OQ w p rb (s.samples l)) := by
  obtain ⟨v, h⟩ := h
  obtain ⟨a1, c1, rfl⟩ := owns_form h.row
  obtain ⟨B, ok⟩ := s
  simp only at h hb hN9
  obtain ⟨k, hk⟩ : ∃ k, B.length = k := ⟨_, rfl⟩
  replace h : OV w p rb ⟨B, ok⟩ (.slice a1 k c1) := by rw [← hk]; exact h
  have cO : w.cell? ⟨p, 1, none⟩ = some (.bool ok) := h.blk.cell 1
  have HV := hidden h
  have HK := hidden hk
  have HS := hidden hS
  have HN := hidden hN
  have HN9 := hidden hN9
  clear h hk hS hN hN9
  cases ok with
  | false =>
    go_enter Tryz.func45, Tryz.ntmps45
    go_wp2_with fail
    go_end0
    exact ⟨rfl, OR.refl ⟨_, HV.out⟩⟩
  | true =>
    have hle := HN9.out rfl
    have HCV : Hid (∀ wx, Below w.heap.size w wx → OV wx p rb ⟨B, true⟩ (.slice a1 k c1)) := hidden (fun wx hb => HV.out.chg (Chg.of_below (F := fun _ => False) hb) (fun _ _ e => e))
    have HC0 : Hid (∀ wx, Below w.heap.size w wx → wx.cell? ⟨p, 0, none⟩ = some (.slice a1 k c1)) := hidden (fun wx hb => (HCV.out wx hb).blk.cell 0)
    obtain ⟨M, hM⟩ : ∃ M, (encC l).length = M := ⟨_, rfl⟩
    have HM := hidden hM
    have hM9 : M ≤ 19000011 := by rw [← hM]; have := encC_le19 l HS.out.sz; have := HN.out; omega
    clear hM
    have HE : Hid (∀ wx, Below w.heap.size w wx → Calls Tryz.prog 77 #[.slice ad N c] wx (fun e w' => ∃ v, e = .returned v ∧ (∃ ad2 c2, v = .slice ad2 M c2) ∧ w'.ownsRow wx.heap.size 5 1 v M (cells8 (encC l)) ∧ Below wx.heap.size wx w')) := hidden (fun wx hb => (encodeD wx ad N c l (HS.out.later hb) HN.out hle).mono (fun e w' ⟨ad2, c2, h1, h2, h3⟩ => by rw [HM.out] at h1 h2; exact ⟨_, h1, ⟨_, _, rfl⟩, h2, h3⟩))
    have hgrp := Q.grp_le M
    have HP : Hid (∀ wx, Below w.heap.size w wx → ∀ ad2 c2 base, wx.ownsRow base 5 1 (.slice ad2 M c2) M (cells8 (encC l)) → Calls Tryz.prog 61 #[.slice a1 k c1, .slice ad2 M c2] wx (fun e w' => ∃ v, e = .returned v ∧ (∃ ad3 c3, v = .slice ad3 (k + Q.grp M + 1 + M) c3) ∧ w'.ownsRow wx.heap.size 5 1 v (k + Q.grp M + 1 + M) (cells8 (B ++ encSs l)) ∧ Below wx.heap.size wx w')) := hidden (fun wx hb ad2 c2 base ho => by
      have hv := HCV.out wx hb
      have hrow := hv.row
      simp only [HK.out] at hrow
      refine (Q.refPutBytes_any a1 k c1 B ad2 M c2 (encC l) wx (sl_of_owns hrow hv.byte) (sl_of_owns ho (encC_byte l (by have := HN.out; omega))) (owns_cap hrow).2.2.2 (owns_cap ho).2.2.2 (by have := HK.out; omega)).mono ?_
      rintro e w' ⟨ad3, c3, h1, h2, h3⟩
      refine ⟨_, h1, ⟨_, _, rfl⟩, ?_, h3⟩
      rw [List.append_assoc] at h2
      unfold encSs
      rw [HM.out]
      exact h2)
    have k0 := HC0.out w (Below.refl _ _)
    have k1 := HC0.out w.drew ((Below.refl _ _).drew)
    go_enter Tryz.func45, Tryz.ntmps45
    go_wp2_with fail
    go_region_law (first
      | (refine step_go (by rfl) 77 #[.slice ad N c] (by simp [execOp, resolve, Act.eval, go_sem]) _ (HE.out _ (by first | exact Below.refl _ _ | exact (Below.refl _ _).drew)) ?_
         rintro v1 w4 ⟨⟨ad2, c2, rfl⟩, o1, b1⟩
         have O1 := hidden o1
         have B1 : Hid (Below w.heap.size w w4) := hidden (((Below.refl _ _).drew).trans b1)
         have d0 := HC0.out _ B1.out
         clear o1 b1)
      | (refine step_go (by rfl) 61 #[.slice a1 k c1, .slice ad2 M c2] (by simp [execOp, resolve, Act.eval, go_sem]) _ (HP.out _ B1.out ad2 c2 _ O1.out) ?_
         rintro v2 w5 ⟨⟨ad3, c3, rfl⟩, o2, b2⟩
         have O2 := hidden o2
         have B2 := hidden b2
         have B3 : Hid (Below w.heap.size w w5) := hidden (B1.out.trans (b2.mono B1.out.size))
         have d1 := HC0.out _ B3.out
         have f1 := (HCV.out _ B3.out).blk.frozen 0
         clear o2 b2))
    all_goals
      go_end0
      exact ⟨rfl, ((HCV.out _ B1.out).fresh B2.out O2.out (HV.out.byte.append (encSs_byte l HS.out.sz (by have := HN.out; omega))) (by omega)).1.after B1.out⟩

set_option maxHeartbeats 2000000 in
/-- less. -/
theorem lessO (p : Nat) (rb : Option Nat) (s : Od) (t : Nat) (w : World) (h : Ot w p rb s) (ht : t ≤ 1000000000000) (hb : s.b.length ≤ 900000000000) :
    Calls Tryz.prog 46 #[.pointer (some ⟨p, 0, none⟩), .int .i64 (t : Int)] w (fun e w' => e = .returned (.int .i64 ((oLess (s, t)).2 : Int)) ∧ OR w p rb (oLess (s, t)).1 w') := by
  have HO := hidden h
  obtain ⟨v, h⟩ := h
  obtain ⟨a1, c1, rfl⟩ := owns_form h.row
  obtain ⟨B, ok⟩ := s
  simp only at h hb
  obtain ⟨k, hk⟩ : ∃ k, B.length = k := ⟨_, rfl⟩
  replace h : OV w p rb ⟨B, ok⟩ (.slice a1 k c1) := by rw [← hk]; exact h
  have f0 := h.blk.frozen 0
  have c0 : w.cell? ⟨p, 0, none⟩ = some (.slice a1 k c1) := h.blk.cell 0
  have HV := hidden h
  have HK := hidden hk
  rw [hk] at hb
  clear h hk
  by_cases hle : t + k ≤ 1048576
  · have e : oLess (⟨B, ok⟩, t) = (⟨B, ok⟩, t) := by unfold oLess; rw [if_pos (by have := HK.out; simp only; omega)]
    rw [e]
    have hle' : (t : Int) + (k : Int) ≤ 1048576 := by omega
    go_enter Tryz.func46, Tryz.ntmps46
    go_wp2_with fail
    go_ret
    exact ⟨rfl, OR.refl HO.out⟩
  · have e : oLess (⟨B, ok⟩, t) = (⟨[], ok⟩, t + k) := by unfold oLess; rw [if_neg (by have := HK.out; simp only; omega)]; simp only [HK.out]
    rw [e]
    have hle' : ¬ (t : Int) + (k : Int) ≤ 1048576 := by omega
    go_enter Tryz.func46, Tryz.ntmps46
    go_wp2_with fail
    go_ret
    refine ⟨by simp, none, ⟨.slice none 0 0, ?_⟩, (Chg.set ⟨p, 0, none⟩ _ w).mono (fun i _ hi => .inl hi), ?_⟩
    · exact ⟨fun h => (by cases h), rfl, HV.out.blk.set 0 _, World.ownsRow_nil _ _ _ _, fun n hn => (by cases hn)⟩
    · exact fun g hg => (by cases hg)

end Go.Proofs.YtalmpmhnkilalaaGreatDoor
