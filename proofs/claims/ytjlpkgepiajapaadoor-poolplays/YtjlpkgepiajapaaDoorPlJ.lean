/-
  The laws of package pool: what is shown.
-/
import Derived.Test.YtjlpkgepiajapaaDoorPlI
namespace Go.Proofs.YtjlpkgepiajapaaDoor
open Go.RowKit
set_option linter.unusedVariables false
set_option linter.unusedSimpArgs false

/-- Bytes that a call gave. -/
def Sb (w : World) (ga n : Nat) (l : List Int) : Prop := Sl w (some ⟨ga, 0, none⟩) n l ∧ Tg w ga 5
theorem Tg.lt {w : World} {i : Nat} {t : TypeId} (h : Tg w i t) : i < w.heap.size := by
  obtain ⟨cs, fr, h⟩ := h
  exact (Array.getElem?_eq_some_iff.1 h).1
theorem Sb.kp {base : Nat} {w w' : World} {ga n : Nat} {l : List Int} (h : Sb w ga n l) (k : Kp base w w') : Sb w' ga n l := by
  have hF : ¬ KF base w ga := fun hF => absurd (hF.2 5 h.2) (by decide)
  refine ⟨Chg.sl k h.1 (fun x hx _ => by injection hx with hx; subst hx; exact hF), ?_⟩
  obtain ⟨cs, fr, e⟩ := h.2
  exact ⟨cs, fr, by rw [k.block ga h.2.lt hF]; exact e⟩
theorem Sb.later {w w' : World} {ga n : Nat} {l : List Int} (h : Sb w ga n l) (k : Below w.heap.size w w') : Sb w' ga n l := h.kp (base := 0) (Chg.of_below k)
theorem get_is (k : Int) (i : Nat) (o d : ByteArray) (m base p n : Nat) (st : Sx) (w : World) (h : PB base w p n st) (ha : atS st n k = some (i, o, d)) (hm : d.size = m) :
    Calls Tryd.prog 12 #[.pointer (some ⟨p, 0, none⟩), .int .i64 k] w fun e w' => ∃ ga c, e = .returned (.tuple #[.slice (some ⟨ga, 0, none⟩) m c, .int .i64 0]) ∧ Sb w' ga m (bts d) ∧ Below w.heap.size w w' := by
  subst hm
  refine (getB k base p n st w h).mono fun e w' ⟨b, h2⟩ => ?_
  rcases h2 with ⟨h3, _⟩ | ⟨i', o', d', ga, c, h3, h4, _, h5, h6⟩
  · rw [ha] at h3; cases h3
  · rw [ha] at h3
    injection h3 with h3
    injection h3 with h3 h7
    injection h7 with h7 h8
    subst h8
    exact ⟨ga, c, h4, ⟨h5, h6⟩, b⟩
theorem get_no (k : Int) (base p n : Nat) (st : Sx) (w : World) (h : PB base w p n st) (ha : atS st n k = none) :
    Calls Tryd.prog 12 #[.pointer (some ⟨p, 0, none⟩), .int .i64 k] w fun e w' => e = .returned (.tuple #[.slice none 0 0, .int .i64 111]) ∧ Below w.heap.size w w' := by
  refine (getB k base p n st w h).mono fun e w' ⟨b, h2⟩ => ?_
  rcases h2 with ⟨h3, h4⟩ | ⟨i', o', d', ga, c, h3, h4, _, h5, h6⟩
  · exact ⟨h4, b⟩
  · rw [ha] at h3; cases h3

def t0 : Sx := fun _ => none
def t1 : Sx := takeS t0 2 ⟨#[97]⟩
def t2 : Sx := takeS t1 2 ⟨#[98]⟩
def t3 : Sx := takeS t2 2 ⟨#[97]⟩
def t4 : Sx := (putS t3 2 0 [120]).2
def t5 : Sx := (giveS t4 2 0).2
def t6 : Sx := takeS t5 2 ⟨#[98]⟩
def t7 : Sx := drpS t6 ⟨#[98]⟩
theorem v1 : takeV t0 2 = .tuple #[.int .i64 0, .int .i64 0] := by kernel_rfl
theorem v2 : takeV t1 2 = .tuple #[.int .i64 1, .int .i64 0] := by kernel_rfl
theorem v3 : takeV t2 2 = .tuple #[.int .i64 0, .int .i64 110] := by kernel_rfl
theorem v4 : (putS t3 2 0 [120]).1 = 0 := by kernel_rfl
theorem v4g : atS t4 2 0 = some (0, ⟨#[97]⟩, ⟨#[120]⟩) := by kernel_rfl
theorem v5 : (giveS t4 2 0).1 = 0 := by kernel_rfl
theorem v5g : atS t5 2 0 = none := by kernel_rfl
theorem v6 : takeV t5 2 = .tuple #[.int .i64 0, .int .i64 0] := by kernel_rfl
theorem v6g : atS t6 2 0 = some (0, ⟨#[98]⟩, ⟨#[]⟩) := by kernel_rfl
theorem v6u : ((setL t6 2 ⟨#[98]⟩).length : Int) = 2 := by kernel_rfl
theorem v6l : ((2 - (tkL t6 2).length : Nat) : Int) = 0 := by kernel_rfl
theorem v7l : ((2 - (tkL t7 2).length : Nat) : Int) = 2 := by kernel_rfl
theorem x1 : strOfNums (bts ⟨#[120]⟩) = ⟨#[120]⟩ := by kernel_rfl
theorem constBytes (w : World) (C : Array Value) (n c g : Nat) (hg : g = w.heap.size) : (convert 40 40 (.slice (some ⟨g, 0, none⟩) n c)).run Tryd.prog (w.alloc (.cells C 5)) = .ok (.slice (some ⟨g, 0, none⟩) n c) (w.alloc (.cells C 5 (C.size, C.size + 1))) := by
  subst hg
  exact Lib.run_convert_bytes_const (P := Tryd.prog) w 40 5 C n c Tryd.underlying40 Tryd.underlying5

theorem take_is (o : ByteArray) (base p n : Nat) (st st' : Sx) (v : Value) (w : World) (h : PB base w p n st) (hG : Gv w) (hv : takeV st n = v) (hs : takeS st n o = st') :
    Calls Tryd.prog 11 #[.pointer (some ⟨p, 0, none⟩), .string o] w fun e w' => e = .returned v ∧ PB base w' p n st' ∧ Kp base w w' := by
  rw [← hv, ← hs]
  exact takeB o base p n st w h hG

set_option maxRecDepth 100000 in
set_option maxHeartbeats 8000000 in
theorem shownP (w : World) (hG : Gv w) (hw : 0 < w.heap.size) : Calls Tryd.prog 5 #[] w fun e w' => e = .returned (.bool true) ∧ Below w.heap.size w w' := by
  have HG := hidden hG
  have HW := hidden hw
  clear hG hw
  go_enter Tryd.func5, Tryd.ntmps5
  go_wp2_with fail
  refine (newB 2 (by omega) (by omega) w HW.out).mono ?_
  rintro e wa ⟨p, rfl, hp, ba⟩
  have HP0 : Hid (PB w.heap.size wa p 2 t0) := hidden hp
  have BA := hidden ba
  have G0 := hidden (HG.out.later ba)
  clear hp ba
  go_wp2_with fail
  refine (newBad 0 (by omega) wa).mono ?_
  rintro e wb ⟨rfl, rfl⟩
  go_wp2_with fail
  refine (take_is _ _ p 2 t0 t1 _ wb HP0.out G0.out v1 rfl).mono ?_
  rintro e w1 ⟨rfl, hp, k⟩
  have HP1 := hidden hp
  have B1 := hidden (BA.out.trans (k.bel BA.out.size))
  have G1 := hidden (k.gv HW.out G0.out)
  clear hp k HP0 BA G0
  go_wp2_with fail
  refine (take_is _ _ p 2 t1 t2 _ w1 HP1.out G1.out v2 rfl).mono ?_
  rintro e w2 ⟨rfl, hp, k⟩
  have HP2 := hidden hp
  have B2 := hidden (B1.out.trans (k.bel B1.out.size))
  have G2 := hidden (k.gv HW.out G1.out)
  clear hp k HP1 B1 G1
  go_wp2_with fail
  refine (take_is _ _ p 2 t2 t3 _ w2 HP2.out G2.out v3 rfl).mono ?_
  rintro e w3 ⟨rfl, hp, k⟩
  have HP3 := hidden hp
  have B3 := hidden (B2.out.trans (k.bel B2.out.size))
  have G3 := hidden (k.gv HW.out G2.out)
  clear hp k HP2 B2 G2
  have kc := constBytes
  go_wp2_with fail
  clear kc
  have ba : Below w3.heap.size w3 (w3.alloc (Obj.cells #[Value.int IntKind.u8 120] 5 (1, 2))) := (Below.refl _ _).alloc (Nat.le_refl _) _
  refine (putB 0 _ 1 1 [120] _ p 2 t3 _ (HP3.out.later ba) (sl_lit w3 [120] (by intro x hx; simp at hx; omega) 5 (1, 2) 1 rfl _ rfl _ rfl) (by omega)).mono ?_
  rw [v4]
  rintro e w4 ⟨rfl, hp, k⟩
  have HP4 : Hid (PB w.heap.size w4 p 2 t4) := hidden hp
  have B4 := hidden ((B3.out.trans (ba.mono B3.out.size)).trans (k.bel (Nat.le_trans B3.out.size ba.size)))
  have G4 := hidden (k.gv HW.out (G3.out.later ba))
  clear hp k ba HP3 B3 G3
  go_wp2_with fail
  refine (get_is 0 0 _ _ 1 _ p 2 t4 w4 HP4.out v4g rfl).mono ?_
  rintro e w5 ⟨ga, ca, rfl, s5, b⟩
  have HP5 := hidden (HP4.out.later b)
  have B5 := hidden (B4.out.trans (b.mono B4.out.size))
  have G5 := hidden (G4.out.later b)
  have S5 := hidden s5
  clear s5 b HP4 B4 G4
  go_wp2_with fail
  refine (giveB 0 _ p 2 t4 w5 HP5.out).mono ?_
  rw [v5]
  rintro e w6 ⟨rfl, hp, k⟩
  have HP6 : Hid (PB w.heap.size w6 p 2 t5) := hidden hp
  have B6 := hidden (B5.out.trans (k.bel B5.out.size))
  have G6 := hidden (k.gv HW.out G5.out)
  have S6 := hidden (S5.out.kp k)
  clear hp k HP5 B5 G5 S5
  go_wp2_with fail
  refine (get_no 0 _ p 2 t5 w6 HP6.out v5g).mono ?_
  rintro e w7 ⟨rfl, b⟩
  have HP7 := hidden (HP6.out.later b)
  have B7 := hidden (B6.out.trans (b.mono B6.out.size))
  have G7 := hidden (G6.out.later b)
  have S7 := hidden (S6.out.later b)
  clear b HP6 B6 G6 S6
  go_wp2_with fail
  refine (take_is _ _ p 2 t5 t6 _ w7 HP7.out G7.out v6 rfl).mono ?_
  rintro e w8 ⟨rfl, hp, k⟩
  have HP8 := hidden hp
  have B8 := hidden (B7.out.trans (k.bel B7.out.size))
  have G8 := hidden (k.gv HW.out G7.out)
  have S8 := hidden (S7.out.kp k)
  clear hp k HP7 B7 G7 S7
  go_wp2_with fail
  refine (get_is 0 0 _ _ 0 _ p 2 t6 w8 HP8.out v6g rfl).mono ?_
  rintro e w9 ⟨gb, cb, rfl, -, b⟩
  have HP9 := hidden (HP8.out.later b)
  have B9 := hidden (B8.out.trans (b.mono B8.out.size))
  have G9 := hidden (G8.out.later b)
  have hcv : (convert 40 9 (.slice (some ⟨ga, 0, none⟩) 1 ca)).run Tryd.prog w9 = .ok (.string ⟨#[120]⟩) w9 := by
    rw [← x1]
    exact run_string_of 40 5 9 Tryd.underlying40 Tryd.underlying5 Tryd.underlying9 (S8.out.later b).1
  clear b HP8 B8 G8 S8
  go_wp2_with fail
  refine (usedB _ _ p 2 t6 w9 HP9.out).mono ?_
  rw [v6u]
  rintro e wx ⟨rfl, rfl⟩
  clear hcv
  go_wp2_with fail
  refine (leftB _ p 2 t6 wx HP9.out).mono ?_
  rw [v6l]
  rintro e wa1 ⟨rfl, b⟩
  have HPa := hidden (HP9.out.later b)
  have Ba := hidden (B9.out.trans (b.mono B9.out.size))
  clear b HP9 B9 G9
  go_wp2_with fail
  refine (dropB _ _ p 2 t6 wa1 HPa.out).mono ?_
  rw [v6u]
  rintro e wa2 ⟨rfl, hp, k⟩
  have HPb : Hid (PB w.heap.size wa2 p 2 t7) := hidden hp
  have Bb := hidden (Ba.out.trans (k.bel Ba.out.size))
  clear hp k HPa Ba
  go_wp2_with fail
  refine (leftB _ p 2 t7 wa2 HPb.out).mono ?_
  rw [v7l]
  rintro e wa3 ⟨rfl, b⟩
  have Bc := hidden (Bb.out.trans (b.mono Bb.out.size))
  clear b HPb Bb
  go_wp2_with fail
  go_ret
  exact ⟨rfl, Bc.out⟩

end Go.Proofs.YtjlpkgepiajapaaDoor
