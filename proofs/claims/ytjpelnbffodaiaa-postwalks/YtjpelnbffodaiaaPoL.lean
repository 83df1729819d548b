/-
  shown: the document's examples.
-/
import Derived.Test.YtjpelnbffodaiaaPoK
namespace Go.Proofs.Ytjpelnbffodaiaa
open Go.RowKit
set_option linter.unusedVariables false
set_option linter.unusedSimpArgs false

theorem ex_and : andF [1, 3, 5] [3, 4, 5] = [3, 5] := by simp [andF, joF, Ris, jF]
theorem ex_or : orF [1, 3, 5] [3, 4, 5] = [1, 3, 4, 5] := by simp [orF, joF, Ris, jF]
theorem ex_not : notF [1, 3, 5] [3, 4, 5] = [1] := by simp [notF, joF, Ris, jF]
theorem ex_has : hasF [1, 3, 5] 3 = true := by simp [hasF, Ris]
theorem ex_has4 : hasF [1, 3, 5] 4 = false := by simp [hasF, Ris]
theorem ex_add : addF [1, 3, 5] 4 = [1, 3, 4, 5] := by simp [addF, orF, joF, Ris, jF]
theorem ex_tak : takF [1, 3, 5] 4 = [1, 3, 5] := by simp [takF, notF, joF, Ris, jF]
theorem ex_ris : Ris [1, 3, 5] := by simp [Ris]
theorem ex_ris2 : Ris [1, 3, 4294967295] := by simp [Ris]
theorem ex_put : putF [1, 3, 4294967295] = [3, 1, 1, 251, 255, 255, 255, 15] := by decide +kernel
theorem ex_get : getF [2, 1, 0, 9] = some ([1, 2], 3) := by decide +kernel
theorem ex_none : andF [1, 1] [3, 4, 5] = [] := by simp [andF, joF, Ris]

theorem wrd_of {l : List Nat} (h : l.all (fun n => decide (n ≤ 4294967295)) = true) : Wrd l := fun n hn => by
  have := List.all_eq_true.1 h n hn
  simpa using this
theorem ar_lit (w : World) (l : List Nat) (n : Nat) (hb : l.all (fun n => decide (n ≤ 4294967295)) = true) (hn : l.length = n) (hm : n ≤ 1000) (C : Array Value) (hC : C = (cells32 l).toArray) (g : Nat) (hg : g = w.heap.size) : Ar (w.alloc (.cells C 23)) (some ⟨g, 0, none⟩) n n l :=
  ⟨sw_lit w l (wrd_of hb) 23 (0, 0) n hn C hC g hg, fun e => absurd e (by simp), Nat.le_refl _, by unfold maxLen; omega⟩

theorem Ar.allocs {w : World} {ad : Option Addr} {n c : Nat} {l : List Nat} (h : Ar w ad n c l) (o : Obj) : Ar (w.alloc o) ad n c l := h.later ((Below.refl _ _).alloc (Nat.le_refl _) _)
theorem allocs {B : Nat} {w w' : World} (h : Below B w w') (hB : B ≤ w.heap.size) (o : Obj) : Below B w (w'.alloc o) := h.alloc (Nat.le_trans hB h.size) _
theorem bt {B : Nat} {w w1 w2 : World} (h : Below B w w1) (hB : B ≤ w.heap.size) (k : Below w1.heap.size w1 w2) : Below B w w2 := h.trans (k.mono (Nat.le_trans hB h.size))

set_option maxRecDepth 100000 in
set_option maxHeartbeats 8000000 in
theorem shownP (w : World) : Calls Try.prog 7 #[] w fun e w' => e = .returned (.bool true) ∧ Below w.heap.size w w' := by
  go_enter Try.func7, Try.ntmps7
  go_wp2_with fail
  have hA : Ar (w.alloc (.cells #[.int .u32 1, .int .u32 3, .int .u32 5] 23)) (some ⟨w.heap.size, 0, none⟩) 3 3 [1, 3, 5] := ar_lit w [1, 3, 5] 3 rfl rfl (by omega) _ rfl _ rfl
  have hB : Ar ((w.alloc (.cells #[.int .u32 1, .int .u32 3, .int .u32 5] 23)).alloc (.cells #[.int .u32 3, .int .u32 4, .int .u32 5] 23)) (some ⟨w.heap.size + 1, 0, none⟩) 3 3 [3, 4, 5] := ar_lit _ [3, 4, 5] 3 rfl rfl (by omega) _ rfl _ (by simp)
  have hA2 := hA.allocs (.cells #[.int .u32 3, .int .u32 4, .int .u32 5] 23)
  have hb0 : Below w.heap.size w ((w.alloc (.cells #[.int .u32 1, .int .u32 3, .int .u32 5] 23)).alloc (.cells #[.int .u32 3, .int .u32 4, .int .u32 5] 23)) := allocs (allocs (Below.refl _ _) (Nat.le_refl _) _) (Nat.le_refl _) _
  generalize (w.alloc (.cells #[.int .u32 1, .int .u32 3, .int .u32 5] 23)).alloc (.cells #[.int .u32 3, .int .u32 4, .int .u32 5] 23) = w1 at *
  have HA := hidden (fun (wx : World) (h : Below w1.heap.size w1 wx) => hA2.later h)
  have HB := hidden (fun (wx : World) (h : Below w1.heap.size w1 wx) => hB.later h)
  have HB0 := hidden hb0
  have B1 := hidden (Below.refl w1.heap.size w1)
  clear hA hA2 hB hb0
  refine (andP w1 _ _ 3 3 3 3 [1, 3, 5] [3, 4, 5] (HA.out _ B1.out) (HB.out _ B1.out) (by omega) (by omega)).mono ?_
  rintro e w2 ⟨a2, c2, rfl, o2, b2⟩
  rw [ex_and] at o2 ⊢
  have O2 := hidden (sw_of_owns o2 (wrd_of rfl))
  have B2 := hidden (bt B1.out (Nat.le_refl _) b2)
  clear o2 b2
  go_wp2_with fail
  refine (sameP _ a2 _ 2 c2 2 2 [3, 5] [3, 5] (O2.out.later ((Below.refl _ _).alloc (Nat.le_refl _) _)) (ar_lit w2 [3, 5] 2 rfl rfl (by omega) _ rfl _ rfl).sw (by omega) (by omega)).mono ?_
  rintro e w3 ⟨rfl, b3⟩
  simp only [decide_true]
  have B3 := hidden (bt (allocs B2.out (Nat.le_refl _) _) (Nat.le_refl _) b3)
  clear b3 O2
  go_wp2_with fail
  refine (orP w3 _ _ 3 3 3 3 [1, 3, 5] [3, 4, 5] (HA.out _ B3.out) (HB.out _ B3.out) (by omega) (by omega)).mono ?_
  rintro e w4 ⟨a4, c4, rfl, o4, b4⟩
  rw [ex_or] at o4 ⊢
  have O4 := hidden (sw_of_owns o4 (wrd_of rfl))
  have B4 := hidden (bt B3.out (Nat.le_refl _) b4)
  clear o4 b4
  go_wp2_with fail
  refine (sameP _ a4 _ 4 c4 4 4 [1, 3, 4, 5] [1, 3, 4, 5] (O4.out.later ((Below.refl _ _).alloc (Nat.le_refl _) _)) (ar_lit w4 [1, 3, 4, 5] 4 rfl rfl (by omega) _ rfl _ rfl).sw (by omega) (by omega)).mono ?_
  rintro e w5 ⟨rfl, b5⟩
  simp only [decide_true]
  have B5 := hidden (bt (allocs B4.out (Nat.le_refl _) _) (Nat.le_refl _) b5)
  clear b5 O4
  go_wp2_with fail
  refine (notP w5 _ _ 3 3 3 3 [1, 3, 5] [3, 4, 5] (HA.out _ B5.out) (HB.out _ B5.out) (by omega) (by omega)).mono ?_
  rintro e w6 ⟨a6, c6, rfl, o6, b6⟩
  rw [ex_not] at o6 ⊢
  have O6 := hidden (sw_of_owns o6 (wrd_of rfl))
  have B6 := hidden (bt B5.out (Nat.le_refl _) b6)
  clear o6 b6
  go_wp2_with fail
  refine (sameP _ a6 _ 1 c6 1 1 [1] [1] (O6.out.later ((Below.refl _ _).alloc (Nat.le_refl _) _)) (ar_lit w6 [1] 1 rfl rfl (by omega) _ rfl _ rfl).sw (by omega) (by omega)).mono ?_
  rintro e w7 ⟨rfl, b7⟩
  simp only [decide_true]
  have B7 := hidden (bt (allocs B6.out (Nat.le_refl _) _) (Nat.le_refl _) b7)
  clear b7 O6
  go_wp2_with fail
  refine (hasP w7 _ 3 3 3 [1, 3, 5] (HA.out _ B7.out).sw (by omega)).mono ?_
  rintro e w8 ⟨rfl, b8⟩
  rw [ex_has]
  have B8 := hidden (bt B7.out (Nat.le_refl _) b8)
  clear b8
  go_wp2_with fail
  refine (addP w8 _ 3 3 4 [1, 3, 5] (HA.out _ B8.out) (by omega) (by omega)).mono ?_
  rintro e w9 ⟨ac, cc, rfl, oc, b9⟩
  rw [ex_add] at oc ⊢
  simp only [ex_has4, ex_ris, decide_true, Bool.true_and, Bool.not_false]
  have OC := hidden (fun (wx : World) (h : Below w9.heap.size w9 wx) => (sw_of_owns oc (wrd_of rfl)).later h)
  have B9 := hidden (bt B8.out (Nat.le_refl _) b9)
  have F9 := hidden (Below.refl w9.heap.size w9)
  clear b9 oc
  go_wp2_with fail
  refine (takeP w9 _ 3 3 4 [1, 3, 5] (HA.out _ B9.out) (by omega) (by omega)).mono ?_
  rintro e w10 ⟨a9, c9, rfl, o9, b10⟩
  rw [ex_tak] at o9 ⊢
  rw [ex_has4]
  have OD := hidden (fun (wx : World) (h : Below w10.heap.size w10 wx) => (sw_of_owns o9 (wrd_of rfl)).later h)
  have B10 := hidden (bt B9.out (Nat.le_refl _) b10)
  have E10 := hidden b10
  have D10 := hidden (Below.refl w10.heap.size w10)
  clear b10 o9
  go_wp2_with fail
  have al10 : Below w10.heap.size w10 (w10.alloc (.cells #[.int .u32 1, .int .u32 3, .int .u32 4294967295] 23)) := (Below.refl _ _).alloc (Nat.le_refl _) _
  refine (putP _ none _ 0 0 3 3 [] [1, 3, 4294967295] (Sl.nil _ _) (fun _ => ⟨rfl, rfl⟩) (by omega) (ar_lit w10 [1, 3, 4294967295] 3 rfl rfl (by omega) _ rfl _ rfl) (by omega)).mono ?_
  rintro e w11 ⟨ae, ce, rfl, oe, b11⟩
  simp only [ex_ris2, if_true, List.nil_append, decide_true] at oe ⊢
  rw [ex_put] at oe ⊢
  have OE := hidden (fun (wx : World) (h : Below w11.heap.size w11 wx) => (sl_of_owns oe (by intro n hn; simp at hn; omega)).later h)
  have G11 := hidden (bt al10 (Nat.le_refl _) b11)
  clear b11 oe al10
  go_wp2_with fail
  have al11 : Below w11.heap.size w11 (w11.alloc (.cells #[.int .u8 2, .int .u8 1, .int .u8 0, .int .u8 9] 5)) := (Below.refl _ _).alloc (Nat.le_refl _) _
  refine (getP _ _ 4 4 [2, 1, 0, 9] (sl_lit w11 [2, 1, 0, 9] (by intro n hn; simp at hn; omega) 5 (0, 0) 4 rfl _ rfl _ rfl) (by omega) (by unfold maxLen; omega) (by omega)).mono ?_
  rintro e w12 ⟨af, cf, rfl, of, b12⟩
  rw [ex_get] at of ⊢
  simp only [Option.getD_some] at of ⊢
  have OF := hidden (fun (wx : World) (h : Below w12.heap.size w12 wx) => (sw_of_owns of (wrd_of rfl)).later h)
  have H12 := hidden (bt al11 (Nat.le_refl _) b12)
  clear b12 of al11
  go_wp2_with fail
  have B11 := hidden (bt B10.out (Nat.le_refl _) G11.out)
  have B12 := hidden (bt B11.out (Nat.le_refl _) H12.out)
  have C12 := hidden (bt (bt E10.out (Nat.le_refl _) G11.out) (Nat.le_refl _) H12.out)
  have D12 := hidden (bt G11.out (Nat.le_refl _) H12.out)
  have al12 : Below w12.heap.size w12 (w12.alloc (.cells #[.int .u32 1, .int .u32 1] 23)) := (Below.refl _ _).alloc (Nat.le_refl _) _
  refine (andP _ _ _ 2 2 3 3 [1, 1] [3, 4, 5] (ar_lit w12 [1, 1] 2 rfl rfl (by omega) _ rfl _ rfl) (HB.out _ (bt B12.out (Nat.le_refl _) al12)) (by omega) (by omega)).mono ?_
  rintro e w13 ⟨ag, cg, rfl, og, b13⟩
  rw [ex_none] at og ⊢
  have Z13 := hidden (bt al12 (Nat.le_refl _) b13)
  clear b13 og al12
  go_wp2_with fail
  have al13 : Below w13.heap.size w13 (w13.alloc (.cells #[.int .u32 1, .int .u32 3, .int .u32 4, .int .u32 5] 23)) := (Below.refl _ _).alloc (Nat.le_refl _) _
  have C13 := hidden (bt C12.out (Nat.le_refl _) Z13.out)
  refine (sameP _ ac _ 4 cc 4 4 [1, 3, 4, 5] [1, 3, 4, 5] (OC.out _ (bt C13.out (Nat.le_refl _) al13)) (ar_lit w13 [1, 3, 4, 5] 4 rfl rfl (by omega) _ rfl _ rfl).sw (by omega) (by omega)).mono ?_
  rintro e w14 ⟨rfl, b14⟩
  simp only [decide_true]
  have Z14 := hidden (bt Z13.out (Nat.le_refl _) (bt al13 (Nat.le_refl _) b14))
  clear b14 al13
  go_wp2_with fail
  refine (sameP w14 a9 _ 3 c9 3 3 [1, 3, 5] [1, 3, 5] (OD.out _ (bt D12.out (Nat.le_refl _) Z14.out)) (HA.out _ (bt B12.out (Nat.le_refl _) Z14.out)).sw (by omega) (by omega)).mono ?_
  rintro e w15 ⟨rfl, b15⟩
  simp only [decide_true]
  have Z15 := hidden (bt Z14.out (Nat.le_refl _) b15)
  clear b15
  go_wp2_with fail
  have al15 : Below w15.heap.size w15 (w15.alloc (.cells #[.int .u32 1, .int .u32 2] 23)) := (Below.refl _ _).alloc (Nat.le_refl _) _
  refine (sameP _ af _ 2 cf 2 2 [1, 2] [1, 2] (OF.out _ (bt Z15.out (Nat.le_refl _) al15)) (ar_lit w15 [1, 2] 2 rfl rfl (by omega) _ rfl _ rfl).sw (by omega) (by omega)).mono ?_
  rintro e w16 ⟨rfl, b16⟩
  simp only [decide_true]
  have Z16 := hidden (bt Z15.out (Nat.le_refl _) (bt al15 (Nat.le_refl _) b16))
  clear b16 al15
  have hstr : (convert 41 9 (.slice ae 8 ce)).run Try.prog w16 = .ok (.string (strOfNums [3, 1, 1, 251, 255, 255, 255, 15])) w16 := run_string_of (P := Try.prog) 41 5 9 Try.underlying41 Try.underlying5 Try.underlying9 (cap := ce) (OE.out _ (bt H12.out (Nat.le_refl _) Z16.out))
  have hE : strOfNums [3, 1, 1, 251, 255, 255, 255, 15] = { data := #[3, 1, 1, 251, 255, 255, 255, 15] } := by rfl
  rw [hE] at hstr
  go_wp2
  go_ret
  exact ⟨rfl, bt HB0.out (Nat.le_refl _) (bt B12.out (Nat.le_refl _) Z16.out)⟩

end Go.Proofs.Ytjpelnbffodaiaa
