/-
  FramePuts: regions that draw their order.
-/
import Derived.Test.YtiaopgphjailiaaGetW
namespace Go.Proofs.Ytiaopgphjailiaa
open Go Go.RowKit
set_option linter.unusedVariables false
set_option linter.unusedSimpArgs false

/-- What Put answers. -/
def putN (B D : List Int) : Nat := if D.length ≤ 4194304 then B.length + (D.length + 9) else 0
def putL (B : List Int) (k : Int) (D : List Int) : List Int := if D.length ≤ 4194304 then B ++ made k D else []
def putE (D : List Int) : Int := if D.length ≤ 4194304 then 0 else 50
theorem put_all (ab : Option Addr) (lb cb : Nat) (B : List Int) (k : Int) (ad : Option Addr) (ld cd : Nat) (D : List Int) (w : World) (hsb : Sl w ab lb B) (hk : 0 ≤ k ∧ k ≤ 255) (hsd : Sl w ad ld D) (hnd : ad = none → ld = 0 ∧ cd = 0) (hb : lb ≤ 70368744177664) (hd : ld ≤ 70368744177664) :
    Calls Try.prog 10 #[.slice ab lb cb, .int .u8 k, .slice ad ld cd] w fun e w' => ∃ ag c, e = .returned (.tuple #[.slice ag (putN B D) c, .int .i64 (putE D)]) ∧ Bld w w' (.slice ag (putN B D) c) (putN B D) (putL B k D) := by
  have hl := hsd.len
  have hlb := hsb.len
  unfold putN putE putL
  by_cases h : ld ≤ 4194304
  · rw [if_pos (by omega), if_pos (by omega), if_pos (by omega), hl, hlb]
    exact put_any ab lb cb B k ad ld cd D w hsb hk hsd hnd hb h
  · rw [if_neg (by omega), if_neg (by omega), if_neg (by omega)]
    refine (put_big ab lb cb k ad ld cd w (by omega) (by omega)).mono ?_
    rintro e w' ⟨rfl, rfl⟩
    exact ⟨none, 0, rfl, World.ownsRow_nil _ _ _ _, Below.refl _ _, fun g hg => by cases hg⟩
theorem refPut_all (ab : Option Addr) (lb cb : Nat) (B : List Int) (k : Int) (ad : Option Addr) (ld cd : Nat) (D : List Int) (w : World) (hsb : Sl w ab lb B) (hnb : ab = none → lb = 0 ∧ cb = 0) (hk : 0 ≤ k ∧ k ≤ 255) (hsd : Sl w ad ld D) (hnd : ad = none → ld = 0 ∧ cd = 0) (hb : lb ≤ 70368744177664) (hd : ld ≤ 70368744177664) :
    Calls Try.prog 12 #[.slice ab lb cb, .int .u8 k, .slice ad ld cd] w fun e w' => ∃ ag c, e = .returned (.tuple #[.slice ag (putN B D) c, .int .i64 (putE D)]) ∧ Bld w w' (.slice ag (putN B D) c) (putN B D) (putL B k D) := by
  have hl := hsd.len
  have hlb := hsb.len
  unfold putN putE putL
  by_cases h : ld ≤ 4194304
  · rw [if_pos (by omega), if_pos (by omega), if_pos (by omega), hl, hlb]
    exact refPut_any ab lb cb B k ad ld cd D w hsb hnb hk hsd hnd hb h
  · rw [if_neg (by omega), if_neg (by omega), if_neg (by omega)]
    refine (refPut_big ab lb cb k ad ld cd w (by omega) (by omega)).mono ?_
    rintro e w' ⟨rfl, rfl⟩
    exact ⟨none, 0, rfl, World.ownsRow_nil _ _ _ _, Below.refl _ _, fun g hg => by cases hg⟩
theorem putL_byte {B : List Int} {k : Int} {D : List Int} (hB : Byte B) (hk : 0 ≤ k ∧ k ≤ 255) (hD : Byte D) : Byte (putL B k D) := by
  unfold putL
  split
  · exact hB.append (made_byte hk hD)
  · exact fun z hz => absurd hz (by simp)

/-- A pair that came out. -/
def TupE (B n : Nat) (xs : List Int) (er : Int) (v : Value) (w : World) : Prop := ∃ ad c, v = .tuple #[.slice ad n c, .int .i64 er] ∧ w.ownsRow B 5 1 (.slice ad n c) n (cells8 xs)
theorem TupE.later {B n : Nat} {xs : List Int} {er : Int} {v : Value} {w w' : World} (h : TupE B n xs er v w) (hb : Lat w w') : TupE B n xs er v w' := by
  obtain ⟨ad, c, rfl, ho⟩ := h
  exact ⟨ad, c, rfl, (Chg.of_below (F := fun _ => False) hb).owns ho (fun _ _ h => h)⟩
def tupE (B n : Nat) (xs : List Int) (er : Int) : Ent Lat := ⟨TupE B n xs er, fun _ _ _ h k => h.later k⟩

set_option maxRecDepth 100000 in
set_option maxHeartbeats 2000000 in
theorem puts_r6 (gx gy lb ld cb cd : Nat) (ab ad0 : Option Addr) (k : Int) (B n : Nat) (xs : List Int) (er : Int) (w : World) (a0 : Act) (Q : Exit → Act → World → Prop) (hsz : a0.tmps.size = 149)
    (s10 : a0.tmps.getD 10 undef = .slice (some ⟨gx, 0, none⟩) (lb + 8) (lb + 8))
    (s11 : a0.tmps.getD 11 undef = .slice (some ⟨gy, 0, none⟩) (ld + 8) (ld + 8))
    (s0 : a0.tmps.getD 0 undef = .slice ab lb cb)
    (s2 : a0.tmps.getD 2 undef = .slice ad0 ld cd)
    (s1 : a0.tmps.getD 1 undef = .int .u8 k)
    (hcx : ¬ ((lb : Int) + 8 < (lb : Int)))
    (hcy : ¬ ((ld : Int) + 8 < (ld : Int)))
    (h10 : ∀ w1, Lat w w1 → Calls Try.prog 10 #[.slice (some ⟨gx, 0, none⟩) lb (lb + 8), .int .u8 k, .slice (some ⟨gy, 0, none⟩) ld (ld + 8)] w1 fun e w2 => ∃ v, e = .returned v ∧ Lat w1 w2 ∧ TupE B n xs er v w2)
    (hQ : ∀ (v42 v43 v44 v45 v46 v47 v48 v49 v50 v51 v41 v52 v53 v12 v13 : Value) (w1 : World), Lat w w1 → RowE B n xs v12 w1 ∧ v13 = .int .i64 er → Q .normal (((((((((((((((a0.put (some 42) v42).put (some 43) v43).put (some 44) v44).put (some 45) v45).put (some 46) v46).put (some 47) v47).put (some 48) v48).put (some 49) v49).put (some 50) v50).put (some 51) v51).put (some 41) v41).put (some 52) v52).put (some 53) v53).put (some 12) v12).put (some 13) v13) w1) :
    Code.wp Try.prog ((Try.f3.body.bind (findRegion 6)).getD .skip) Q a0 w := by
  conv => arg 2; whnf
  refine wp_region_inv Lat (TE [Ent.val (.slice (some ⟨gx, 0, none⟩) (lb + 8) (lb + 8)), Ent.val (.slice ab lb cb), Ent.val (.int .i64 (lb : Int)), Ent.val (.slice (some ⟨gx, 0, none⟩) lb (lb + 8)), Ent.val (.int .u8 k), Ent.val (.slice (some ⟨gy, 0, none⟩) (ld + 8) (ld + 8)), Ent.val (.slice ad0 ld cd), Ent.val (.int .i64 (ld : Int)), Ent.val (.slice (some ⟨gy, 0, none⟩) ld (ld + 8)), tupE B n xs er, tupE B n xs er, rowE B n xs, Ent.val (.int .i64 er), rowE B n xs, Ent.val (.int .i64 er)]) (by kernel_rfl) (by kernel_rfl) (by kernel_rfl) (by rw [hsz]; kernel_rfl) (by kernel_rfl) Lat.refl Lat.trans (TE_stable _) (Lat.draw w) ?hop ?hdone
  case hdone =>
    intro a w1 hL hS hT
    have he := same_puts hS
    rw [he]
    exact hQ (a.tmps.getD 42 undef) (a.tmps.getD 43 undef) (a.tmps.getD 44 undef) (a.tmps.getD 45 undef) (a.tmps.getD 46 undef) (a.tmps.getD 47 undef) (a.tmps.getD 48 undef) (a.tmps.getD 49 undef) (a.tmps.getD 50 undef) (a.tmps.getD 51 undef) (a.tmps.getD 41 undef) (a.tmps.getD 52 undef) (a.tmps.getD 53 undef) (a.tmps.getD 12 undef) (a.tmps.getD 13 undef) w1 hL (⟨hT 13 _ rfl, hT 14 _ rfl⟩)
  case hop =>
    intro i o hi
    have hlt : i < 15 := (Array.getElem?_eq_some_iff.1 hi).1
    rcases (show i = 0 ∨ i = 1 ∨ i = 2 ∨ i = 3 ∨ i = 4 ∨ i = 5 ∨ i = 6 ∨ i = 7 ∨ i = 8 ∨ i = 9 ∨ i = 10 ∨ i = 11 ∨ i = 12 ∨ i = 13 ∨ i = 14 by omega) with rfl | rfl | rfl | rfl | rfl | rfl | rfl | rfl | rfl | rfl | rfl | rfl | rfl | rfl | rfl
    · obtain rfl := Option.some.inj hi
      clear hi hlt
      intro a w1 hL hS hD
      have e10 : a.tmps.getD 10 undef = .slice (some ⟨gx, 0, none⟩) (lb + 8) (lb + 8) := (hS.slot 10 (by kernel_rfl)).trans s10
      refine step_yes rfl ?_
      exact ok_value Lat.refl (.slice (some ⟨gx, 0, none⟩) (lb + 8) (lb + 8)) (by simp [execOp, Act.eval, e10, go_sem]) rfl
    · obtain rfl := Option.some.inj hi
      clear hi hlt
      intro a w1 hL hS hD
      have e0 : a.tmps.getD 0 undef = .slice ab lb cb := (hS.slot 0 (by kernel_rfl)).trans s0
      refine step_yes rfl ?_
      exact ok_value Lat.refl (.slice ab lb cb) (by simp [execOp, Act.eval, e0, go_sem]) rfl
    · obtain rfl := Option.some.inj hi
      clear hi hlt
      intro a w1 hL hS hD
      have d1 : a.tmps.getD 43 undef = .slice ab lb cb := hD ⟨1, .data⟩ (by simp) rfl _ rfl
      refine step_yes rfl ?_
      exact ok_value Lat.refl (.int .i64 (lb : Int)) (by simp [execOp, Act.eval, d1, go_sem]) rfl
    · obtain rfl := Option.some.inj hi
      clear hi hlt
      intro a w1 hL hS hD
      have d0 : a.tmps.getD 42 undef = .slice (some ⟨gx, 0, none⟩) (lb + 8) (lb + 8) := hD ⟨0, .data⟩ (by simp) rfl _ rfl
      have d2 : a.tmps.getD 44 undef = .int .i64 (lb : Int) := hD ⟨2, .data⟩ (by simp) rfl _ rfl
      refine step_yes rfl ?_
      exact ok_value Lat.refl (.slice (some ⟨gx, 0, none⟩) lb (lb + 8)) (by simp [execOp, Act.eval, d0, d2, hcx, go_sem]) rfl
    · obtain rfl := Option.some.inj hi
      clear hi hlt
      intro a w1 hL hS hD
      have e1 : a.tmps.getD 1 undef = .int .u8 k := (hS.slot 1 (by kernel_rfl)).trans s1
      refine step_yes rfl ?_
      exact ok_value Lat.refl (.int .u8 k) (by simp [execOp, Act.eval, e1, go_sem]) rfl
    · obtain rfl := Option.some.inj hi
      clear hi hlt
      intro a w1 hL hS hD
      have e11 : a.tmps.getD 11 undef = .slice (some ⟨gy, 0, none⟩) (ld + 8) (ld + 8) := (hS.slot 11 (by kernel_rfl)).trans s11
      refine step_yes rfl ?_
      exact ok_value Lat.refl (.slice (some ⟨gy, 0, none⟩) (ld + 8) (ld + 8)) (by simp [execOp, Act.eval, e11, go_sem]) rfl
    · obtain rfl := Option.some.inj hi
      clear hi hlt
      intro a w1 hL hS hD
      have e2 : a.tmps.getD 2 undef = .slice ad0 ld cd := (hS.slot 2 (by kernel_rfl)).trans s2
      refine step_yes rfl ?_
      exact ok_value Lat.refl (.slice ad0 ld cd) (by simp [execOp, Act.eval, e2, go_sem]) rfl
    · obtain rfl := Option.some.inj hi
      clear hi hlt
      intro a w1 hL hS hD
      have d6 : a.tmps.getD 48 undef = .slice ad0 ld cd := hD ⟨6, .data⟩ (by simp) rfl _ rfl
      refine step_yes rfl ?_
      exact ok_value Lat.refl (.int .i64 (ld : Int)) (by simp [execOp, Act.eval, d6, go_sem]) rfl
    · obtain rfl := Option.some.inj hi
      clear hi hlt
      intro a w1 hL hS hD
      have d5 : a.tmps.getD 47 undef = .slice (some ⟨gy, 0, none⟩) (ld + 8) (ld + 8) := hD ⟨5, .data⟩ (by simp) rfl _ rfl
      have d7 : a.tmps.getD 49 undef = .int .i64 (ld : Int) := hD ⟨7, .data⟩ (by simp) rfl _ rfl
      refine step_yes rfl ?_
      exact ok_value Lat.refl (.slice (some ⟨gy, 0, none⟩) ld (ld + 8)) (by simp [execOp, Act.eval, d5, d7, hcy, go_sem]) rfl
    · obtain rfl := Option.some.inj hi
      clear hi hlt
      intro a w1 hL hS hD
      have d3 : a.tmps.getD 45 undef = .slice (some ⟨gx, 0, none⟩) lb (lb + 8) := hD ⟨3, .data⟩ (by simp) rfl _ rfl
      have d4 : a.tmps.getD 46 undef = .int .u8 k := hD ⟨4, .data⟩ (by simp) rfl _ rfl
      have d8 : a.tmps.getD 50 undef = .slice (some ⟨gy, 0, none⟩) ld (ld + 8) := hD ⟨8, .data⟩ (by simp) rfl _ rfl
      refine step_yes rfl ?_
      refine ok_call (f := 10) (args := #[.slice (some ⟨gx, 0, none⟩) lb (lb + 8), .int .u8 k, .slice (some ⟨gy, 0, none⟩) ld (ld + 8)]) (by simp [execOp, resolve, Act.eval, d3, d4, d8, go_sem]) ?_
      refine (h10 w1 hL).mono ?_
      rintro e w2 ⟨v, rfl, hb, hr⟩
      exact ⟨v, rfl, hb, hr⟩
    · obtain rfl := Option.some.inj hi
      clear hi hlt
      intro a w1 hL hS hD
      have d9 := hD ⟨9, .data⟩ (by simp) rfl _ rfl
      refine step_yes rfl ?_
      refine ok_value Lat.refl (a.tmps.getD 51 undef) (by simp [execOp, Act.eval, go_sem]) d9
    · obtain rfl := Option.some.inj hi
      clear hi hlt
      intro a w1 hL hS hD
      have d10 := hD ⟨10, .data⟩ (by simp) rfl _ rfl
      refine step_yes rfl ?_
      obtain ⟨ad, c, e, ho⟩ := d10
      have e' : a.tmps.getD 41 undef = .tuple #[.slice ad n c, .int .i64 er] := e
      refine ok_value Lat.refl (.slice ad n c) (by simp [execOp, Act.eval, e', go_sem]) ⟨ad, c, rfl, ho⟩
    · obtain rfl := Option.some.inj hi
      clear hi hlt
      intro a w1 hL hS hD
      have d10 := hD ⟨10, .data⟩ (by simp) rfl _ rfl
      refine step_yes rfl ?_
      obtain ⟨ad, c, e, ho⟩ := d10
      have e' : a.tmps.getD 41 undef = .tuple #[.slice ad n c, .int .i64 er] := e
      exact ok_value Lat.refl (.int .i64 er) (by simp [execOp, Act.eval, e', go_sem]) rfl
    · obtain rfl := Option.some.inj hi
      clear hi hlt
      intro a w1 hL hS hD
      have d11 := hD ⟨11, .data⟩ (by simp) rfl _ rfl
      refine step_yes rfl ?_
      refine ok_value Lat.refl (a.tmps.getD 52 undef) (by simp [execOp, Act.eval, go_sem]) d11
    · obtain rfl := Option.some.inj hi
      clear hi hlt
      intro a w1 hL hS hD
      have d12 : a.tmps.getD 53 undef = .int .i64 er := hD ⟨12, .data⟩ (by simp) rfl _ rfl
      refine step_yes rfl ?_
      exact ok_value Lat.refl (.int .i64 er) (by simp [execOp, Act.eval, d12, go_sem]) rfl

set_option maxRecDepth 100000 in
set_option maxHeartbeats 2000000 in
theorem puts_r7 (gx gy lb ld cb cd : Nat) (ab ad0 : Option Addr) (k : Int) (B n : Nat) (xs : List Int) (er : Int) (w : World) (a0 : Act) (Q : Exit → Act → World → Prop) (hsz : a0.tmps.size = 149)
    (s10 : a0.tmps.getD 10 undef = .slice (some ⟨gx, 0, none⟩) (lb + 8) (lb + 8))
    (s11 : a0.tmps.getD 11 undef = .slice (some ⟨gy, 0, none⟩) (ld + 8) (ld + 8))
    (s0 : a0.tmps.getD 0 undef = .slice ab lb cb)
    (s2 : a0.tmps.getD 2 undef = .slice ad0 ld cd)
    (s1 : a0.tmps.getD 1 undef = .int .u8 k)
    (hcx : ¬ ((lb : Int) + 8 < (lb : Int)))
    (hcy : ¬ ((ld : Int) + 8 < (ld : Int)))
    (h10 : ∀ w1, Lat w w1 → Calls Try.prog 10 #[.slice (some ⟨gx, 0, none⟩) lb (lb + 8), .int .u8 k, .slice (some ⟨gy, 0, none⟩) ld (ld + 8)] w1 fun e w2 => ∃ v, e = .returned v ∧ Lat w1 w2 ∧ TupE B n xs er v w2)
    (hQ : ∀ (v55 v56 v57 v58 v59 v60 v61 v62 v63 v64 v54 v65 v66 v14 v15 : Value) (w1 : World), Lat w w1 → RowE B n xs v14 w1 ∧ v15 = .int .i64 er → Q .normal (((((((((((((((a0.put (some 55) v55).put (some 56) v56).put (some 57) v57).put (some 58) v58).put (some 59) v59).put (some 60) v60).put (some 61) v61).put (some 62) v62).put (some 63) v63).put (some 64) v64).put (some 54) v54).put (some 65) v65).put (some 66) v66).put (some 14) v14).put (some 15) v15) w1) :
    Code.wp Try.prog ((Try.f3.body.bind (findRegion 7)).getD .skip) Q a0 w := by
  conv => arg 2; whnf
  refine wp_region_inv Lat (TE [Ent.val (.slice (some ⟨gx, 0, none⟩) (lb + 8) (lb + 8)), Ent.val (.slice ab lb cb), Ent.val (.int .i64 (lb : Int)), Ent.val (.slice (some ⟨gx, 0, none⟩) lb (lb + 8)), Ent.val (.int .u8 k), Ent.val (.slice (some ⟨gy, 0, none⟩) (ld + 8) (ld + 8)), Ent.val (.slice ad0 ld cd), Ent.val (.int .i64 (ld : Int)), Ent.val (.slice (some ⟨gy, 0, none⟩) ld (ld + 8)), tupE B n xs er, tupE B n xs er, rowE B n xs, Ent.val (.int .i64 er), rowE B n xs, Ent.val (.int .i64 er)]) (by kernel_rfl) (by kernel_rfl) (by kernel_rfl) (by rw [hsz]; kernel_rfl) (by kernel_rfl) Lat.refl Lat.trans (TE_stable _) (Lat.draw w) ?hop ?hdone
  case hdone =>
    intro a w1 hL hS hT
    have he := same_puts hS
    rw [he]
    exact hQ (a.tmps.getD 55 undef) (a.tmps.getD 56 undef) (a.tmps.getD 57 undef) (a.tmps.getD 58 undef) (a.tmps.getD 59 undef) (a.tmps.getD 60 undef) (a.tmps.getD 61 undef) (a.tmps.getD 62 undef) (a.tmps.getD 63 undef) (a.tmps.getD 64 undef) (a.tmps.getD 54 undef) (a.tmps.getD 65 undef) (a.tmps.getD 66 undef) (a.tmps.getD 14 undef) (a.tmps.getD 15 undef) w1 hL (⟨hT 13 _ rfl, hT 14 _ rfl⟩)
  case hop =>
    intro i o hi
    have hlt : i < 15 := (Array.getElem?_eq_some_iff.1 hi).1
    rcases (show i = 0 ∨ i = 1 ∨ i = 2 ∨ i = 3 ∨ i = 4 ∨ i = 5 ∨ i = 6 ∨ i = 7 ∨ i = 8 ∨ i = 9 ∨ i = 10 ∨ i = 11 ∨ i = 12 ∨ i = 13 ∨ i = 14 by omega) with rfl | rfl | rfl | rfl | rfl | rfl | rfl | rfl | rfl | rfl | rfl | rfl | rfl | rfl | rfl
    · obtain rfl := Option.some.inj hi
      clear hi hlt
      intro a w1 hL hS hD
      have e10 : a.tmps.getD 10 undef = .slice (some ⟨gx, 0, none⟩) (lb + 8) (lb + 8) := (hS.slot 10 (by kernel_rfl)).trans s10
      refine step_yes rfl ?_
      exact ok_value Lat.refl (.slice (some ⟨gx, 0, none⟩) (lb + 8) (lb + 8)) (by simp [execOp, Act.eval, e10, go_sem]) rfl
    · obtain rfl := Option.some.inj hi
      clear hi hlt
      intro a w1 hL hS hD
      have e0 : a.tmps.getD 0 undef = .slice ab lb cb := (hS.slot 0 (by kernel_rfl)).trans s0
      refine step_yes rfl ?_
      exact ok_value Lat.refl (.slice ab lb cb) (by simp [execOp, Act.eval, e0, go_sem]) rfl
    · obtain rfl := Option.some.inj hi
      clear hi hlt
      intro a w1 hL hS hD
      have d1 : a.tmps.getD 56 undef = .slice ab lb cb := hD ⟨1, .data⟩ (by simp) rfl _ rfl
      refine step_yes rfl ?_
      exact ok_value Lat.refl (.int .i64 (lb : Int)) (by simp [execOp, Act.eval, d1, go_sem]) rfl
    · obtain rfl := Option.some.inj hi
      clear hi hlt
      intro a w1 hL hS hD
      have d0 : a.tmps.getD 55 undef = .slice (some ⟨gx, 0, none⟩) (lb + 8) (lb + 8) := hD ⟨0, .data⟩ (by simp) rfl _ rfl
      have d2 : a.tmps.getD 57 undef = .int .i64 (lb : Int) := hD ⟨2, .data⟩ (by simp) rfl _ rfl
      refine step_yes rfl ?_
      exact ok_value Lat.refl (.slice (some ⟨gx, 0, none⟩) lb (lb + 8)) (by simp [execOp, Act.eval, d0, d2, hcx, go_sem]) rfl
    · obtain rfl := Option.some.inj hi
      clear hi hlt
      intro a w1 hL hS hD
      have e1 : a.tmps.getD 1 undef = .int .u8 k := (hS.slot 1 (by kernel_rfl)).trans s1
      refine step_yes rfl ?_
      exact ok_value Lat.refl (.int .u8 k) (by simp [execOp, Act.eval, e1, go_sem]) rfl
    · obtain rfl := Option.some.inj hi
      clear hi hlt
      intro a w1 hL hS hD
      have e11 : a.tmps.getD 11 undef = .slice (some ⟨gy, 0, none⟩) (ld + 8) (ld + 8) := (hS.slot 11 (by kernel_rfl)).trans s11
      refine step_yes rfl ?_
      exact ok_value Lat.refl (.slice (some ⟨gy, 0, none⟩) (ld + 8) (ld + 8)) (by simp [execOp, Act.eval, e11, go_sem]) rfl
    · obtain rfl := Option.some.inj hi
      clear hi hlt
      intro a w1 hL hS hD
      have e2 : a.tmps.getD 2 undef = .slice ad0 ld cd := (hS.slot 2 (by kernel_rfl)).trans s2
      refine step_yes rfl ?_
      exact ok_value Lat.refl (.slice ad0 ld cd) (by simp [execOp, Act.eval, e2, go_sem]) rfl
    · obtain rfl := Option.some.inj hi
      clear hi hlt
      intro a w1 hL hS hD
      have d6 : a.tmps.getD 61 undef = .slice ad0 ld cd := hD ⟨6, .data⟩ (by simp) rfl _ rfl
      refine step_yes rfl ?_
      exact ok_value Lat.refl (.int .i64 (ld : Int)) (by simp [execOp, Act.eval, d6, go_sem]) rfl
    · obtain rfl := Option.some.inj hi
      clear hi hlt
      intro a w1 hL hS hD
      have d5 : a.tmps.getD 60 undef = .slice (some ⟨gy, 0, none⟩) (ld + 8) (ld + 8) := hD ⟨5, .data⟩ (by simp) rfl _ rfl
      have d7 : a.tmps.getD 62 undef = .int .i64 (ld : Int) := hD ⟨7, .data⟩ (by simp) rfl _ rfl
      refine step_yes rfl ?_
      exact ok_value Lat.refl (.slice (some ⟨gy, 0, none⟩) ld (ld + 8)) (by simp [execOp, Act.eval, d5, d7, hcy, go_sem]) rfl
    · obtain rfl := Option.some.inj hi
      clear hi hlt
      intro a w1 hL hS hD
      have d3 : a.tmps.getD 58 undef = .slice (some ⟨gx, 0, none⟩) lb (lb + 8) := hD ⟨3, .data⟩ (by simp) rfl _ rfl
      have d4 : a.tmps.getD 59 undef = .int .u8 k := hD ⟨4, .data⟩ (by simp) rfl _ rfl
      have d8 : a.tmps.getD 63 undef = .slice (some ⟨gy, 0, none⟩) ld (ld + 8) := hD ⟨8, .data⟩ (by simp) rfl _ rfl
      refine step_yes rfl ?_
      refine ok_call (f := 10) (args := #[.slice (some ⟨gx, 0, none⟩) lb (lb + 8), .int .u8 k, .slice (some ⟨gy, 0, none⟩) ld (ld + 8)]) (by simp [execOp, resolve, Act.eval, d3, d4, d8, go_sem]) ?_
      refine (h10 w1 hL).mono ?_
      rintro e w2 ⟨v, rfl, hb, hr⟩
      exact ⟨v, rfl, hb, hr⟩
    · obtain rfl := Option.some.inj hi
      clear hi hlt
      intro a w1 hL hS hD
      have d9 := hD ⟨9, .data⟩ (by simp) rfl _ rfl
      refine step_yes rfl ?_
      refine ok_value Lat.refl (a.tmps.getD 64 undef) (by simp [execOp, Act.eval, go_sem]) d9
    · obtain rfl := Option.some.inj hi
      clear hi hlt
      intro a w1 hL hS hD
      have d10 := hD ⟨10, .data⟩ (by simp) rfl _ rfl
      refine step_yes rfl ?_
      obtain ⟨ad, c, e, ho⟩ := d10
      have e' : a.tmps.getD 54 undef = .tuple #[.slice ad n c, .int .i64 er] := e
      refine ok_value Lat.refl (.slice ad n c) (by simp [execOp, Act.eval, e', go_sem]) ⟨ad, c, rfl, ho⟩
    · obtain rfl := Option.some.inj hi
      clear hi hlt
      intro a w1 hL hS hD
      have d10 := hD ⟨10, .data⟩ (by simp) rfl _ rfl
      refine step_yes rfl ?_
      obtain ⟨ad, c, e, ho⟩ := d10
      have e' : a.tmps.getD 54 undef = .tuple #[.slice ad n c, .int .i64 er] := e
      exact ok_value Lat.refl (.int .i64 er) (by simp [execOp, Act.eval, e', go_sem]) rfl
    · obtain rfl := Option.some.inj hi
      clear hi hlt
      intro a w1 hL hS hD
      have d11 := hD ⟨11, .data⟩ (by simp) rfl _ rfl
      refine step_yes rfl ?_
      refine ok_value Lat.refl (a.tmps.getD 65 undef) (by simp [execOp, Act.eval, go_sem]) d11
    · obtain rfl := Option.some.inj hi
      clear hi hlt
      intro a w1 hL hS hD
      have d12 : a.tmps.getD 66 undef = .int .i64 er := hD ⟨12, .data⟩ (by simp) rfl _ rfl
      refine step_yes rfl ?_
      exact ok_value Lat.refl (.int .i64 er) (by simp [execOp, Act.eval, d12, go_sem]) rfl

end Go.Proofs.Ytiaopgphjailiaa
