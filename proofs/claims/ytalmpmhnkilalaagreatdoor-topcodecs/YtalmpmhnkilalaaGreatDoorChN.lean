/-
  Package chunk: the reader's drift.
-/
import Derived.Test.YtalmpmhnkilalaaGreatDoorChL
namespace Go.Proofs.YtalmpmhnkilalaaGreatDoor
open Go.RowKit
set_option linter.unusedVariables false
set_option linter.unusedSimpArgs false

def RdE {α : Type} (o : Option (α × List Bool)) (d : α) (B' : List Bool) (wg' : Bool) : Prop := (o = none → wg' = true) ∧ ∀ d0 c, o = some (d0, c) → d = d0 ∧ B' = c ∧ wg' = false
/-- What a reader's call leaves, that reads as rd does. -/
def RdR {α : Type} (rd : List Bool → Option (α × List Bool)) (B : List Bool) (wg : Bool) (d : α) (B' : List Bool) (wg' : Bool) : Prop :=
  (wg = true → wg' = true) ∧ (wg = false → RdE (rd B) d B' wg')
theorem tkW_true (n : Nat) (B : List Bool) : tkW n B true = true := by unfold tkW; split <;> rfl
theorem rdW_tk (w s : Nat) (c : List Bool) : RdE (rdW w s c) (sg (tkV w c) w) (tkB w c) (tkW w c false || bdD w (s : Int) c) := by
  unfold RdE rdW tkW bdD tkV tkB
  by_cases h : w ≤ c.length
  · simp only [h, if_true]
    by_cases h2 : fit (sg (vl (c.take w)) w) s
    · simp [h2]
    · simp [h2]
  · simp [h]
/-- The state behind k ones. -/
def DI (B : List Bool) (wg : Bool) (k : Nat) (Bk : List Bool) (wgk : Bool) : Prop := (wg = true → wgk = true) ∧ (wg = false → wgk = false ∧ B = List.replicate k true ++ Bk)
theorem tk1 (B : List Bool) : (B = [] ∧ tkV 1 B = 0 ∧ tkB 1 B = [] ∧ ∀ g, tkW 1 B g = true) ∨ (∃ c, B = false :: c ∧ tkV 1 B = 0 ∧ tkB 1 B = c ∧ ∀ g, tkW 1 B g = g) ∨ (∃ c, B = true :: c ∧ tkV 1 B = 1 ∧ tkB 1 B = c ∧ ∀ g, tkW 1 B g = g) := by
  cases B with
  | nil => left; simp [tkV, tkB, tkW]
  | cons b c =>
    cases b
    · right; left; exact ⟨c, rfl, by simp [tkV, vl], by simp [tkB], by simp [tkW]⟩
    · right; right; exact ⟨c, rfl, by simp [tkV, vl], by simp [tkB], by simp [tkW]⟩
theorem DI.more {B Bk : List Bool} {wg wgk : Bool} {k : Nat} (h : DI B wg k Bk wgk) (h1 : ¬ tkV 1 Bk = 0) : tkV 1 Bk = 1 ∧ DI B wg (k + 1) (tkB 1 Bk) (tkW 1 Bk wgk) := by
  rcases tk1 Bk with ⟨_, h2, _⟩ | ⟨c, _, h2, _⟩ | ⟨c, rfl, h2, h3, h4⟩
  · exact absurd h2 h1
  · exact absurd h2 h1
  · refine ⟨h2, ?_⟩
    rw [h3, h4]
    exact ⟨h.1, fun e => ⟨(h.2 e).1, by rw [(h.2 e).2, List.replicate_succ']; simp⟩⟩
theorem DI.stop {B Bk : List Bool} {wg wgk : Bool} {k n : Nat} {s : Int} (h : DI B wg k Bk wgk) (h1 : tkV 1 Bk = 0) (hk : k = 0 ∧ n = 0 ∧ s = -1 ∨ k = 1 ∧ n = 7 ∧ s = 0 ∨ k = 2 ∧ n = 9 ∧ s = 7 ∨ k = 3 ∧ n = 12 ∧ s = 9) :
    RdR rdD B wg (sg (tkV n (tkB 1 Bk)) n) (tkB n (tkB 1 Bk)) (tkW n (tkB 1 Bk) (tkW 1 Bk wgk) || bdD n s (tkB 1 Bk)) := by
  refine ⟨fun e => ?_, fun e => ?_⟩
  · rw [h.1 e, tkW_true, tkW_true]; rfl
  · obtain ⟨e1, e2⟩ := h.2 e
    subst e1
    rcases tk1 Bk with ⟨rfl, _, h3, h4⟩ | ⟨c, rfl, _, h3, h4⟩ | ⟨c, _, h2, _⟩
    · rw [h4, tkW_true, Bool.true_or, e2]
      refine ⟨fun _ => rfl, fun d0 c h => ?_⟩
      rcases hk with ⟨rfl, _⟩ | ⟨rfl, _⟩ | ⟨rfl, _⟩ | ⟨rfl, _⟩ <;> exact absurd h (by simp [List.replicate, rdD])
    · rw [h3, h4, e2]
      rcases hk with ⟨rfl, rfl, rfl⟩ | ⟨rfl, rfl, rfl⟩ | ⟨rfl, rfl, rfl⟩ | ⟨rfl, rfl, rfl⟩
      · refine ⟨fun h => absurd h (by simp [rdD]), fun d0 c0 h => ?_⟩
        simp only [List.replicate_zero, List.nil_append, rdD] at h
        injection h with h
        injection h with h5 h6
        subst h5 h6
        refine ⟨by simp [tkV, vl, sg, wr], by simp [tkB], by simp [tkW, bdD]⟩
      · exact rdW_tk 7 0 c
      · exact rdW_tk 9 7 c
      · exact rdW_tk 12 9 c
    · rw [h2] at h1; exact absurd h1 (by omega)
theorem DI.last {B Bk : List Bool} {wg wgk : Bool} (h : DI B wg 4 Bk wgk) : RdR rdD B wg (sg (tkV 64 Bk) 64) (tkB 64 Bk) (tkW 64 Bk wgk || bdD 64 12 Bk) := by
  refine ⟨fun e => ?_, fun e => ?_⟩
  · rw [h.1 e, tkW_true]; rfl
  · obtain ⟨e1, e2⟩ := h.2 e
    subst e1
    rw [e2]
    exact rdW_tk 64 12 Bk
theorem tkB_le (n : Nat) (B : List Bool) : (tkB n B).length ≤ B.length := by unfold tkB; split <;> simp

/-- What drift leaves. -/
def DrP (w : World) (r p : Nat) (B : List Bool) (wg : Bool) (e : Ending) (w' : World) : Prop :=
  ∃ d B' wg', e = .returned (.int .i64 d) ∧ I64 d ∧ RdR rdD B wg d B' wg' ∧ XS w' r p B' wg' ∧ Chg (F2 r p) w w'

theorem tk_i64 {n : Nat} {B : List Bool} (hn : n = 0 ∨ n = 7 ∨ n = 9 ∨ n = 12 ∨ n = 64) : I64 (sg (tkV n B) n) := sg_i64 (by
    rcases hn with rfl | hn
    · exact .inl ⟨rfl, by have := tkV_pow (n := 0) (B := B); omega⟩
    · exact .inr ⟨hn, tkV_pow⟩)
def shK (k : Nat) : Int := if k = 0 then -1 else if k = 1 then 0 else if k = 2 then 7 else if k = 3 then 9 else 12

set_option maxRecDepth 100000 in
set_option maxHeartbeats 8000000 in
theorem driftP (w : World) (r p : Nat) (B : List Bool) (wg : Bool) (h : XS w r p B wg) (hG : Gv w) :
    Calls Tryz.prog 214 #[.pointer (some ⟨r, 0, none⟩)] w (DrP w r p B wg) := by
  have HX := hidden h
  have HG := hidden hG
  have HTK : Hid (∀ w1 B1 g1, XS w1 r p B1 g1 → Calls Tryz.prog 217 #[.pointer (some ⟨r, 0, none⟩), .int .i64 1] w1 fun e w' => e = .returned (.int .u64 (tkV 1 B1 : Int)) ∧ XS w' r p (tkB 1 B1) (tkW 1 B1 g1) ∧ Chg (F2 r p) w1 w') := hidden (fun w1 B1 g1 h1 => takeP w1 r p B1 g1 1 h1 (by omega))
  clear h hG
  have g0 := (HG.out.wid 0 (by omega))
  have g1 := (HG.out.wid 1 (by omega))
  have g2 := (HG.out.wid 2 (by omega))
  have g3 := (HG.out.wid 3 (by omega))
  simp [wds] at g0 g1 g2 g3
  go_enter Tryz.func214, Tryz.ntmps214
  go_wp2_with fail
  go_loopw [3, 7] (fun s3 s7 wr => ∃ k : Nat, s7 = .int .i64 (k : Int) ∧ s3 = .int .i64 (shK k) ∧ k ≤ 4 ∧ ∃ Bk wgk, Hid (DI B wg k Bk wgk) ∧ Hid (XS wr r p Bk wgk) ∧ Hid (Chg (F2 r p) w wr)) (fun s3 s7 _ => 4 - (intOf s7).toNat)
  case atStart => exact ⟨0, rfl, rfl, by omega, B, wg, hidden ⟨fun e => e, fun e => ⟨e, by simp⟩⟩, HX, hidden (Chg.refl _ _)⟩
  case round =>
    rename World => wr
    obtain ⟨k, rfl, rfl, hk, Bk, wgk, hI, hX, hC⟩ := hrel
    by_cases hk4 : k < 4
    · have hkz : (k : Int) < 4 := by omega
      have hcase : k = 0 ∨ k = 1 ∨ k = 2 ∨ k = 3 := by omega
      rcases hcase with rfl | rfl | rfl | rfl
      · rw [show ((0 : Nat) : Int) = 0 from rfl]
        have hix := ix0
        have hsh : shK 0 = (-1) := rfl
        rw [hsh]
        go_wp2_with fail
        refine (HTK.out wr Bk wgk hX.out).mono ?_
        rintro e w3 ⟨rfl, h3, hc3⟩
        have H3 := hidden h3
        have HC3 := hidden (hC.out.trans hc3 (fun i _ hi => hi))
        clear h3 hc3
        by_cases h1 : tkV 1 Bk = 0
        · have HS := hidden (hI.out.stop (n := 0) (s := (-1)) h1 (by omega))
          rw [h1]
          go_wp2_with fail
          refine (driftOfP w3 r p _ _ 0 (-1) H3.out (by omega) (by omega)).mono ?_
          rintro e w4 ⟨rfl, h4, hc4⟩
          have H4 := hidden (show DrP w r p B wg (.returned (.int .i64 (sg (tkV 0 (tkB 1 Bk)) 0))) w4 from ⟨_, _, _, rfl, tk_i64 (by omega), HS.out, h4, HC3.out.trans hc4 (fun i _ hi => hi)⟩)
          clear h4 hc4
          go_wp2
          go_ret
          exact H4.out
        · obtain ⟨h2, hM⟩ := hI.out.more h1
          have HM := hidden hM
          rw [h2]
          clear hM h1
          go_wp2
          exact ⟨⟨1, rfl, rfl, by omega, tkB 1 Bk, tkW 1 Bk wgk, HM, H3, HC3⟩, by simp [intOf]⟩
      · rw [show ((1 : Nat) : Int) = 1 from rfl]
        have hix := ix1
        have hsh : shK 1 = 0 := rfl
        rw [hsh]
        go_wp2_with fail
        refine (HTK.out wr Bk wgk hX.out).mono ?_
        rintro e w3 ⟨rfl, h3, hc3⟩
        have H3 := hidden h3
        have HC3 := hidden (hC.out.trans hc3 (fun i _ hi => hi))
        clear h3 hc3
        by_cases h1 : tkV 1 Bk = 0
        · have HS := hidden (hI.out.stop (n := 7) (s := 0) h1 (by omega))
          rw [h1]
          go_wp2_with fail
          refine (driftOfP w3 r p _ _ 7 0 H3.out (by omega) (by omega)).mono ?_
          rintro e w4 ⟨rfl, h4, hc4⟩
          have H4 := hidden (show DrP w r p B wg (.returned (.int .i64 (sg (tkV 7 (tkB 1 Bk)) 7))) w4 from ⟨_, _, _, rfl, tk_i64 (by omega), HS.out, h4, HC3.out.trans hc4 (fun i _ hi => hi)⟩)
          clear h4 hc4
          go_wp2
          go_ret
          exact H4.out
        · obtain ⟨h2, hM⟩ := hI.out.more h1
          have HM := hidden hM
          rw [h2]
          clear hM h1
          go_wp2
          exact ⟨⟨2, rfl, rfl, by omega, tkB 1 Bk, tkW 1 Bk wgk, HM, H3, HC3⟩, by simp [intOf]⟩
      · rw [show ((2 : Nat) : Int) = 2 from rfl]
        have hix := ix2
        have hsh : shK 2 = 7 := rfl
        rw [hsh]
        go_wp2_with fail
        refine (HTK.out wr Bk wgk hX.out).mono ?_
        rintro e w3 ⟨rfl, h3, hc3⟩
        have H3 := hidden h3
        have HC3 := hidden (hC.out.trans hc3 (fun i _ hi => hi))
        clear h3 hc3
        by_cases h1 : tkV 1 Bk = 0
        · have HS := hidden (hI.out.stop (n := 9) (s := 7) h1 (by omega))
          rw [h1]
          go_wp2_with fail
          refine (driftOfP w3 r p _ _ 9 7 H3.out (by omega) (by omega)).mono ?_
          rintro e w4 ⟨rfl, h4, hc4⟩
          have H4 := hidden (show DrP w r p B wg (.returned (.int .i64 (sg (tkV 9 (tkB 1 Bk)) 9))) w4 from ⟨_, _, _, rfl, tk_i64 (by omega), HS.out, h4, HC3.out.trans hc4 (fun i _ hi => hi)⟩)
          clear h4 hc4
          go_wp2
          go_ret
          exact H4.out
        · obtain ⟨h2, hM⟩ := hI.out.more h1
          have HM := hidden hM
          rw [h2]
          clear hM h1
          go_wp2
          exact ⟨⟨3, rfl, rfl, by omega, tkB 1 Bk, tkW 1 Bk wgk, HM, H3, HC3⟩, by simp [intOf]⟩
      · rw [show ((3 : Nat) : Int) = 3 from rfl]
        have hix := ix3
        have hsh : shK 3 = 9 := rfl
        rw [hsh]
        go_wp2_with fail
        refine (HTK.out wr Bk wgk hX.out).mono ?_
        rintro e w3 ⟨rfl, h3, hc3⟩
        have H3 := hidden h3
        have HC3 := hidden (hC.out.trans hc3 (fun i _ hi => hi))
        clear h3 hc3
        by_cases h1 : tkV 1 Bk = 0
        · have HS := hidden (hI.out.stop (n := 12) (s := 9) h1 (by omega))
          rw [h1]
          go_wp2_with fail
          refine (driftOfP w3 r p _ _ 12 9 H3.out (by omega) (by omega)).mono ?_
          rintro e w4 ⟨rfl, h4, hc4⟩
          have H4 := hidden (show DrP w r p B wg (.returned (.int .i64 (sg (tkV 12 (tkB 1 Bk)) 12))) w4 from ⟨_, _, _, rfl, tk_i64 (by omega), HS.out, h4, HC3.out.trans hc4 (fun i _ hi => hi)⟩)
          clear h4 hc4
          go_wp2
          go_ret
          exact H4.out
        · obtain ⟨h2, hM⟩ := hI.out.more h1
          have HM := hidden hM
          rw [h2]
          clear hM h1
          go_wp2
          exact ⟨⟨4, rfl, rfl, by omega, tkB 1 Bk, tkW 1 Bk wgk, HM, H3, HC3⟩, by simp [intOf]⟩
    · obtain rfl : k = 4 := by omega
      rw [show ((4 : Nat) : Int) = 4 from rfl]
      have hsh : shK 4 = 12 := rfl
      rw [hsh]
      go_wp2_with fail
      refine (driftOfP wr r p _ _ 64 12 hX.out (by omega) (by omega)).mono ?_
      rintro e w4 ⟨rfl, h4, hc4⟩
      have H4 := hidden (show DrP w r p B wg (.returned (.int .i64 (sg (tkV 64 Bk) 64))) w4 from ⟨_, _, _, rfl, tk_i64 (by omega), hI.out.last, h4, hC.out.trans hc4 (fun i _ hi => hi)⟩)
      clear h4 hc4
      go_wp2
      go_ret
      exact H4.out

end Go.Proofs.YtalmpmhnkilalaaGreatDoor
