import Derived.Test.YtalmpmhnkilalaaGreatDoorChL
/-
  Package chunk: the reader's drift.
-/
namespace Go.Proofs.YtalmpmhnkilalaaGreatDoor
open Go.RowKit
set_option linter.unusedVariables false
set_option linter.unusedSimpArgs false

def RdE {α : Type} (o : Option (α × List Bool)) (d : α) (B' : List Bool) (wg' : Bool) : Prop := (o = none → wg' = true) ∧ ∀ d0 c, o = some (d0, c) → d = d0 ∧ B' = c ∧ wg' = false
/-- What a reader's call leaves, that reads as rd does. -/
def RdR {α : Type} (rd : List Bool → Option (α × List Bool)) (B : List Bool) (wg : Bool) (d : α) (B' : List Bool) (wg' : Bool) : Prop :=
  (wg = true → wg' = true) ∧ (wg = false → RdE (rd B) d B' wg')
theorem tkW_true (n : Nat) (B : List Bool) : tkW n B true = true := by unfold tkW; split <;> rfl
theorem rdW_tk (w s : Nat) (c : List Bool) : RdE (rdW w s c) (sg (tkV w c) w) (tkB w c) (tkW w c false || bdD w (s : Int) c) := by
  unfold RdE rdW tkW bdD tkV tkB
  by_cases h : w ≤ c.length
  · simp only [h, if_true]
    by_cases h2 : fit (sg (vl (c.take w)) w) s
    · simp [h2]
    · simp [h2]
  · simp [h]
/-- The state behind k ones. -/
def DI (B : List Bool) (wg : Bool) (k : Nat) (Bk : List Bool) (wgk : Bool) : Prop := (wg = true → wgk = true) ∧ (wg = false → wgk = false ∧ B = List.replicate k true ++ Bk)
theorem tk1 (B : List Bool) : (B = [] ∧ tkV 1 B = 0 ∧ tkB 1 B = [] ∧ ∀ g, tkW 1 B g = true) ∨ (∃ c, B = false :: c ∧ tkV 1 B = 0 ∧ tkB 1 B = c ∧ ∀ g, tkW 1 B g = g) ∨ (∃ c, B = true :: c ∧ tkV 1 B = 1 ∧ tkB 1 B = c ∧ ∀ g, tkW 1 B g = g) := by
  cases B with
  | nil => left; simp [tkV, tkB, tkW]
  | cons b c =>
    cases b
    · right; left; exact ⟨c, rfl, by simp [tkV, vl], by simp [tkB], by simp [tkW]⟩
    · right; right; exact ⟨c, rfl, by simp [tkV, vl], by simp [tkB], by simp [tkW]⟩
theorem DI.more {B Bk : List Bool} {wg wgk : Bool} {k : Nat} (h : DI B wg k Bk wgk) (h1 : ¬ tkV 1 Bk = 0) : tkV 1 Bk = 1 ∧ DI B wg (k + 1) (tkB 1 Bk) (tkW 1 Bk wgk) := by
  rcases tk1 Bk with ⟨_, h2, _⟩ | ⟨c, _, h2, _⟩ | ⟨c, rfl, h2, h3, h4⟩
  · exact absurd h2 h1
  · exact absurd h2 h1
  · refine ⟨h2, ?_⟩
    rw [h3, h4]
    exact ⟨h.1, fun e => ⟨(h.2 e).1, by rw [(h.2 e).2, List.replicate_succ']; simp⟩⟩
theorem DI.stop {B Bk : List Bool} {wg wgk : Bool} {k n : Nat} {s : Int} (h : DI B wg k Bk wgk) (h1 : tkV 1 Bk = 0) (hk : k = 0 ∧ n = 0 ∧ s = -1 ∨ k = 1 ∧ n = 7 ∧ s = 0 ∨ k = 2 ∧ n = 9 ∧ s = 7 ∨ k = 3 ∧ n = 12 ∧ s = 9) :
    RdR rdD B wg (sg (tkV n (tkB 1 Bk)) n) (tkB n (tkB 1 Bk)) (tkW n (tkB 1 Bk) (tkW 1 Bk wgk) || bdD n s (tkB 1 Bk)) := by
  refine ⟨fun e => ?_, fun e => ?_⟩
  · rw [h.1 e, tkW_true, tkW_true]; rfl
  · obtain ⟨e1, e2⟩ := h.2 e
    subst e1
    rcases tk1 Bk with ⟨rfl, _, h3, h4⟩ | ⟨c, rfl, _, h3, h4⟩ | ⟨c, _, h2, _⟩
    · rw [h4, tkW_true, Bool.true_or, e2]
      refine ⟨fun _ => rfl, fun d0 c h => ?_⟩
      rcases hk with ⟨rfl, _⟩ | ⟨rfl, _⟩ | ⟨rfl, _⟩ | ⟨rfl, _⟩ <;> exact absurd h (by simp [List.replicate, rdD])
    · rw [h3, h4, e2]
      rcases hk with ⟨rfl, rfl, rfl⟩ | ⟨rfl, rfl, rfl⟩ | ⟨rfl, rfl, rfl⟩ | ⟨rfl, rfl, rfl⟩
      · refine ⟨fun h => absurd h (by simp [rdD]), fun d0 c0 h => ?_⟩
        simp only [List.replicate_zero, List.nil_append, rdD] at h
        injection h with h
        injection h with h5 h6
        subst h5 h6
        refine ⟨by simp [tkV, vl, sg, wr], by simp [tkB], by simp [tkW, bdD]⟩
      · exact rdW_tk 7 0 c
      · exact rdW_tk 9 7 c
      · exact rdW_tk 12 9 c
    · rw [h2] at h1; exact absurd h1 (by omega)
theorem DI.last {B Bk : List Bool} {wg wgk : Bool} (h : DI B wg 4 Bk wgk) : RdR rdD B wg (sg (tkV 64 Bk) 64) (tkB 64 Bk) (tkW 64 Bk wgk || bdD 64 12 Bk) := by
  refine ⟨fun e => ?_, fun e => ?_⟩
  · rw [h.1 e, tkW_true]; rfl
  · obtain ⟨e1, e2⟩ := h.2 e
    subst e1
    rw [e2]
    exact rdW_tk 64 12 Bk
theorem tkB_le (n : Nat) (B : List Bool) : (tkB n B).length ≤ B.length := by unfold tkB; split <;> simp

/-- What drift leaves. -/
def DrP (w : World) (r p : Nat) (B : List Bool) (wg : Bool) (e : Ending) (w' : World) : Prop :=
  ∃ d B' wg', e = .returned (.int .i64 d) ∧ I64 d ∧ RdR rdD B wg d B' wg' ∧ XS w' r p B' wg' ∧ Chg (F2 r p) w w'

theorem tk_i64 {n : Nat} {B : List Bool} (hn : n = 0 ∨ n = 7 ∨ n = 9 ∨ n = 12 ∨ n = 64) : I64 (sg (tkV n B) n) := sg_i64 (by
    rcases hn with rfl | hn
    · exact .inl ⟨rfl, by have := tkV_pow (n := 0) (B := B); omega⟩
    · exact .inr ⟨hn, tkV_pow⟩)
def shK (k : Nat) : Int := if k = 0 then -1 else if k = 1 then 0 else if k = 2 then 7 else if k = 3 then 9 else 12

set_option maxRecDepth 100000 in
set_option maxHeartbeats 8000000 in
theorem driftP (w : World) (r p : Nat) (B : List Bool) (wg : Bool) (h : XS w r p B wg) (hG : Gv w) :
    Calls Tryz.prog 214 #[.pointer (some ⟨r, 0, none⟩)] w (DrP w r p B wg) := by
  have HX := hidden h
  have HG := hidden hG
  have HTK : Hid (∀ w1 B1 g1, XS w1 r p B1 g1 → Calls Tryz.prog 217 #[.pointer (some ⟨r, 0, none⟩), .int .i64 1] w1 fun e w' => e = .returned (.int .u64 (tkV 1 B1 : Int)) ∧ XS w' r p (tkB 1 B1) (tkW 1 B1 g1) ∧ Chg (F2 r p) w1 w') := hidden (fun w1 B1 g1 h1 => takeP w1 r p B1 g1 1 h1 (by omega))
  clear h hG
  have g0 := (HG.out.wid 0 (by omega))
  have g1 := (HG.out.wid 1 (by omega))
  have g2 := (HG.out.wid 2 (by omega))
  have g3 := (HG.out.wid 3 (by omega))
  simp [wds] at g0 g1 g2 g3
  go_enter Tryz.func214, Tryz.ntmps214
  go_wp2_with fail
  go_loopw [3, 7] (fun s3 s7 wr => ∃ k : Nat, s7 = .int .i64 (k : Int) ∧ s3 = .int .i64 (shK k) ∧ k ≤ 4 ∧ ∃ Bk wgk, Hid (DI B wg k Bk wgk) ∧ Hid (XS wr r p Bk wgk) ∧ Hid (Chg (F2 r p) w wr)) (fun s3 s7 _ => 4 - (intOf s7).toNat)
  case atStart => exact ⟨0, rfl, rfl, by omega, B, wg, hidden ⟨fun e => e, fun e => ⟨e, by simp⟩⟩, HX, hidden (Chg.refl _ _)⟩
  case round =>
    rename World => wr
    obtain ⟨k, rfl, rfl, hk, Bk, wgk, hI, hX, hC⟩ := hrel
    by_cases hk4 : k < 4
    · have hkz : (k : Int) < 4 := by omega
      have hcase : k = 0 ∨ k = 1 ∨ k = 2 ∨ k = 3 := by omega
      rcases hcase with rfl | rfl | rfl | rfl
      · rw [show ((0 : Nat) : Int) = 0 from rfl]
        have hix := ix0
        have hsh : shK 0 = (-1) := rfl
        rw [hsh]
        go_wp2_with fail
        refine (HTK.out wr Bk wgk hX.out).mono ?_
        rintro e w3 ⟨rfl, h3, hc3⟩
        have H3 := hidden h3
        have HC3 := hidden (hC.out.trans hc3 (fun i _ hi => hi))
        clear h3 hc3
        by_cases h1 : tkV 1 Bk = 0
        · have HS := hidden (hI.out.stop (n := 0) (s := (-1)) h1 (by omega))
          rw [h1]
          go_wp2_with fail
          refine (driftOfP w3 r p _ _ 0 (-1) H3.out (by omega) (by omega)).mono ?_
          rintro e w4 ⟨rfl, h4, hc4⟩
          have H4 := hidden (show DrP w r p B wg (.returned (.int .i64 (sg (tkV 0 (tkB 1 Bk)) 0))) w4 from ⟨_, _, _, rfl, tk_i64 (by omega), HS.out, h4, HC3.out.trans hc4 (fun i _ hi => hi)⟩)
          clear h4 hc4
          go_wp2
          go_ret
          exact H4.out
        · obtain ⟨h2, hM⟩ := hI.out.more h1
          have HM := hidden hM
          rw [h2]
          clear hM h1
          go_wp2
          exact ⟨⟨1, rfl, rfl, by omega, tkB 1 Bk, tkW 1 Bk wgk, HM, H3, HC3⟩, by simp [intOf]⟩
      · rw [show ((1 : Nat) : Int) = 1 from rfl]
        have hix := ix1
        have hsh : shK 1 = 0 := rfl
        rw [hsh]
        go_wp2_with fail
        refine (HTK.out wr Bk wgk hX.out).mono ?_
        rintro e w3 ⟨rfl, h3, hc3⟩
        have H3 := hidden h3
        have HC3 := hidden (hC.out.trans hc3 (fun i _ hi => hi))
        clear h3 hc3
        by_cases h1 : tkV 1 Bk = 0
        · have HS := hidden (hI.out.stop (n := 7) (s := 0) h1 (by omega))
          rw [h1]
          go_wp2_with fail
          refine (driftOfP w3 r p _ _ 7 0 H3.out (by omega) (by omega)).mono ?_
          rintro e w4 ⟨rfl, h4, hc4⟩
          have H4 := hidden (show DrP w r p B wg (.returned (.int .i64 (sg (tkV 7 (tkB 1 Bk)) 7))) w4 from ⟨_, _, _, rfl, tk_i64 (by omega), HS.out, h4, HC3.out.trans hc4 (fun i _ hi => hi)⟩)
          clear h4 hc4
          go_wp2
          go_ret
          exact H4.out
        · obtain ⟨h2, hM⟩ := hI.out.more h1
          have HM := hidden hM
          rw [h2]
          clear hM h1
          go_wp2
          exact ⟨⟨2, rfl, rfl, by omega, tkB 1 Bk, tkW 1 Bk wgk, HM, H3, HC3⟩, by simp [intOf]⟩
      · rw [show ((2 : Nat) : Int) = 2 from rfl]
        have hix := ix2
        have hsh : shK 2 = 7 := rfl
        rw [hsh]
        go_wp2_with fail
        refine (HTK.out wr Bk wgk hX.out).mono ?_
        rintro e w3 ⟨rfl, h3, hc3⟩
        have H3 := hidden h3
        have HC3 := hidden (hC.out.trans hc3 (fun i _ hi => hi))
        clear h3 hc3
        by_cases h1 : tkV 1 Bk = 0
        · have HS := hidden (hI.out.stop (n := 9) (s := 7) h1 (by omega))
          rw [h1]
          go_wp2_with fail
          refine (driftOfP w3 r p _ _ 9 7 H3.out (by omega) (by omega)).mono ?_
          rintro e w4 ⟨rfl, h4, hc4⟩
          have H4 := hidden (show DrP w r p B wg (.returned (.int .i64 (sg (tkV 9 (tkB 1 Bk)) 9))) w4 from ⟨_, _, _, rfl, tk_i64 (by omega), HS.out, h4, HC3.out.trans hc4 (fun i _ hi => hi)⟩)
          clear h4 hc4
          go_wp2
          go_ret
          exact H4.out
        · obtain ⟨h2, hM⟩ := hI.out.more h1
          have HM := hidden hM
          rw [h2]
          clear hM h1
          go_wp2
          exact ⟨⟨3, rfl, rfl, by omega, tkB 1 Bk, tkW 1 Bk wgk, HM, H3, HC3⟩, by simp [intOf]⟩
      · rw [show ((3 : Nat) : Int) = 3 from rfl]
        have hix := ix3
        have hsh : shK 3 = 9 := rfl
        rw [hsh]
        go_wp2_with fail
        refine (HTK.out wr Bk wgk hX.out).mono ?_
        rintro e w3 ⟨rfl, h3, hc3⟩
        have H3 := hidden h3
        have HC3 := hidden (hC.out.trans hc3 (fun i _ hi => hi))
        clear h3 hc3
        by_cases h1 : tkV 1 Bk = 0
        · have HS := hidden (hI.out.stop (n := 12) (s := 9) h1 (by omega))
          rw [h1]
          go_wp2_with fail
          refine (driftOfP w3 r p _ _ 12 9 H3.out (by omega) (by omega)).mono ?_
          rintro e w4 ⟨rfl, h4, hc4⟩
          have H4 := hidden (show DrP w r p B wg (.returned (.int .i64 (sg (tkV 12 (tkB 1 Bk)) 12))) w4 from ⟨_, _, _, rfl, tk_i64 (by omega), HS.out, h4, HC3.out.trans hc4 (fun i _ hi => hi)⟩)
          clear h4 hc4
          go_wp2
          go_ret
          exact H4.out
        · obtain ⟨h2, hM⟩ := hI.out.more h1
          have HM := hidden hM
          rw [h2]
          clear hM h1
          go_wp2
          exact ⟨⟨4, rfl, rfl, by omega, tkB 1 Bk, tkW 1 Bk wgk, HM, H3, HC3⟩, by simp [intOf]⟩
    · obtain rfl : k = 4 := by omega
      rw [show ((4 : Nat) : Int) = 4 from rfl]
      have hsh : shK 4 = 12 := rfl
      rw [hsh]
      go_wp2_with fail
      refine (driftOfP wr r p _ _ 64 12 hX.out (by omega) (by omega)).mono ?_
      rintro e w4 ⟨rfl, h4, hc4⟩
      have H4 := hidden (show DrP w r p B wg (.returned (.int .i64 (sg (tkV 64 Bk) 64))) w4 from ⟨_, _, _, rfl, tk_i64 (by omega), hI.out.last, h4, hC.out.trans hc4 (fun i _ hi => hi)⟩)
      clear h4 hc4
      go_wp2
      go_ret
      exact H4.out

end Go.Proofs.YtalmpmhnkilalaaGreatDoor

/-
  Package chunk: the reader's flips.
-/
namespace Go.Proofs.YtalmpmhnkilalaaGreatDoor
open Go.RowKit
set_option linter.unusedVariables false
set_option linter.unusedSimpArgs false

def fa (c : List Bool) : Nat := tkV 6 c
def fz (c : List Bool) : Nat := tkV 6 (tkB 6 c) + 1
def fc (c : List Bool) : List Bool := tkB 6 (tkB 6 c)
def fg (c : List Bool) (wg : Bool) : Bool := tkW 6 (tkB 6 c) (tkW 6 c wg)
def fx (c : List Bool) : Nat := tkV (fz c) (fc c) * 2 ^ (64 - fa c - fz c)
def fo (c : List Bool) : Bool := decide (ahd (fx c) = fa c ∧ siz (fx c) = fz c)
theorem fa_lt (c : List Bool) : fa c < 64 := tkV_pow (n := 6)
theorem fz_lt (c : List Bool) : 1 ≤ fz c ∧ fz c ≤ 64 := by
  have := tkV_pow (n := 6) (B := tkB 6 c)
  unfold fz
  omega
theorem fx_lt {c : List Bool} (h : fa c + fz c ≤ 64) : fx c < 18446744073709551616 := by
  have h1 := tkV_pow (n := fz c) (B := fc c)
  unfold fx
  have h3 : tkV (fz c) (fc c) * 2 ^ (64 - fa c - fz c) < 2 ^ fz c * 2 ^ (64 - fa c - fz c) := Nat.mul_lt_mul_of_pos_right h1 (Nat.two_pow_pos _)
  rw [← Nat.pow_add] at h3
  have h4 : 2 ^ (fz c + (64 - fa c - fz c)) ≤ 2 ^ 64 := Nat.pow_le_pow_right (by omega) (by omega)
  omega
theorem f_short {c : List Bool} (h : ¬ 12 ≤ c.length) (wg : Bool) : fg c wg = true := by
  unfold fg
  by_cases h6 : 6 ≤ c.length
  · unfold tkW tkB
    rw [if_pos h6, if_neg (by rw [List.length_drop]; omega)]
  · have : tkW 6 c wg = true := by unfold tkW; rw [if_neg h6]
    rw [this, tkW_true]
theorem f_long {c : List Bool} (h : 12 ≤ c.length) : fa c = vl (c.take 6) ∧ fz c = vl ((c.drop 6).take 6) + 1 ∧ fc c = (c.drop 6).drop 6 ∧ ∀ wg, fg c wg = wg := by
  have h6 : 6 ≤ c.length := by omega
  have h6' : 6 ≤ (c.drop 6).length := by rw [List.length_drop]; omega
  unfold fa fz fc fg tkV tkB tkW
  simp only [h6, if_true, h6']
  exact ⟨trivial, trivial, trivial, fun _ => trivial⟩
theorem rdX_no {c : List Bool} (h : ¬ fa c + fz c ≤ 64) : rdX (true :: c) = none := by
  rw [rdX]
  split
  · rename_i h12
    obtain ⟨e1, e2, e3, e4⟩ := f_long h12
    rw [e1, e2] at h
    simp only
    rw [if_neg (by omega)]
  · rfl
theorem rdX_yes {c : List Bool} (wg : Bool) (h : fa c + fz c ≤ 64) : RdR rdX (true :: c) wg (fx c) (tkB (fz c) (fc c)) (tkW (fz c) (fc c) (fg c wg) || !fo c) := by
  refine ⟨fun e => ?_, fun e => ?_⟩
  · subst e
    have : fg c true = true := by unfold fg; rw [tkW_true, tkW_true]
    rw [this, tkW_true]
    rfl
  · subst e
    by_cases h12 : 12 ≤ c.length
    · obtain ⟨e1, e2, e3, e4⟩ := f_long h12
      have er : rdX (true :: c) = if fz c ≤ (fc c).length then (if fo c = true then some (fx c, (fc c).drop (fz c)) else none) else none := by
        rw [rdX, if_pos h12]
        simp only [← e1, ← e2, ← e3]
        by_cases hz : fz c ≤ (fc c).length
        · rw [if_pos ⟨h, hz⟩, if_pos hz]
          have ex : vl ((fc c).take (fz c)) * 2 ^ (64 - fa c - fz c) = fx c := by unfold fx tkV; rw [if_pos hz]
          rw [ex]
          unfold fo
          by_cases hh : ahd (fx c) = fa c ∧ siz (fx c) = fz c
          · rw [if_pos hh, if_pos (by simpa using hh)]
          · rw [if_neg hh, if_neg (by simpa using hh)]
        · rw [if_neg (fun hh => hz hh.2), if_neg hz]
      rw [er, e4]
      unfold RdE tkW tkB
      by_cases hz : fz c ≤ (fc c).length
      · simp only [hz, if_true]
        cases fo c <;> simp
      · simp [hz]
    · rw [f_short h12, tkW_true]
      refine ⟨fun _ => rfl, fun d0 c0 hh => ?_⟩
      rw [rdX, if_neg h12] at hh
      exact absurd hh (by simp)

theorem tz0P (w : World) : Calls Tryz.prog 226 #[.int .u64 0] w fun e w' => e = .returned (.int .i64 64) ∧ w' = w := by
  go_enter Tryz.func226, Tryz.ntmps226
  go_wp2
  go_ret
  exact ⟨rfl, rfl⟩
theorem lz0P (w : World) : Calls Tryz.prog 225 #[.int .u64 0] w fun e w' => ∃ a : Nat, e = .returned (.int .i64 (a : Int)) ∧ a ≤ 64 ∧ w' = w := by
  go_enter Tryz.func225, Tryz.ntmps225
  go_wp2_with fail
  refine (Q.len64_any 0 w (by omega) (by omega)).mono ?_
  rintro e w' ⟨⟨r, rfl, hr⟩, rfl⟩
  have h64 := hr.2.2
  clear hr
  have hz : (64 : Int) - (r : Int) = ((64 - r : Nat) : Int) := by omega
  go_wp2
  go_ret
  exact ⟨64 - r, by first | rfl | simp | (simp; omega), by omega, by first | trivial | rfl⟩
theorem span0P (w : World) : Calls Tryz.prog 220 #[.int .u64 0] w fun e w' => ∃ a : Nat, e = .returned (.tuple #[.int .i64 (a : Int), .int .i64 (-(a : Int))]) ∧ a ≤ 64 ∧ w' = w := by
  have HA := hidden (lz0P w)
  have HT := hidden (tz0P w)
  go_enter Tryz.func220, Tryz.ntmps220
  go_wp2_with fail
  refine HA.out.mono ?_
  rintro e w' ⟨a, rfl, ha, rfl⟩
  go_wp2_with fail
  refine HT.out.mono ?_
  rintro e w' ⟨rfl, rfl⟩
  go_wp2
  go_ret2
  exact ⟨a, by simp; omega, ha, by first | trivial | rfl⟩

/-- What flips leaves. -/
def FlP (w : World) (r p : Nat) (B : List Bool) (wg : Bool) (e : Ending) (w' : World) : Prop :=
  ∃ (x : Nat) (B' : List Bool) (wg' : Bool), e = .returned (.int .u64 (x : Int)) ∧ x < 18446744073709551616 ∧ RdR rdX B wg x B' wg' ∧ XS w' r p B' wg' ∧ Chg (F2 r p) w w'

theorem gv_chg {w w' : World} {F : Nat → Prop} (h : Gv w) (hc : Chg F w w') (h0 : ¬ F 0 ∧ ¬ F 1) : Gv w' :=
  ⟨fun j hj => by
      have hh := h.wid j hj
      rw [World.cell?_of_block (w := w) (hc.block 0 (World.block_lt_of_cell? w _ hh) h0.1)]; exact hh,
    fun j hj => by
      have hh := h.tab j hj
      rw [World.cell?_of_block (w := w) (hc.block 1 (World.block_lt_of_cell? w _ hh) h0.2)]; exact hh⟩
theorem spanQ (x : Nat) (w : World) (hx : x < 18446744073709551616) (hG : Gv w) :
    Calls Tryz.prog 220 #[.int .u64 (x : Int)] w fun e w' => ∃ A Z : Int, e = .returned (.tuple #[.int .i64 A, .int .i64 Z]) ∧ (-64 ≤ A ∧ A ≤ 64 ∧ -64 ≤ Z ∧ Z ≤ 64) ∧ w' = w ∧ ∀ a z : Nat, a < 64 → 1 ≤ z → ((A = (a : Int) ∧ Z = (z : Int)) ↔ (ahd x = a ∧ siz x = z)) := by
  by_cases h0 : x = 0
  · subst h0
    refine (span0P w).mono ?_
    rintro e w' ⟨A, rfl, hA, rfl⟩
    refine ⟨A, -A, rfl, by omega, rfl, fun a z ha hz => ⟨fun h => by omega, fun h => ?_⟩⟩
    rw [ahd_zero] at h
    omega
  · refine (spanP x w hx (by omega) hG).mono ?_
    rintro e w' ⟨rfl, rfl⟩
    obtain ⟨s1, s2, s3, s4, s5⟩ := span_lt hx (by omega)
    exact ⟨_, _, rfl, by omega, rfl, fun a z ha hz => by omega⟩
theorem RdR.zero (B : List Bool) (wg : Bool) (h : tkV 1 B = 0) : RdR rdX B wg 0 (tkB 1 B) (tkW 1 B wg) := by
  refine ⟨fun e => by rw [e, tkW_true], fun e => ?_⟩
  subst e
  rcases tk1 B with ⟨rfl, _, h3, h4⟩ | ⟨c, rfl, _, h3, h4⟩ | ⟨c, _, h2, _⟩
  · rw [h4]
    exact ⟨fun _ => rfl, fun d0 c0 hh => absurd hh (by simp [rdX])⟩
  · rw [h3, h4]
    refine ⟨fun hh => absurd hh (by simp [rdX]), fun d0 c0 hh => ?_⟩
    simp only [rdX] at hh
    injection hh with hh
    injection hh with h5 h6
    exact ⟨h5, h6, rfl⟩
  · rw [h2] at h; exact absurd h (by omega)
theorem RdR.bad {α : Type} {rd : List Bool → Option (α × List Bool)} {B : List Bool} (h : rd B = none) (wg : Bool) (d : α) (B' : List Bool) : RdR rd B wg d B' true :=
  ⟨fun _ => rfl, fun _ => ⟨fun _ => rfl, fun d0 c hh => by rw [h] at hh; exact absurd hh (by simp)⟩⟩

set_option maxRecDepth 100000 in
set_option maxHeartbeats 8000000 in
theorem flipsP (w : World) (r p : Nat) (B : List Bool) (wg : Bool) (h : XS w r p B wg) (hG : Gv w) (hlo : 1 < r ∧ 1 < p) :
    Calls Tryz.prog 215 #[.pointer (some ⟨r, 0, none⟩)] w (FlP w r p B wg) := by
  have HX := hidden h
  have HG := hidden hG
  have HT1 : Hid (∀ w1 B1 g1, XS w1 r p B1 g1 → Calls Tryz.prog 217 #[.pointer (some ⟨r, 0, none⟩), .int .i64 1] w1 fun e w' => e = .returned (.int .u64 (tkV 1 B1 : Int)) ∧ XS w' r p (tkB 1 B1) (tkW 1 B1 g1) ∧ Chg (F2 r p) w1 w') := hidden (fun w1 B1 g1 h1 => takeP w1 r p B1 g1 1 h1 (by omega))
  have HT6 : Hid (∀ w1 B1 g1, XS w1 r p B1 g1 → Calls Tryz.prog 217 #[.pointer (some ⟨r, 0, none⟩), .int .i64 6] w1 fun e w' => e = .returned (.int .u64 (tkV 6 B1 : Int)) ∧ XS w' r p (tkB 6 B1) (tkW 6 B1 g1) ∧ Chg (F2 r p) w1 w') := hidden (fun w1 B1 g1 h1 => takeP w1 r p B1 g1 6 h1 (by omega))
  clear h hG
  go_enter Tryz.func215, Tryz.ntmps215
  go_wp2_with fail
  refine (HT1.out w B wg HX.out).mono ?_
  rintro e w1 ⟨rfl, h1, hc1⟩
  have H1 := hidden h1
  have C1 := hidden hc1
  clear h1 hc1
  by_cases hb : tkV 1 B = 0
  · have HZ := hidden (RdR.zero B wg hb)
    rw [hb]
    go_wp2
    go_ret
    exact ⟨0, _, _, rfl, by omega, HZ.out, H1.out, C1.out⟩
  · obtain ⟨c, rfl, h2, h3, h4⟩ : ∃ c, B = true :: c ∧ tkV 1 B = 1 ∧ tkB 1 B = c ∧ ∀ g, tkW 1 B g = g := by
      rcases tk1 B with ⟨_, h2, _⟩ | ⟨c, _, h2, _⟩ | hh
      · exact absurd h2 hb
      · exact absurd h2 hb
      · exact hh
    rw [h3, h4] at H1
    rw [h2]
    clear hb h2 h3 h4 HX
    go_wp2_with fail
    refine (HT6.out w1 c wg H1.out).mono ?_
    rintro e w2 ⟨rfl, h2, hc2⟩
    have H2 := hidden h2
    have C2 := hidden (C1.out.trans hc2 (fun i _ hi => hi))
    clear h2 hc2
    have a64 := fa_lt c
    have z64 := fz_lt c
    rw [show tkV 6 c = fa c from rfl]
    go_wp2_with fail
    refine (HT6.out w2 _ _ H2.out).mono ?_
    rintro e w3 ⟨rfl, h3, hc3⟩
    have H3 : Hid (XS w3 r p (fc c) (fg c wg)) := hidden h3
    have C3 := hidden (C2.out.trans hc3 (fun i _ hi => hi))
    clear h3 hc3
    have hze : ((tkV 6 (tkB 6 c) : Nat) : Int) + 1 = (fz c : Int) := by unfold fz; omega
    have hz6 := tkV_pow (n := 6) (B := tkB 6 c)
    generalize tkV 6 (tkB 6 c) = zz at *
    have f1 := H3.out.blk.frozen 1
    have d1 := H3.out.blk.cell 1
    simp at d1
    by_cases hle : fa c + fz c ≤ 64
    · have hbe : 64 - (fa c : Int) - (fz c : Int) = ((64 - fa c - fz c : Nat) : Int) := by omega
      obtain ⟨bh, hbh⟩ : ∃ bh, 64 - fa c - fz c = bh := ⟨_, rfl⟩
      rw [hbh] at hbe
      have hb64 : bh ≤ 64 := by omega
      have HTK := hidden (takeP w3 r p (fc c) (fg c wg) (fz c) H3.out z64.2)
      have HY := hidden (rdX_yes wg hle)
      have hxl := fx_lt hle
      have hxe : fx c = tkV (fz c) (fc c) * 2 ^ bh := by unfold fx; rw [hbh]
      have hv64 := tkV_lt (n := fz c) (B := fc c) z64.2
      go_wp2_with fail
      refine HTK.out.mono ?_
      rintro e w4 ⟨rfl, h4, hc4⟩
      have H4 := hidden h4
      have C4 := hidden (C3.out.trans hc4 (fun i _ hi => hi))
      have G4 := hidden (show Gv w4 from gv_chg HG.out C4.out (by unfold F2; omega))
      clear h4 hc4
      have f4 := H4.out.blk.frozen 1
      have d4 := H4.out.blk.cell 1
      simp at d4
      have hsh : IntKind.u64.wrap ((tkV (fz c) (fc c) : Int) * 2 ^ bh) = (fx c : Int) := by
        rw [u64w, hxe]
        have e1 : ((tkV (fz c) (fc c) * 2 ^ bh : Nat) : Int) = (tkV (fz c) (fc c) : Int) * 2 ^ bh := by rw [Int.natCast_mul, Int.natCast_pow]; rfl
        rw [← e1, ← hxe]
        omega
      have HSP := hidden (spanQ (fx c) w4 hxl G4.out)
      have hXl := hxl
      clear hxe hxl HTK
      generalize tkV (fz c) (fc c) = vv at *
      go_wp2_with (first | simp only [hsh] | fail)
      refine HSP.out.mono ?_
      rintro e w5 ⟨A, Z, rfl, hAZ, rfl, hiff⟩
      have hi := hiff (fa c) (fz c) a64 z64.1
      clear hiff HSP
      have hfo : fo c = decide (A = (fa c : Int) ∧ Z = (fz c : Int)) := by unfold fo; exact (decide_eq_decide.2 hi).symm
      rw [hfo] at HY
      clear hfo hi
      generalize fx c = X at *
      generalize fa c = a at *
      generalize fz c = z at *
      by_cases hA : A = (a : Int)
      · by_cases hZ : Z = (z : Int)
        · subst hA hZ
          simp only [and_self, decide_true, Bool.not_true, Bool.or_false] at HY
          go_wp2
          go_ret
          exact ⟨X, _, _, rfl, hXl, HY.out, H4.out, C4.out⟩
        · have hno : decide (A = (a : Int) ∧ Z = (z : Int)) = false := by simp [hZ]
          rw [hno, Bool.not_false, Bool.or_true] at HY
          go_wp2_with fail
          first | go_region | skip
          go_wp2
          go_ret
          exact ⟨X, _, _, rfl, hXl, HY.out, H4.out.wrong, C4.out.trans ((chg_set _ r 1 (.bool true)).mono (G := F2 r p) (fun i _ hi => .inl hi)) (fun i _ hi => hi)⟩
      · have hno : decide (A = (a : Int) ∧ Z = (z : Int)) = false := by simp [hA]
        rw [hno, Bool.not_false, Bool.or_true] at HY
        go_wp2_with fail
        first | go_region | skip
        go_wp2
        go_ret
        exact ⟨X, _, _, rfl, hXl, HY.out, H4.out.wrong, C4.out.trans ((chg_set _ r 1 (.bool true)).mono (G := F2 r p) (fun i _ hi => .inl hi)) (fun i _ hi => hi)⟩
    · have HN := hidden (rdX_no hle)
      generalize fa c = a at *
      generalize fz c = z at *
      have hlt : 64 - (a : Int) - (z : Int) < 0 := by omega
      go_wp2_with fail
      first | go_region | skip
      go_wp2
      go_ret
      exact ⟨0, _, _, rfl, by omega, RdR.bad HN.out wg 0 _, H3.out.wrong, C3.out.trans ((chg_set _ r 1 (.bool true)).mono (G := F2 r p) (fun i _ hi => .inl hi)) (fun i _ hi => hi)⟩

end Go.Proofs.YtalmpmhnkilalaaGreatDoor

/-
  Package chunk: the reader's first, end.
-/
namespace Go.Proofs.YtalmpmhnkilalaaGreatDoor
open Go.RowKit
set_option linter.unusedVariables false
set_option linter.unusedSimpArgs false

def f1 (B : List Bool) : Sm := ⟨wr (tkV 64 B : Nat), tkV 64 (tkB 64 B)⟩
def g1 (B : List Bool) : List Bool := tkB 64 (tkB 64 B)
def h1 (B : List Bool) (wg : Bool) : Bool := tkW 64 (tkB 64 B) (tkW 64 B wg)
theorem f1_ok (B : List Bool) : OkS (f1 B) := ⟨wr_i64 _, tkV_lt (by omega)⟩
theorem f1_long {B : List Bool} (h : ¬ B.length < 128) : f1 B = fiR B ∧ g1 B = (B.drop 64).drop 64 ∧ ∀ wg, h1 B wg = wg := by
  have h6 : 64 ≤ B.length := by omega
  have h6' : 64 ≤ (B.drop 64).length := by rw [List.length_drop]; omega
  unfold f1 g1 h1 fiR tkV tkB tkW
  simp only [h6, if_true, h6']
  exact ⟨trivial, trivial, fun _ => trivial⟩
theorem f1_short {B : List Bool} (h : B.length < 128) (wg : Bool) : h1 B wg = true := by
  unfold h1
  by_cases h6 : 64 ≤ B.length
  · unfold tkW tkB
    rw [if_pos h6, if_neg (by rw [List.length_drop]; omega)]
  · have : tkW 64 B wg = true := by unfold tkW; rw [if_neg h6]
    rw [this, tkW_true]
/-- Samples, as they are read, and the bits behind them. -/
def rdF (n : Nat) (B : List Bool) : Option (List Sm × List Bool) :=
  if B.length < 128 then none else
  match rdS (n - 1) (tr0 (fiR B)) ((B.drop 64).drop 64) with
  | none => none
  | some (l, B3) => some (fiR B :: l, B3)
theorem rdB_rdF (n : Nat) (B : List Bool) : rdB n B = match rdF n B with | none => none | some (l, B3) => if B3.length < 8 ∧ vl B3 = 0 then some l else none := by
  unfold rdB rdF
  split
  · rfl
  · cases rdS (n - 1) (tr0 (fiR B)) ((B.drop 64).drop 64) with
    | none => rfl
    | some x => rfl
/-- What has been read so far: all is wrong, or these samples, and what is left goes on. -/
def SI (n : Nat) (B : List Bool) (i : Nat) (out : List Sm) (a : Tr) (Bi : List Bool) (wg : Bool) : Prop :=
  (wg = true ∧ rdF n B = none) ∨ (wg = false ∧ 2 * i + Bi.length ≤ B.length ∧ rdF n B = match rdS (n - 1 - i) a Bi with | none => none | some (l, B3) => some (out ++ l, B3))
theorem SI.start (n : Nat) (B : List Bool) : SI n B 0 [f1 B] (tr0 (f1 B)) (g1 B) (h1 B false) := by
  by_cases h : B.length < 128
  · exact .inl ⟨f1_short h false, by unfold rdF; rw [if_pos h]⟩
  · obtain ⟨e1, e2, e3⟩ := f1_long h
    refine .inr ⟨e3 _, ?_, ?_⟩
    · rw [e2]; simp only [List.length_drop]; omega
    · unfold rdF
      rw [if_neg h, e1, e2, Nat.sub_zero]
      rfl
theorem rdD_len {B c : List Bool} {d : Int} (h : rdD B = some (d, c)) : c.length + 1 ≤ B.length := by
  have h1 := (rdD_some h).1
  have h2 := drB_ge d
  rw [h1, List.length_append]
  omega
theorem rdX_len {B c : List Bool} {x : Nat} (h : rdX B = some (x, c)) : c.length + 1 ≤ B.length := by
  have h1 := (rdX_some h).1
  have h2 := flB_ge x
  rw [h1, List.length_append]
  omega
theorem SI.next {n : Nat} {B : List Bool} {i : Nat} {out : List Sm} {a : Tr} {Bi : List Bool} (h : SI n B i out a Bi false) (hi : i < n - 1) {d : Int} {B1 : List Bool} {wg1 : Bool} {x : Nat} {B2 : List Bool} {wg2 : Bool}
    (hD : RdR rdD Bi false d B1 wg1) (hX : RdR rdX B1 wg1 x B2 wg2) : SI n B (i + 1) (out ++ [⟨(a.by' d x).t, (a.by' d x).v⟩]) (a.by' d x) B2 wg2 := by
  rcases h with ⟨h, _⟩ | ⟨_, hl, hr⟩
  · exact absurd h (by simp)
  · have hk : n - 1 - i = (n - 1 - (i + 1)) + 1 := by omega
    rw [hk, rdS] at hr
    have hD2 := hD.2 rfl
    cases hd : rdD Bi with
    | none =>
      have h1 := hX.1 (hD2.1 hd)
      rw [hd] at hr
      exact .inl ⟨h1, hr⟩
    | some dc =>
      obtain ⟨d0, c0⟩ := dc
      obtain ⟨rfl, rfl, rfl⟩ := hD2.2 _ _ hd
      have l1 := rdD_len hd
      have hX2 := hX.2 rfl
      rw [hd] at hr
      simp only at hr
      cases hx : rdX B1 with
      | none =>
        rw [hx] at hr
        exact .inl ⟨hX2.1 hx, hr⟩
      | some xc =>
        obtain ⟨x0, c1⟩ := xc
        obtain ⟨rfl, rfl, rfl⟩ := hX2.2 _ _ hx
        have l2 := rdX_len hx
        rw [hx] at hr
        simp only at hr
        refine .inr ⟨rfl, by omega, ?_⟩
        rw [hr]
        cases rdS (n - 1 - (i + 1)) (a.by' d x) B2 with
        | none => rfl
        | some q => simp
theorem SI.done {n : Nat} {B : List Bool} {i : Nat} {out : List Sm} {a : Tr} {Bi : List Bool} {wg : Bool} (h : SI n B i out a Bi wg) (hi : n - 1 ≤ i) : RdE (rdF n B) out Bi wg := by
  rcases h with ⟨h, hr⟩ | ⟨h, hl, hr⟩
  · exact ⟨fun _ => h, fun d0 c hh => by rw [hr] at hh; exact absurd hh (by simp)⟩
  · rw [show n - 1 - i = 0 by omega, rdS] at hr
    simp only [List.append_nil] at hr
    refine ⟨fun hh => by rw [hr] at hh; exact absurd hh (by simp), fun d0 c hh => ?_⟩
    rw [hr] at hh
    injection hh with hh
    injection hh with h5 h6
    exact ⟨h5, h6, h⟩
theorem SI.bad {n : Nat} {B : List Bool} {i : Nat} {out : List Sm} {a : Tr} {Bi : List Bool} (h : SI n B i out a Bi true) (l : List Sm) (B' : List Bool) : RdE (rdF n B) l B' true := by
  rcases h with ⟨h, hr⟩ | ⟨h, _⟩
  · exact ⟨fun _ => rfl, fun d0 c hh => by rw [hr] at hh; exact absurd hh (by simp)⟩
  · exact absurd h (by simp)


def z32 : List Value := [.int .i64 0, .int .u64 0]
theorem info32z : (Tryz.prog.info? 50).map (fun i => i.zero.map (·.cells)) = some (some z32.toArray) := by kernel_rfl
theorem size32 : (Tryz.prog.info? 50).map (·.size) = some 2 := by kernel_rfl
theorem res_first (tmps : Array Value) (w : World) (g : Nat) (a b : Value) (hp : tmps.getD 2 undef = .pointer (some ⟨g, 0, none⟩)) (h0 : w.cell? ⟨g, 0, none⟩ = some a) (h1 : w.cell? ⟨g, 1, none⟩ = some b) :
    (results Tryz.f213 tmps).run Tryz.prog w = .ok (.agg #[a, b]) w := by
  have h : Tryz.f213.results = #[.cell 2 50] := by kernel_rfl
  have hp' : tmps[2]?.getD undef = .pointer (some ⟨g, 0, none⟩) := by simpa using hp
  simp [results, h, hp', asAddr, loadVar, h0, h1, go_sem]
theorem built32 (a b : Value) (x : Int) (y : Int) (ha : a = .int .i64 x) (hb : b = .int .u64 y) : Tryz.prog.built 50 [(0, a), (1, b)] = some #[.int .i64 x, .int .u64 y] := by subst ha hb; kernel_rfl

set_option maxRecDepth 100000 in
set_option maxHeartbeats 8000000 in
theorem firstP (w : World) (r p : Nat) (B : List Bool) (wg : Bool) (h : XS w r p B wg) :
    Calls Tryz.prog 213 #[.pointer (some ⟨r, 0, none⟩)] w fun e w' => e = .returned (smV (f1 B)) ∧ XS w' r p (g1 B) (h1 B wg) ∧ Chg (F2 r p) w w' := by
  have HX := hidden h
  have hrl := h.blk.lt
  have HTK : Hid (∀ w1 B1 g1, XS w1 r p B1 g1 → Calls Tryz.prog 217 #[.pointer (some ⟨r, 0, none⟩), .int .i64 64] w1 fun e w' => e = .returned (.int .u64 (tkV 64 B1 : Int)) ∧ XS w' r p (tkB 64 B1) (tkW 64 B1 g1) ∧ Chg (F2 r p) w1 w') := hidden (fun w1 B1 g1 h1 => takeP w1 r p B1 g1 64 h1 (by omega))
  clear h
  go_enter Tryz.func213, Tryz.ntmps213
  go_wp2_with (refine wpList_alloc_blk rfl 50 rfl 2 rfl z32 info32z ?_; intro w1 B1 bl1 hz1; have HB1 := hidden B1; have X1 := hidden (HX.out.later bl1); have C1 := hidden (Chg.of_below (F := F2 r p) bl1); clear B1 bl1 hz1)
  refine (HTK.out w1 B wg X1.out).mono ?_
  rintro e w2 ⟨rfl, h2, hc2⟩
  have X2 := hidden h2
  have hnr : ¬ F2 r p w.heap.size := by unfold F2; have := HX.out.lt; omega
  have HB2 := hidden (hc2.blk HB1.out hnr)
  have C2 := hidden (C1.out.trans hc2 (fun i _ hi => hi))
  clear h2 hc2
  go_wp2_with fail
  refine (HTK.out w2 _ _ X2.out).mono ?_
  rintro e w3 ⟨rfl, h3, hc3⟩
  have X3 : Hid (XS w3 r p (g1 B) (h1 B wg)) := hidden h3
  have HB3 := hidden (hc3.blk HB2.out hnr)
  have C3 := hidden (C2.out.trans hc3 (fun i _ hi => hi))
  clear h3 hc3
  have hv1 := tkV_lt (n := 64) (B := B) (by omega)
  have hv2 := tkV_lt (n := 64) (B := tkB 64 B) (by omega)
  have hcv : IntKind.i64.wrap ((tkV 64 B : Nat) : Int) = wr (tkV 64 B : Nat) := by
    rw [IntKind.wrap_i64]
    unfold wr
    rfl
  have HE : Hid (smV (f1 B) = .agg #[.int .i64 (wr (tkV 64 B : Nat)), .int .u64 (tkV 64 (tkB 64 B) : Int)]) := hidden (by unfold smV f1; rfl)
  rw [← hcv] at HE
  generalize hW : IntKind.i64.wrap ((tkV 64 B : Nat) : Int) = W at *
  generalize tkV 64 (tkB 64 B) = V2 at *
  clear hcv
  go_wp2_with (first
    | simp only [hW]
    | (refine wpList_build_to rfl 50 #[(0, .tmp 10), (1, .tmp 11)] rfl [(0, .int .i64 W), (1, .int .u64 (V2 : Int))] #[.int .i64 W, .int .u64 (V2 : Int)] rfl (built32 _ _ _ _ rfl rfl) ?_)
    | (refine wpList_store_blk rfl 50 (.tmp 2) (.tmp 12) rfl rfl w.heap.size (l := [.int .i64 W, .int .u64 (V2 : Int)]) HB3.out rfl rfl rfl size32 (by intro v hv; simp at hv; rcases hv with rfl | rfl <;> rfl) ?_))
  have hN := blk_stored (l := [.int .i64 W, .int .u64 (V2 : Int)]) HB3.out rfl
  refine bodyPost_ret (res_first _ _ w.heap.size _ _ rfl (hN.cell 0) (hN.cell 1)) rfl ?_
  rw [HE.out]
  have hcs := Chg.sets w.heap.size [.int .i64 W, .int .u64 (V2 : Int)] 0 w3
  refine ⟨rfl, X3.out.bel hrl (hcs.below (by have := HB3.out.lt; omega) (fun i hi => by omega)), C3.out.trans hcs (fun i hi e => by omega)⟩

set_option maxRecDepth 100000 in
set_option maxHeartbeats 8000000 in
theorem endP (w : World) (r p : Nat) (B : List Bool) (wg : Bool) (h : XS w r p B wg) :
    Calls Tryz.prog 206 #[.pointer (some ⟨r, 0, none⟩)] w fun e w' => e = .returned (.tuple #[]) ∧ (∃ B', XS w' r p B' (wg || !decide (B.length < 8 ∧ vl B = 0))) ∧ Chg (F2 r p) w w' := by
  have hBl := h.len
  obtain ⟨l, t, k1, k2, k3⟩ := h.rs
  have hlen : 8 * l.length - t = B.length := by rw [k3, List.length_drop, ub_len]
  have HL := hidden (left_any p t l w k1 (by omega))
  rw [hlen] at HL
  have HX := hidden h
  have c0 := h.blk.cell 0
  simp at c0
  clear h k1 k2 k3 hlen
  obtain ⟨ok, hok⟩ : ∃ ok, decide (B.length < 8 ∧ vl B = 0) = ok := ⟨_, rfl⟩
  rw [hok]
  go_enter Tryz.func206, Tryz.ntmps206
  go_wp2_with fail
  refine HL.out.mono ?_
  rintro e w1 ⟨rfl, hc1⟩
  have X1 : Hid (XS w1 r p B wg) := hidden (by
    obtain ⟨l, t, k1, k2, k3⟩ := HX.out.rs
    exact ⟨hc1.blk HX.out.blk (fun e => e), ⟨l, t, k1.same hc1, k2, k3⟩, HX.out.lt⟩)
  have C1 := hidden (hc1.mono (G := F2 r p) (fun i _ hi => hi.elim))
  clear hc1
  by_cases h8 : B.length < 8
  · have h8z : ¬ (8 : Int) ≤ (B.length : Int) := by omega
    have HT := hidden (takeP w1 r p B wg B.length X1.out (by omega))
    have e1 : tkV B.length B = vl B := by unfold tkV; rw [if_pos (Nat.le_refl _), List.take_length]
    have e2 : tkW B.length B wg = wg := by unfold tkW; rw [if_pos (Nat.le_refl _)]
    rw [e1, e2] at HT
    generalize tkB B.length B = B' at *
    have hvl := vl_lt B
    have hv2 : 2 ^ B.length ≤ 2 ^ 8 := Nat.pow_le_pow_right (by omega) (by omega)
    clear e1 e2
    have hdec : ok = decide (vl B = 0) := by rw [← hok]; simp [h8]
    have HOK := hidden hdec
    clear hok hdec
    generalize vl B = v at *
    generalize B.length = n at *
    go_wp2_with fail
    refine HT.out.mono ?_
    rintro e w2 ⟨rfl, h2, hc2⟩
    have X2 := hidden h2
    have C2 := hidden (C1.out.trans hc2 (fun i _ hi => hi))
    have f2 := h2.blk.frozen 1
    have d2 := h2.blk.cell 1
    simp at d2
    clear h2 hc2
    by_cases hv : v = 0
    · subst hv
      go_wp2
      go_end0
      exact ⟨rfl, ⟨_, by rw [HOK.out]; simpa using X2.out⟩, C2.out⟩
    · have hvz : ¬ (v : Int) = 0 := by omega
      have hvz2 : ((v : Int) != 0) = true := by simp; omega
      go_wp2_with fail
      first | go_region | skip
      go_wp2
      go_end0
      exact ⟨rfl, ⟨_, by rw [HOK.out]; simpa [hv] using X2.out.wrong⟩, C2.out.trans ((chg_set _ r 1 (.bool true)).mono (G := F2 r p) (fun i _ hi => .inl hi)) (fun i _ hi => hi)⟩
  · have h8z : (8 : Int) ≤ (B.length : Int) := by omega
    have hdec : ok = false := by rw [← hok]; simp [h8]
    subst hdec
    clear hok
    generalize B.length = n at *
    have f2 := X1.out.blk.frozen 1
    have d2 := X1.out.blk.cell 1
    simp at d2
    go_wp2_with fail
    first | go_region | skip
    go_wp2
    go_end0
    exact ⟨rfl, ⟨_, by simpa using X1.out.wrong⟩, C1.out.trans ((chg_set _ r 1 (.bool true)).mono (G := F2 r p) (fun i _ hi => .inl hi)) (fun i _ hi => hi)⟩

end Go.Proofs.YtalmpmhnkilalaaGreatDoor
