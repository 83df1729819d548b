import Derived.Test.YtjlpkgepiajapaaDoorPpQ
import Derived.Test.YtjlpkgepiajapaaDoorPpN
import Derived.Test.YtjlpkgepiajapaaDoorSaA
import Derived.Test.YtjlpkgepiajapaaDoorSaD
import Derived.Test.YtjlpkgepiajapaaDoorSaE
import Derived.Test.YtjlpkgepiajapaaDoorSaF
/-
  PoolPlays: a step, kind other.
-/
namespace Go.Proofs.YtjlpkgepiajapaaDoor
open Go.RowKit
set_option linter.unusedVariables false
set_option linter.unusedSimpArgs false

set_option maxRecDepth 100000 in
set_option maxHeartbeats 8000000 in
theorem step_other (w0 : World) (v : Nat) (p r q n : Nat → Nat) (kd on sl : Int) (s : ByteArray) (ad : Option Addr) (len c : Nat) (l : List Int) (w : World) (h : PX w0 v p r q n w) (hon : -9223372036854775808 ≤ on ∧ on ≤ 9223372036854775807) (hsl : -9223372036854775808 ≤ sl ∧ sl ≤ 9223372036854775807)
    (hs : Sl w0 ad len l) (hno : ad = none → len = 0 ∧ c = 0) (hlc : len ≤ c) (hc : c ≤ 9223372036854775807) (hkd : kd ≠ 1 ∧ kd ≠ 2 ∧ kd ≠ 3 ∧ kd ≠ 4 ∧ kd ≠ 5 ∧ kd ≠ 6 ∧ kd ≠ 7) :
    Calls Tryd.prog 8 #[.pointer (some ⟨v, 0, none⟩), .agg #[.int .i64 kd, .int .i64 on, .int .i64 sl, .string s, .slice ad len c]] w fun e w' => e = .returned (.bool true) ∧ PX w0 v p r q n w' := by
  obtain ⟨st, F, B, vb, vn, Lb, Ln, hP, hLim⟩ := h
  have ba : Below w.heap.size w (w.alloc (.cells #[.int .i64 kd, .int .i64 on, .int .i64 sl, .string s, .slice ad len c] 42)) := (Below.refl _ _).alloc (Nat.le_refl _) _
  have HP := hidden hP
  have HB : Hid (SB w0 v p r q n w.heap.size (oC kd on sl s ad len c) st st (w.alloc (.cells #[.int .i64 kd, .int .i64 on, .int .i64 sl, .string s, .slice ad len c] 42))) := hidden ⟨F, B, vb, vn, Lb, Ln, hP.later ba, Blk.new w 42 (oC kd on sl s ad len c)⟩
  have hcp : ∀ k, k < 3 → (w.alloc (.cells #[.int .i64 kd, .int .i64 on, .int .i64 sl, .string s, .slice ad len c] 42)).cell? ⟨v, k, none⟩ = some (.pointer (some ⟨p k, 0, none⟩)) ∧ (w.alloc (.cells #[.int .i64 kd, .int .i64 on, .int .i64 sl, .string s, .slice ad len c] 42)).cell? ⟨v, 3 + k, none⟩ = some (.pointer (some ⟨r k, 0, none⟩)) := fun k hk => ⟨(hP.later ba).cp hk, (hP.later ba).cr hk⟩
  have HCP := hidden hcp
  have HPI := hidden (pickP on 3 (by omega) (by omega) hon)
  have HLI := hidden hLim
  have HSL := hidden hs
  have HNO := hidden hno
  have HSB := hidden (And.intro hlc hc)
  clear hP ba hcp hon hLim hs hno hlc hc
  go_enter Tryd.func8, Tryd.ntmps8
  go_upto_region 2 with (refine (HPI.out _).mono ?_; clear HPI; rintro e w1 ⟨⟨k, hk, rfl⟩, rfl⟩)
  have hk3 : k < 3 := by omega
  obtain ⟨c1, c2⟩ := HCP.out k hk3
  have HK := hidden hk3
  clear HCP hk3
  obtain ⟨k1, k2, k3, k4, k5, k6, k7⟩ := hkd
  clear hsl
  go_wp2_with fail
  go_ret
  exact ⟨rfl, HB.out.px HLI.out⟩

end Go.Proofs.YtjlpkgepiajapaaDoor

/-
  PoolPlays: a step.
-/
namespace Go.Proofs.YtjlpkgepiajapaaDoor
open Go.RowKit
set_option linter.unusedVariables false
set_option linter.unusedSimpArgs false

theorem stepP (w0 : World) (v : Nat) (p r q n : Nat → Nat) (kd on sl : Int) (s : ByteArray) (ad : Option Addr) (len c : Nat) (l : List Int) (w : World) (h : PX w0 v p r q n w) (hon : -9223372036854775808 ≤ on ∧ on ≤ 9223372036854775807) (hsl : -9223372036854775808 ≤ sl ∧ sl ≤ 9223372036854775807)
    (hs : Sl w0 ad len l) (hno : ad = none → len = 0 ∧ c = 0) (hlc : len ≤ c) (hc : c ≤ 9223372036854775807) :
    Calls Tryd.prog 8 #[.pointer (some ⟨v, 0, none⟩), .agg #[.int .i64 kd, .int .i64 on, .int .i64 sl, .string s, .slice ad len c]] w fun e w' => e = .returned (.bool true) ∧ PX w0 v p r q n w' := by
  by_cases k1 : kd = 1
  · subst k1; exact step_take w0 v p r q n on sl s ad len c l w h hon hsl hs hno hlc hc
  · by_cases k2 : kd = 2
    · subst k2; exact step_give w0 v p r q n on sl s ad len c l w h hon hsl hs hno hlc hc
    · by_cases k3 : kd = 3
      · subst k3; exact step_put w0 v p r q n on sl s ad len c l w h hon hsl hs hno hlc hc
      · by_cases k4 : kd = 4
        · subst k4; exact step_get w0 v p r q n on sl s ad len c l w h hon hsl hs hno hlc hc
        · by_cases k5 : kd = 5
          · subst k5; exact step_who w0 v p r q n on sl s ad len c l w h hon hsl hs hno hlc hc
          · by_cases k6 : kd = 6
            · subst k6; exact step_drop w0 v p r q n on sl s ad len c l w h hon hsl hs hno hlc hc
            · by_cases k7 : kd = 7
              · subst k7; exact step_many w0 v p r q n on sl s ad len c l w h hon hsl hs hno hlc hc
              · exact step_other w0 v p r q n kd on sl s ad len c l w h hon hsl hs hno hlc hc ⟨k1, k2, k3, k4, k5, k6, k7⟩

end Go.Proofs.YtjlpkgepiajapaaDoor
