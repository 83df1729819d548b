/-
  Put: the document's.
-/
import Derived.Test.YtiaopgphjailiaaFrC
import Derived.Test.YtiaopgphjailiaaRefCrc
namespace Go.Proofs.Ytiaopgphjailiaa
open Go.RowKit
set_option linter.unusedVariables false
set_option linter.unusedSimpArgs false

theorem owns_one (w : World) (k : Int) (g : Nat) (hg : g = w.heap.size) : Bld w (w.alloc (.cells #[.int .u8 k] 5)) (.slice (some ⟨g, 0, none⟩) 1 1) 1 [k] := by
  subst hg
  refine ⟨⟨rfl, .inr ⟨_, 1, #[.int .u8 k], rfl, Nat.zero_le _, (by rw [heap_alloc_new w]), Nat.le_refl _, by decide, rfl, rfl⟩⟩, (Below.refl _ _).alloc (Nat.le_refl _) _, fun g hg => ?_⟩
  simp [Value.ownBlock] at hg
  omega

set_option maxHeartbeats 1000000 in
theorem made_any (k : Int) (ad : Option Addr) (ld cd : Nat) (D : List Int) (w : World) (hk : 0 ≤ k ∧ k ≤ 255) (hsd : Sl w ad ld D) (hnd : ad = none → ld = 0 ∧ cd = 0) (hd : ld ≤ 4194304) :
    Calls Try.prog 24 #[.int .u8 k, .slice ad ld cd] w fun e w' => ∃ ag c, e = .returned (.slice ag (ld + 9) c) ∧ Bld w w' (.slice ag (ld + 9) c) (ld + 9) (made k D) := by
  obtain ⟨i0, hi, hz0, hz1, hz2⟩ := info_parts info5
  have hld := hidden hsd.len
  have HSD := hidden hsd
  have HND := hidden hnd
  have HK := hidden hk
  clear hsd hnd
  go_enter Try.func24, Try.ntmps24
  go_wp2_with fail
  have H1 := hidden (owns_one w k _ rfl)
  refine (four_any (some ⟨w.heap.size, 0, none⟩) 1 1 [k] ld _ H1.out.row (by omega) (by omega)).mono ?_
  rintro e w2 ⟨a2, c2, rfl, ho2, hc2, hm2⟩
  have H2 := hidden (H1.out.step ho2 hc2 hm2)
  clear ho2 hc2 hm2
  go_wp2_with (first
    | (at_builtin; refine wpList_appends _ rfl (.tmp 12) (.tmp 13) 22 rfl 5 i0 (.int .u8 0) Try.underlying22 hi hz0 hz1 hz2 rfl (.slice a2 (1 + 4) c2) (1 + 4) ([k] ++ w4 ld) rfl H2.out.row ad ld cd D rfl (HSD.out.later H2.out.bel) HND.out (by omega) ?_; intro v5 w5 ho5 hc5 hm5; have H5 := hidden (H2.out.step ho5 hc5 hm5); obtain ⟨g5, c5, rfl, hl5, _, _⟩ := owns_some ho5 (by omega); clear ho5 hc5 hm5))
  have hby : Byte ([k] ++ w4 ld ++ D) := (Byte.append (show Byte [k] from fun z hz => by simp at hz; rw [hz]; exact HK.out) (w4_byte ld)).append HSD.out.byte
  have e1 : [k] ++ w4 ld ++ D = head k D := by rw [← hld.out]; rfl
  have hsl : Sl w5 (some ⟨g5, 0, none⟩) (1 + 4 + ld) (head k D) := by rw [← e1]; exact H5.out.sl hby
  clear hby
  refine (refCrc_any _ _ _ _ w5 hsl (by omega)).mono ?_
  rintro e w6 ⟨rfl, rfl⟩
  clear hsl
  have hcl := crc_lt (head k D)
  obtain ⟨x, hx⟩ : ∃ x, crc (head k D) = x := ⟨_, rfl⟩
  rw [hx] at hcl ⊢
  have HX := hidden hx
  have HE := hidden e1
  clear hx e1
  go_wp2_with fail
  refine (four_any (some ⟨g5, 0, none⟩) (1 + 4 + ld) c5 _ x _ H5.out.row hcl (by omega)).mono ?_
  rintro e w7 ⟨a7, c7, rfl, ho7, hc7, hm7⟩
  have H7 := hidden (H5.out.step ho7 hc7 hm7)
  clear ho7 hc7 hm7
  go_wp2_with fail
  go_ret
  have e : 1 + 4 + ld + 4 = ld + 9 := by omega
  have h7 := H7.out
  rw [e, HE.out, ← HX.out] at h7
  rw [e]
  exact ⟨_, _, rfl, h7⟩

set_option maxHeartbeats 1000000 in
theorem refPut_any (ab : Option Addr) (lb cb : Nat) (B : List Int) (k : Int) (ad : Option Addr) (ld cd : Nat) (D : List Int) (w : World) (hsb : Sl w ab lb B) (hnb : ab = none → lb = 0 ∧ cb = 0) (hk : 0 ≤ k ∧ k ≤ 255) (hsd : Sl w ad ld D) (hnd : ad = none → ld = 0 ∧ cd = 0) (hb : lb ≤ 70368744177664) (hd : ld ≤ 4194304) :
    Calls Try.prog 12 #[.slice ab lb cb, .int .u8 k, .slice ad ld cd] w fun e w' => ∃ ag c, e = .returned (.tuple #[.slice ag (lb + (ld + 9)) c, .int .i64 0]) ∧ Bld w w' (.slice ag (lb + (ld + 9)) c) (lb + (ld + 9)) (B ++ made k D) := by
  obtain ⟨i0, hi, hz0, hz1, hz2⟩ := info_parts info5
  have HSB := hidden hsb
  have HSD := hidden hsd
  have HND := hidden hnd
  have HNB := hidden hnb
  have HK := hidden hk
  clear hsb hsd hnd hnb
  go_enter Try.func12, Try.ntmps12
  go_wp2_with (first
    | (at_builtin; refine wpList_appends _ rfl (.tmp 12) (.tmp 13) 22 rfl 5 i0 (.int .u8 0) Try.underlying22 hi hz0 hz1 hz2 rfl (.slice none 0 0) 0 [] rfl (World.ownsRow_nil _ _ _ _) ab lb cb B rfl HSB.out HNB.out (by omega) ?_; intro v2 w2 ho2 hc2 hm2; rw [Nat.zero_add, List.nil_append] at ho2; have H2 : Hid (Bld w w2 v2 lb B) := ⟨ho2, hc2.bel_none (fun g hg => by cases hg), fun g hg => moved_ge hm2 hg⟩; obtain ⟨a2, c2, rfl⟩ := owns_form ho2; clear ho2 hc2 hm2))
  refine (made_any k ad ld cd D w2 HK.out (HSD.out.later H2.out.bel) HND.out hd).mono ?_
  rintro e w3 ⟨a3, c3, rfl, h3⟩
  have H3 := hidden h3
  have H23 := hidden (H2.out.later h3.bel)
  have HSM := hidden (h3.sl (made_byte HK.out HSD.out.byte))
  clear h3
  go_wp2_with (first
    | (at_builtin; refine wpList_appends _ rfl (.tmp 15) (.tmp 18) 22 rfl 5 i0 (.int .u8 0) Try.underlying22 hi hz0 hz1 hz2 rfl (.slice a2 lb c2) lb B rfl H23.out.row a3 (ld + 9) c3 (made k D) rfl HSM.out (fun h => absurd (sl_noneQ HSM.out h) (by omega)) (by omega) ?_; intro v5 w5 ho5 hc5 hm5; have H5 := hidden (H23.out.step ho5 hc5 hm5); obtain ⟨a5, c5, rfl⟩ := owns_form ho5; clear ho5 hc5 hm5))
  go_ret2
  exact ⟨_, _, rfl, H5.out⟩
theorem refPut_big (ab : Option Addr) (lb cb : Nat) (k : Int) (ad : Option Addr) (ld cd : Nat) (w : World) (hd : 4194304 < ld) (hb : ld ≤ 9223372036854775807) :
    Calls Try.prog 12 #[.slice ab lb cb, .int .u8 k, .slice ad ld cd] w fun e w' => e = .returned (.tuple #[.slice none 0 0, .int .i64 50]) ∧ w' = w := by
  go_enter Try.func12, Try.ntmps12
  go_wp2_with fail
  go_ret2
  exact ⟨rfl, rfl⟩

end Go.Proofs.Ytiaopgphjailiaa
