/-
  The document's examples.
-/
import Derived.Test.YtiaopgphjailiaaFrK
import Derived.Test.YtiaopgphjailiaaFrL
import Derived.Lib.SlBytesConst
namespace Go.Proofs.Ytiaopgphjailiaa
open Go Go.RowKit
set_option linter.unusedVariables false
set_option linter.unusedSimpArgs false

theorem constBytes (w : World) (C : Array Value) (n c g : Nat) (hg : g = w.heap.size) : (convert 22 22 (.slice (some ⟨g, 0, none⟩) n c)).run Try.prog (w.alloc (.cells C 5)) = .ok (.slice (some ⟨g, 0, none⟩) n c) (w.alloc (.cells C 5 (C.size, C.size + 1))) := by
  subst hg
  exact Lib.run_convert_bytes_const (P := Try.prog) w 22 5 C n c Try.underlying22 Try.underlying5
theorem convS {w : World} {ad : Option Addr} {len cap : Nat} {l : List Int} (h : Sl w ad len l) : (convert 22 9 (.slice ad len cap)).run Try.prog w = .ok (.string (strOfNums l)) w :=
  run_string_of 22 5 9 Try.underlying22 Try.underlying5 Try.underlying9 h
theorem byte_of {l : List Int} (h : l.all (fun n => decide (0 ≤ n ∧ n ≤ 255)) = true) : Byte l := by
  intro n hn
  have := List.all_eq_true.1 h n hn
  simpa using this
theorem str1 : strOfNums [7, 2, 0, 0, 0, 97, 98] = ⟨#[7, 2, 0, 0, 0, 97, 98]⟩ := by decide
theorem str2 : strOfNums [97, 98] = ⟨#[97, 98]⟩ := by decide
theorem made7 : ([] ++ made 7 [97, 98]).take 7 = [7, 2, 0, 0, 0, 97, 98] := by
  have h := made_head 7 [97, 98] []
  rw [List.append_nil] at h
  exact h
theorem frames7 : fsz (frames ([] ++ made 7 [97, 98])) = 11 := by
  have hg := gett_made 7 [97, 98] [] (by decide)
  rw [List.append_nil] at hg
  rw [List.nil_append, frames_some (by rw [hg]; decide), hg, frames_none]
  · rfl
  · exact gett_nil _ (by rw [List.length_drop, made_length]; rfl)

theorem Bld.start {w0 w w' : World} {v : Value} {n : Nat} {xs : List Int} (h : Bld w w' v n xs) (hb : Below w0.heap.size w0 w) : Bld w0 w' v n xs := ⟨h.row, hb.trans (h.bel.mono hb.size), fun g hg => Nat.le_trans hb.size (h.new g hg)⟩
theorem Bld.alloc_new (w : World) : Bld w (w.alloc (.cells #[] 5)) (.slice (some ⟨w.heap.size, 0, none⟩) 0 0) 0 [] :=
  ⟨owns_empty w 0 (Nat.zero_le _) _ rfl, (Below.refl _ _).alloc (Nat.le_refl _) _, fun g hg => by simp [Value.ownBlock] at hg; omega⟩

set_option maxHeartbeats 2000000 in
theorem shown_any (w : World) : Calls Try.prog 8 #[] w fun e w' => e = .returned (.bool true) ∧ Below w.heap.size w w' := by
  obtain ⟨i0, hi, hz0, hz1, hz2⟩ := info_parts info5
  have kc := constBytes
  have hw0 : Below w.heap.size w (w.alloc (.cells #[.int .u8 97, .int .u8 98] 5 (2, 3))) := (Below.refl _ _).alloc (Nat.le_refl _) _
  have HW0 := hidden hw0
  clear hw0
  go_enter Try.func8, Try.ntmps8
  go_wp2_with fail
  refine (put_any none 0 0 [] 7 (some ⟨w.heap.size, 0, none⟩) 2 2 [97, 98] _ (Sl.nil _ _) (by omega) (sl_lit w [97, 98] (byte_of rfl) 5 (2, 3) 2 rfl _ rfl _ rfl) (fun h => by cases h) (by omega) (by omega)).mono ?_
  rintro e w1 ⟨ag, c, rfl, hbd⟩
  have H1 := hidden (hbd.start HW0.out)
  obtain ⟨g, cg, e, hcg, _, _⟩ := owns_some hbd.row (by omega)
  cases e
  have hcg' : 11 ≤ c := hcg
  have HS1 : Hid (Sl w1 (some ⟨g, 0, none⟩) 11 ([] ++ made 7 [97, 98])) := hbd.sl (by rw [List.nil_append]; exact made_byte (by omega) (byte_of rfl))
  clear hbd hcg
  have HE := hidden ((Below.refl w1.heap.size w1).alloc (Nat.le_refl _) (.cells #[] 5))
  go_wp2_with (first
    | (at_builtin; refine wpList_appends _ rfl (.tmp 16) (.tmp 17) 22 rfl 5 i0 (.int .u8 0) Try.underlying22 hi hz0 hz1 hz2 rfl (.slice (some ⟨w1.heap.size, 0, none⟩) 0 0) 0 [] rfl (owns_empty w1 0 (Nat.zero_le _) _ rfl) (some ⟨g, 0, none⟩) 11 c ([] ++ made 7 [97, 98]) rfl (HS1.out.later HE.out) (fun h => by cases h) (by omega) ?_; intro v2 w2 ho2 hc2 hm2; rw [Nat.zero_add, List.nil_append] at ho2; have H2 : Hid (Bld w1 w2 v2 11 ([] ++ made 7 [97, 98])) := (Bld.alloc_new w1).step ho2 hc2 hm2; obtain ⟨a2, c2, rfl⟩ := owns_form ho2; clear ho2 hc2 hm2)
    | (at_builtin; refine wpList_appends _ rfl (.tmp 18) (.tmp 19) 22 rfl 5 i0 (.int .u8 0) Try.underlying22 hi hz0 hz1 hz2 rfl (.slice a2 11 c2) 11 ([] ++ made 7 [97, 98]) rfl (H2.out.row.alloc _) (some ⟨w2.heap.size, 0, none⟩) 3 3 [1, 2, 3] rfl (sl_lit w2 [1, 2, 3] (byte_of rfl) 5 (0, 0) 3 rfl _ rfl _ rfl) (fun h => by cases h) (by omega) ?_; intro v3 w3 ho3 hc3 hm3; have H3 := hidden (H2.out.stepA ho3 hc3 hm3); obtain ⟨a3, c3, rfl⟩ := owns_form ho3; have hc3' := (owns_cap ho3).2.1; clear ho3 hc3 hm3))
  have hb14 : Byte ([] ++ made 7 [97, 98] ++ [1, 2, 3]) := (by rw [List.nil_append]; exact made_byte (by omega) (byte_of rfl) : Byte ([] ++ made 7 [97, 98])).append (byte_of rfl)
  refine (get_any a3 14 c3 ([] ++ made 7 [97, 98] ++ [1, 2, 3]) w3 (H3.out.sl hb14) (by omega) (by omega)).mono ?_
  intro e w4 h4
  unfold GotP at h4
  rw [List.nil_append, gett_made 7 [97, 98] [1, 2, 3] (by decide)] at h4
  obtain ⟨a4, c4, rfl, h4⟩ := h4
  have H4 := hidden h4
  have HB4 := hidden (H3.out.bel.trans (h4.bel.mono H3.out.bel.size))
  have HS4 := hidden (HS1.out.later HB4.out)
  clear h4 hb14 H2 H3
  have e10 : ¬ (c < 10) := by omega
  go_wp2_with fail
  refine (get_any (some ⟨g, 0, none⟩) 10 c (([] ++ made 7 [97, 98]).take 10) w4 (HS4.out.cutT (by omega)) (by omega) (by omega)).mono ?_
  intro e w5 h5
  unfold GotP at h5
  rw [List.nil_append, gett_cut 7 [97, 98] (by decide) 10 (by decide)] at h5
  obtain ⟨a5, c5, rfl, h5⟩ := h5
  have HB5 := hidden (HB4.out.trans (h5.bel.mono HB4.out.size))
  have HS5 := hidden (HS1.out.later HB5.out)
  have HD := hidden ((H4.out.later h5.bel).sl (byte_of rfl))
  clear h5
  have k1 := convS (cap := c) (HS5.out.cutT (K := 7) (by omega))
  have k2 : (convert 22 9 (.slice a4 2 c4)).run Try.prog w5 = .ok (.string ⟨#[97, 98]⟩) w5 := by
    have := convS (cap := c4) HD.out
    rw [str2] at this
    exact this
  rw [made7, str1] at k1
  have e7 : ¬ (c < 7) := by omega
  go_wp2_with fail
  refine (size_any 2 w5 (by omega)).mono ?_
  rintro e w6 ⟨rfl, rfl⟩
  have hs2 : sizeN 2 = 11 := rfl
  have hs1 : sizeN (-1) = 0 := rfl
  rw [hs2]
  go_wp2_with fail
  refine (size_any (-1) w6 (by omega)).mono ?_
  rintro e w7 ⟨rfl, rfl⟩
  rw [hs1]
  go_wp2_with fail
  refine (whole_any (some ⟨g, 0, none⟩) 11 c _ w7 HS5.out (fun h => by cases h) (by omega)).mono ?_
  rintro e w8 ⟨rfl, hb8⟩
  rw [frames7]
  go_wp2_with fail
  go_ret
  exact ⟨rfl, (H1.out.bel.trans (HB5.out.mono H1.out.bel.size)).trans (hb8.mono (Nat.le_trans H1.out.bel.size HB5.out.size))⟩

end Go.Proofs.Ytiaopgphjailiaa
