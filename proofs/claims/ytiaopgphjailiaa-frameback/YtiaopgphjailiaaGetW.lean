/-
  FrameGets' walk.
-/
import Derived.Test.YtiaopgphjailiaaFrO
import Derived.Test.YtiaopgphjailiaaStill
namespace Go.Proofs.Ytiaopgphjailiaa
open Go Go.RowKit
set_option linter.unusedVariables false
set_option linter.unusedSimpArgs false

theorem Bld.blk {w w' : World} {v : Value} {n : Nat} {xs : List Int} (h : Bld w w' v n xs) : ∀ g, v.ownBlock = some g → w.heap.size ≤ g ∧ g < w'.heap.size := fun g hg => ⟨h.new g hg, owns_lt h.row g hg⟩
theorem moved_not {w : World} {r s : Option Nat} {g : Nat} (h : Moved w r s) (hr : r ≠ some g) (hg : g < w.heap.size) : s ≠ some g := by
  rintro rfl
  rcases h with e | ⟨g', e, hg'⟩
  · exact hr e.symm
  · obtain rfl := Option.some.inj e
    omega

theorem gett_len (l : List Int) : (gett l).2.1.length ≤ 4194304 := by
  unfold gett
  split
  · exact Nat.zero_le _
  · split
    · exact Nat.zero_le _
    · split
      · rw [List.length_take, List.length_drop]; omega
      · exact Nat.zero_le _
theorem GotP.to {w w' : World} {l : List Int} {e : Ending} {k : Int} {d : List Int} {m : Nat} (h : GotP w l e w') (hg : gett l = (k, d, m)) :
    ∃ ag c, e = .returned (.tuple #[.int .u8 k, .slice ag d.length c, .int .i64 (m : Nat)]) ∧ Bld w w' (.slice ag d.length c) d.length d := by
  unfold GotP at h
  rw [hg] at h
  exact h

set_option maxHeartbeats 2000000 in
theorem gets_any (ad : Option Addr) (len cap : Nat) (l : List Int) (w : World) (hs : Sl w ad len l) (hc : len ≤ cap) (hno : ad = none → len = 0 ∧ cap = 0) (hb : len ≤ 140737488351232) :
    Calls Try.prog 4 #[.slice ad len cap] w fun e w' => e = .returned (.bool true) ∧ Below w.heap.size w w' := by
  have HS := hidden hs
  have HL := hidden hs.len
  have HBY := hidden hs.byte
  obtain ⟨k, d, m, hG⟩ : ∃ k d m, gett l = (k, d, m) := ⟨_, _, _, rfl⟩
  have hd1 := gett_byte HBY.out
  have hd2 := gett_len l
  rw [hG] at hd1 hd2
  have HG := hidden hG
  have HD1 : Hid (Byte d) := hd1
  have hd2' : d.length ≤ 4194304 := hd2
  clear hs hno hG hd1 hd2
  obtain ⟨n, hn⟩ : ∃ n, d.length = n := ⟨_, rfl⟩
  have HN := hidden hn
  rw [hn] at hd2'
  clear hn
  go_enter Try.func4, Try.ntmps4
  go_wp2_with fail
  refine (shown_any w).mono ?_
  rintro e w1 ⟨rfl, hb1⟩
  have HB1 := hidden hb1
  clear hb1
  go_wp2_with fail
  refine (lent_any ad len cap l w1 (HS.out.later HB1.out) (by omega)).mono ?_
  rintro e w2 ⟨rfl, hx2, hb2⟩
  obtain ⟨X, hX⟩ : ∃ X, w1.heap.size = X := ⟨_, rfl⟩
  rw [hX] at hx2 ⊢
  have HX2 := hidden hx2
  have HB2 := hidden (HB1.out.trans (hb2.mono HB1.out.size))
  have HXL : Hid (X < w2.heap.size ∧ w.heap.size ≤ X) := ⟨hx2.lt, hX ▸ HB1.out.size⟩
  clear hx2 hb2 hX
  have hcap : ¬ (len + 8 < len) := by omega
  go_wp2_with fail
  have HSX := hidden (lent_sl HX2.out HL.out HBY.out)
  refine (get_any (some ⟨X, 0, none⟩) len (len + 8) l w2 HSX.out (by omega) (by omega)).mono ?_
  intro e w3 g3
  obtain ⟨a3, c3, rfl, h3⟩ := g3.to HG.out
  clear g3
  rw [HN.out] at h3 ⊢
  have H3 := hidden h3
  have HB3 := hidden (HB2.out.trans (h3.bel.mono HB2.out.size))
  clear h3
  go_wp2_with fail
  refine (get_any (some ⟨X, 0, none⟩) len (len + 8) l w3 (HSX.out.later H3.out.bel) (by omega) (by omega)).mono ?_
  intro e w4 g4
  obtain ⟨a4, c4, rfl, h4⟩ := g4.to HG.out
  clear g4
  rw [HN.out] at h4 ⊢
  have H4 := hidden h4
  have HB4 := hidden (HB3.out.trans (h4.bel.mono HB3.out.size))
  clear h4
  go_wp2_with fail
  refine (refGet_any ad len cap l w4 (HS.out.later HB4.out) hc (by omega)).mono ?_
  intro e w5 g5
  obtain ⟨a5, c5, rfl, h5⟩ := g5.to HG.out
  clear g5
  rw [HN.out] at h5 ⊢
  have H5 := hidden h5
  have HB5 := hidden (HB4.out.trans (h5.bel.mono HB4.out.size))
  clear h5
  go_wp2_with fail
  refine (still_any X 0 (len + 8) ad len cap l w5 (lent_cell (HX2.out.later (H3.out.bel.trans ((H4.out.bel.trans (H5.out.bel.mono H4.out.bel.size)).mono H3.out.bel.size))) HL.out) (HS.out.later HB5.out) (by omega)).mono ?_
  rintro e w6 ⟨rfl, q6, rfl⟩
  have hb6 := lat_drewN w5 q6
  have HB6 := hidden (HB5.out.trans (hb6.mono HB5.out.size))
  have R3 := hidden (H3.out.later (H4.out.bel.trans ((H5.out.bel.trans (hb6.mono H5.out.bel.size)).mono H4.out.bel.size)))
  have R4 := hidden (H4.out.later (H5.out.bel.trans (hb6.mono H5.out.bel.size)))
  have R5 := hidden (H5.out.later hb6)
  have HS6 : Hid (w5.heap.size ≤ (w5.drewN q6).heap.size) := hb6.size
  clear hb6
  generalize w5.drewN q6 = w6 at *
  have k3 := convS (cap := c3) (R3.out.sl HD1.out)
  have k4 := convS (cap := c4) (R4.out.sl HD1.out)
  have k5 := convS (cap := c5) (R5.out.sl HD1.out)
  obtain ⟨S, hS⟩ : ∃ S, strOfNums d = S := ⟨_, rfl⟩
  rw [hS] at k3 k4 k5
  go_wp2_with fail
  refine (full_any a3 n c3 d 1 w6 R3.out.row (by omega) (by omega)).mono ?_
  rintro e w7 ⟨a7, c7, rfl, ho7, hc7, hm7⟩
  have HX7 : Hid (Blk w7 X 5 (cells8 (l ++ List.replicate 8 201))) := hc7.blk (HX2.out.later R3.out.bel) (fun hg => by have := (H3.out.blk X hg).1; have := HXL.out.1; omega)
  have HB7 := hidden (HB6.out.trans (hc7.below HB6.out.size (fun g hg => Nat.le_trans HB2.out.size (R3.out.new g hg))))
  have R47 : Hid (w7.ownsRow 0 5 1 (.slice a4 n c4) n (cells8 d)) := hc7.owns R4.out.row (fun g hg h3 => by have := (H4.out.blk g hg).1; have := (H3.out.blk g h3).2; omega)
  have R57 : Hid (w7.ownsRow 0 5 1 (.slice a5 n c5) n (cells8 d)) := hc7.owns R5.out.row (fun g hg h3 => by have := (H5.out.blk g hg).1; have := (H3.out.blk g h3).2; have := H4.out.bel.size; omega)
  have HO7 := hidden ho7
  have HM7 := hidden hm7
  have HC7 := hidden hc7.size
  clear ho7 hm7 hc7 k3 k4 k5
  have k4 := convS (cap := c4) (sl_of_owns R47.out HD1.out)
  have k5 := convS (cap := c5) (sl_of_owns R57.out HD1.out)
  rw [hS] at k4 k5
  go_wp2_with fail
  refine (full_any a4 n c4 d 2 w7 R47.out (by omega) (by omega)).mono ?_
  rintro e w8 ⟨a8, c8, rfl, ho8, hc8, hm8⟩
  have HX8 : Hid (Blk w8 X 5 (cells8 (l ++ List.replicate 8 201))) := hc8.blk HX7.out (fun hg => by have := (H4.out.blk X hg).1; have := HXL.out.1; have := H3.out.bel.size; omega)
  have HB8 := hidden (HB7.out.trans (hc8.below HB7.out.size (fun g hg => Nat.le_trans HB3.out.size (H4.out.new g hg))))
  have R78 : Hid (w8.ownsRow 0 5 1 (.slice a7 (n + 64) c7) (n + 64) (cells8 (List.replicate (n + 64) 1))) := hc8.owns HO7.out (fun g hg h4 => by
    have h4b := H4.out.blk g h4
    have hlt : g < w6.heap.size := by have := H5.out.bel.size; have := HS6.out; omega
    exact moved_not HM7.out (fun h3 => by have := (H3.out.blk g h3).2; omega) hlt hg)
  have HO8 := hidden ho8
  clear ho8 hm8 hc8 k4 k5
  go_wp2_with fail
  refine (all_any a7 (n + 64) c7 1 w8 (sl_of_owns R78.out (fun z hz => by rw [List.eq_of_mem_replicate hz]; omega)) (by omega) (by omega)).mono ?_
  rintro e w9 ⟨rfl, rfl⟩
  go_wp2_with fail
  refine (all_any a8 (n + 64) c8 2 w9 (sl_of_owns HO8.out (fun z hz => by rw [List.eq_of_mem_replicate hz]; omega)) (by omega) (by omega)).mono ?_
  rintro e w9 ⟨rfl, rfl⟩
  go_wp2_with fail
  refine (still_any X 0 (len + 8) ad len cap l w9 (lent_cell HX8.out HL.out) (HS.out.later HB8.out) (by omega)).mono ?_
  rintro e w10 ⟨rfl, q10, rfl⟩
  have hb10 := lat_drewN w9 q10
  generalize w9.drewN q10 = w10 at *
  go_wp2_with fail
  go_ret
  exact ⟨rfl, HB8.out.trans (hb10.mono HB8.out.size)⟩

end Go.Proofs.Ytiaopgphjailiaa
