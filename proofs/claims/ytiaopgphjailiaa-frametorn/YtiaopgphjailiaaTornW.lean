/-
  FrameTorn's walk.
-/
import Derived.Test.YtiaopgphjailiaaTornR
import Derived.Deep.CutRange
namespace Go.Proofs.Ytiaopgphjailiaa
open Go Go.RowKit
set_option linter.unusedVariables false
set_option linter.unusedSimpArgs false

set_option maxHeartbeats 2000000 in
theorem torn_any (k : Int) (ad : Option Addr) (ld cd : Nat) (D : List Int) (cut at_ B : Int) (w : World) (hk : 0 ≤ k ∧ k ≤ 255) (hsd : Sl w ad ld D) (hnd : ad = none → ld = 0 ∧ cd = 0) (hld : ld ≤ 140737488351232)
    (hcut : -9223372036854775808 ≤ cut ∧ cut ≤ 9223372036854775807) (hat : -9223372036854775808 ≤ at_ ∧ at_ ≤ 9223372036854775807) (hB : 0 ≤ B ∧ B ≤ 255) :
    Calls Try.prog 7 #[.int .u8 k, .slice ad ld cd, .int .i64 cut, .int .i64 at_, .int .u8 B] w fun e w' => e = .returned (.bool true) ∧ Below w.heap.size w w' := by
  obtain ⟨i0, hi, hz0, hz1, hz2⟩ := info_parts info5
  have HSD := hidden hsd
  have HLD := hidden hsd.len
  have HND := hidden hnd
  have HK := hidden hk
  have HCUT := hidden hcut
  have HAT := hidden hat
  have HB := hidden hB
  clear hsd hnd hk hcut hat hB
  go_enter Try.func7, Try.ntmps7
  go_wp2_with fail
  refine (shown_any w).mono ?_
  rintro e w1 ⟨rfl, hb1⟩
  have HB1 := hidden hb1
  clear hb1
  by_cases hbig : (ld : Int) > 4194304
  · go_wp2_with fail
    go_ret
    exact ⟨rfl, HB1.out⟩
  go_wp2_with fail
  refine (put_any none 0 0 [] k ad ld cd D w1 (Sl.nil _ _) HK.out (HSD.out.later HB1.out) HND.out (by omega) (by omega)).mono ?_
  rintro e w2 ⟨a2, c2, rfl, h2⟩
  obtain ⟨n, hn⟩ : ∃ n, 0 + (ld + 9) = n := ⟨_, rfl⟩
  rw [hn, List.nil_append] at h2
  rw [hn]
  have hn9 : Hid (n = ld + 9) := by show _ = _; omega
  have hn1 : 9 ≤ n := by omega
  have hn2 : n ≤ 4194313 := by omega
  have H2 := hidden h2
  have HB2 := hidden (HB1.out.trans (h2.bel.mono HB1.out.size))
  obtain ⟨g, cg, e, hcg, _, _⟩ := owns_some h2.row (by omega)
  cases e
  have HS2 := hidden (h2.sl (made_byte HK.out HSD.out.byte))
  clear h2 hn
  go_upto_if 44 with fail
  go_cut [2] from 45 to 47 (fun s2 wx => (∃ t : Nat, t ≤ 9223372036854775807 ∧ s2 = .int .i64 (t : Int)) ∧ wx = w2)
  case first =>
    have hcu := HCUT.out
    by_cases hneg : cut < 0
    · have he : -(cut + 1) = (((-(cut + 1)).toNat : Nat) : Int) := by omega
      have HE := hidden he
      have hb9 : (-(cut + 1)).toNat ≤ 9223372036854775807 := by omega
      clear he
      go_wp2_with fail
      go_meet
      case rel => exact ⟨⟨(-(cut + 1)).toNat, hb9, by first | (congr 1; have := HE.out; omega) | (rw [← HE.out])⟩, rfl⟩
    · have he : cut = ((cut.toNat : Nat) : Int) := by omega
      have HE := hidden he
      have hb9 : cut.toNat ≤ 9223372036854775807 := by omega
      clear he
      go_wp2_with fail
      go_meet
      case rel => exact ⟨⟨cut.toNat, hb9, by first | rfl | (rw [← HE.out])⟩, rfl⟩
  case rest =>
    obtain ⟨⟨ct, hct9, rfl⟩, hwc⟩ := hcut
    obtain rfl := hwc.symm
    clear hwc
    generalize decide (cut < 0) = bo
    go_upto_if 49 with fail
    go_cut [3] from 50 to 52 (fun s3 wx => (∃ t : Nat, t ≤ 9223372036854775807 ∧ s3 = .int .i64 (t : Int)) ∧ wx = w2)
    case first =>
      have hcu := HAT.out
      by_cases hneg : at_ < 0
      · have he : -(at_ + 1) = (((-(at_ + 1)).toNat : Nat) : Int) := by omega
        have HE := hidden he
        have hb9 : (-(at_ + 1)).toNat ≤ 9223372036854775807 := by omega
        clear he
        go_wp2_with fail
        go_meet
        case rel => exact ⟨⟨(-(at_ + 1)).toNat, hb9, by first | (congr 1; have := HE.out; omega) | (rw [← HE.out])⟩, rfl⟩
      · have he : at_ = ((at_.toNat : Nat) : Int) := by omega
        have HE := hidden he
        have hb9 : at_.toNat ≤ 9223372036854775807 := by omega
        clear he
        go_wp2_with fail
        go_meet
        case rel => exact ⟨⟨at_.toNat, hb9, by first | rfl | (rw [← HE.out])⟩, rfl⟩
    case rest =>
      obtain ⟨⟨j, hj9, rfl⟩, hwc⟩ := hcut
      obtain rfl := hwc.symm
      clear hwc
      generalize decide (at_ < 0) = ba
      obtain ⟨rc, hrc⟩ : ∃ rc : Nat, ct % n = rc := ⟨_, rfl⟩
      have hrl : rc < n := by rw [← hrc]; exact Nat.mod_lt _ (by omega)
      have erc : (ct : Int) % (n : Int) = (rc : Int) := by rw [← hrc]; rfl
      obtain ⟨rj, hrj⟩ : ∃ rj : Nat, j % n = rj := ⟨_, rfl⟩
      have hjl : rj < n := by rw [← hrj]; exact Nat.mod_lt _ (by omega)
      have erj : Int.tmod (j : Int) (n : Int) = (rj : Int) := by rw [← hrj]; rfl
      have ERJ := hidden erj
      have hcc : ¬ ((c2 : Int) < (rc : Int)) := by omega
      clear hrc hrj erj
      go_wp2_with fail
      refine (get_any (some ⟨g, 0, none⟩) rc c2 ((made k D).take rc) w2 (HS2.out.cutT (by omega)) (by omega) (by omega)).mono ?_
      intro e w3 g3
      obtain ⟨a3, c3, rfl, h3⟩ := g3.to (gett_cut k D (by rw [HLD.out]; omega) rc (by rw [HLD.out]; have := hn9.out; omega))
      clear g3
      have HB3 := hidden (HB2.out.trans (h3.bel.mono HB2.out.size))
      have HS3 := hidden (HS2.out.later h3.bel)
      clear h3
      have HE := hidden ((Below.refl w3.heap.size w3).alloc (Nat.le_refl _) (.cells #[] 5))
      go_wp2_with (first
        | (at_builtin; refine wpList_appends _ rfl (.tmp 64) (.tmp 65) 22 rfl 5 i0 (.int .u8 0) Try.underlying22 hi hz0 hz1 hz2 rfl (.slice (some ⟨w3.heap.size, 0, none⟩) 0 0) 0 [] rfl (owns_empty w3 0 (Nat.zero_le _) _ rfl) (some ⟨g, 0, none⟩) n c2 (made k D) rfl (HS3.out.later HE.out) (fun h => by cases h) (by omega) ?_; intro v4 w4 ho4 hc4 hm4; rw [Nat.zero_add, List.nil_append] at ho4; have H4 : Hid (Bld w3 w4 v4 n (made k D)) := (Bld.alloc_new w3).step ho4 hc4 hm4; obtain ⟨g4, c4, rfl, hcg4, _, _⟩ := owns_some ho4 (by omega); clear ho4 hc4 hm4))
      have hby := made_byte HK.out HSD.out.byte
      have hbx := hby.at rj
      have HBY := hidden hby
      have hbb := HB.out
      obtain ⟨x, hx⟩ : ∃ x : Nat, (made k D).getD rj 0 = (x : Int) := ⟨((made k D).getD rj 0).toNat, by omega⟩
      obtain ⟨b, rfl⟩ : ∃ b : Nat, B = (b : Int) := ⟨B.toNat, by omega⟩
      have hx2 : x < 256 := by omega
      have hb2 : b < 256 := by omega
      have hxy : bits .xor .u8 (x : Int) (b : Int) = ((x ^^^ b : Nat) : Int) := u8_xor_nat x b hx2 hb2
      have HX := hidden hx
      have hml : (made k D).length = n := by rw [made_length, HLD.out]; exact hn9.out.symm
      have HML := hidden hml
      have HCE : Hid (∀ wx, Lat w4 wx → wx.cell? ⟨g4, rj, none⟩ = some (.int .u8 (x : Int))) := fun wx hl => by
        rw [(H4.out.later hl).row.cellAt rj (by omega)]
        have h2 : rj < (made k D).length := by omega
        have h3 := HX.out
        simp only [List.getD, List.getElem?_eq_getElem h2, Option.getD_some] at h3
        simp only [cells8, List.getElem?_map, List.getElem?_eq_getElem h2, Option.map_some, h3]
      have HXY := hidden hxy
      have HBX : Hid (x < 256 ∧ b < 256) := ⟨hx2, hb2⟩
      clear hby hbx hbb hx hxy hml hx2 hb2
      refine torn_r13 g4 n c4 rj (j : Int) (x : Int) ((x ^^^ b : Nat) : Int) (b : Int) w4 _ _ (by rfl) (by rfl) (by rfl) (by rfl) (by omega) ERJ.out (by omega) hjl HCE.out HXY.out _ HCE.out (fun wx hl => (H4.out.later hl).row.frozenAt rj) ?_
      intro v67 v68 v69 v70 v71 v72 v73 v74 v75 v76 v77 v78 v79 v80 v81 w5 hL5
      have hrow := owns_set (H4.out.later hL5).row rj ((x ^^^ b : Nat) : Int) (by rw [HML.out]; exact hjl)
      have hbel := (H4.out.later hL5).bel.trans ((Chg.set ⟨g4, rj, none⟩ (.int .u8 ((x ^^^ b : Nat) : Int)) w5).below (H4.out.later hL5).bel.size (fun i hi => by dsimp only at hi; rw [hi]; exact H4.out.new g4 rfl))
      have HROW := hidden hrow
      have HB6 := hidden (HB3.out.trans (hbel.mono HB3.out.size))
      clear hrow hbel hL5 HCE
      generalize w5.setCell ⟨g4, rj, none⟩ (.int .u8 ((x ^^^ b : Nat) : Int)) = w6 at *
      simp only [Act.put, List.setIfInBounds_toArray, List.set_cons_succ, List.set_cons_zero]
      go_wp2_with fail
      have hby6 : Byte ((made k D).set rj ((x ^^^ b : Nat) : Int)) := by
        have := set_byte (made k D) rj b HBX.out.2 HBY.out
        rw [HX.out, Int.toNat_natCast] at this
        exact this
      refine (get_any (some ⟨g4, 0, none⟩) n c4 ((made k D).set rj ((x ^^^ b : Nat) : Int)) w6 (sl_of_owns HROW.out hby6) hcg4 (by omega)).mono ?_
      intro e w7 g7
      obtain ⟨k7, d7, m7, hG⟩ : ∃ k7 d7 m7, gett ((made k D).set rj ((x ^^^ b : Nat) : Int)) = (k7, d7, m7) := ⟨_, _, _, rfl⟩
      obtain ⟨a7, c7, rfl, h7⟩ := g7.to hG
      have HB7 := hidden (HB6.out.trans (h7.bel.mono HB6.out.size))
      clear g7 h7 hby6
      by_cases hb0 : b = 0
      · subst hb0
        have hm : m7 = n := by
          have e1 : (made k D).set rj ((x ^^^ 0 : Nat) : Int) = made k D ++ [] := by
            rw [Nat.xor_zero, ← HX.out, List.append_nil]
            apply List.ext_getElem?
            intro i
            rw [List.getElem?_set]
            split
            · rename_i h
              subst h
              rw [if_pos (by rw [HML.out]; exact hjl), List.getD_eq_getElem?_getD, List.getElem?_eq_getElem (by rw [HML.out]; exact hjl)]
              rfl
            · rfl
          rw [e1, gett_made k D [] (by rw [HLD.out]; omega)] at hG
          have := congrArg (fun x => x.2.2) hG
          dsimp only at this
          rw [← this, HLD.out]
          exact hn9.out.symm
        subst hm
        clear hG
        go_wp2_with fail
        go_ret
        exact ⟨rfl, HB7.out⟩
      · have hm : m7 ≠ n := by
          have h1 := gett_turned k D HK.out HSD.out.byte (by rw [HLD.out]; omega) rj b (by rw [HLD.out]; have := hn9.out; omega) HBX.out.2 hb0
          rw [HX.out, Int.toNat_natCast, hG, HLD.out] at h1
          rw [hn9.out]
          exact h1
        have hm1 : ((m7 : Int) == (n : Int)) = false := by simp; omega
        have hb1 : ((b : Int) == 0) = false := by simp; omega
        clear hG hm
        go_wp2_with fail
        go_ret
        exact ⟨rfl, HB7.out⟩

end Go.Proofs.Ytiaopgphjailiaa
