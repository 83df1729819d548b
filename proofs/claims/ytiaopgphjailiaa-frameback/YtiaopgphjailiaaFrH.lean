/-
  Get: the document's.
-/
import Derived.Test.YtiaopgphjailiaaFrG
namespace Go.Proofs.Ytiaopgphjailiaa
open Go.RowKit
set_option linter.unusedVariables false
set_option linter.unusedSimpArgs false

set_option maxHeartbeats 2000000 in
theorem refGet_any (ad : Option Addr) (len cap : Nat) (l : List Int) (w : World) (hs : Sl w ad len l) (hc : len ≤ cap) (hb : len ≤ 140737488355328) :
    Calls Try.prog 18 #[.slice ad len cap] w (GotP w l) := by
  have hlen := hidden hs.len
  by_cases h9 : len < 9
  · clear hs
    go_enter Try.func18, Try.ntmps18
    go_wp2_with fail
    go_ret3
    exact got_none (gett_short (by rw [hlen.out]; omega)) (Below.refl _ _)
  obtain ⟨b, off, rfl, _, hcell⟩ := hs.at (by omega)
  have HS := hidden hs
  have HBT := hidden hs.byte
  clear hs hcell
  have hc1 : ¬ cap = 1 := by omega
  have hc2 : 1 ≤ cap := by omega
  have hc5 : 5 ≤ cap := by omega
  have hc5' : ¬ cap < 5 := by omega
  have hl1 : 1 ≤ len := by omega
  have HN1 : Hid (num4 ((l.drop 1).take 4) = num4 (l.drop 1)) := by
    unfold num4 Hid
    simp only [List.getD, List.getElem?_take]
    rfl
  go_enter Try.func18, Try.ntmps18
  go_wp2_with fail
  refine (word_any (some ⟨b, off + 1, none⟩) 4 (cap - 1) ((l.drop 1).take 4) w (HS.out.cut (K := 1) (N := 4) (by omega) (fun _ => rfl)) (by omega)).mono ?_
  rintro e w1 ⟨rfl, n1, rfl⟩
  rw [HN1.out]
  have hn4 := num4_lt (l.drop 1) (HBT.out.drop 1)
  obtain ⟨n, hn⟩ : ∃ n, num4 (l.drop 1) = n := ⟨_, rfl⟩
  rw [hn] at hn4 ⊢
  have HN := hidden hn
  clear hn HN1
  have HL1 := hidden (lat_drewN w n1)
  generalize w.drewN n1 = w2 at *
  by_cases hbig : 4194304 < n
  · have hbig' : (n : Int) > 4194304 := by omega
    go_wp2_with fail
    go_ret3
    exact got_none (gett_none HN.out (.inl hbig)) HL1.out
  have hbig' : ¬ (n : Int) > 4194304 := by omega
  by_cases hsl : len < n + 9
  · have hsl' : (len : Int) < (n : Int) + 9 := by omega
    go_wp2_with fail
    go_ret3
    exact got_none (gett_none HN.out (.inr (by rw [hlen.out]; omega))) HL1.out
  have hsl' : ¬ (len : Int) < (n : Int) + 9 := by omega
  obtain ⟨z, hz⟩ : ∃ z, n + 5 = z := ⟨_, rfl⟩
  have hz4 : 5 + (n : Int) = (z : Int) := by omega
  have hzc : z ≤ cap := by omega
  have hcz : ¬ cap < z := by omega
  have hne : ¬ cap = z := by omega
  have hzl : z ≤ len := by omega
  have HSW := hidden (HS.out.later HL1.out)
  have HN2 : Hid (num4 ((l.drop z).take 4) = num4 (l.drop z)) := by
    unfold num4 Hid
    simp only [List.getD, List.getElem?_take]
    rfl
  have H25 : Hid (∀ wx, Lat w2 wx → Calls Try.prog 27 #[.slice (some ⟨b, off + z, none⟩) 4 (cap - z)] wx fun e w3 => e = .returned (.int .u32 ((num4 (l.drop z) : Nat) : Int)) ∧ Lat wx w3) := fun wx hx =>
    (word_any _ _ _ _ wx ((HSW.out.later hx).cut (K := z) (N := 4) (by omega) (fun _ => rfl)) (by omega)).mono (by
      rintro e w3 ⟨rfl, k, rfl⟩
      rw [HN2.out]
      exact ⟨rfl, lat_drewN wx k⟩)
  have H23 : Hid (∀ wx, Lat w2 wx → Calls Try.prog 28 #[.slice (some ⟨b, off, none⟩) z cap] wx fun e w3 => e = .returned (.int .u32 ((crc (l.take z) : Nat) : Int)) ∧ Lat wx w3) := fun wx hx =>
    (refCrc_any _ _ _ _ wx ((HSW.out.later hx).cutT hzl) (by omega)).mono (by
      rintro e w3 ⟨rfl, rfl⟩
      exact ⟨rfl, Lat.refl _⟩)
  clear HN2
  obtain ⟨x, hx⟩ : ∃ x, num4 (l.drop z) = x := ⟨_, rfl⟩
  obtain ⟨y, hy⟩ : ∃ y, crc (l.take z) = y := ⟨_, rfl⟩
  rw [hx] at H25
  rw [hy] at H23
  have HX := hidden hx
  have HY := hidden hy
  have HZ := hidden hz
  clear hx hy
  have hz0 : IntKind.i64.wrap ((z : Int) + 4) = (z : Int) + 4 := wrapI _ (by omega) (by omega)
  have HZ0 := hidden hz0
  clear hz0
  go_wp2_with fail
  by_cases hxy : x = y
  · refine rget_r7_eq b off len cap z x y w2 _ _ (by rfl) (by rfl) (by rfl) hzl hzc hcz hne HZ0.out (by omega) (by omega) (by omega) (by omega) H25.out H23.out (by omega) ?_
    intro v27 v28 v29 v30 v31 v32 v33 v34 v35 v36 w3 hL3
    have HL3 := hidden (Lat.trans _ _ _ HL1.out hL3)
    clear hL3 H25 H23
    simp only [Act.put, List.setIfInBounds_toArray, List.set_cons_succ, List.set_cons_zero]
    go_wp2_with fail
    have HS3 := hidden (HS.out.later HL3.out)
    refine rget_r10 b off len cap z (l.getD 0 0) w3.heap.size (z - 5) ((l.drop 5).take (z - 5)) w3 _ _ (by rfl) (by rfl) (by rfl) (by rfl) (by omega) hcz hzc (by omega) (by omega) HZ0.out (by omega) (Nat.le_refl _) (fun wx hx => ?_) (fun wx hx => (HS3.out.later hx).cut (K := 5) (N := z - 5) (by omega) (fun _ => rfl)) ?_
    · obtain ⟨b', off', e, _, hc'⟩ := (HS3.out.later hx).at (by omega)
      cases e
      exact hc' 0 (by omega)
    · rintro v38 v39 v40 v41 v42 v43 v44 v45 v46 v47 v2 v3 v4 w4 hL4 ⟨rfl, ⟨a3, c3, rfl, ho⟩, rfl⟩
      have HO := hidden ho
      have HL4 := hidden hL4
      clear ho hL4
      simp only [Act.put, List.setIfInBounds_toArray, List.set_cons_succ, List.set_cons_zero]
      go_wp2_with fail
      go_ret3
      have hz5 : z - 5 = n := by omega
      have hs9 : (z : Int) + 4 = ((n + 9 : Nat) : Int) := by omega
      rw [hs9]
      refine got_some (n := n + 9) (d := (l.drop 5).take (z - 5)) ?_ (by rw [List.length_take, List.length_drop, hlen.out]; omega) (Bld.of_row (owns_lower HO.out HL3.out.size) (Lat.trans _ _ _ HL3.out HL4.out))
      rw [gett_some HN.out (by omega) (by rw [hlen.out]; omega) (by rw [Nat.add_comm 5 n, hz, HX.out, HY.out, hxy]), hz5]
  · refine rget_r7_ne b off len cap z x y w2 _ _ (by rfl) (by rfl) (by rfl) hzl hzc hcz hne HZ0.out (by omega) (by omega) (by omega) (by omega) H25.out H23.out (by omega) ?_
    intro v27 v28 v29 v30 v31 v32 v33 v34 v35 v36 w3 hL3
    have HL3 := hidden (Lat.trans _ _ _ HL1.out hL3)
    clear hL3 H25 H23
    simp only [Act.put, List.setIfInBounds_toArray, List.set_cons_succ, List.set_cons_zero]
    go_wp2_with fail
    go_ret3
    refine got_none (gett_bad HN.out ?_) HL3.out
    rw [Nat.add_comm 5 n, hz, HX.out, HY.out]
    exact hxy

end Go.Proofs.Ytiaopgphjailiaa
