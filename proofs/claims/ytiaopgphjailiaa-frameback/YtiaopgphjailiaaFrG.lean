/-
  Get: the program's and the document's.
-/
import Derived.Test.YtiaopgphjailiaaFrF
namespace Go.Proofs.Ytiaopgphjailiaa
open Go.RowKit
set_option linter.unusedVariables false
set_option linter.unusedSimpArgs false

/-- What Get answers. -/
def GotP (w : World) (l : List Int) (e : Ending) (w' : World) : Prop :=
  ∃ ag c, e = .returned (.tuple #[.int .u8 (gett l).1, .slice ag (gett l).2.1.length c, .int .i64 ((gett l).2.2 : Nat)]) ∧ Bld w w' (.slice ag (gett l).2.1.length c) (gett l).2.1.length (gett l).2.1
theorem got_none {w w' : World} {l : List Int} (h : gett l = (0, [], 0)) (hb : Below w.heap.size w w') : GotP w l (.returned (.tuple #[.int .u8 0, .slice none 0 0, .int .i64 0])) w' := by
  unfold GotP
  rw [h]
  exact ⟨none, 0, rfl, World.ownsRow_nil _ _ _ _, hb, fun g hg => by cases hg⟩
theorem got_some {w w' : World} {l : List Int} {k : Int} {d : List Int} {n : Nat} (h : gett l = (k, d, n)) {ag : Option Addr} {c m : Nat} (hm : d.length = m) (ho : Bld w w' (.slice ag m c) m d) : GotP w l (.returned (.tuple #[.int .u8 k, .slice ag m c, .int .i64 (n : Nat)])) w' := by
  unfold GotP
  rw [h]
  subst hm
  exact ⟨ag, c, rfl, ho⟩
theorem Bld.of_row {w w' : World} {v : Value} {n : Nat} {xs : List Int} (h : w'.ownsRow w.heap.size 5 1 v n (cells8 xs)) (hb : Below w.heap.size w w') : Bld w w' v n xs := ⟨owns_zero h, hb, fun g hg => (h.lt g hg).1⟩
theorem lat_drewN (w : World) (n : Nat) : Lat w (w.drewN n) := below_drewN (Below.refl _ _) n
theorem Sl.cutL {w : World} {b off len K : Nat} {l : List Int} (h : Sl w (some ⟨b, off, none⟩) len l) (hk : K ≤ len) : Sl w (some ⟨b, off + K, none⟩) (len - K) (l.drop K) := by
  have h2 := h.cut (K := K) (N := len - K) (by omega) (ad := some ⟨b, off + K, none⟩) (fun _ => rfl)
  rw [List.take_of_length_le (by rw [List.length_drop, h.len]; omega)] at h2
  exact h2
theorem Sl.cutT {w : World} {b off len K : Nat} {l : List Int} (h : Sl w (some ⟨b, off, none⟩) len l) (hk : K ≤ len) : Sl w (some ⟨b, off, none⟩) K (l.take K) := by
  have h2 := h.cut (K := 0) (N := K) (by omega) (ad := some ⟨b, off, none⟩) (fun _ => rfl)
  rw [List.drop_zero] at h2
  exact h2
theorem wrapI (z : Int) (h1 : -9223372036854775808 ≤ z) (h2 : z ≤ 9223372036854775807) : IntKind.i64.wrap z = z := by
  rw [IntKind.wrap_i64]
  omega

set_option maxHeartbeats 2000000 in
theorem get_any (ad : Option Addr) (len cap : Nat) (l : List Int) (w : World) (hs : Sl w ad len l) (hc : len ≤ cap) (hb : len ≤ 140737488355328) :
    Calls Try.prog 17 #[.slice ad len cap] w (GotP w l) := by
  have hlen := hidden hs.len
  by_cases h5 : len < 5
  · clear hs
    go_enter Try.func17, Try.ntmps17
    go_wp2_with fail
    go_ret3
    exact got_none (gett_short (by rw [hlen.out]; omega)) (Below.refl _ _)
  obtain ⟨b, off, rfl, _, hcell⟩ := hs.at (by omega)
  have c0 : w.cell? ⟨b, off, none⟩ = some (.int .u8 (l.getD 0 0)) := hcell 0 (by omega)
  have HC0 := hidden c0
  have HS := hidden hs
  have HBT := hidden hs.byte
  clear hs hcell c0
  have hc1 : ¬ cap = 1 := by omega
  have hc2 : 1 ≤ cap := by omega
  have hl1 : 1 ≤ len := by omega
  go_enter Try.func17, Try.ntmps17
  go_wp2_with fail
  refine (wordAt_any (some ⟨b, off + 1, none⟩) (len - 1) (cap - 1) (l.drop 1) w (HS.out.cutL hl1) (by omega)).mono ?_
  rintro e w1 ⟨rfl, n1, rfl⟩
  have hn4 := num4_lt (l.drop 1) (HBT.out.drop 1)
  obtain ⟨n, hn⟩ : ∃ n, num4 (l.drop 1) = n := ⟨_, rfl⟩
  rw [hn] at hn4 ⊢
  have HN := hidden hn
  clear hn
  have HL1 := hidden (lat_drewN w n1)
  generalize w.drewN n1 = w1 at *
  go_wp2_with fail
  refine (size_any n w1 (by omega)).mono ?_
  rintro e w2 ⟨rfl, rfl⟩
  by_cases hbig : 4194304 < n
  · rw [sizeN_big n hbig]
    go_wp2_with fail
    go_ret3
    exact got_none (gett_none HN.out (.inl hbig)) HL1.out
  rw [sizeN_ok n (by omega)]
  obtain ⟨s, hs⟩ : ∃ s, n + 9 = s := ⟨_, rfl⟩
  rw [hs]
  have hs0 : ¬ ((s : Nat) : Int) = 0 := by omega
  by_cases hsl : len < s
  · have hsl' : ((s : Nat) : Int) > (len : Int) := by omega
    go_wp2_with fail
    go_ret3
    exact got_none (gett_none HN.out (.inr (by rw [hlen.out]; omega))) HL1.out
  have hsl' : ¬ ((s : Nat) : Int) > (len : Int) := by omega
  obtain ⟨z, hz⟩ : ∃ z, n + 5 = z := ⟨_, rfl⟩
  have hz4 : ((s : Nat) : Int) - 4 = (z : Int) := by omega
  have hzc : z ≤ cap := by omega
  have hcz : ¬ cap < z := by omega
  have hne : ¬ cap = z := by omega
  have hzl : z ≤ len := by omega
  have HSW := hidden (HS.out.later HL1.out)
  have H25 : Hid (∀ wx, Lat w2 wx → Calls Try.prog 25 #[.slice (some ⟨b, off + z, none⟩) (len - z) (cap - z)] wx fun e w3 => e = .returned (.int .u32 ((num4 (l.drop z) : Nat) : Int)) ∧ Lat wx w3) := fun wx hx =>
    (wordAt_any _ _ _ _ wx ((HSW.out.later hx).cutL hzl) (by omega)).mono (by
      rintro e w3 ⟨rfl, k, rfl⟩
      exact ⟨rfl, lat_drewN wx k⟩)
  have H23 : Hid (∀ wx, Lat w2 wx → Calls Try.prog 23 #[.slice (some ⟨b, off, none⟩) z cap] wx fun e w3 => e = .returned (.int .u32 ((crc (l.take z) : Nat) : Int)) ∧ Lat wx w3) := fun wx hx =>
    (crc_any _ _ _ _ wx ((HSW.out.later hx).cutT hzl) (by omega)).mono (by
      rintro e w3 ⟨rfl, k⟩
      exact ⟨rfl, k⟩)
  obtain ⟨x, hx⟩ : ∃ x, num4 (l.drop z) = x := ⟨_, rfl⟩
  obtain ⟨y, hy⟩ : ∃ y, crc (l.take z) = y := ⟨_, rfl⟩
  rw [hx] at H25
  rw [hy] at H23
  have HX := hidden hx
  have HY := hidden hy
  have HZ := hidden hz
  have HSS := hidden hs
  clear hx hy
  go_wp2_with fail
  by_cases hxy : x = y
  · refine get_r7_eq b off len cap z x y w2 _ _ (by rfl) (by rfl) (by rfl) hzl hzc hcz hne H25.out H23.out (by omega) ?_
    intro v25 v26 v27 v28 v29 v30 v31 v32 w3 hL3
    have HL3 := hidden (Lat.trans _ _ _ HL1.out hL3)
    clear hL3 H25 H23
    simp only [Act.put, List.setIfInBounds_toArray, List.set_cons_succ, List.set_cons_zero]
    go_wp2_with fail
    have HS3 := hidden (HS.out.later HL3.out)
    refine get_r9 b off len cap z s (l.getD 0 0) w3.heap.size (z - 5) ((l.drop 5).take (z - 5)) w3 _ _ (by rfl) (by rfl) (by rfl) (by rfl) (by omega) hcz hzc (by omega) (by omega) (fun wx hx => ?_) (fun wx hx => ?_) ?_
    · obtain ⟨b', off', e, _, hc'⟩ := (HS3.out.later hx).at (by omega)
      cases e
      exact hc' 0 (by omega)
    · refine (clone_any _ _ _ ((l.drop 5).take (z - 5)) wx ((HS3.out.later hx).cut (K := 5) (N := z - 5) (by omega) (fun _ => rfl)) (fun h => by cases h) (by omega)).mono ?_
      rintro e w4 ⟨a4, c4, rfl, ho4, hb4, _⟩
      exact ⟨_, rfl, hb4, _, _, rfl, owns_lower ho4 hx.size⟩
    · rintro v34 v35 v36 v37 v38 v39 v40 v41 v2 v3 v4 w4 hL4 ⟨rfl, ⟨a3, c3, rfl, ho⟩, rfl⟩
      have HO := hidden ho
      have HL4 := hidden hL4
      clear ho hL4
      simp only [Act.put, List.setIfInBounds_toArray, List.set_cons_succ, List.set_cons_zero]
      go_wp2_with fail
      go_ret3
      have hz5 : z - 5 = n := by omega
      refine got_some (n := s) (d := (l.drop 5).take (z - 5)) ?_ (by rw [List.length_take, List.length_drop, hlen.out]; omega) (Bld.of_row (owns_lower HO.out HL3.out.size) (Lat.trans _ _ _ HL3.out HL4.out))
      rw [gett_some HN.out (by omega) (by rw [hlen.out]; omega) (by rw [Nat.add_comm 5 n, hz, HX.out, HY.out, hxy]), hz5, hs]
  · refine get_r7_ne b off len cap z x y w2 _ _ (by rfl) (by rfl) (by rfl) hzl hzc hcz hne H25.out H23.out (by omega) ?_
    intro v25 v26 v27 v28 v29 v30 v31 v32 w3 hL3
    have HL3 := hidden (Lat.trans _ _ _ HL1.out hL3)
    clear hL3 H25 H23
    simp only [Act.put, List.setIfInBounds_toArray, List.set_cons_succ, List.set_cons_zero]
    go_wp2_with fail
    go_ret3
    refine got_none (gett_bad HN.out ?_) HL3.out
    rw [Nat.add_comm 5 n, hz, HX.out, HY.out]
    exact hxy

end Go.Proofs.Ytiaopgphjailiaa
