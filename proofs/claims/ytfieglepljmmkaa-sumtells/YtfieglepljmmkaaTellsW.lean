import Derived.Test.YtfieglepljmmkaaTellsR
namespace Go.Proofs.Ytfieglepljmmkaa
open Go.RowKit
set_option linter.unusedVariables false

set_option maxRecDepth 100000 in
set_option maxHeartbeats 2000000 in
theorem tells_any (ad : Option Addr) (len cap : Nat) (l : List Int) (w : World) (hs : Sl w ad len l) (hlc : len ≤ cap) (hcm : cap ≤ 9223372036854775807) (hn0 : ad = none → len = 0 ∧ cap = 0) (hb : len ≤ 140737488351232) :
    Calls Try.prog 3 #[.slice ad len cap] w fun e w' => e = .returned (.bool true) ∧ Below w.heap.size w w' := by
  have HS := hidden hs
  have HN0 := hidden hn0
  have hlen := hs.len
  have HLEN := hidden hlen
  clear hs hn0 hlen
  go_enter Try.func3, Try.ntmps3
  go_wp2_with fail
  refine (shown_any w).mono ?_
  rintro e w1 ⟨rfl, hb1⟩
  have HB1 := hidden hb1
  have HS1 := hidden (HS.out.later hb1)
  clear hb1
  go_wp2_with fail
  refine (lent_any ad len cap l w1 HS1.out (by omega)).mono ?_
  rintro e w2 ⟨rfl, hB2, hb2⟩
  obtain ⟨g, hg⟩ : ∃ g, w1.heap.size = g := ⟨_, rfl⟩
  have HBL2 : Hid (Below w.heap.size w w2) := HB1.out.trans (hb2.mono HB1.out.size)
  have HS2 := hidden (HS1.out.later hb2)
  rw [hg] at hB2 ⊢
  have hLl : (l ++ List.replicate 8 (201 : Int)).length = len + 8 := by
    rw [List.length_append, HLEN.out, List.length_replicate]
  have hcx : ∀ W, Lat w2 W → ∀ j, j < len + 8 → W.cell? ⟨g, 0 + j, none⟩ = some (.int .u8 ((l ++ List.replicate 8 201).getD j 0)) := fun W hL j hj => by
    rw [(hB2.later hL).cell, Nat.zero_add]
    generalize l ++ List.replicate 8 (201 : Int) = X at *
    simp [cells8, List.getD, show j < X.length by omega]
  have hSl : ∀ W, Lat w2 W → Sl W (some ⟨g, 0, none⟩) len l := fun W hL => by
    refine ⟨HLEN.out, HS.out.byte, fun j hj => ⟨_, rfl, ?_⟩⟩
    have := hcx W hL j (by omega)
    rw [Addr.add_lit, this, List.getD_eq_getElem?_getD, List.getElem?_append_left (by rw [HLEN.out]; exact hj), ← List.getD_eq_getElem?_getD]
  have HCX := hidden hcx
  have HSL := hidden hSl
  clear hB2 hb2 hg HB1 HS1 hLl hcx hSl
  go_wp2_with fail
  refine (crc_any (some ⟨g, 0, none⟩) len (len + 8) l w2 (HSL.out w2 (Lat.refl _)) (by omega)).mono ?_
  rintro e w3 ⟨rfl, hb3⟩
  have HL3 : Hid (Lat w2 w3) := hb3
  clear hb3
  go_wp2_with fail
  refine (of_any (some ⟨g, 0, none⟩) len (len + 8) l w3 (HSL.out w3 HL3.out) (by omega) (by omega) (by omega)).mono ?_
  rintro e w4 ⟨rfl, hb4⟩
  have HL4 : Hid (Lat w2 w4) := Lat.trans _ _ _ HL3.out hb4
  have hD32 : (cells8 (digest l)).length = 32 := by rw [cells8_length, digest_len]
  have honeD := cells8_one (digest l)
  have HEQ : Hid (∀ w1, (Op.equalIn 10000 27 (.agg (cells8 (digest l)).toArray) (.agg (cells8 (digest l)).toArray)).run Try.prog w1 = .ok true w1) := fun w1 => eqIn8 27 32 Try.underlying27 (digest l) (digest_len l) w1
  have H13 : Hid (∀ w1, Lat w2 w1 → Calls Try.prog 13 #[.slice ad len cap] w1 fun e w2 => e = .returned (.agg (cells8 (digest l)).toArray) ∧ Lat w1 w2) := fun w1 hL => refOf_any ad len cap l w1 (HS2.out.later hL) HN0.out hb
  clear hb4 HL3
  generalize hDD : cells8 (digest l) = DD at *
  clear hDD
  have HO := hidden honeD
  clear honeD
  have HD32 := hidden hD32
  clear hD32
  go_wp2_with (first
    | (refine wpList_new_var rfl rfl 27 6 (.tmp 20) rfl rfl rfl rfl 32 zero27 DD HD32.out HO.out (by simp) rfl ?_; intro w5 B5 bl5 hz5; clear hz5))
  obtain ⟨g6, hg6⟩ : ∃ g6, w4.heap.size = g6 := ⟨_, rfl⟩
  rw [hg6] at B5 ⊢
  have HL5 : Hid (Lat w2 w5) := Lat.trans _ _ _ HL4.out bl5
  have HB5 := hidden B5
  clear B5 bl5 hg6 HL4
  refine (still_any g 0 (len + 8) ad len cap l w5 (fun j hj => HCX.out w5 HL5.out j hj) (HS2.out.later HL5.out) (by omega)).mono ?_
  rintro e w6 ⟨rfl, nd, hw6⟩
  have L56 : Lat w5 w6 := by
    rw [hw6]
    exact below_drewN (Below.refl _ _) nd
  have HL6 : Hid (Lat w2 w6) := Lat.trans _ _ _ HL5.out L56
  have HB6 : Hid (Blk w6 g6 27 DD) := HB5.out.later L56
  clear hw6 L56 HB5 HL5
  go_wp2_with fail
  refine tells_r6 ad len cap g6 (crc l) DD w6 _ _ (by rfl) (by rfl) (by rfl) (by rfl) (by rfl) (by rfl) (fun w1 hL => (HB6.out.later hL).all) (by rw [info27, HD32.out]) HEQ.out (fun w1 hL => (refCrc_any ad len cap l w1 (HS2.out.later (Lat.trans _ _ _ HL6.out hL)) (by omega)).mono (fun e w2 ⟨h1, h2⟩ => ⟨h1, h2 ▸ Lat.refl _⟩)) (fun w1 hL => H13.out w1 (Lat.trans _ _ _ HL6.out hL)) ?_
  intro v24 v25 v26 v27 v28 v29 v30 v31 v32 v33 v34 v35 v36 v37 v38 v39 w7 hL7
  have HBF : Hid (Below w.heap.size w w7) := HBL2.out.trans ((Lat.trans _ _ _ HL6.out hL7).mono HBL2.out.size)
  clear hL7
  simp only [Act.put, List.setIfInBounds_toArray, List.set_cons_succ, List.set_cons_zero]
  go_wp2_with fail
  go_ret
  exact ⟨rfl, HBF.out⟩

end Go.Proofs.Ytfieglepljmmkaa
