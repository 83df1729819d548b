/-
  The law's world: born, files.
-/
import Derived.Test.YtnfjhdedcnbdbaaWaR
import Derived.Test.YtnfjhdedcnbdbaaRkF
namespace Go.Proofs.Ytnfjhdedcnbdbaa
open Go.RowKit
set_option linter.unusedVariables false
set_option linter.unusedSimpArgs false

/-- The world of a law: two disks of one state. -/
structure WW (A : World) (wp p x : Nat) (F G : Nat → Prop) (S : St) (lv mv : Value) : Prop where
  b : Blk A wp 33 [.pointer (some ⟨p, 0, none⟩), lv, .pointer (some ⟨x, 0, none⟩), mv]
  d : Dk 71 66 A p F S
  r : Dk 77 74 A x G S
  ap : ∀ i, F i → ¬ G i
theorem WW.nf {A : World} {wp p x : Nat} {F G : Nat → Prop} {S : St} {lv mv : Value} (h : WW A wp p x F G S lv mv) : ¬ F wp ∧ ¬ G wp := by
  have hg : Tg A wp 33 := h.b.tg
  refine ⟨fun k => ?_, fun k => ?_⟩
  · rcases h.d.tg _ k with q | q | q | q <;> exact absurd (hg.one q) (by decide)
  · rcases h.r.tg _ k with q | q | q | q <;> exact absurd (hg.one q) (by decide)
theorem WW.lat {A A' : World} {wp p x : Nat} {F G : Nat → Prop} {S : St} {lv mv : Value} (h : WW A wp p x F G S lv mv) (hb : Lat A A') : WW A' wp p x F G S lv mv := ⟨h.b.later hb, h.d.lat hb, h.r.lat hb, h.ap⟩
theorem built33 (p x : Nat) : Try.prog.built 33 [(0, .pointer (some ⟨p, 0, none⟩)), (2, .pointer (some ⟨x, 0, none⟩))] = some #[.pointer (some ⟨p, 0, none⟩), .pointer none, .pointer (some ⟨x, 0, none⟩), .pointer none] := by kernel_rfl

set_option maxRecDepth 100000 in
theorem bornP (w : World) : Calls Try.prog 6 #[.int .i64 2] w fun e w' => ∃ wp p x F G, e = .returned (.tuple #[.pointer (some ⟨wp, 0, none⟩), .bool true]) ∧ WW w' wp p x F G (St.fresh 2) (.pointer none) (.pointer none) ∧ w.heap.size ≤ wp ∧ (∀ i, F i → w.heap.size ≤ i) ∧ (∀ i, G i → w.heap.size ≤ i) ∧ Below w.heap.size w w' := by
  go_enter Try.func6, Try.ntmps6
  go_wp2_with fail
  refine (newP 2 w (by decide) (by decide)).mono ?_
  rintro e w1 ⟨p, F, rfl, hk1, hF1, hb1⟩
  have HK1 : Hid (Dk 71 66 w1 p F (St.fresh 2)) := hk1
  have HF1 := hidden hF1
  have HL1 : Hid (Lat w w1) := hb1
  clear hk1 hF1 hb1
  go_wp2_with fail
  refine (newR 2 w1 (by decide) (by decide)).mono ?_
  rintro e w2 ⟨x, G, rfl, hk2, hG2, hb2⟩
  have HK2 : Hid (Dk 77 74 w2 x G (St.fresh 2)) := hk2
  have HG2 := hidden hG2
  have HL2 : Hid (Lat w1 w2) := hb2
  clear hk2 hG2 hb2
  go_wp2_with (first
    | (refine wpList_build_to rfl 33 #[(0, .tmp 18), (2, .tmp 19)] rfl [(0, .pointer (some ⟨p, 0, none⟩)), (2, .pointer (some ⟨x, 0, none⟩))] #[.pointer (some ⟨p, 0, none⟩), .pointer none, .pointer (some ⟨x, 0, none⟩), .pointer none] ?_ (built33 p x) ?_; kernel_rfl)
    | (refine wpList_box_blk rfl 33 (.tmp 20) rfl [.pointer (some ⟨p, 0, none⟩), .pointer none, .pointer (some ⟨x, 0, none⟩), .pointer none] rfl ?_; intro w3 B3 bl3 hz3; have HB3 := hidden B3; have HL3 : Hid (Lat w2 w3) := bl3; clear B3 bl3 hz3))
  go_ret2
  refine ⟨w2.heap.size, p, x, F, G, rfl, ⟨HB3.out, (HK1.out.lat HL2.out).lat HL3.out, HK2.out.lat HL3.out, fun i hi hg => ?_⟩, ?_, HF1.out, fun i hi => Nat.le_trans HL1.out.size (HG2.out i hi), Lat.trans _ _ _ HL1.out (Lat.trans _ _ _ HL2.out HL3.out)⟩
  · have := HK1.out.lt i hi
    have := HG2.out i hg
    omega
  · exact Nat.le_trans HL1.out.size HL2.out.size

set_option maxRecDepth 100000 in
set_option maxHeartbeats 2000000 in
theorem filesP (wp p x : Nat) (F G : Nat → Prop) (S : St) (lv mv : Value) (w : World) (h : WW w wp p x F G S lv mv) : Calls Try.prog 10 #[.pointer (some ⟨wp, 0, none⟩)] w fun e w' => e = .returned (.bool true) ∧ Lat w w' := by
  have H := hidden h
  obtain ⟨fb, fc, _, _, _, _, _, x0, x1, x2, _, _, _, h8, h1⟩ := h.r.head
  obtain ⟨n, hn⟩ : ∃ n, S.L.length = n := ⟨_, rfl⟩
  rw [hn] at x0 h8 h1
  have HX0 := hidden x0
  have HX1 := hidden x1
  have HX2 := hidden x2
  have HN := hidden hn
  clear h x0 x1 x2 hn
  go_enter Try.func10, Try.ntmps10
  go_wp2_with fail
  go_loopw [2, 3, 4, 5, 6, 7, 8] (fun v2 v3 v4 v5 v6 v7 v8 wr => v2 = .bool false ∧ ∃ f : Nat, f ≤ n ∧ v3 = .int .i64 (f : Int) ∧ Below w.heap.size w wr) (fun v2 v3 v4 v5 v6 v7 v8 _ => n - (intOf v3).toNat)
  case atStart => exact ⟨rfl, 0, Nat.zero_le _, rfl, Below.refl _ _⟩
  case round =>
    obtain ⟨rfl, f, hf, rfl, hbel⟩ := hrel
    have HL : Hid (Lat w wr) := hbel
    clear hbel
    have a0 : wr.cell? ⟨wp, 0, none⟩ = some (.pointer (some ⟨p, 0, none⟩)) := (H.out.lat HL.out).b.cell 0
    have a2 : wr.cell? ⟨wp, 2, none⟩ = some (.pointer (some ⟨x, 0, none⟩)) := (H.out.lat HL.out).b.cell 2
    have y0 : wr.cell? ⟨x, 0, none⟩ = some (.slice (some ⟨fb, 0, none⟩) n fc) := by
      have q := HX0.out
      rw [HL.out.cell (p := ⟨x, 0, none⟩) (World.block_lt_of_cell? w _ q)]
      exact q
    by_cases hlt : f < n
    · have hlt' : (f : Int) < (n : Int) := by omega
      go_wp2_with fail
      refine (sizeR x G S wr f (H.out.lat HL.out).r).mono ?_
      rintro e w1 ⟨rfl, rfl⟩
      have hsb := St.size_le H.out.d f
      have HSZ : Hid (∀ w2, Lat w1 w2 → Calls Try.prog 29 #[.pointer (some ⟨p, 0, none⟩), .int .i64 (f : Int)] w2 fun e w3 => e = .returned (.int .i64 (S.size f)) ∧ Lat w2 w3) := fun w2 hL => (sizeP p F S w2 f (H.out.lat (Lat.trans _ _ _ HL.out hL)).d).mono (fun e w3 h => ⟨h.1, by rw [h.2]; exact Lat.refl _⟩)
      obtain ⟨z, hz⟩ : ∃ z, S.size f = z := ⟨_, rfl⟩
      rw [hz] at hsb HSZ ⊢
      clear hz
      go_wp2_with fail
      refine files_r5 wp p x f z (S.lasts f) w1 _ _ (by rfl) (by rfl) (by rfl) (by rfl) (fun w2 hL => (H.out.lat (Lat.trans _ _ _ HL.out hL)).b.cell 0) (fun w2 hL => (H.out.lat (Lat.trans _ _ _ HL.out hL)).b.cell 2) HSZ.out (fun w2 hL => (lastsP p F S w2 f (H.out.lat (Lat.trans _ _ _ HL.out hL)).d).mono (fun e w3 h => ⟨h.1, by rw [h.2]; exact Lat.refl _⟩)) (fun w2 hL => (lastsR x G S w2 f (H.out.lat (Lat.trans _ _ _ HL.out hL)).r).mono (fun e w3 h => ⟨h.1, by rw [h.2]; exact Lat.refl _⟩)) ?_
      intros
      rename_i w2 hL2
      have HL2 := hidden (Lat.trans _ _ _ HL.out hL2)
      simp only [Act.put, List.setIfInBounds_toArray, List.set_cons_succ, List.set_cons_zero]
      clear a0 a2 y0 hL2
      have a0 : w2.cell? ⟨wp, 0, none⟩ = some (.pointer (some ⟨p, 0, none⟩)) := (H.out.lat HL2.out).b.cell 0
      go_wp2_with fail
      refine (readP p F S w2 f 0 z (H.out.lat HL2.out).d (by omega) (by omega)).mono ?_
      rintro e w3 ⟨b1, m1, c1, rfl, ho1, hy1, hb1⟩
      have HO1 := hidden ho1
      have HY1 := hidden hy1
      have HL3 := hidden (Lat.trans _ _ _ HL2.out hb1)
      clear ho1 hy1 hb1 a0
      have a2 : w3.cell? ⟨wp, 2, none⟩ = some (.pointer (some ⟨x, 0, none⟩)) := (H.out.lat HL3.out).b.cell 2
      go_wp2_with fail
      refine (readR x G S w3 f 0 z (H.out.lat HL3.out).r (by omega) (by omega)).mono ?_
      rintro e w4 ⟨b2, m2, c2, rfl, ho2, hy2, hb2⟩
      have hcv1 := convS (cap := c1) (sl_of_owns ((Chg.of_below (F := fun _ => False) hb2).owns HO1.out (fun _ _ h => h)) HY1.out)
      have hcv2 := convS (cap := c2) (sl_of_owns ho2 hy2)
      have HL4 := hidden (Lat.trans _ _ _ HL3.out hb2)
      clear ho2 hy2 hb2 a2
      obtain ⟨er, her⟩ : ∃ er, (S.read f 0 z).1 = er := ⟨_, rfl⟩
      rw [her]
      clear her
      go_wp2_with fail
      exact ⟨⟨rfl, f + 1, by omega, by simp, HL4.out⟩, by simp [intOf]; omega⟩
    · have hlt' : ¬ (f : Int) < (n : Int) := by omega
      go_wp2_with fail
      refine files_r11 wp p x S.on S.falls wr _ _ (by rfl) (by rfl) (fun w2 hL => (H.out.lat (Lat.trans _ _ _ HL.out hL)).b.cell 0) (fun w2 hL => (H.out.lat (Lat.trans _ _ _ HL.out hL)).b.cell 2) (fun w2 hL => (aliveP p F S w2 (H.out.lat (Lat.trans _ _ _ HL.out hL)).d).mono (fun e w3 h => ⟨h.1, by rw [h.2]; exact Lat.refl _⟩)) (fun w2 hL => (fallsP p F S w2 (H.out.lat (Lat.trans _ _ _ HL.out hL)).d).mono (fun e w3 h => ⟨h.1, by rw [h.2]; exact Lat.refl _⟩)) (fun w2 hL => ?_) (fun w2 hL => ?_) ?_
      · have q := HX1.out
        rw [Below.cell (Lat.trans _ _ _ HL.out hL) (p := ⟨x, 1, none⟩) (World.block_lt_of_cell? w _ q)]
        exact q
      · have q := HX2.out
        rw [Below.cell (Lat.trans _ _ _ HL.out hL) (p := ⟨x, 2, none⟩) (World.block_lt_of_cell? w _ q)]
        exact q
      · intros
        rename_i w2 hL2
        simp only [Act.put, List.setIfInBounds_toArray, List.set_cons_succ, List.set_cons_zero]
        go_wp2_with fail
        go_ret
        exact ⟨rfl, Lat.trans _ _ _ HL.out hL2⟩

end Go.Proofs.Ytnfjhdedcnbdbaa
