import Derived.Test.YtnfjhdedcnbdbaaGreatWaR
import Derived.Test.YtnfjhdedcnbdbaaGreatRkF
import Derived.Test.YtnfjhdedcnbdbaaGreatWlP
import Derived.Test.YtnfjhdedcnbdbaaGreatWlG
import Derived.Test.YtnfjhdedcnbdbaaGreatWsM
import Derived.Test.YtnfjhdedcnbdbaaGreatWlK
/-
  The law's world: born, files.
-/
namespace Go.Proofs.YtnfjhdedcnbdbaaGreat
open Go.RowKit
set_option linter.unusedVariables false
set_option linter.unusedSimpArgs false

/-- The world of a law: two disks of one state. -/
structure WW (A : World) (wp p x : Nat) (F G : Nat → Prop) (S : St) (lv mv : Value) : Prop where
  b : Blk A wp 52 [.pointer (some ⟨p, 0, none⟩), lv, .pointer (some ⟨x, 0, none⟩), mv]
  d : Dk 64 79 A p F S
  r : Dk 82 97 A x G S
  ap : ∀ i, F i → ¬ G i
theorem WW.nf {A : World} {wp p x : Nat} {F G : Nat → Prop} {S : St} {lv mv : Value} (h : WW A wp p x F G S lv mv) : ¬ F wp ∧ ¬ G wp := by
  have hg : Tg A wp 52 := h.b.tg
  refine ⟨fun k => ?_, fun k => ?_⟩
  · rcases h.d.tg _ k with q | q | q | q <;> exact absurd (hg.one q) (by decide)
  · rcases h.r.tg _ k with q | q | q | q <;> exact absurd (hg.one q) (by decide)
theorem WW.lat {A A' : World} {wp p x : Nat} {F G : Nat → Prop} {S : St} {lv mv : Value} (h : WW A wp p x F G S lv mv) (hb : Lat A A') : WW A' wp p x F G S lv mv := ⟨h.b.later hb, h.d.lat hb, h.r.lat hb, h.ap⟩
theorem built33 (p x : Nat) : Tryz.prog.built 52 [(0, .pointer (some ⟨p, 0, none⟩)), (2, .pointer (some ⟨x, 0, none⟩))] = some #[.pointer (some ⟨p, 0, none⟩), .pointer none, .pointer (some ⟨x, 0, none⟩), .pointer none] := by kernel_rfl

set_option maxRecDepth 100000 in
theorem bornP (w : World) : Calls Tryz.prog 5 #[.int .i64 2] w fun e w' => ∃ wp p x F G, e = .returned (.tuple #[.pointer (some ⟨wp, 0, none⟩), .bool true]) ∧ WW w' wp p x F G (St.fresh 2) (.pointer none) (.pointer none) ∧ w.heap.size ≤ wp ∧ (∀ i, F i → w.heap.size ≤ i) ∧ (∀ i, G i → w.heap.size ≤ i) ∧ Below w.heap.size w w' := by
  go_enter Tryz.func5, Tryz.ntmps5
  go_wp2_with fail
  refine (newP 2 w (by decide) (by decide)).mono ?_
  rintro e w1 ⟨p, F, rfl, hk1, hF1, hb1⟩
  have HK1 : Hid (Dk 64 79 w1 p F (St.fresh 2)) := hk1
  have HF1 := hidden hF1
  have HL1 : Hid (Lat w w1) := hb1
  clear hk1 hF1 hb1
  go_wp2_with fail
  refine (newR 2 w1 (by decide) (by decide)).mono ?_
  rintro e w2 ⟨x, G, rfl, hk2, hG2, hb2⟩
  have HK2 : Hid (Dk 82 97 w2 x G (St.fresh 2)) := hk2
  have HG2 := hidden hG2
  have HL2 : Hid (Lat w1 w2) := hb2
  clear hk2 hG2 hb2
  go_wp2_with (first
    | (refine wpList_build_to rfl 52 #[(0, .tmp 18), (2, .tmp 19)] rfl [(0, .pointer (some ⟨p, 0, none⟩)), (2, .pointer (some ⟨x, 0, none⟩))] #[.pointer (some ⟨p, 0, none⟩), .pointer none, .pointer (some ⟨x, 0, none⟩), .pointer none] ?_ (built33 p x) ?_; kernel_rfl)
    | (refine wpList_box_blk rfl 52 (.tmp 20) rfl [.pointer (some ⟨p, 0, none⟩), .pointer none, .pointer (some ⟨x, 0, none⟩), .pointer none] rfl ?_; intro w3 B3 bl3 hz3; have HB3 := hidden B3; have HL3 : Hid (Lat w2 w3) := bl3; clear B3 bl3 hz3))
  go_ret2
  refine ⟨w2.heap.size, p, x, F, G, rfl, ⟨HB3.out, (HK1.out.lat HL2.out).lat HL3.out, HK2.out.lat HL3.out, fun i hi hg => ?_⟩, ?_, HF1.out, fun i hi => Nat.le_trans HL1.out.size (HG2.out i hi), Lat.trans _ _ _ HL1.out (Lat.trans _ _ _ HL2.out HL3.out)⟩
  · have := HK1.out.lt i hi
    have := HG2.out i hg
    omega
  · exact Nat.le_trans HL1.out.size HL2.out.size

set_option maxRecDepth 100000 in
set_option maxHeartbeats 2000000 in
theorem filesP (wp p x : Nat) (F G : Nat → Prop) (S : St) (lv mv : Value) (w : World) (h : WW w wp p x F G S lv mv) : Calls Tryz.prog 35 #[.pointer (some ⟨wp, 0, none⟩)] w fun e w' => e = .returned (.bool true) ∧ Lat w w' := by
  have H := hidden h
  obtain ⟨fb, fc, _, _, _, _, _, x0, x1, x2, _, _, _, h8, h1⟩ := h.r.head
  obtain ⟨n, hn⟩ : ∃ n, S.L.length = n := ⟨_, rfl⟩
  rw [hn] at x0 h8 h1
  have HX0 := hidden x0
  have HX1 := hidden x1
  have HX2 := hidden x2
  have HN := hidden hn
  clear h x0 x1 x2 hn
  go_enter Tryz.func35, Tryz.ntmps35
  go_wp2_with fail
  go_loopw [2, 3, 4, 5, 6, 7, 8] (fun v2 v3 v4 v5 v6 v7 v8 wr => v2 = .bool false ∧ ∃ f : Nat, f ≤ n ∧ v3 = .int .i64 (f : Int) ∧ Below w.heap.size w wr) (fun v2 v3 v4 v5 v6 v7 v8 _ => n - (intOf v3).toNat)
  case atStart => exact ⟨rfl, 0, Nat.zero_le _, rfl, Below.refl _ _⟩
  case round =>
    obtain ⟨rfl, f, hf, rfl, hbel⟩ := hrel
    have HL : Hid (Lat w wr) := hbel
    clear hbel
    have a0 : wr.cell? ⟨wp, 0, none⟩ = some (.pointer (some ⟨p, 0, none⟩)) := (H.out.lat HL.out).b.cell 0
    have a2 : wr.cell? ⟨wp, 2, none⟩ = some (.pointer (some ⟨x, 0, none⟩)) := (H.out.lat HL.out).b.cell 2
    have y0 : wr.cell? ⟨x, 0, none⟩ = some (.slice (some ⟨fb, 0, none⟩) n fc) := by
      have q := HX0.out
      rw [HL.out.cell (p := ⟨x, 0, none⟩) (World.block_lt_of_cell? w _ q)]
      exact q
    by_cases hlt : f < n
    · have hlt' : (f : Int) < (n : Int) := by omega
      go_wp2_with fail
      refine (sizeR x G S wr f (H.out.lat HL.out).r).mono ?_
      rintro e w1 ⟨rfl, rfl⟩
      have hsb := St.size_le H.out.d f
      have HSZ : Hid (∀ w2, Lat w1 w2 → Calls Tryz.prog 17 #[.pointer (some ⟨p, 0, none⟩), .int .i64 (f : Int)] w2 fun e w3 => e = .returned (.int .i64 (S.size f)) ∧ Lat w2 w3) := fun w2 hL => (sizeP p F S w2 f (H.out.lat (Lat.trans _ _ _ HL.out hL)).d).mono (fun e w3 h => ⟨h.1, by rw [h.2]; exact Lat.refl _⟩)
      obtain ⟨z, hz⟩ : ∃ z, S.size f = z := ⟨_, rfl⟩
      rw [hz] at hsb HSZ ⊢
      clear hz
      go_wp2_with fail
      refine files_r5 wp p x f z (S.lasts f) w1 _ _ (by rfl) (by rfl) (by rfl) (by rfl) (fun w2 hL => (H.out.lat (Lat.trans _ _ _ HL.out hL)).b.cell 0) (fun w2 hL => (H.out.lat (Lat.trans _ _ _ HL.out hL)).b.cell 2) HSZ.out (fun w2 hL => (lastsP p F S w2 f (H.out.lat (Lat.trans _ _ _ HL.out hL)).d).mono (fun e w3 h => ⟨h.1, by rw [h.2]; exact Lat.refl _⟩)) (fun w2 hL => (lastsR x G S w2 f (H.out.lat (Lat.trans _ _ _ HL.out hL)).r).mono (fun e w3 h => ⟨h.1, by rw [h.2]; exact Lat.refl _⟩)) ?_
      intros
      rename_i w2 hL2
      have HL2 := hidden (Lat.trans _ _ _ HL.out hL2)
      simp only [Act.put, List.setIfInBounds_toArray, List.set_cons_succ, List.set_cons_zero]
      clear a0 a2 y0 hL2
      have a0 : w2.cell? ⟨wp, 0, none⟩ = some (.pointer (some ⟨p, 0, none⟩)) := (H.out.lat HL2.out).b.cell 0
      go_wp2_with fail
      refine (readP p F S w2 f 0 z (H.out.lat HL2.out).d (by omega) (by omega)).mono ?_
      rintro e w3 ⟨b1, m1, c1, rfl, ho1, hy1, hb1⟩
      have HO1 := hidden ho1
      have HY1 := hidden hy1
      have HL3 := hidden (Lat.trans _ _ _ HL2.out hb1)
      clear ho1 hy1 hb1 a0
      have a2 : w3.cell? ⟨wp, 2, none⟩ = some (.pointer (some ⟨x, 0, none⟩)) := (H.out.lat HL3.out).b.cell 2
      go_wp2_with fail
      refine (readR x G S w3 f 0 z (H.out.lat HL3.out).r (by omega) (by omega)).mono ?_
      rintro e w4 ⟨b2, m2, c2, rfl, ho2, hy2, hb2⟩
      have hcv1 := convS (cap := c1) (sl_of_owns ((Chg.of_below (F := fun _ => False) hb2).owns HO1.out (fun _ _ h => h)) HY1.out)
      have hcv2 := convS (cap := c2) (sl_of_owns ho2 hy2)
      have HL4 := hidden (Lat.trans _ _ _ HL3.out hb2)
      clear ho2 hy2 hb2 a2
      obtain ⟨er, her⟩ : ∃ er, (S.read f 0 z).1 = er := ⟨_, rfl⟩
      rw [her]
      clear her
      go_wp2_with fail
      exact ⟨⟨rfl, f + 1, by omega, by simp, HL4.out⟩, by simp [intOf]; omega⟩
    · have hlt' : ¬ (f : Int) < (n : Int) := by omega
      go_wp2_with fail
      refine files_r11 wp p x S.on S.falls wr _ _ (by rfl) (by rfl) (fun w2 hL => (H.out.lat (Lat.trans _ _ _ HL.out hL)).b.cell 0) (fun w2 hL => (H.out.lat (Lat.trans _ _ _ HL.out hL)).b.cell 2) (fun w2 hL => (aliveP p F S w2 (H.out.lat (Lat.trans _ _ _ HL.out hL)).d).mono (fun e w3 h => ⟨h.1, by rw [h.2]; exact Lat.refl _⟩)) (fun w2 hL => (fallsP p F S w2 (H.out.lat (Lat.trans _ _ _ HL.out hL)).d).mono (fun e w3 h => ⟨h.1, by rw [h.2]; exact Lat.refl _⟩)) (fun w2 hL => ?_) (fun w2 hL => ?_) ?_
      · have q := HX1.out
        rw [Below.cell (Lat.trans _ _ _ HL.out hL) (p := ⟨x, 1, none⟩) (World.block_lt_of_cell? w _ q)]
        exact q
      · have q := HX2.out
        rw [Below.cell (Lat.trans _ _ _ HL.out hL) (p := ⟨x, 2, none⟩) (World.block_lt_of_cell? w _ q)]
        exact q
      · intros
        rename_i w2 hL2
        simp only [Act.put, List.setIfInBounds_toArray, List.set_cons_succ, List.set_cons_zero]
        go_wp2_with fail
        go_ret
        exact ⟨rfl, Lat.trans _ _ _ HL.out hL2⟩

end Go.Proofs.YtnfjhdedcnbdbaaGreat

/-
  Append, Format.
-/
namespace Go.Proofs.YtnfjhdedcnbdbaaGreat
open Go.RowKit
set_option linter.unusedVariables false
set_option linter.unusedSimpArgs false

theorem Lg.chg {lt : TypeId} {w w' : World} {lp p : Nat} {l : Lw} {F : Nat → Prop} (h : Lg lt w lp p l) (hc : Chg F w w') (hF : ¬ F lp) : Lg lt w' lp p l := hc.blk h hF

set_option maxRecDepth 100000 in
theorem wappendP (lp p : Nat) (F : Nat → Prop) (S : St) (l : Lw) (ad : Option Addr) (n c : Nat) (r : List Int) (w : World) (h : Dk 64 79 w p F S) (hl : Lg 73 w lp p l) (hf : S.falls ≤ 1099511627776) (hS : Sl w ad n r) (hno : ad = none → n = 0 ∧ c = 0) (hn : n ≤ 9223372036854775807) :
    Calls Tryz.prog 11 #[.pointer (some ⟨lp, 0, none⟩), .slice ad n c] w fun e w' => e = .returned (.int .i64 (S.wappend l r).1) ∧ Dks 64 79 w w' p F (S.wappend l r).2 ∧ Lg 73 w' lp p l := by
  have H := hidden h
  have HL := hidden hl
  have HS := hidden hS
  have HNO := hidden hno
  have HF := hidden hf
  have HD := hidden (deadP lp p F S l w h hl)
  have HOUT := hidden (hl.out h)
  have hlen := hidden hS.len
  clear h hl hS hno hf
  have hq : Hid (S.wappend l r = if S.falls ≠ l.falls then (40, S) else if S.fits l r.length = false then (60, S) else S.put l.live 2 r) := rfl
  obtain ⟨q, hqq⟩ : ∃ q, S.wappend l r = q := ⟨_, rfl⟩
  rw [hqq] at hq ⊢
  clear hqq
  by_cases hx : S.falls = l.falls
  · rw [if_neg (fun k => k hx), hlen.out] at hq
    rw [decide_eq_false (fun k => k hx)] at HD
    go_enter Tryz.func11, Tryz.ntmps11
    go_wp2_with fail
    refine HD.out.mono ?_
    rintro e w1 ⟨rfl, hL1⟩
    have HL1 := hidden hL1
    clear hL1
    go_wp2_with fail
    refine (fitsP lp p F S l n w1 (H.out.lat HL1.out) (HL.out.lat HL1.out) (by omega)).mono ?_
    rintro e w2 ⟨rfl, hL2⟩
    have HL2 := hidden (Lat.trans _ _ _ HL1.out hL2)
    clear hL2
    have hfit : Hid (S.fits l n = true → n ≤ 4194304) := fun h => by
      unfold St.fits at h
      have := of_decide_eq_true h
      omega
    obtain ⟨b, hb⟩ : ∃ b, S.fits l n = b := ⟨_, rfl⟩
    rw [hb] at hq hfit ⊢
    clear hb
    cases b with
    | false =>
      rw [if_pos rfl] at hq
      go_wp2_with fail
      go_ret
      rw [hq.out]
      exact ⟨rfl, Dks.lat HL2.out (Dks.same (H.out.lat HL2.out)), HL.out.lat HL2.out⟩
    | true =>
      rw [if_neg (by simp)] at hq
      have hn4 : n ≤ 4194304 := hfit.out rfl
      go_wp2_with fail
      refine append_r5 lp p l.live n c ad (fun x w3 => x = .int .i64 q.1 ∧ Dks 64 79 w w3 p F q.2 ∧ Lg 73 w3 lp p l) w2 _ _ (by rfl) (by rfl) (by rfl) (fun w3 hL => (HL.out.lat (Lat.trans _ _ _ HL2.out hL)).head.1) (fun w3 hL => (HL.out.lat (Lat.trans _ _ _ HL2.out hL)).head.2.2.1) (fun w3 hL => ?_) ?_
      · have hL3 := Lat.trans _ _ _ HL2.out hL
        refine (putP p F S w3 l.live 2 ad n c r (H.out.lat hL3) HF.out (HS.out.later hL3) HNO.out hn4 (by omega)).mono ?_
        rintro e w4 ⟨rfl, hD4⟩
        refine ⟨_, rfl, ?_⟩
        rw [hq.out]
        refine ⟨rfl, Dks.lat hL3 hD4, ?_⟩
        obtain ⟨F', k1, k2, k3⟩ := hD4
        exact (HL.out.lat hL3).chg k2 HOUT.out
      · intros
        rename_i x w3 hR
        obtain ⟨rfl, hR2, hR3⟩ := hR
        have HR2 := hidden hR2
        have HR3 := hidden hR3
        clear hR2 hR3
        simp only [Act.put, List.setIfInBounds_toArray, List.set_cons_succ, List.set_cons_zero]
        go_wp2_with fail
        go_ret
        exact ⟨rfl, HR2.out, HR3.out⟩
  · rw [if_pos hx] at hq
    rw [decide_eq_true (show S.falls ≠ l.falls from hx)] at HD
    go_enter Tryz.func11, Tryz.ntmps11
    go_wp2_with fail
    refine HD.out.mono ?_
    rintro e w1 ⟨rfl, hL1⟩
    have HL1 := hidden hL1
    clear hL1
    go_wp2_with fail
    go_ret
    rw [hq.out]
    exact ⟨rfl, Dks.lat HL1.out (Dks.same (H.out.lat HL1.out)), HL.out.lat HL1.out⟩

end Go.Proofs.YtnfjhdedcnbdbaaGreat

/-
  Checkpoint.
-/
namespace Go.Proofs.YtnfjhdedcnbdbaaGreat
open Go.RowKit
set_option linter.unusedVariables false
set_option linter.unusedSimpArgs false

theorem sync_ok {S : St} {f : Int} (h : (S.sync f).1 = 0) : (S.sync f).2.falls = S.falls := by
  unfold St.sync at h ⊢
  split at h <;> rename_i h1
  · exact absurd h h1
  · rw [if_neg h1]
    split at h <;> rename_i h2
    · exact absurd h h2
    · rw [if_neg h2]
      have h3 := op_ok (S := S) (by simpa using h2)
      cases hx : S.op.2.L[f.toNat]? with
      | none => rfl
      | some x => exact h3.2.1
theorem put_ok {S : St} {f k : Int} {l : List Int} (h : (S.put f k l).1 = 0) : (S.put f k l).2.falls = S.falls := by
  unfold St.put at h ⊢
  split at h <;> rename_i h1
  · exact absurd h h1
  · rw [if_neg h1]
    have h2 := append_ok (S := S) (f := f) (b := made k l) (by simpa using h1)
    rw [← h2]
    exact sync_ok h

theorem Blk.outD {w : World} {g p : Nat} {t : TypeId} {L : List Value} {F : Nat → Prop} {S : St} (hB : Blk w g t L) (h : Dk 64 79 w p F S) (ht : t ≠ 64 ∧ t ≠ 79 ∧ t ≠ 5 ∧ t ≠ 3) : ¬ F g := by
  intro hF
  have hg : Tg w g t := hB.tg
  rcases h.tg g hF with k | k | k | k
  · exact ht.1 (hg.one k)
  · exact ht.2.1 (hg.one k)
  · exact ht.2.2.1 (hg.one k)
  · exact ht.2.2.2 (hg.one k)

set_option maxRecDepth 100000 in
set_option maxHeartbeats 1000000 in
theorem wcheckP (lp p : Nat) (F : Nat → Prop) (S : St) (l : Lw) (ad : Option Addr) (n c : Nat) (s : List Int) (w : World) (h : Dk 64 79 w p F S) (hl : Lg 73 w lp p l) (hfn : l.fine) (hf : S.falls ≤ 1099511627776) (hS : Sl w ad n s) (hno : ad = none → n = 0 ∧ c = 0) (hap : ∀ x, ad = some x → 0 < n → ¬ F x.block) (hn : n ≤ 9223372036854775807) :
    Calls Tryz.prog 13 #[.pointer (some ⟨lp, 0, none⟩), .slice ad n c] w fun e w' => e = .returned (.int .i64 (S.wcheck l s).1) ∧ ∃ F', Dk 64 79 w' p F' (S.wcheck l s).2.1 ∧ Chg (fun i => F i ∨ i = lp) w w' ∧ New w F F' ∧ Lg 73 w' lp p (S.wcheck l s).2.2 := by
  have H := hidden h
  have HL := hidden hl
  have HS := hidden hS
  have HNO := hidden hno
  have HF := hidden hf
  have HAP := hidden hap
  have HFN := hidden hfn
  have HD := hidden (deadP lp p F S l w h hl)
  have HOUT := hidden (hl.out h)
  have hlen := hidden hS.len
  have HLP := hidden (Blk.lt hl)
  clear h hl hS hno hf hap hfn
  have hq : Hid (S.wcheck l s = if S.falls ≠ l.falls then (40, S, l) else if fitsU l.h.cap s.length = false then (60, S, l) else
    if (S.check1 l).1 ≠ 0 then ((S.check1 l).1, (S.check1 l).2, l) else
    if (S.check2 l s).1 ≠ 0 then ((S.check2 l s).1, (S.check2 l s).2, l) else
    if (S.check3 l s).1 ≠ 0 then ((S.check3 l s).1, (S.check3 l s).2, l) else
    (0, (S.check3 l s).2, ⟨l.falls, 1 - l.live, l.h.next⟩)) := rfl
  obtain ⟨q, hqq⟩ : ∃ q, S.wcheck l s = q := ⟨_, rfl⟩
  rw [hqq] at hq ⊢
  rw [hlen.out] at hq
  clear hqq
  have HW : Hid (∀ w1 S1, Dks 64 79 w w1 p F S1 → ∃ F', Dk 64 79 w1 p F' S1 ∧ Chg (fun i => F i ∨ i = lp) w w1 ∧ New w F F' ∧ Lg 73 w1 lp p l) := fun w1 S1 hd => by
    obtain ⟨F', k1, k2, k3⟩ := hd
    exact ⟨F', k1, k2.mono (fun _ _ h => .inl h), k3, HL.out.chg k2 HOUT.out⟩
  by_cases hx : S.falls = l.falls
  · rw [if_neg (fun k => k hx)] at hq
    rw [decide_eq_false (fun k => k hx)] at HD
    go_enter Tryz.func13, Tryz.ntmps13
    go_wp2_with fail
    refine HD.out.mono ?_
    rintro e w1 ⟨rfl, hL1⟩
    have HL1 := hidden hL1
    obtain ⟨c0, c1, c2, c3, c4, c5⟩ := (HL.out.lat hL1).head
    have hth := (Blk.there (HL.out.lat hL1) 3 3 (by simp))
    clear hL1
    go_wp2_with fail
    refine (fitsUnderP l.h.cap ad n c w1 (by omega)).mono ?_
    rintro e w2 ⟨rfl, rfl⟩
    have hfit : Hid (fitsU l.h.cap n = true → n ≤ 4194304) := fun h => by
      unfold fitsU at h
      have h3 := (of_decide_eq_true h).1
      unfold weight at h3
      split at h3 <;> omega
    have hfitw : Hid (fitsU l.h.cap n = true → 24 + n ≤ 4194304) := fun h => by
      have := HFN.out.cap
      unfold fitsU at h
      have h3 := of_decide_eq_true h
      unfold weight at h3
      split at h3 <;> omega
    obtain ⟨b, hb⟩ : ∃ b, fitsU l.h.cap n = b := ⟨_, rfl⟩
    rw [hb] at hq hfit hfitw ⊢
    clear hb
    cases b with
    | false =>
      rw [if_pos rfl] at hq
      go_wp2_with fail
      go_ret
      rw [hq.out]
      exact ⟨rfl, HW.out _ _ (Dks.lat HL1.out (Dks.same (H.out.lat HL1.out)))⟩
    | true =>
      rw [if_neg (by simp)] at hq
      have hn4 : n ≤ 4194304 := hfit.out rfl
      have hn24 : 24 + n ≤ 4194304 := hfitw.out rfl
      clear hfit hfitw
      have hw1 : IntKind.i64.wrap (1 - (l.live : Int)) = 1 - (l.live : Int) := wrapI _ (by have := HFN.out.live; omega) (by have := HFN.out.live; omega)
      have hlt : lp < w2.heap.size := Blk.lt (HL.out.lat HL1.out)
      obtain ⟨i3, hi3⟩ : ∃ i, Tryz.prog.info? 66 = some i := by
        have : (Tryz.prog.info? 66).isSome = true := by kernel_rfl
        exact Option.isSome_iff_exists.1 this
      go_wp2_with fail
      go_region
      have HBN : Hid (Blk (w2.alloc (.cells #[.int .u64 (l.h.g : Int), .int .i64 (l.h.cap : Int), .int .i64 (l.h.slots : Int)] 66)).drew w2.heap.size 66 [.int .u64 (l.h.g : Int), .int .i64 (l.h.cap : Int), .int .i64 (l.h.slots : Int)]) := Blk.new w2 66 _
      have HLN : Hid (Lat w2 (w2.alloc (.cells #[.int .u64 (l.h.g : Int), .int .i64 (l.h.cap : Int), .int .i64 (l.h.slots : Int)] 66)).drew) := Lat.trans _ _ _ ((Below.refl _ w2).alloc (Nat.le_refl _) _) (Lat.draw _)
      have HSZ : Hid ((w2.alloc (.cells #[.int .u64 (l.h.g : Int), .int .i64 (l.h.cap : Int), .int .i64 (l.h.slots : Int)] 66)).drew.heap.size = w2.heap.size + 1) := World.size_alloc _ _
      generalize (w2.alloc (.cells #[.int .u64 (l.h.g : Int), .int .i64 (l.h.cap : Int), .int .i64 (l.h.slots : Int)] 66)).drew = w3 at *
      obtain ⟨hb, hhb⟩ : ∃ hb, w2.heap.size = hb := ⟨_, rfl⟩
      rw [hhb] at HBN HSZ hlt ⊢
      have HHB := hidden hhb
      clear hhb c0 c1 c2 c3 c4 c5 hth
      have HL3 := hidden (Lat.trans _ _ _ HL1.out HLN.out)
      obtain ⟨c0, c1, c2, c3, c4, c5⟩ := (HL.out.lat HL3.out).head
      have d0 := HBN.out.cell 0
      have e0 := HBN.out.frozen 0
      simp only [List.getElem?_cons_succ, List.getElem?_cons_zero] at d0
      have hne : ¬ lp = hb := by omega
      go_wp2_with fail
      have hwr : IntKind.u64.wrap ((l.h.g : Int) + 1) = ((l.h.next.g : Nat) : Int) := by
        rw [IntKind.wrap_u64]
        show _ = (((l.h.g + 1) % 18446744073709551616 : Nat) : Int)
        omega
      rw [hwr]
      clear hwr
      have HB4 : Hid (Blk (w3.setCell ⟨hb, 0, none⟩ (.int .u64 ((l.h.next.g : Nat) : Int))) hb 66 [.int .u64 ((l.h.next.g : Nat) : Int), .int .i64 (l.h.cap : Int), .int .i64 (l.h.slots : Int)]) := HBN.out.set 0 _
      have HL4 : Hid (Lat w (w3.setCell ⟨hb, 0, none⟩ (.int .u64 ((l.h.next.g : Nat) : Int)))) := Below.trans HL3.out ((Chg.set ⟨hb, 0, none⟩ (.int .u64 ((l.h.next.g : Nat) : Int)) w3).below HL3.out.size (fun i hi => by have := HHB.out; have := HL1.out.size; dsimp only at hi; omega))
      generalize w3.setCell ⟨hb, 0, none⟩ (.int .u64 ((l.h.next.g : Nat) : Int)) = w4 at *
      clear c0 c1 c2 c3 c4 c5 d0 e0
      have hl1 := HFN.out.live
      refine (truncateP p F S w4 (1 - (l.live : Int)) 0 (H.out.lat HL4.out) HF.out (by omega)).mono ?_
      rintro e w5 ⟨rfl, hD5⟩
      have HB5 : Hid (Blk w5 hb 66 [.int .u64 ((l.h.next.g : Nat) : Int), .int .i64 (l.h.cap : Int), .int .i64 (l.h.slots : Int)]) := by
        obtain ⟨F', k1, k2, k3⟩ := hD5
        exact k2.blk HB4.out (HB4.out.outD (H.out.lat HL4.out) (by decide))
      have HD5 := hidden (Dks.lat HL4.out hD5)
      clear hD5
      have HK1 : Hid ((S.check1 l).1 = 0 → (S.check1 l).2.falls = S.falls) := truncate_ok
      have HK2 : Hid ((S.check2 l s).1 = 0 → (S.check2 l s).2.falls = (S.check1 l).2.falls) := put_ok
      have h1 : (S.truncate (1 - (l.live : Int)) 0) = S.check1 l := rfl
      rw [h1] at HD5 ⊢
      clear h1
      have H2d : Hid (S.check2 l s = (S.check1 l).2.put (1 - l.live : Int) 1 (hdata l.h.next s)) := rfl
      have H3d : Hid (S.check3 l s = (S.check2 l s).2.truncate l.live 0) := rfl
      generalize S.check1 l = q1 at *
      generalize S.check2 l s = q2 at *
      generalize S.check3 l s = q3 at *
      obtain ⟨e1, S1⟩ := q1
      obtain ⟨e2, S2⟩ := q2
      obtain ⟨e3, S3⟩ := q3
      dsimp only at *
      by_cases hz1 : e1 = 0
      · subst hz1
        rw [if_neg (by simp)] at hq
        have HF1 : Hid (S1.falls = S.falls) := HK1.out rfl
        clear HK1
        go_wp2_with fail
        obtain ⟨F5, j1, j2, j3⟩ := HD5.out
        have HJ1 := hidden j1
        have HJ2 := hidden j2
        have HJ3 := hidden j3
        clear j1 j2 j3
        have HLG5 := hidden (HL.out.chg HJ2.out HOUT.out)
        refine check_r10 lp p hb l.h.next.g l.h.cap l.h.slots n c w5.heap.size (24 + n) (1 - (l.live : Int)) ad (hdata l.h.next s) (fun x w6 => x = .int .i64 e2 ∧ Dks 64 79 w w6 p F S2 ∧ Lg 73 w6 lp p l ∧ Blk w6 hb 66 [.int .u64 ((l.h.next.g : Nat) : Int), .int .i64 (l.h.cap : Int), .int .i64 (l.h.slots : Int)]) w5 _ _ (by rfl) (by rfl) (by rfl) (by rfl) (by rfl) (fun w6 hL => (HLG5.out.lat hL).head.1) (fun w6 hL => HB5.out.later hL) (fun w6 hL => ?_) (fun w6 hL ag cg hR => ?_) ?_
        · refine (withP l.h.next ad n c s w6 ((HJ2.out.sl HS.out HAP.out).later hL) HNO.out hn4 HFN.out.next.g HFN.out.cap HFN.out.slots).mono ?_
          rintro e w7 ⟨ag, c7, rfl, hb7⟩
          exact ⟨_, rfl, hb7.bel, ag, c7, rfl, owns_lower hb7.base hL.size⟩
        · obtain ⟨a7, c7, hv7, ho7⟩ := hR
          have hby := hdata_byte l.h.next s HS.out.byte
          refine (putP p F5 S1 w6 (1 - (l.live : Int)) 1 ag (24 + n) cg _ (HJ1.out.lat hL) (by rw [HF1.out]; exact HF.out) (sl_of_owns ho7 hby) (fun e => by
            obtain ⟨g, hg⟩ := owns_addr ho7 (by omega)
            rw [hg] at e; cases e) hn24 (by omega)).mono ?_
          rintro e w7 ⟨rfl, hD7⟩
          rw [← H2d.out] at hD7 ⊢
          refine ⟨_, rfl, rfl, Dks.trans HJ2.out HJ3.out (Dks.lat hL hD7), ?_, ?_⟩
          · obtain ⟨F', k1, k2, k3⟩ := hD7
            exact (HLG5.out.lat hL).chg k2 ((HLG5.out.lat hL).out (HJ1.out.lat hL))
          · obtain ⟨F', k1, k2, k3⟩ := hD7
            exact k2.blk (HB5.out.later hL) ((HB5.out.later hL).outD (HJ1.out.lat hL) (by decide))
        · intros
          rename_i x w6 hR
          obtain ⟨rfl, r1, r2, r3⟩ := hR
          have HD6 := hidden r1
          have HLG6 := hidden r2
          have HB6 := hidden r3
          clear r1 r2 r3
          simp only [Act.put, List.setIfInBounds_toArray, List.set_cons_succ, List.set_cons_zero]
          by_cases hz2 : e2 = 0
          · subst hz2
            rw [if_neg (by simp)] at hq
            have HF2 : Hid (S2.falls = S1.falls) := HK2.out rfl
            clear HK2
            obtain ⟨F6, j1, j2, j3⟩ := HD6.out
            have HI1 := hidden j1
            have HI2 := hidden j2
            have HI3 := hidden j3
            clear j1 j2 j3
            go_wp2_with fail
            refine check_r13 lp p l.live (fun x w7 => x = .int .i64 e3 ∧ Dks 64 79 w w7 p F S3 ∧ Lg 73 w7 lp p l ∧ Blk w7 hb 66 [.int .u64 ((l.h.next.g : Nat) : Int), .int .i64 (l.h.cap : Int), .int .i64 (l.h.slots : Int)]) w6 _ _ (by rfl) (by rfl) (fun w7 hL => (HLG6.out.lat hL).head.1) (fun w7 hL => (HLG6.out.lat hL).head.2.2.1) (fun w7 hL => ?_) ?_
            · refine (truncateP p F6 S2 w7 l.live 0 (HI1.out.lat hL) (by rw [HF2.out, HF1.out]; exact HF.out) (by omega)).mono ?_
              rintro e w8 ⟨rfl, hD8⟩
              rw [← H3d.out] at hD8 ⊢
              refine ⟨_, rfl, rfl, Dks.trans HI2.out HI3.out (Dks.lat hL hD8), ?_, ?_⟩
              · obtain ⟨F', k1, k2, k3⟩ := hD8
                exact (HLG6.out.lat hL).chg k2 ((HLG6.out.lat hL).out (HI1.out.lat hL))
              · obtain ⟨F', k1, k2, k3⟩ := hD8
                exact k2.blk (HB6.out.later hL) ((HB6.out.later hL).outD (HI1.out.lat hL) (by decide))
            · intros
              rename_i x w7 hR
              obtain ⟨rfl, r1, r2, r3⟩ := hR
              have HD7 := hidden r1
              have HLG7 := hidden r2
              have HB7 := hidden r3
              clear r1 r2 r3
              simp only [Act.put, List.setIfInBounds_toArray, List.set_cons_succ, List.set_cons_zero]
              by_cases hz3 : e3 = 0
              · subst hz3
                rw [if_neg (by simp)] at hq
                have c2 := HLG7.out.head.2.2.1
                have c3 := HLG7.out.head.2.2.2.1
                have c4 := HLG7.out.head.2.2.2.2.1
                have c5 := HLG7.out.head.2.2.2.2.2
                have f2 := Blk.frozen HLG7.out 2
                have f3 := Blk.frozen HLG7.out 3
                have f4 := Blk.frozen HLG7.out 4
                have f5 := Blk.frozen HLG7.out 5
                have d0 := HB7.out.cell 0
                have d1 := HB7.out.cell 1
                have d2 := HB7.out.cell 2
                simp only [List.getElem?_cons_succ, List.getElem?_cons_zero] at d0 d1 d2
                go_wp2_with fail
                go_region
                go_wp2_with fail
                go_ret
                rw [hq.out]
                obtain ⟨F7, j1, j2, j3⟩ := HD7.out
                have HC := (((((Chg.set ⟨lp, 2, none⟩ (.int .i64 (1 - (l.live : Int))) w7).trans (Chg.set ⟨lp, 3, none⟩ (.int .u64 (l.h.next.g : Int)) _) (fun _ _ h => h)).trans (Chg.set ⟨lp, 4, none⟩ (.int .i64 (l.h.cap : Int)) _) (fun _ _ h => h)).trans (Chg.set ⟨lp, 5, none⟩ (.int .i64 (l.h.slots : Int)) _) (fun _ _ h => h))).trans (Chg.drew _ _) (fun _ _ h => h)
                have hB := (((Blk.set HLG7.out 2 (.int .i64 (1 - (l.live : Int)))).set 3 (.int .u64 (l.h.next.g : Int))).set 4 (.int .i64 (l.h.cap : Int))).set 5 (.int .i64 (l.h.slots : Int))
                simp only [List.set_cons_succ, List.set_cons_zero] at hB
                refine ⟨rfl, F7, j1.chg HC (fun i hi e => ?_), (j2.mono (fun _ _ h => .inl h)).trans (HC.mono (fun _ _ h => .inr h)) (fun _ _ h => h), j3, ?_⟩
                · dsimp only at e
                  subst e
                  exact HLG7.out.out j1 hi
                · show Blk _ lp 73 [.pointer (some ⟨p, 0, none⟩), .int .i64 (l.falls : Int), .int .i64 ((1 - l.live : Nat) : Int), .int .u64 (l.h.next.g : Int), .int .i64 (l.h.cap : Int), .int .i64 (l.h.slots : Int)]
                  rw [show ((1 - l.live : Nat) : Int) = 1 - (l.live : Int) by omega]
                  exact hB
              · rw [if_pos hz3] at hq
                go_wp2_with fail
                go_ret
                rw [hq.out]
                exact ⟨rfl, HW.out _ _ HD7.out⟩
          · rw [if_pos hz2] at hq
            go_wp2_with fail
            go_ret
            rw [hq.out]
            exact ⟨rfl, HW.out _ _ HD6.out⟩
      · rw [if_pos hz1] at hq
        go_wp2_with fail
        go_ret
        rw [hq.out]
        exact ⟨rfl, HW.out _ _ HD5.out⟩
  · rw [if_pos hx] at hq
    rw [decide_eq_true (show S.falls ≠ l.falls from hx)] at HD
    go_enter Tryz.func13, Tryz.ntmps13
    go_wp2_with fail
    refine HD.out.mono ?_
    rintro e w1 ⟨rfl, hL1⟩
    have HL1 := hidden hL1
    clear hL1
    go_wp2_with fail
    go_ret
    rw [hq.out]
    exact ⟨rfl, HW.out _ _ (Dks.lat HL1.out (Dks.same (H.out.lat HL1.out)))⟩

end Go.Proofs.YtnfjhdedcnbdbaaGreat

/-
  A log on a disk whose power stays.
-/
namespace Go.Proofs.YtnfjhdedcnbdbaaGreat
open Go.RowKit
set_option linter.unusedVariables false
set_option linter.unusedSimpArgs false

theorem refuse_zero {S : St} {f : Nat} (hon : S.on = true) (hf : f < S.L.length) : S.refuse f = 0 := by
  unfold St.refuse
  rw [if_neg (by rw [hon]; simp), if_pos (by omega)]
theorem op_none {S : St} (h : S.fuse = none) : S.op = (0, S) := by unfold St.op; rw [h]
theorem at_lt {L : List Fl} {f : Nat} {x : Fl} (h : L[f]? = some x) : f < L.length := (List.getElem?_eq_some_iff.1 h).1
theorem truncate_q {S : St} {f n : Nat} {x : Fl} (hon : S.on = true) (hfu : S.fuse = none) (hx : S.L[f]? = some x) (hn : n ≤ x.b.length) : S.truncate f n = (0, { S with L := S.L.set f ⟨x.b.take n, min x.n n⟩ }) := by
  unfold St.truncate
  rw [refuse_zero hon (at_lt hx), if_neg (by simp), Int.toNat_natCast, hx]
  simp only
  rw [if_neg (by omega), op_none hfu]
  simp
theorem append_q {S : St} {f : Nat} {b : List Int} {x : Fl} (hon : S.on = true) (hfu : S.fuse = none) (hx : S.L[f]? = some x) (hn : x.b.length + b.length ≤ 16777216) : S.append f b = (0, { S with L := S.L.set f ⟨x.b ++ b, x.n⟩ }) := by
  unfold St.append
  rw [refuse_zero hon (at_lt hx), if_neg (by simp), Int.toNat_natCast, hx]
  simp only
  rw [if_neg (by omega)]
  exact op_none hfu
theorem sync_q {S : St} {f : Nat} {x : Fl} (hon : S.on = true) (hfu : S.fuse = none) (hx : S.L[f]? = some x) : S.sync f = (0, { S with L := S.L.set f ⟨x.b, x.b.length⟩ }) := by
  unfold St.sync
  rw [refuse_zero hon (at_lt hx), if_neg (by simp), op_none hfu, Int.toNat_natCast, if_neg (by simp), hx]
theorem put_q {S : St} {f : Nat} {k : Int} {l : List Int} {x : Fl} (hon : S.on = true) (hfu : S.fuse = none) (hx : S.L[f]? = some x) (hn : x.b.length + (l.length + 9) ≤ 16777216) : S.put f k l = (0, { S with L := S.L.set f ⟨x.b ++ made k l, (x.b ++ made k l).length⟩ }) := by
  have h1 := append_q (b := made k l) hon hfu hx (by rw [made_length]; exact hn)
  unfold St.put
  rw [h1, if_neg (by simp)]
  have h2 : ({ S with L := S.L.set f ⟨x.b ++ made k l, x.n⟩ } : St).L[f]? = some ⟨x.b ++ made k l, x.n⟩ := by
    show (S.L.set f _)[f]? = _
    rw [List.getElem?_set, if_pos rfl, if_pos (at_lt hx)]
  rw [sync_q (S := { S with L := S.L.set f ⟨x.b ++ made k l, x.n⟩ }) hon hfu h2]
  simp
/-- A log as it lies there. -/
def LS (falls live : Nat) (h : Hd) (st : List Int) (recs : List (List Int)) : St := ⟨two live ⟨laid h st recs, (laid h st recs).length⟩ ⟨[], 0⟩, true, falls, none⟩
theorem LS_len (falls live : Nat) (h : Hd) (st : List Int) (recs : List (List Int)) : (LS falls live h st recs).L.length = 2 := two_len _ _ _
theorem file_at {S : St} {f : Nat} {x : Fl} (hx : S.L[f]? = some x) : S.file f = x.b := by unfold St.file; rw [hx]
theorem size_at {S : St} {f : Nat} {x : Fl} (hx : S.L[f]? = some x) : S.size f = (x.b.length : Int) := by
  unfold St.size
  have := at_lt hx
  rw [if_pos (by omega), Int.toNat_natCast, hx]
theorem one_sub {live : Nat} (hl : live ≤ 1) : (1 - (live : Int)) = ((1 - live : Nat) : Int) := by omega
theorem headAt_nil : headAt [] = none := by unfold headAt; rw [frames_nil]
theorem opens_q {falls live : Nat} {h : Hd} {st : List Int} {recs : List (List Int)} (hl : live ≤ 1) (k : Lgok h st recs) : (LS falls live h st recs).opens = (.ok ⟨live, h, st, recs, (laid h st recs).length⟩, LS falls live h st recs) := by
  have h1 : (LS falls live h st recs).L[live]? = some ⟨laid h st recs, (laid h st recs).length⟩ := two_live hl _ _
  have h2 : (LS falls live h st recs).L[1 - live]? = some ⟨[], 0⟩ := two_other hl _ _
  have hf := find_log (S := LS falls live h st recs) (x := []) rfl (LS_len _ _ _ _ _) hl k (by rw [file_at h1]; simp) frames_nil (.inl (by rw [file_at h2]; exact headAt_nil))
  have hc : (LS falls live h st recs).cutRest live (laid h st recs).length = (0, LS falls live h st recs) := by
    have e1 : (LS falls live h st recs).cutLive live (laid h st recs).length = (0, LS falls live h st recs) := by
      unfold St.cutLive
      rw [size_at h1, if_neg (by simp)]
    unfold St.cutRest
    rw [e1, if_neg (by simp)]
    unfold St.cutOther
    rw [one_sub hl, size_at h2, if_neg (by simp)]
  unfold St.opens
  rw [hf]
  simp only
  rw [hc, if_neg (by simp)]
theorem bytes_q {falls live : Nat} {h h' : Hd} {st : List Int} {recs : List (List Int)} (hl : live ≤ 1) : (LS falls live h st recs).bytes ⟨falls, live, h'⟩ = ((laid h st recs).length : Int) := by
  unfold St.bytes
  rw [if_pos (show (LS falls live h st recs).falls = falls from rfl)]
  exact size_at (x := ⟨laid h st recs, (laid h st recs).length⟩) (two_live hl _ _)
theorem format_q {S : St} {cap slots : Nat} {st : List Int} {x y : Fl} (hon : S.on = true) (hfu : S.fuse = none) (hL : S.L = [x, y]) (hok : okH 1 cap slots = true) (hfit : st.length + 33 ≤ cap) : S.format cap slots st = (0, LS S.falls 0 ⟨1, cap, slots⟩ st []) := by
  have hk : 1024 ≤ cap ∧ cap ≤ 4194304 := by have := of_decide_eq_true hok; omega
  have hw : weight st.length = (st.length : Int) + 33 := by unfold weight; rw [if_neg (by omega)]
  unfold St.format
  rw [if_neg (by rw [hL, hok]; simp), if_neg (by unfold fitsU; rw [hw]; simp; omega)]
  have e1 : S.truncate 0 0 = (0, { S with L := [⟨[], 0⟩, y] }) := by
    have := truncate_q (S := S) (f := 0) (n := 0) hon hfu (by rw [hL]; rfl) (Nat.zero_le _)
    rw [hL] at this
    simpa using this
  rw [e1, if_neg (by simp)]
  have e2 : ({ S with L := [⟨[], 0⟩, y] } : St).truncate 1 0 = (0, { S with L := [⟨[], 0⟩, ⟨[], 0⟩] }) := by
    have := truncate_q (S := { S with L := [⟨[], 0⟩, y] }) (f := 1) (n := 0) hon hfu rfl (Nat.zero_le _)
    simpa using this
  rw [e2, if_neg (by simp)]
  have e3 := put_q (S := { S with L := [⟨[], 0⟩, ⟨[], 0⟩] }) (f := 0) (k := 1) (l := hdata ⟨1, cap, slots⟩ st) hon hfu rfl (by rw [hdata_length]; simp; omega)
  simp only [Int.toNat_natCast]
  refine Eq.trans e3 ?_
  simp [LS, two, laid_nil, hon, hfu]
theorem wappend_q {falls live : Nat} {h : Hd} {st : List Int} {recs : List (List Int)} {r : List Int} (hl : live ≤ 1) (hc : h.cap ≤ 4194304) (hfit : (laid h st recs).length + (r.length + 9) ≤ h.cap) : (LS falls live h st recs).wappend ⟨falls, live, h⟩ r = (0, LS falls live h st (recs ++ [r])) := by
  have hx : (LS falls live h st recs).L[live]? = some ⟨laid h st recs, (laid h st recs).length⟩ := two_live hl _ _
  unfold St.wappend
  rw [if_neg (by simp [LS]), if_neg (by unfold St.fits; rw [bytes_q hl]; simp; omega)]
  have := put_q (k := 2) (l := r) (S := LS falls live h st recs) rfl rfl hx (by simp; omega)
  refine Eq.trans this ?_
  simp only [LS, Prod.mk.injEq, true_and]
  rw [two_set hl, laid_snoc]
theorem wcheck_q {falls live : Nat} {h : Hd} {st st' : List Int} {recs : List (List Int)} (hl : live ≤ 1) (hc : h.cap ≤ 4194304) (hfit : st'.length + 33 ≤ h.cap) : (LS falls live h st recs).wcheck ⟨falls, live, h⟩ st' = (0, LS falls (1 - live) h.next st' [], ⟨falls, 1 - live, h.next⟩) := by
  have hw : weight st'.length = (st'.length : Int) + 33 := by unfold weight; rw [if_neg (by omega)]
  have hx : (LS falls live h st recs).L[live]? = some ⟨laid h st recs, (laid h st recs).length⟩ := two_live hl _ _
  have hy : (LS falls live h st recs).L[1 - live]? = some ⟨[], 0⟩ := two_other hl _ _
  have e1 : (LS falls live h st recs).check1 ⟨falls, live, h⟩ = (0, LS falls live h st recs) := by
    unfold St.check1
    rw [one_sub hl]
    have := truncate_q (S := LS falls live h st recs) (n := 0) rfl rfl hy (Nat.zero_le _)
    refine Eq.trans this ?_
    simp only [LS, Prod.mk.injEq, true_and]
    rw [two_seto hl]
    rfl
  have e2 : (LS falls live h st recs).check2 ⟨falls, live, h⟩ st' = (0, ⟨two live ⟨laid h st recs, (laid h st recs).length⟩ ⟨laid h.next st' [], (laid h.next st' []).length⟩, true, falls, none⟩) := by
    unfold St.check2
    rw [e1, one_sub hl]
    have := put_q (S := LS falls live h st recs) (k := 1) (l := hdata h.next st') rfl rfl hy (by rw [hdata_length]; simp; omega)
    refine Eq.trans this ?_
    simp only [LS, Prod.mk.injEq, true_and]
    rw [two_seto hl, laid_nil]
    rfl
  have e3 : (LS falls live h st recs).check3 ⟨falls, live, h⟩ st' = (0, LS falls (1 - live) h.next st' []) := by
    unfold St.check3
    rw [e2]
    have := truncate_q (S := ⟨two live ⟨laid h st recs, (laid h st recs).length⟩ ⟨laid h.next st' [], (laid h.next st' []).length⟩, true, falls, none⟩) (f := live) (n := 0) rfl rfl (two_live hl _ _) (Nat.zero_le _)
    refine Eq.trans this ?_
    simp only [LS, Prod.mk.injEq, true_and]
    rw [two_set hl, two_turn hl]
    simp
  unfold St.wcheck
  rw [if_neg (by simp [LS]), if_neg (by unfold fitsU; rw [hw]; simp; omega), e1, if_neg (by simp), e2, if_neg (by simp), e3, if_neg (by simp)]

end Go.Proofs.YtnfjhdedcnbdbaaGreat

/-
  The document's examples, by the program.
-/
namespace Go.Proofs.YtnfjhdedcnbdbaaGreat
open Go.RowKit
set_option linter.unusedVariables false
set_option linter.unusedSimpArgs false

def hA : Hd := ⟨1, 1024, 4⟩
def hB : Hd := ⟨2, 1024, 4⟩
theorem okA : okH 1 1024 4 = true := by decide
theorem okB : hA.ok = true := by decide
theorem nextA : hA.next = hB := rfl
theorem lgA : Lgok hA [97, 98] [] := ⟨by decide, by decide, by rw [laid_nil_len]; decide, fun r hr => by cases hr⟩
theorem fresh_opens : (St.fresh 2).opens = (.error 61, St.fresh 2) := by
  apply opens_error
  rfl
theorem fresh_format : (St.fresh 2).format 1024 4 [97, 98] = (0, LS 0 0 hA [97, 98] []) := format_q (x := ⟨[], 0⟩) (y := ⟨[], 0⟩) rfl rfl rfl okA (by decide)
theorem open_A : (LS 0 0 hA [97, 98] []).opens = (.ok ⟨0, hA, [97, 98], [], (laid hA [97, 98] []).length⟩, LS 0 0 hA [97, 98] []) := opens_q (by decide) lgA
theorem bytes_A : (LS 0 0 hA [97, 98] []).bytes ⟨0, 0, hA⟩ = 35 := by rw [bytes_q (by decide), laid_nil_len]; rfl
theorem app_A : (LS 0 0 hA [97, 98] []).wappend ⟨0, 0, hA⟩ [120, 121, 122] = (0, LS 0 0 hA [97, 98] [[120, 121, 122]]) := wappend_q (by decide) (by decide) (by rw [laid_nil_len]; decide)
theorem len_B : (laid hA [97, 98] [[120, 121, 122]]).length = 47 := by
  have := laid_snoc_len hA [97, 98] [] [120, 121, 122]
  rw [laid_nil_len] at this
  exact this
theorem bytes_B : (LS 0 0 hA [97, 98] [[120, 121, 122]]).bytes ⟨0, 0, hA⟩ = 47 := by rw [bytes_q (by decide), len_B]; rfl
theorem fits_B (n : Int) : (LS 0 0 hA [97, 98] [[120, 121, 122]]).fits ⟨0, 0, hA⟩ n = decide (0 ≤ n ∧ n ≤ 4194304 ∧ 47 + (n + 9) ≤ 1024) := by unfold St.fits; rw [bytes_B]; rfl
theorem chk_B : (LS 0 0 hA [97, 98] [[120, 121, 122]]).wcheck ⟨0, 0, hA⟩ [113] = (0, LS 0 1 hB [113] [], ⟨0, 1, hB⟩) := by
  have := wcheck_q (falls := 0) (live := 0) (h := hA) (st := [97, 98]) (recs := [[120, 121, 122]]) (st' := [113]) (by decide) (by decide) (by decide)
  rw [nextA] at this
  exact this
theorem chk_C (s : List Int) (hs : s.length = 992) : (LS 0 1 hB [113] []).wcheck ⟨0, 1, hB⟩ s = (60, LS 0 1 hB [113] [], ⟨0, 1, hB⟩) := by
  unfold St.wcheck
  rw [if_neg (by simp [LS]), if_pos (by rw [hs]; decide)]
theorem bytes_C : (LS 0 1 hB [113] []).bytes ⟨0, 1, hB⟩ = 34 := by rw [bytes_q (by decide), laid_nil_len]; rfl
theorem size_C : (LS 0 1 hB [113] []).size 0 = 0 := size_at (f := 0) (x := ⟨[], 0⟩) rfl

/-- The state, as it is read. -/
theorem FdM.sl {B : Nat} {A : World} {x : El} {r : List El} {sv rv : Value} (h : FdM B A x r sv rv) (hb : Byte (x.2.2.drop 24)) : ∃ a n c, sv = .slice a n c ∧ n = (x.2.2.drop 24).length ∧ Sl A a n (x.2.2.drop 24) ∧ (a = none → n = 0 ∧ c = 0) := by
  obtain ⟨h1, _, _, ⟨g, n, c, off, hv, hn, h24, hoff, rfl⟩, _, _⟩ := h
  have ho := h1.2
  rw [hv, ← hn] at ho
  refine ⟨_, _, _, rfl, by rw [List.length_drop, hn], ⟨by rw [List.length_drop, hn], hb, fun j hj => ?_⟩, fun e => by cases e⟩
  refine ⟨_, rfl, ?_⟩
  have e := hoff (by omega)
  subst e
  have q := ho.cells rfl (24 + j) (.int .u8 ((x.2.2.drop 24).getD j 0)) (by
    simp only [cells8, List.getElem?_map]
    rw [List.getElem?_eq_getElem (by omega)]
    simp only [Option.map_some, List.getD, List.getElem?_drop]
    rw [List.getElem?_eq_getElem (by omega)]
    rfl)
  rw [Addr.add_lit] at q ⊢
  rw [Nat.zero_add] at q
  exact q
theorem FdM.chgF {B : Nat} {A A' : World} {x : El} {r : List El} {sv rv : Value} {F : Nat → Prop} (h : FdM B A x r sv rv) (hc : Chg F A A') (h1 : ∀ y ∈ x :: r, ∀ g, y.2.1.ownBlock = some g → ¬ F g) (h2 : ∀ g, rv.ownBlock = some g → ¬ F g) : FdM B A' x r sv rv := by
  obtain ⟨q1, q2, q3, q4, q5, q6⟩ := h
  exact ⟨q1.chg hc (h1 x (by simp)), fun y hy => (q2 y hy).chg hc (h1 y (by simp [hy])), q3, q4, q5, hc.owns q6 h2⟩

end Go.Proofs.YtnfjhdedcnbdbaaGreat

/-
  What two Opens tell, in one form.
-/
namespace Go.Proofs.YtnfjhdedcnbdbaaGreat
open Go.RowKit
set_option linter.unusedVariables false
set_option linter.unusedSimpArgs false

def tE : Except Int Fnd → Int | .error e => e | .ok _ => 0
def tS : Except Int Fnd → List Int | .error _ => [] | .ok f => f.state
def tR : Except Int Fnd → List (List Int) | .error _ => [] | .ok f => f.recs
def tN : Except Int Fnd → Bool | .error _ => true | .ok _ => false
/-- Cells that may be written. -/
def Wrt (A : World) (sa : Option Addr) (n : Nat) : Prop := ∀ j, j < n → ∃ g off u, sa = some ⟨g, off, none⟩ ∧ A.cell? ⟨g, off + j, none⟩ = some u ∧ A.frozen? ⟨g, off + j, none⟩ = false
/-- What the program's Open told. -/
structure Out (A : World) (st : List Int) (recs : List (List Int)) (sa : Option Addr) (sn : Nat) (ra : Option Addr) (rc : Nat) (r : List El) : Prop where
  ss : Sl A sa sn st
  sw : Wrt A sa sn
  rl : recs.length = r.length
  rr : A.ownsRow 0 28 1 (.slice ra r.length rc) r.length (r.map (·.2.1))
  rx : ∀ y ∈ r, RowX 0 A y
  ap : r.Pairwise ApartE
  sap : ∀ y ∈ r, ∀ z, sa = some z → 0 < sn → y.2.1.ownBlock ≠ some z.block
  eq : recs = r.map (·.2.2)
  tg : ∀ z, sa = some z → 0 < sn → Tg A z.block 5
/-- Its blocks of bytes. -/
def OW (sa : Option Addr) (sn : Nat) (r : List El) (g : Nat) : Prop := (∃ z, sa = some z ∧ 0 < sn ∧ z.block = g) ∨ ∃ y ∈ r, y.2.1.ownBlock = some g
theorem opens_ok_find {S : St} {f : Fnd} (h : S.opens.1 = .ok f) : S.find = .ok f := by
  unfold St.opens at h
  cases hf : S.find with
  | error e => rw [hf] at h; cases h
  | ok x =>
    rw [hf] at h
    simp only at h
    split at h
    · cases h
    · exact h
theorem finS_byte {S : St} {i : Nat} {a : Hd × List Int} {f : Fnd} (hb : ∀ i, Byte (S.file i)) (ha : headAt (S.file i) = some a) (h : finS S i a = .ok f) : Byte f.state ∧ ∀ r ∈ f.recs, Byte r := by
  unfold finS at h
  split at h
  · simp only [Except.ok.injEq] at h
    subst h
    refine ⟨?_, fun r hr => ?_⟩
    · unfold headAt at ha
      cases hfr : frames (S.file i) with
      | nil => rw [hfr] at ha; cases ha
      | cons x l =>
        rw [hfr] at ha
        obtain ⟨a1, a2⟩ := a
        have := headIn_some ha
        show Byte a2
        rw [this.2.2.2.2.1]
        exact (frames_byte (hb i) x (by rw [hfr]; simp)).1.drop 24
    · have hr' : r ∈ (frames (S.file i)).tail.map (·.2) := hr
      obtain ⟨x, hx, rfl⟩ := List.mem_map.1 hr'
      exact (frames_byte (hb i) x (List.mem_of_mem_tail hx)).1
  · cases h
theorem find_byte {S : St} {f : Fnd} (hb : ∀ i, Byte (S.file i)) (h : S.find = .ok f) : Byte f.state ∧ ∀ r ∈ f.recs, Byte r := by
  unfold St.find at h
  split at h
  · cases h
  · split at h
    · cases h
    · cases h0 : headAt (S.file 0) with
      | none =>
        cases h1 : headAt (S.file 1) with
        | none => rw [h0, h1] at h; cases h
        | some b => rw [h0, h1] at h; exact finS_byte hb h1 h
      | some a =>
        cases h1 : headAt (S.file 1) with
        | none => rw [h0, h1] at h; exact finS_byte hb h0 h
        | some b =>
          rw [h0, h1] at h
          simp only at h
          split at h
          · cases h
          · split at h
            · exact finS_byte hb h1 h
            · exact finS_byte hb h0 h
theorem tell_byte {S : St} (hb : ∀ i, Byte (S.file i)) : Byte (tS S.opens.1) ∧ ∀ r ∈ tR S.opens.1, Byte r := by
  cases h : S.opens.1 with
  | error e => exact ⟨fun x hx => (by cases hx), fun r hr => (by cases hr)⟩
  | ok f => exact find_byte hb (opens_ok_find h)

theorem OpenR.out {w w' : World} {p : Nat} {F : Nat → Prop} {S : St} {e : Ending} (hb : ∀ i, Byte (S.file i)) (h : OpenR w p F S e w') : ∃ F', Dk 64 79 w' p F' S.opens.2 ∧ Chg F w w' ∧ New w F F' ∧ ∃ lo sa sc ra rc r, e = .returned (.tuple #[.pointer lo, .slice sa (tS S.opens.1).length sc, .slice ra (tR S.opens.1).length rc, .int .i64 (tE S.opens.1)]) ∧ (lo = none ↔ tN S.opens.1 = true) ∧ Out w' (tS S.opens.1) (tR S.opens.1) sa (tS S.opens.1).length ra rc r ∧ (∀ g, OW sa (tS S.opens.1).length r g → w.heap.size ≤ g ∧ g < w'.heap.size ∧ ¬ F' g) := by
  have hby := tell_byte hb
  obtain ⟨F', h1, h2, h3, hc⟩ := h
  refine ⟨F', h1, h2, h3, ?_⟩
  rcases hc with ⟨er, he, _, rfl⟩ | ⟨f, lp, x, r, sv, rv, he, _, _, _, _, _, hst, hrc, hfd, hap, rfl⟩
  · rw [he]
    refine ⟨none, none, 0, none, 0, [], rfl, by simp [tN], ⟨Sl.nil _ _, fun j hj => absurd hj (Nat.not_lt_zero _), rfl, World.ownsRow_nil _ _ _ _, fun y hy => (by cases hy), List.Pairwise.nil, fun y hy => (by cases hy), rfl, fun z hz => (by cases hz)⟩, ?_⟩
    rintro g (⟨z, hz, _⟩ | ⟨y, hy, _⟩)
    · cases hz
    · cases hy
  · rw [he] at hby ⊢
    have hby1 : Byte f.state := hby.1
    obtain ⟨sa, sn, sc, rfl, hsn, hsl, _⟩ := hfd.sl (by rw [← hst]; exact hby1)
    rw [← hst] at hsl hsn
    subst hsn
    obtain ⟨q1, q2, q3, ⟨g, n, c, off, hv, hn, h24, hoff, hsv⟩, ⟨ra, rn, rc, rfl⟩, q6⟩ := hfd
    have hrn : rn = r.length := by
      obtain ⟨_, _, e⟩ := owns_formG q6
      simp only [Value.slice.injEq] at e
      exact e.2.1
    subst hrn
    have e1 : sa = some ⟨g, off, none⟩ ∧ f.state.length = n - 24 := by simp only [Value.slice.injEq] at hsv; exact ⟨hsv.1, hsv.2.1⟩
    have hlen : f.recs.length = r.length := by rw [hrc]; simp
    have hrow := q1.2
    rw [hv, ← hn] at hrow
    refine ⟨some ⟨lp, 0, none⟩, sa, sc, ra, rc, r, ?_, by simp [tN], ⟨hsl, ?_, hlen, owns_zero q6, fun y hy => ⟨(q2 y hy).1, owns_zero (q2 y hy).2⟩, (List.pairwise_cons.1 q3).2, ?_, hrc, ?_⟩, ?_⟩
    · show _ = Ending.returned (.tuple #[.pointer (some ⟨lp, 0, none⟩), .slice sa f.state.length sc, .slice ra f.recs.length rc, .int .i64 0])
      rw [hlen]
    · intro j hj
      obtain ⟨y, hy, hcell⟩ := hsl.cell j hj
      rw [e1.1] at hy
      cases hy
      have hj2 : 0 < n - 24 := by
        have : (tS (Except.ok f)).length = n - 24 := e1.2
        omega
      rw [Addr.add_lit] at hcell
      exact ⟨g, off, _, e1.1, hcell, owns_frozen hrow _⟩
    · intro y hy z hz hp
      rw [e1.1] at hz
      cases hz
      have := (List.pairwise_cons.1 q3).1 y hy g (by rw [hv]; rfl)
      exact this
    · intro z hz hp
      rw [e1.1] at hz
      cases hz
      exact owns_tg hrow g rfl
    · rintro g' (⟨z, hz, hp, rfl⟩ | ⟨y, hy, hg⟩)
      · rw [e1.1] at hz
        cases hz
        have := hrow.lt g rfl
        exact ⟨this.1, this.2, hap x (by simp) g (by rw [hv]; rfl)⟩
      · have := (q2 y hy).2.lt g' hg
        exact ⟨this.1, this.2, hap y (by simp [hy]) g' hg⟩
/-- What the document's Open told. -/
structure OutQ (A : World) (st : List Int) (recs : List (List Int)) (sa : Option Addr) (sn : Nat) (ra : Option Addr) (rc : Nat) (r : List El) : Prop where
  ss : Sl A sa sn st
  rl : recs.length = r.length
  rr : A.ownsRow 0 28 1 (.slice ra r.length rc) r.length (r.map (·.2.1))
  rx : ∀ y ∈ r, RowX 0 A y
  eq : recs = r.map (·.2.2)
theorem OpenQ.out {w w' : World} {p : Nat} {F : Nat → Prop} {S : St} {e : Ending} (hb : ∀ i, Byte (S.file i)) (h : OpenQ w p F S e w') : ∃ F', Dk 82 97 w' p F' S.opens.2 ∧ Chg F w w' ∧ New w F F' ∧ ∃ lo sa sc ra rc r, e = .returned (.tuple #[.pointer lo, .slice sa (tS S.opens.1).length sc, .slice ra (tR S.opens.1).length rc, .int .i64 (tE S.opens.1)]) ∧ (lo = none ↔ tN S.opens.1 = true) ∧ OutQ w' (tS S.opens.1) (tR S.opens.1) sa (tS S.opens.1).length ra rc r ∧
    (∀ y ∈ r, ∀ g, y.2.1.ownBlock = some g → w.heap.size ≤ g) ∧ (∀ g, (Value.slice ra r.length rc).ownBlock = some g → w.heap.size ≤ g) ∧ (∀ z, sa = some z → 0 < (tS S.opens.1).length → w.heap.size ≤ z.block) := by
  have hby := tell_byte hb
  obtain ⟨F', h1, h2, h3, hc⟩ := h
  refine ⟨F', h1, h2, h3, ?_⟩
  rcases hc with ⟨er, he, _, rfl⟩ | ⟨f, lp, r, sv, rv, he, _, hlg, _, ⟨sa, sc, rfl, hso⟩, hrc, hrx, hro, _, _, rfl⟩
  · rw [he]
    exact ⟨none, none, 0, none, 0, [], rfl, by simp [tN], ⟨Sl.nil _ _, rfl, World.ownsRow_nil _ _ _ _, fun y hy => (by cases hy), rfl⟩, fun y hy => (by cases hy), fun g hg => (by cases hg), fun z hz => (by cases hz)⟩
  · rw [he] at hby ⊢
    have hby1 : Byte f.state := hby.1
    obtain ⟨ra, rc, rfl⟩ := owns_formG hro
    have hlen : f.recs.length = r.length := by rw [hrc]; simp
    refine ⟨some ⟨lp, 0, none⟩, sa, sc, ra, rc, r, ?_, by simp [tN], ⟨sl_of_owns hso hby1, hlen, owns_zero hro, fun y hy => ⟨(hrx y hy).1, owns_zero (hrx y hy).2⟩, hrc⟩, fun y hy g hg => ((hrx y hy).2.lt g hg).1, fun g hg => (hro.lt g hg).1, ?_⟩
    · show _ = Ending.returned (.tuple #[.pointer (some ⟨lp, 0, none⟩), .slice sa f.state.length sc, .slice ra f.recs.length rc, .int .i64 0])
      rw [hlen]
    · intro z hz hp
      obtain ⟨g, hg⟩ := owns_addr hso hp
      rw [hg] at hz
      cases hz
      exact (hso.lt g (by rw [hg]; rfl)).1

end Go.Proofs.YtnfjhdedcnbdbaaGreat

/-
  The law's opens.
-/
namespace Go.Proofs.YtnfjhdedcnbdbaaGreat
open Go.RowKit
set_option linter.unusedVariables false
set_option linter.unusedSimpArgs false

set_option maxRecDepth 100000 in
theorem nilL (lo : Option Addr) (b : Bool) (h : lo = none ↔ b = true) (w : World) : (binOp .eql 36 (.pointer lo) (.pointer none)).run Tryz.prog w = .ok (.bool b) w := by
  cases lo with
  | none =>
    have : b = true := h.1 rfl
    subst this
    rfl
  | some a =>
    have : b = false := by cases b with | false => rfl | true => exact absurd (h.2 rfl) (by simp)
    subst this
    rfl
set_option maxRecDepth 100000 in
theorem nilM (lo : Option Addr) (b : Bool) (h : lo = none ↔ b = true) (w : World) : (binOp .eql 50 (.pointer lo) (.pointer none)).run Tryz.prog w = .ok (.bool b) w := by
  cases lo with
  | none =>
    have : b = true := h.1 rfl
    subst this
    rfl
  | some a =>
    have : b = false := by cases b with | false => rfl | true => exact absurd (h.2 rfl) (by simp)
    subst this
    rfl
theorem Wrt.chg {F : Nat → Prop} {A A' : World} {sa : Option Addr} {n : Nat} (h : Wrt A sa n) (hc : Chg F A A') (hF : ∀ z, sa = some z → 0 < n → ¬ F z.block) : Wrt A' sa n := by
  intro j hj
  obtain ⟨g, off, u, h1, h2, h3⟩ := h j hj
  have hg : A'.heap[g]? = A.heap[g]? := hc.block g (World.block_lt_of_cell? A _ h2) (hF _ h1 (by omega))
  refine ⟨g, off, u, h1, ?_, ?_⟩
  · rw [World.cell?_of_block (a := ⟨g, off + j, none⟩) hg]
    exact h2
  · rw [World.frozen?_of_block (a := ⟨g, off + j, none⟩) hg]
    exact h3
theorem Wrt.set {A : World} {sa : Option Addr} {n : Nat} (h : Wrt A sa n) (g i : Nat) (v : Value) : Wrt (A.setCell ⟨g, i, none⟩ v) sa n := by
  intro j hj
  obtain ⟨g', off, u, h1, h2, h3⟩ := h j hj
  obtain ⟨v', hv'⟩ := cell?_setCell_some (p := ⟨g, i, none⟩) (x := v) h2
  exact ⟨g', off, v', h1, hv', by rw [World.frozen?_setCell]; exact h3⟩
theorem Out.chg {F : Nat → Prop} {A A' : World} {st : List Int} {recs : List (List Int)} {sa : Option Addr} {sn : Nat} {ra : Option Addr} {rc : Nat} {r : List El} (h : Out A st recs sa sn ra rc r) (hc : Chg F A A') (h1 : ∀ g, OW sa sn r g → ¬ F g) (h2 : ∀ g, (Value.slice ra r.length rc).ownBlock = some g → ¬ F g) : Out A' st recs sa sn ra rc r := by
  refine ⟨hc.sl h.ss (fun z hz hp => h1 _ (.inl ⟨z, hz, hp, rfl⟩)), h.sw.chg hc (fun z hz hp => h1 _ (.inl ⟨z, hz, hp, rfl⟩)), h.rl, hc.owns h.rr h2, fun y hy => (h.rx y hy).chg hc (fun g hg => h1 g (.inr ⟨y, hy, hg⟩)), h.ap, h.sap, h.eq, fun z hz hp => ?_⟩
  have hlt := h.ss.lt z hz hp
  have hb := hc.block z.block hlt (h1 _ (.inl ⟨z, hz, hp, rfl⟩))
  obtain ⟨cs, fr, hh⟩ := h.tg z hz hp
  exact ⟨cs, fr, by rw [hb]; exact hh⟩

theorem finS_len {S : St} {i : Nat} {a : Hd × List Int} {f : Fnd} (hb : ∀ i, Byte (S.file i)) (hl : ∀ i, (S.file i).length ≤ 16777216) (ha : headAt (S.file i) = some a) (h : finS S i a = .ok f) : f.state.length ≤ 16777216 ∧ f.recs.length ≤ 16777216 ∧ ∀ r ∈ f.recs, r.length ≤ 16777216 := by
  unfold finS at h
  split at h
  · simp only [Except.ok.injEq] at h
    subst h
    obtain ⟨a1, a2⟩ := a
    have q1 := (headAt_lt (hb i) ha).2.2
    have q2 := fsz_len (frames (S.file i))
    have q3 := fsz_le (S.file i)
    have q4 := hl i
    refine ⟨by show a2.length ≤ _; omega, ?_, fun r hr => ?_⟩
    · show ((frames (S.file i)).tail.map (·.2)).length ≤ _
      rw [List.length_map, List.length_tail]
      omega
    · have hr' : r ∈ (frames (S.file i)).tail.map (·.2) := hr
      obtain ⟨x, hx, rfl⟩ := List.mem_map.1 hr'
      have := (frames_byte (hb i) x (List.mem_of_mem_tail hx)).2.2.2
      omega
  · cases h
theorem tell_len {S : St} (hb : ∀ i, Byte (S.file i)) (hl : ∀ i, (S.file i).length ≤ 16777216) : (tS S.opens.1).length ≤ 16777216 ∧ (tR S.opens.1).length ≤ 16777216 ∧ ∀ r ∈ tR S.opens.1, r.length ≤ 16777216 := by
  cases h : S.opens.1 with
  | error e => exact ⟨Nat.zero_le _, Nat.zero_le _, fun r hr => (by cases hr)⟩
  | ok f =>
    have h := opens_ok_find h
    show f.state.length ≤ _ ∧ f.recs.length ≤ _ ∧ ∀ r ∈ f.recs, r.length ≤ _
    unfold St.find at h
    split at h
    · cases h
    · split at h
      · cases h
      · cases h0 : headAt (S.file 0) with
        | none =>
          cases h1 : headAt (S.file 1) with
          | none => rw [h0, h1] at h; cases h
          | some b => rw [h0, h1] at h; exact finS_len hb hl h1 h
        | some a =>
          cases h1 : headAt (S.file 1) with
          | none => rw [h0, h1] at h; exact finS_len hb hl h0 h
          | some b =>
            rw [h0, h1] at h
            simp only at h
            split at h
            · cases h
            · split at h
              · exact finS_len hb hl h1 h
              · exact finS_len hb hl h0 h
theorem Wrt.row {A : World} {B : Nat} {a : Option Addr} {n c : Nat} {xs : List Int} (h : A.ownsRow B 5 1 (.slice a n c) n (cells8 xs)) : Wrt A a n := by
  intro j hj
  obtain ⟨g, hg⟩ := owns_addr h (by omega)
  have hl := h.1
  rw [cells8_length] at hl
  rw [hg] at h
  refine ⟨g, 0, .int .u8 (xs.getD j 0), hg, ?_, owns_frozen h _⟩
  rw [Nat.zero_add]
  exact owns_cell h j _ (by simp [cells8, List.getD, show j < xs.length by omega])

set_option maxRecDepth 100000 in
set_option maxHeartbeats 4000000 in
theorem opensP (wp p x : Nat) (F G : Nat → Prop) (S : St) (lv mv : Value) (w : World) (h : WW w wp p x F G S lv mv) (hf : S.falls ≤ 1099511627776) (hfl : ∀ i, (S.file i).length ≤ 1048576) :
    Calls Tryz.prog 23 #[.pointer (some ⟨wp, 0, none⟩)] w fun e w' => e = .returned (.bool true) ∧ ∃ F' G' lo mo, WW w' wp p x F' G' S.opens.2 (.pointer lo) (.pointer mo) ∧ Chg (fun i => F i ∨ G i ∨ i = wp) w w' ∧ New w F F' ∧ New w G G' := by
  have H := hidden h
  have HF := hidden hf
  have HFL := hidden hfl
  have HBY : Hid (∀ i, Byte (S.file i)) := fun i => (file_len h.d i).2
  have HTB := hidden (tell_byte HBY.out)
  have a0 : w.cell? ⟨wp, 0, none⟩ = some (.pointer (some ⟨p, 0, none⟩)) := h.b.cell 0
  clear h hf hfl
  go_enter Tryz.func23, Tryz.ntmps23
  go_wp2_with fail
  refine open_walk p F S w H.out.d HF.out _ ?_
  intro e w1 hO
  obtain ⟨F1, k1, c1, n1, lo, sa, sc, ra, rc, r, rfl, hlo, hout, how⟩ := hO.out HBY.out
  have HK1 := hidden k1
  have HC1 := hidden c1
  have HN1 := hidden n1
  have HOUT1 := hidden hout
  have HOW := hidden how
  have HLO := hidden hlo
  clear hO k1 c1 n1 hout how hlo a0
  have HB1 := hidden (HC1.out.blk H.out.b H.out.nf.1)
  have HX1 := hidden (H.out.r.chg HC1.out (fun i hi hF => H.out.ap i hF hi))
  have a2 : w1.cell? ⟨wp, 2, none⟩ = some (.pointer (some ⟨x, 0, none⟩)) := HB1.out.cell 2
  go_wp2_with fail
  refine ropen_walk x G S w1 HX1.out HF.out HFL.out _ ?_
  intro e w2 hO
  obtain ⟨G2, k1, c1, n1, mo, ta, tc, qa, qc, r2, rfl, hmo, hout, hg1, hg2, hg3⟩ := hO.out HBY.out
  have HK2 := hidden k1
  have HC2 := hidden c1
  have HN2 := hidden n1
  have HOUTQ := hidden hout
  have HMO := hidden hmo
  have HG1 := hidden hg1
  have HG2 := hidden hg2
  have HG3 := hidden hg3
  clear hO k1 c1 n1 hout hmo a2 hg1 hg2 hg3
  have HGL : Hid (∀ i, G i → i < w.heap.size) := H.out.r.lt
  have HOWG : Hid (∀ g, OW sa (tS S.opens.1).length r g → ¬ G g) := fun g hg k => by
    have := HGL.out g k
    have := (HOW.out g hg).1
    omega
  have HRVG : Hid (∀ g, (Value.slice ra r.length rc).ownBlock = some g → ¬ G g) := fun g hg k => by
    have ht := owns_tg HOUT1.out.rr g hg
    rcases HX1.out.tg g k with q | q | q | q <;> exact absurd (ht.one q) (by decide)
  have HOUT := hidden (HOUT1.out.chg HC2.out HOWG.out HRVG.out)
  have HB2 := hidden (HC2.out.blk HB1.out H.out.nf.2)
  have HD2 : Hid (Dk 64 79 w2 p F1 S.opens.2) := HK1.out.chg HC2.out (fun i hi k => by
    rcases HN1.out i hi with f | f
    · exact H.out.ap i f k
    · have := HGL.out i k; omega)
  have HOW2 : Hid (∀ g, OW sa (tS S.opens.1).length r g → w.heap.size ≤ g ∧ g < w1.heap.size ∧ ¬ F1 g ∧ ¬ G2 g ∧ g ≠ wp) := fun g hg => by
    obtain ⟨q1, q2, q3⟩ := HOW.out g hg
    refine ⟨q1, q2, q3, fun k => ?_, fun k => ?_⟩
    · rcases HN2.out g k with f | f
      · have := HGL.out g f; omega
      · omega
    · have := H.out.b.lt
      omega
  have HAP2 : Hid (∀ i, F1 i → ¬ G2 i) := fun i hi k => by
    rcases HN2.out i k with f | f
    · rcases HN1.out i hi with q | q
      · exact H.out.ap i q f
      · have := HGL.out i f; omega
    · have := HK1.out.lt i hi; omega
  have HSB := hidden HTB.out.1
  have HRB := hidden HTB.out.2
  have hcv1 := convS (cap := sc) HOUT.out.ss
  have hcv2 := convS (cap := tc) HOUTQ.out.ss
  have hp1 := nilL lo _ HLO.out
  have hp2 := nilM mo _ HMO.out
  have hrl := HOUT.out.rl
  have hql := HOUTQ.out.rl
  have HSBD : Hid ((tS S.opens.1).length ≤ 16777216 ∧ (tR S.opens.1).length ≤ 16777216 ∧ ∀ r ∈ tR S.opens.1, r.length ≤ 16777216) := tell_len HBY.out (fun i => by have := HFL.out i; omega)
  generalize tS S.opens.1 = st at *
  generalize tR S.opens.1 = recs at *
  generalize tE S.opens.1 = er at *
  generalize tN S.opens.1 = bn at *
  obtain ⟨sn, hsn⟩ : ∃ sn, st.length = sn := ⟨_, rfl⟩
  obtain ⟨m, hm⟩ : ∃ m, recs.length = m := ⟨_, rfl⟩
  rw [hsn] at HOUT HOUTQ HOW2 hcv1 hcv2 HG3 HSBD ⊢
  rw [hm] at hrl hql HSBD ⊢
  have hsb1 := HSBD.out.1
  have hsb2 := HSBD.out.2.1
  have HRLN := hidden HSBD.out.2.2
  have HSN := hidden hsn
  have HOWT : Hid (∀ g, OW sa sn r g → Tg w2 g 5) := by
    rintro g (⟨z, hz, hp, rfl⟩ | ⟨y, hy, hg⟩)
    · exact HOUT.out.tg z hz hp
    · exact owns_tg (HOUT.out.rx y hy).2 g hg
  have HRL := hidden hrl
  have HQL := hidden hql
  clear hsn hm hrl hql HLO HMO HOUT1 HOW HOWG HRVG HTB HSBD
  go_wp2_with fail
  go_loopw [2, 11] (fun v2 v11 wr => v2 = .bool false ∧ ∃ i : Nat, i ≤ m ∧ v11 = .int .i64 (i : Int) ∧ Below w2.heap.size w2 wr) (fun v2 v11 _ => m - (intOf v11).toNat)
  case atStart => exact ⟨rfl, 0, Nat.zero_le _, rfl, Below.refl _ _⟩
  case round =>
    obtain ⟨rfl, i, hi, rfl, hbel⟩ := hrel
    have HL : Hid (Lat w2 wr) := hbel
    clear hbel
    by_cases hlt : i < m
    · have hlt' : (i : Int) < (m : Int) := by omega
      obtain ⟨y, hy⟩ : ∃ y, r[i]? = some y := ⟨_, List.getElem?_eq_getElem (by have := HRL.out; omega)⟩
      obtain ⟨y2, hy2⟩ : ∃ y2, r2[i]? = some y2 := ⟨_, List.getElem?_eq_getElem (by have := HQL.out; omega)⟩
      obtain ⟨⟨a1, c1, hv1⟩, ho1⟩ := HOUT.out.rx y (List.mem_of_getElem? hy)
      obtain ⟨⟨a2, c2, hv2⟩, ho2⟩ := HOUTQ.out.rx y2 (List.mem_of_getElem? hy2)
      have hyy : y.2.2 = y2.2.2 := by
        have q1 : recs[i]? = some y.2.2 := by rw [HOUT.out.eq, List.getElem?_map, hy]; rfl
        have q2 : recs[i]? = some y2.2.2 := by rw [HOUTQ.out.eq, List.getElem?_map, hy2]; rfl
        rw [q1] at q2
        exact Option.some.inj q2
      have hbb : Byte y.2.2 := HRB.out _ (by rw [HOUT.out.eq]; exact List.mem_map.2 ⟨y, List.mem_of_getElem? hy, rfl⟩)
      obtain ⟨ga, hga⟩ := owns_addr (by have q := HOUT.out.rr; rw [← HRL.out] at q; exact q) (by omega : 0 < m)
      obtain ⟨gb, hgb⟩ := owns_addr (by have q := HOUTQ.out.rr; rw [← HQL.out] at q; exact q) (by omega : 0 < m)
      have z1 : w2.cell? ⟨ga, i, none⟩ = some (.slice a1 y.2.2.length c1) := by
        have q := HOUT.out.rr
        rw [hga] at q
        exact owns_cell q i _ (by rw [List.getElem?_map, hy]; simp [hv1])
      have z2 : w2.cell? ⟨gb, i, none⟩ = some (.slice a2 y2.2.2.length c2) := by
        have q := HOUTQ.out.rr
        rw [hgb] at q
        exact owns_cell q i _ (by rw [List.getElem?_map, hy2]; simp [hv2])
      rw [hv1] at ho1
      rw [hv2] at ho2
      have cg : ∀ {w3 : World}, Lat wr w3 → Chg (fun _ => False) w2 w3 := fun h => Chg.of_below (Lat.trans _ _ _ HL.out h)
      go_wp2_with fail
      refine opens_r8 ga gb m rc qc i y.2.2.length c1 y2.2.2.length c2 a1 a2 (strOfNums y.2.2) wr _ _ (by rfl) (by show Value.slice ra m rc = _; rw [hga]) (by show Value.slice qa m qc = _; rw [hgb]) (by rfl) hlt (fun w3 hL => (cg hL).cellS z1 (fun h => h)) (fun w3 hL => (cg hL).cellS z2 (fun h => h)) (fun w3 hL => convS (sl_of_owns ((cg hL).owns ho1 (fun _ _ h => h)) hbb)) (fun w3 hL => by rw [hyy]; exact convS (sl_of_owns ((cg hL).owns ho2 (fun _ _ h => h)) (hyy ▸ hbb))) ?_
      intros
      rename_i w3 hL3
      simp only [Act.put, List.setIfInBounds_toArray, List.set_cons_succ, List.set_cons_zero]
      have HL3 := hidden (Lat.trans _ _ _ HL.out hL3)
      clear z1 z2 ho1 ho2 hv1 hv2 hyy hbb hga hgb hy hy2 hL3
      go_wp2_with fail
      exact ⟨⟨rfl, i + 1, by omega, by simp, HL3.out⟩, by simp [intOf]; omega⟩
    · have hlt' : ¬ (i : Int) < (m : Int) := by omega
      rename World => wa
      go_wp2_with fail
      go_loopw [12] (fun v12 wr => ∃ i : Nat, i ≤ sn ∧ v12 = .int .i64 (i : Int) ∧ Chg (fun g => ∃ z, sa = some z ∧ 0 < sn ∧ z.block = g) w2 wr ∧ Wrt wr sa sn) (fun v12 _ => sn - (intOf v12).toNat)
      case atStart => exact ⟨0, Nat.zero_le _, rfl, Chg.of_below HL.out, HOUT.out.sw.chg (Chg.of_below (F := fun _ => False) HL.out) (fun _ _ _ h => h)⟩
      case round =>
        obtain ⟨k, hk, rfl, hch, hwr⟩ := hrel
        have HCH := hidden hch
        have HWR := hidden hwr
        clear hch hwr
        by_cases hks : k < sn
        · obtain ⟨g, off, u, hsa, hcell, hfrz⟩ := HWR.out k hks
          subst hsa
          have hks' : (k : Int) < (sn : Int) := by omega
          go_wp2_with fail
          refine ⟨⟨k + 1, by omega, by simp, HCH.out.trans (Chg.set _ _ _) (fun i _ h => ⟨_, rfl, by omega, h.symm⟩), HWR.out.set _ _ _⟩, by simp [intOf]; omega⟩
        · have hks' : ¬ (k : Int) < (sn : Int) := by omega
          rename World => wb
          go_wp2_with fail
          go_loopw [2, 13, 14] (fun v2 v13 v14 wr => v2 = .bool false ∧ ∃ i : Nat, i ≤ m ∧ v13 = .int .i64 (i : Int) ∧ Chg (OW sa sn r) w2 wr ∧ ∀ j y, i ≤ j → r[j]? = some y → RowX 0 wr y) (fun v2 v13 v14 _ => m - (intOf v13).toNat)
          case atStart =>
            refine ⟨rfl, 0, Nat.zero_le _, rfl, HCH.out.mono (fun i _ h => .inl h), fun j y _ hy => (HOUT.out.rx y (List.mem_of_getElem? hy)).chg HCH.out ?_⟩
            rintro g hg ⟨z, hz, hp, rfl⟩
            exact HOUT.out.sap y (List.mem_of_getElem? hy) z hz hp hg
          case round =>
            obtain ⟨rfl, i, hi, rfl, hch, hrw⟩ := hrel
            have HC3 := hidden hch
            have HRW := hidden hrw
            clear hch hrw
            by_cases hlt : i < m
            · have hlt' : (i : Int) < (m : Int) := by omega
              obtain ⟨y, hy⟩ : ∃ y, r[i]? = some y := ⟨_, List.getElem?_eq_getElem (by have := HRL.out; omega)⟩
              obtain ⟨y2, hy2⟩ : ∃ y2, r2[i]? = some y2 := ⟨_, List.getElem?_eq_getElem (by have := HQL.out; omega)⟩
              obtain ⟨⟨a1, c1, hv1⟩, ho1⟩ := HRW.out i y (Nat.le_refl _) hy
              have HY := hidden hy
              have HV1 := hidden hv1
              obtain ⟨⟨a2, c2, hv2⟩, ho2⟩ := (HOUTQ.out.rx y2 (List.mem_of_getElem? hy2)).chg HC3.out (fun g hg k => by
                have q1 := HG1.out y2 (List.mem_of_getElem? hy2) g hg
                have q2 := (HOW2.out g k).2.1
                omega)
              have hyy : y.2.2 = y2.2.2 := by
                have q1 : recs[i]? = some y.2.2 := by rw [HOUT.out.eq, List.getElem?_map, hy]; rfl
                have q2 : recs[i]? = some y2.2.2 := by rw [HOUTQ.out.eq, List.getElem?_map, hy2]; rfl
                rw [q1] at q2
                exact Option.some.inj q2
              have hbb : Byte y.2.2 := HRB.out _ (by rw [HOUT.out.eq]; exact List.mem_map.2 ⟨y, List.mem_of_getElem? hy, rfl⟩)
              obtain ⟨ga, hga⟩ := owns_addr (by have q := HOUT.out.rr; rw [← HRL.out] at q; exact q) (by omega : 0 < m)
              obtain ⟨gb, hgb⟩ := owns_addr (by have q := HOUTQ.out.rr; rw [← HQL.out] at q; exact q) (by omega : 0 < m)
              subst hga hgb
              have HTA : Hid (Tg w2 ga 28) := owns_tg HOUT.out.rr ga rfl
              have HNA : Hid (¬ OW sa sn r ga) := fun k => absurd ((HOWT.out ga k).one HTA.out) (by decide)
              have z1 : wr.cell? ⟨ga, i, none⟩ = some (.slice a1 y.2.2.length c1) := by
                have q := HC3.out.owns HOUT.out.rr (fun g hg k => by cases hg; exact HNA.out k)
                exact owns_cell q i _ (by rw [List.getElem?_map, hy]; simp [hv1])
              have z2 : wr.cell? ⟨gb, i, none⟩ = some (.slice a2 y2.2.2.length c2) := by
                have q := HC3.out.owns HOUTQ.out.rr (fun g hg k => by
                  have q1 := HG2.out g hg
                  have q2 := (HOW2.out g k).2.1
                  omega)
                exact owns_cell q i _ (by rw [List.getElem?_map, hy2]; simp [hv2])
              rw [hv1] at ho1
              rw [hv2] at ho2
              have cg : ∀ {w3 : World}, Lat wr w3 → Chg (fun _ => False) wr w3 := fun h => Chg.of_below h
              go_wp2_with fail
              refine opens_r17 ga gb m rc qc i y.2.2.length c1 y2.2.2.length c2 a1 a2 (strOfNums y.2.2) wr _ _ (by rfl) (by rfl) (by rfl) (by rfl) hlt (fun w3 hL => (cg hL).cellS z1 (fun h => h)) (fun w3 hL => (cg hL).cellS z2 (fun h => h)) (fun w3 hL => convS (sl_of_owns ((cg hL).owns ho1 (fun _ _ h => h)) hbb)) (fun w3 hL => by rw [hyy]; exact convS (sl_of_owns ((cg hL).owns ho2 (fun _ _ h => h)) (hyy ▸ hbb))) ?_
              intros
              rename_i w3 hL3
              simp only [Act.put, List.setIfInBounds_toArray, List.set_cons_succ, List.set_cons_zero]
              have HL3 := hidden hL3
              have HWR3 := hidden (Wrt.row ((cg hL3).owns ho1 (fun _ _ h => h)))
              have hq1 : Tg wr ga 28 := owns_tg (HC3.out.owns HOUT.out.rr (fun g hg k => by cases hg; exact HNA.out k)) ga rfl
              have HYT : Hid (y.2.1.ownBlock ≠ some ga) := fun k => absurd ((owns_tg ho1 ga (by rw [← hv1]; exact k)).one hq1) (by decide)
              have HZ : Hid (∀ w', Chg (fun g => y.2.1.ownBlock = some g) w3 w' → w'.cell? ⟨ga, i, none⟩ = some (.slice a1 y.2.2.length c1)) := fun w' h => h.cellS ((cg hL3).cellS z1 (fun h => h)) HYT.out
              have HLN : Hid (y.2.2.length ≤ 16777216) := HRLN.out _ (by rw [HOUT.out.eq]; exact List.mem_map.2 ⟨y, List.mem_of_getElem? HY.out, rfl⟩)
              obtain ⟨n1, hn1⟩ : ∃ n1, y.2.2.length = n1 := ⟨_, rfl⟩
              rw [hn1] at HWR3 HZ HV1 HLN
              have hnb := HLN.out
              clear z1 z2 ho1 ho2 hv1 hv2 hyy hbb hy hy2 hL3 cg hq1 hn1
              go_wp2_with fail
              go_loopw [14] (fun v14 wr' => ∃ k : Nat, k ≤ n1 ∧ v14 = .int .i64 (k : Int) ∧ Chg (fun g => y.2.1.ownBlock = some g) w3 wr' ∧ Wrt wr' a1 n1) (fun v14 _ => n1 - (intOf v14).toNat)
              case atStart => exact ⟨0, Nat.zero_le _, rfl, Chg.refl _ _, HWR3.out⟩
              case round =>
                obtain ⟨k, hk, rfl, hch, hwr⟩ := hrel
                rename World => wc
                have HCH4 := hidden hch
                have HWR4 := hidden hwr
                clear hch hwr
                have z1 := HZ.out _ HCH4.out
                by_cases hkn : k < n1
                · obtain ⟨g, off, u, hsa, hcell, hfrz⟩ := HWR4.out k hkn
                  have hkn' : (k : Int) < (n1 : Int) := by omega
                  subst hsa
                  go_wp2_with fail
                  exact ⟨⟨k + 1, by omega, by simp, HCH4.out.trans (Chg.set _ _ _) (fun i _ h => by rw [HV1.out, h]; rfl), HWR4.out.set _ _ _⟩, by simp [intOf]; omega⟩
                · have hkn' : ¬ (k : Int) < (n1 : Int) := by omega
                  go_wp2_with fail
                  refine ⟨⟨rfl, i + 1, by omega, by simp, (HC3.out.trans (Chg.of_below (F := fun _ => False) HL3.out) (fun _ _ h => h.elim)).trans HCH4.out (fun g _ h => .inr ⟨y, List.mem_of_getElem? HY.out, h⟩), fun j y' hj hy' => ?_⟩, by simp [intOf]; omega⟩
                  refine ((HRW.out j y' (by omega) hy').chg (Chg.of_below (F := fun _ => False) HL3.out) (fun _ _ h => h)).chg HCH4.out (fun g hg k => ?_)
                  exact List.pairwise_iff_getElem.1 HOUT.out.ap i j (List.getElem?_eq_some_iff.1 HY.out).1 (List.getElem?_eq_some_iff.1 hy').1 (by omega) g (by rw [(List.getElem?_eq_some_iff.1 HY.out).2]; exact k) (by rw [(List.getElem?_eq_some_iff.1 hy').2]; exact hg)
            · have hlt' : ¬ (i : Int) < (m : Int) := by omega
              have HB3 := hidden (HC3.out.blk HB2.out (fun k => (HOW2.out _ k).2.2.2.2 rfl))
              have b1 : wr.cell? ⟨wp, 1, none⟩ = some lv := HB3.out.cell 1
              have b3 : wr.cell? ⟨wp, 3, none⟩ = some mv := HB3.out.cell 3
              have f1 := HB3.out.frozen 1
              have f3 := HB3.out.frozen 3
              go_wp2_with fail
              go_ret
              have HB4 := (HB3.out.set 1 (.pointer lo)).set 3 (.pointer mo)
              have hcF : Chg (fun i => OW sa sn r i ∨ i = wp) w2 ((wr.setCell ⟨wp, 1, none⟩ (.pointer lo)).setCell ⟨wp, 3, none⟩ (.pointer mo)) :=
                ((HC3.out.mono (fun i _ h => .inl h)).trans (Chg.set _ _ _) (fun i _ h => .inr h)).trans (Chg.set _ _ _) (fun i _ h => .inr h)
              have nf1 : ¬ F1 wp := fun k => by
                rcases HN1.out _ k with f | f
                · exact H.out.nf.1 f
                · have := H.out.b.lt; omega
              have nf2 : ¬ G2 wp := fun k => by
                rcases HN2.out _ k with f | f
                · exact H.out.nf.2 f
                · have := HB1.out.lt; omega
              refine ⟨rfl, F1, G2, ⟨lo, mo, ⟨HB4, HD2.out.chg hcF (fun i hi k => ?_), HK2.out.chg hcF (fun i hi k => ?_), HAP2.out⟩⟩, ?_, HN1.out, HN2.out.up HC1.out.size⟩
              · rcases k with k | rfl
                · exact (HOW2.out i k).2.2.1 hi
                · exact nf1 hi
              · rcases k with k | rfl
                · exact (HOW2.out i k).2.2.2.1 hi
                · exact nf2 hi
              · refine ((HC1.out.mono (fun i _ h => .inl h)).trans HC2.out (fun i _ h => .inr (.inl h))).trans hcF (fun i hi h => ?_)
                rcases h with h | rfl
                · have := (HOW2.out i h).1
                  omega
                · exact .inr (.inr rfl)

end Go.Proofs.YtnfjhdedcnbdbaaGreat
