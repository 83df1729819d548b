/-
  FrameBack's walk.
-/
import Derived.Test.YtiaopgphjailiaaBkR
import Derived.Test.YtiaopgphjailiaaBkM
namespace Go.Proofs.Ytiaopgphjailiaa
open Go Go.RowKit Go.Shelf
set_option linter.unusedVariables false
set_option linter.unusedSimpArgs false
attribute [local go_sem] Oper.semAt_some

theorem Sl.takeM {w : World} {ad : Option Addr} {len K : Nat} {l : List Int} (h : Sl w ad len l) (hk : K ≤ len) : Sl w ad K (l.take K) := by
  by_cases hp : 0 < len
  · obtain ⟨b, off, rfl, _⟩ := h.at hp
    exact h.cutT hk
  · obtain rfl : K = 0 := by omega
    exact Sl.nil _ _

set_option maxRecDepth 100000 in
set_option maxHeartbeats 4000000 in
theorem back_any (ak : Option Addr) (nk ck : Nat) (K : List Int) (al : Option Addr) (nl cl : Nat) (A : Nat → Option Addr) (NN CC : Nat → Nat) (LI : Nat → List Int) (aj : Option Addr) (nj cj : Nat) (J : List Int) (w : World)
    (hsk : Sl w ak nk K) (hsl : LL w al nl A NN CC LI) (hsj : Sl w aj nj J) (hnoj : aj = none → nj = 0 ∧ cj = 0) (hcj : nj ≤ cj) (hnk : nk ≤ 9223372036854775807) (hnl : nl ≤ 9223372036854775807) (hnj : nj ≤ 140737488351232) :
    Calls Try.prog 6 #[.slice ak nk ck, .slice al nl cl, .slice aj nj cj] w fun e w' => e = .returned (.bool true) ∧ Below w.heap.size w w' := by
  obtain ⟨i0, hi, hz0, hz1, hz2⟩ := info_parts info5
  have HSK := hidden hsk
  have HSL := hidden hsl
  have HSJ := hidden hsj
  have HNOJ := hidden hnoj
  clear hsk hsl hsj hnoj
  refine (callsIn_wide (n := 3)).1 (callsIn_of_wp_marks Try.func6 rfl trivial (wpIn_wide.2 ?_) rfl)
  simp only [Try.ntmps6, List.size_toArray, List.length_cons, List.length_nil, Nat.reduceAdd, Nat.reduceSub, Array.replicate_succ, Array.replicate_zero, List.push_toArray, List.append_toArray, List.nil_append, List.cons_append]
  go_wp2_with fail
  obtain ⟨w1, hw1, hk1, hl1, hb1, hz1'⟩ := two_new w 22 46 [.slice ak nk ck] [.slice al nl cl]
  have hw1' : (w.alloc (.cells #[.slice ak nk ck] 22)).alloc (.cells #[.slice al nl cl] 46) = w1 := hw1
  obtain ⟨S, hS⟩ : ∃ S, w.heap.size = S := ⟨_, rfl⟩
  rw [hw1', hS]
  rw [hS] at hk1 hl1 hz1'
  have HSZ := hidden hS
  have hb2 := (Below.refl w1.heap.size w1).alloc (Nat.le_refl _) (.cells #[.bool false] 4)
  have HK2 := hidden (hk1.later hb2)
  have HL2 := hidden (hl1.later hb2)
  have HR2 : Hid (Blk (w1.alloc (.cells #[.bool false] 4)) (S + 2) 4 [.bool false]) := by
    show Blk _ _ _ _
    rw [← hz1']
    exact Blk.new w1 4 [.bool false]
  have HB2 := hidden (hb1.trans (hb2.mono hb1.size))
  clear hw1 hw1' hk1 hl1 hb1 hS hz1' hb2
  obtain ⟨L1, hL1⟩ : ∃ L1, S + 1 = L1 := ⟨_, rfl⟩
  obtain ⟨R1, hR1⟩ : ∃ R1, L1 + 1 = R1 := ⟨_, rfl⟩
  have e2 : S + 2 = R1 := by omega
  rw [hL1, hR1]
  rw [hL1] at HL2
  rw [e2] at HR2
  have HLR : Hid (S + 1 = L1 ∧ L1 + 1 = R1) := ⟨hL1, hR1⟩
  clear hL1 hR1 e2
  generalize w1.alloc (.cells #[.bool false] 4) = w2 at *
  refine (shown_any w2).mono ?_
  rintro e w3 ⟨rfl, hb3⟩
  have HK3 := hidden (HK2.out.later hb3)
  have HL3 := hidden (HL2.out.later hb3)
  have HR3 := hidden (HR2.out.later hb3)
  have HB3 := hidden (HB2.out.trans (hb3.mono HB2.out.size))
  clear hb3 HK2 HL2 HR2 HB2
  by_cases hbig : (nj : Int) > 1073741824
  · have cR := HR3.out.cell 0
    have fR := HR3.out.frozen 0
    simp only [List.getElem?_cons_zero] at cR
    go_wp2_with fail
    have hb4 := HB3.out.trans ((Chg.set ⟨R1, 0, none⟩ (.bool true) w3).below HB3.out.size (fun g hg => by dsimp only at hg; have := HLR.out; have := HSZ.out; omega))
    exact ⟨.bool true, res_cell rfl _ _ R1 true rfl ((HR3.out.set 0 (.bool true)).cell 0), rfl, hb4⟩
  have hnj2 : nj ≤ 1073741824 := by omega
  have hbn := (Below.refl w3.heap.size w3).alloc (Nat.le_refl _) (.cells #[.int .i64 0] 3)
  have hC : BkC w S L1 R1 w3.heap.size (.slice ak nk ck) (.slice al nl cl) 0 (w3.alloc (.cells #[.int .i64 0] 3)) := by
    have := HK3.out.lt
    have := HR3.out.lt
    have := HLR.out
    exact ⟨HK3.out.later hbn, HL3.out.later hbn, HR3.out.later hbn, Blk.new w3 3 [.int .i64 0], HB3.out.trans (hbn.mono HB3.out.size), by have := HSZ.out; omega⟩
  obtain ⟨Bn, hBn⟩ : ∃ Bn, w3.heap.size = Bn := ⟨_, rfl⟩
  rw [hBn] at hC
  have HC := hidden hC
  clear hC hbn
  go_wp2_with fail
  generalize hw4 : w3.alloc (.cells #[.int .i64 0] 3) = w4 at *
  clear hw4 hBn HK3 HL3 HR3 HB3
  obtain ⟨m, hm⟩ : ∃ m, m = min (min nl nk) 30 := ⟨_, rfl⟩
  have HM := hidden hm
  have hm30 : m ≤ 30 := by omega
  clear hm
  go_loopw [8, 10] (fun bv iv wr => ∃ (i : Nat) (ab : Option Addr) (nb cb : Nat), i ≤ m ∧ iv = .int .i64 (i : Int) ∧ bv = .slice ab nb cb ∧ nb = fsz (fsN K NN LI i) ∧ wr.ownsRow 0 5 1 (.slice ab nb cb) nb (cells8 (catF (fsN K NN LI i))) ∧ Byte (catF (fsN K NN LI i)) ∧ BkC w S L1 R1 Bn (.slice ak nk ck) (.slice al nl cl) i wr) (fun _ iv _ => m - (intOf iv).toNat)
  case atStart => exact ⟨0, none, 0, 0, Nat.zero_le _, rfl, rfl, rfl, World.ownsRow_nil _ _ _ _, fun z hz => absurd hz (by simp [fsN, catF]), HC.out⟩
  case round =>
    obtain ⟨i, ab, nb, cb, him, rfl, rfl, hnb, hrow, hby, hC⟩ := hrel
    have HBY := hidden hby
    have HNB := hidden hnb
    have HROW := hidden hrow
    have HC2 := hidden hC
    have cK : wr.cell? ⟨S, 0, none⟩ = some (.slice ak nk ck) := hC.k.cell 0
    have cL : wr.cell? ⟨L1, 0, none⟩ = some (.slice al nl cl) := hC.l.cell 0
    clear hnb hrow hC hby
    go_upto_region 7 with fail
    go_cut [44] from 31 to 83 (fun s44 wx => s44 = .bool (decide (i < m)) ∧ wx = wr)
    case first =>
      have hmm := HM.out
      by_cases h1 : i < nl
      · by_cases h2 : i < nk
        · by_cases h3 : (i : Int) < 30
          · have hd : decide (i < m) = true := decide_eq_true (by omega)
            go_wp2_with fail
            go_meet
            case rel => exact ⟨by rw [hd], rfl⟩
          · have hd : decide (i < m) = false := decide_eq_false (by omega)
            go_wp2_with fail
            go_meet
            case rel => exact ⟨by rw [hd], rfl⟩
        · have hd : decide (i < m) = false := decide_eq_false (by omega)
          go_wp2_with fail
          go_meet
          case rel => exact ⟨by rw [hd], rfl⟩
      · have hd : decide (i < m) = false := decide_eq_false (by omega)
        go_wp2_with fail
        go_meet
        case rel => exact ⟨by rw [hd], rfl⟩
    case rest =>
      obtain ⟨rfl, hwc⟩ := hcut
      obtain rfl := hwc.symm
      clear hwc
      by_cases hlt : i < m
      · have hil : i < nl := by have := HM.out; omega
        have hik : i < nk := by have := HM.out; omega
        obtain ⟨bl, ol, hal, hLi⟩ := (HSL.out.below (B := 0) HC2.out.bel) (by omega)
        obtain ⟨hcd, hsd, hnc, hna⟩ := hLi i hil
        subst hal
        obtain ⟨bk, ok, hak, _, hKc⟩ := (HSK.out.later HC2.out.bel).at (by omega)
        subst hak
        have hck := hKc i hik
        have hkb := HSK.out.byte.at i
        obtain ⟨mn, hmn⟩ : ∃ mn, min (NN i) 100000 = mn := ⟨_, rfl⟩
        have hmin : (if 100000 < (NN i : Int) then (100000 : Int) else (NN i : Int)) = (mn : Int) := by split <;> omega
        have HSD : Hid (Sl wr (A i) mn (cut5 NN LI i)) := by
          show Sl _ _ _ _
          unfold cut5
          rw [hmn]
          exact hsd.takeM (by omega)
        have hmn1 : mn ≤ 100000 := by omega
        have hmn2 : mn ≤ CC i := by omega
        obtain ⟨k, hkk⟩ : ∃ k, K.getD i 0 = k := ⟨_, rfl⟩
        rw [hkk] at hck hkb
        have HKK := hidden hkk
        clear hkk
        have HNA : Hid (A i = none → mn = 0 ∧ CC i = 0) := fun h => by have := hna h; omega
        have HCD := hidden hcd
        have HCK := hidden hck
        have HKB := hidden hkb
        have HMIN := hidden hmin
        have HMN := hidden hmn
        clear hLi hsd hnc hna hKc hcd hck hkb hmin hmn
        generalize CC i = ci at *
        generalize A i = ai at *
        have hnbl : nb ≤ 3000270 := by
          have := fsN_sz K NN LI i
          have := HNB.out
          omega
        have cg : ∀ {w1 : World}, Lat wr w1 → Chg (fun _ => False) wr w1 := fun h => Chg.of_below h
        go_wp2_with fail
        refine back_r9 L1 bl ol nl cl i (NN i) ci mn ai wr _ _ (by rfl) (by rfl) (by rfl) (fun w1 hL => (HC2.out.lat hL).l.cell 0) (by omega) hil (fun w1 hL => (cg hL).cellS HCD.out (fun h => h)) HMIN.out (by omega) (by omega) ?_
        clear cg
        intro v47 v48 v49 v50 v51 v52 v53 v54 v55 v56 v57 w1 hL
        have HSD1 := hidden (HSD.out.later hL)
        have HROW1 := hidden ((Chg.of_below (F := fun _ => False) hL).owns HROW.out (fun _ _ h => h))
        have HC1 := hidden (HC2.out.lat hL)
        have cK1 : w1.cell? ⟨S, 0, none⟩ = some (.slice (some ⟨bk, ok, none⟩) nk ck) := HC1.out.k.cell 0
        have cKi : w1.cell? ⟨bk, ok + i, none⟩ = some (.int .u8 k) := (Chg.of_below (F := fun _ => False) hL).cellS HCK.out (fun h => h)
        clear hL cK cL
        simp only [Act.put, List.setIfInBounds_toArray, List.set_cons_succ, List.set_cons_zero]
        go_wp2_with fail
        refine (put_any ab nb cb (catF (fsN K NN LI i)) k ai mn ci (cut5 NN LI i) w1 (sl_of_owns HROW1.out HBY.out) HKB.out HSD1.out HNA.out (by omega) (by omega)).mono ?_
        rintro e w2 ⟨ag, cg, rfl, hbd⟩
        obtain ⟨nb2, hnb2⟩ : ∃ nb2, nb + (mn + 9) = nb2 := ⟨_, rfl⟩
        rw [hnb2] at hbd ⊢
        have H2 := hidden hbd
        have HC3 := hidden (HC1.out.lat hbd.bel)
        have hsz := sizeN_ok mn (by omega)
        have hsum : (nb : Int) + ((mn : Int) + 9) = (nb2 : Int) := by omega
        have HNB2 := hidden hnb2
        have cN : w2.cell? ⟨Bn, 0, none⟩ = some (.int .i64 (i : Int)) := HC3.out.n.cell 0
        have fN := HC3.out.n.frozen 0
        have HSZN := hidden hsz
        clear hbd hnb2 hsz cK1 cKi
        go_wp2_with fail
        refine (size_any mn w2 (by omega)).mono ?_
        rintro e w3 ⟨rfl, rfl⟩
        rw [HSZN.out]
        go_wp2_with fail
        have hcl : (cut5 NN LI i).length = mn := HSD.out.len
        have hset := HC3.out.set (i + 1) (.int .i64 ((i : Int) + 1)) (by simp)
        have hrow2 := (Chg.set ⟨Bn, 0, none⟩ (.int .i64 ((i : Int) + 1)) w3).owns H2.out.row (fun g hg e => by
          have t1 := owns_tg H2.out.row g hg
          have t2 := HC3.out.n.tg
          dsimp only at e
          rw [e] at t1
          cases t1.one t2)
        have hcat : catF (fsN K NN LI (i + 1)) = catF (fsN K NN LI i) ++ made k (cut5 NN LI i) := by
          rw [fsN, catF_append, HKK.out]
          simp [catF]
        refine ⟨⟨i + 1, ag, nb2, cg, by omega, by go_num, rfl, ?_, ?_, ?_, hset⟩, ?_⟩
        · rw [fsN, fsz_append, ← HNB.out]
          simp only [fsz, hcl]
          have := HNB2.out
          omega
        · rw [hcat]
          exact hrow2
        · rw [hcat]
          exact HBY.out.append (made_byte HKB.out HSD.out.byte)
        · simp [intOf]
          omega
      · obtain rfl : i = m := by omega
        have hnbl : nb ≤ 3000270 := by
          have := fsN_sz K NN LI i
          have := HNB.out
          omega
        have HNO := hidden (owns_cap HROW.out).2.2.2
        have HE := hidden ((Below.refl wr.heap.size wr).alloc (Nat.le_refl _) (.cells #[] 5))
        obtain ⟨CT, hCT⟩ : ∃ CT, catF (fsN K NN LI i) = CT := ⟨_, rfl⟩
        rw [hCT] at HROW HBY
        have HCT := hidden hCT
        have HSB := hidden (sl_of_owns HROW.out HBY.out)
        clear hCT
        go_wp2_with (first
          | (at_builtin; refine wpList_appends _ rfl (.tmp 86) (.tmp 87) 22 rfl 5 i0 (.int .u8 0) Try.underlying22 hi hz0 hz1 hz2 rfl (.slice (some ⟨wr.heap.size, 0, none⟩) 0 0) 0 [] rfl (owns_empty wr 0 (Nat.zero_le _) _ rfl) ab nb cb CT rfl (HSB.out.later HE.out) HNO.out (by omega) ?_; intro v5 w5 ho5 hc5 hm5; rw [Nat.zero_add, List.nil_append] at ho5; have H5 : Hid (Bld wr w5 v5 nb CT) := (Bld.alloc_new wr).step ho5 hc5 hm5; obtain ⟨a5, c5, rfl⟩ := owns_form ho5; clear ho5 hc5 hm5)
          | (at_builtin; refine wpList_appends _ rfl (.tmp 88) (.tmp 89) 22 rfl 5 i0 (.int .u8 0) Try.underlying22 hi hz0 hz1 hz2 rfl (.slice a5 nb c5) nb CT rfl H5.out.row aj nj cj J rfl (HSJ.out.later (HC2.out.bel.trans (H5.out.bel.mono HC2.out.bel.size))) HNOJ.out (by omega) ?_; intro v6 w6 ho6 hc6 hm6; have H6 := hidden (H5.out.step ho6 hc6 hm6); obtain ⟨a6, c6, rfl⟩ := owns_form ho6; clear ho6 hc6 hm6))
        obtain ⟨nt, hnt⟩ : ∃ nt, nb + nj = nt := ⟨_, rfl⟩
        rw [hnt] at H6 ⊢
        have HNT := hidden hnt
        have hntb : nt ≤ 4294967296 := by omega
        obtain ⟨TOT, hTOT⟩ : ∃ TOT, CT ++ J = TOT := ⟨_, rfl⟩
        rw [hTOT] at H6
        have HBT : Hid (Byte TOT) := by
          show Byte _
          rw [← hTOT]
          exact HBY.out.append HSJ.out.byte
        have HFR : Hid (frames TOT = fsN K NN LI i ++ frames J) := by
          show _ = _
          rw [← hTOT, ← HCT.out]
          exact frames_cat _ _ (fun x hx => by have := fsN_short K NN LI i x hx; omega)
        have hlt : Bn < w6.heap.size := by have := HC2.out.n.lt; have := H6.out.bel.size; omega
        obtain ⟨Bi, hBi⟩ : ∃ Bi, w6.heap.size = Bi := ⟨_, rfl⟩
        rw [hBi] at hlt ⊢
        have hal := (Below.refl w6.heap.size w6).alloc (Nat.le_refl _) (.cells #[.int .i64 0] 3)
        have HC7 := hidden ((HC2.out.lat H6.out.bel).lat hal)
        have HI7 : Hid (Blk (w6.alloc (.cells #[.int .i64 0] 3)) Bi 3 [.int .i64 0]) := by
          show Blk _ _ _ _
          rw [← hBi]
          exact Blk.new w6 3 [.int .i64 0]
        have HR7 := hidden (H6.out.row.alloc (.cells #[.int .i64 0] 3))
        have HN6 := hidden (owns_cap H6.out.row)
        have HTOT := hidden hTOT
        clear hal hBi hTOT hnt
        generalize w6.alloc (.cells #[.int .i64 0] 3) = w7 at *
        refine (scan_any a6 nt c6 TOT w7 (sl_of_owns HR7.out HBT.out) HN6.out.2.2.2 (by omega)).mono ?_
        rintro e w8 ⟨bx, ag, c8, rfl, hbx, hbs, ho, hbel⟩
        have HC8 := hidden (HC7.out.lat hbel)
        have HI8 := hidden (HI7.out.later hbel)
        have HR8 := hidden ((Chg.of_below (F := fun _ => False) hbel).owns HR7.out (fun _ _ h => h))
        have HBX := hidden hbx
        have HO := hidden (owns_zero ho)
        have HCC : Hid (nt ≤ c8 ∧ (ag = none → c8 = 0)) := ⟨(owns_cap ho).2.1, fun h => ((owns_cap ho).2.2.2 h).2⟩
        have HZ8 : Hid (Bi < w8.heap.size) := HI8.out.lt
        clear hbx hbs ho hbel
        go_wp2_with fail
        refine wp_range2 (a := { tmps := _, defers := [] }) (gf := 29) (lb := #[.pointer (some ⟨bx, 0, none⟩)]) 2 rfl (enters_of Try.func29 (by kernel_rfl) rfl) (scan1_seqs bx ag nt c8 TOT w8 HCC.out.1 (by omega) HCC.out.2) (Below.refl _ _) (fun _ => rfl)
          (fun pre A => Blk A Bi 3 [.int .i64 (pre.length : Nat)] ∧ w8.heap.size ≤ A.heap.size ∧ BkC w S L1 R1 Bn (.slice ak nk ck) (.slice al nl cl) i A ∧ Blk A bx 22 [.slice ag nt c8] ∧ A.ownsRow 0 5 1 (.slice ag nt c8) nt (cells8 TOT) ∧ A.ownsRow 0 5 1 (.slice a6 nt c6) nt (cells8 TOT))
          (fun pre A => False)
          ?hI (fun _ _ _ h _ => h) (fun pre x A B h hk => h.bk hk) ?hT ?h0 ?a1 ?hexit
          (fun A => Blk A Bi 3 [.int .i64 ((i + (frames J).length : Nat) : Int)] ∧ w8.heap.size ≤ A.heap.size ∧ BkC w S L1 R1 Bn (.slice ak nk ck) (.slice al nl cl) i A ∧ A.ownsRow 0 5 1 (.slice a6 nt c6) nt (cells8 TOT)) ?hp1 (fun _ _ _ h => h.elim) ?assign ?body ?hend
        case assign =>
          intro n lp x A K hK
          simp only [encE]
          gi_wp2
          exact hK
        case hexit =>
          intro a A h
          simpa [Exit.inBlock] using h
        case hI =>
          rintro pre A B ⟨h1, h2, h3, h4, h5, h6⟩ hk
          exact ⟨hk.blk h1, Nat.le_trans h2 hk.size, h3.bk hk HC8.out.bel.size, hk.blk h4, hk.owns h5, hk.owns h6⟩
        case hT => exact fun pre A h => ⟨h.2.2.2.1.cell 0, sl_of_owns h.2.2.2.2.1 HBT.out, h.2.1⟩
        case h0 => exact ⟨HI8.out, Nat.le_refl _, HC8.out, HBX.out, HO.out, HR8.out⟩
        case hp1 =>
          rintro xs A hS ⟨h1, h2, h3, h4, h5, h6⟩
          have e : xs.length = i + (frames J).length := by
            have := congrArg List.length (hS.trans HFR.out)
            simpa [fsN_len] using this
          rw [e] at h1
          exact ⟨h1, h2, h3, h6⟩
        case body =>
          rintro n lp pre ⟨k, v, d⟩ A' ⟨h1, h2, h3, h4, h5, h6⟩ ⟨⟨rest, hrest⟩, ⟨ax, cx, hv⟩, hrow⟩
          dsimp only at hv hrow
          subst hv
          obtain ⟨j, hj⟩ : ∃ j, pre.length = j := ⟨_, rfl⟩
          rw [hj] at h1
          have HFIN : Hid (∀ w1, Lat A' w1 → ∀ a, ownPostG w8.heap.size (fun _ _ => True)
              (fun pre A => Blk A Bi 3 [.int .i64 (pre.length : Nat)] ∧ w8.heap.size ≤ A.heap.size ∧ BkC w S L1 R1 Bn (.slice ak nk ck) (.slice al nl cl) i A ∧ Blk A bx 22 [.slice ag nt c8] ∧ A.ownsRow 0 5 1 (.slice ag nt c8) nt (cells8 TOT) ∧ A.ownsRow 0 5 1 (.slice a6 nt c6) nt (cells8 TOT))
              (fun c p A => c = .exit 2 ∧ False) (pre ++ [(k, .slice ax d.length cx, d)]) A' .normal a (w1.setCell ⟨Bi, 0, none⟩ (.int .i64 ((j : Int) + 1)))) := fun w1 hL a => by
            have hch := Chg.of_below (F := fun _ => False) hL
            have h1' := h1.later hL
            have hcs := Chg.set ⟨Bi, 0, none⟩ (.int .i64 ((j : Int) + 1)) w1
            have ntag : ∀ {t : TypeId}, t ≠ 3 → ∀ g, Tg w1 g t → ¬ g = Bi := fun ht g hg e => by
              subst e
              exact ht (hg.one h1'.tg)
            have h4' := h4.later hL
            have h5' := hch.owns h5 (fun _ _ h => h)
            have h6' := hch.owns h6 (fun _ _ h => h)
            refine ⟨(keeps_chg (B := w8.heap.size) hch (fun _ _ _ h _ => h.elim)).trans (keeps_chg hcs (fun g o q1 q2 _ => by dsimp only at q2; have := HZ8.out; omega)), trivial, ?_, Nat.le_trans h2 (Nat.le_trans hL.size hcs.size), (h3.lat hL).chg hcs (fun g hg => by dsimp only at hg; omega), hcs.blk h4' (ntag (by decide) _ h4'.tg), hcs.owns h5' (fun g hg => ntag (by decide) g (owns_tg h5' g hg)), hcs.owns h6' (fun g hg => ntag (by decide) g (owns_tg h6' g hg))⟩
            have := h1'.set 0 (.int .i64 ((j : Int) + 1))
            rw [List.length_append, List.length_singleton, hj]
            exact this
          have HDB := hidden (frames_byte HBT.out (k, d) (by rw [hrest]; simp [fr]))
          have H1 := hidden h1
          have H3 := hidden h3
          have HROW := hidden hrow
          have hjb : j ≤ 1099511627776 := by
            have q1 := fsz_len (frames TOT)
            have q2 := fsz_le TOT
            have q3 := (sl_of_owns h6 HBT.out).len
            rw [hrest] at q1
            simp only [List.length_append, List.length_map, List.length_cons, hj] at q1
            rw [hrest] at q2
            omega
          by_cases hin : j < i
          · have hkd : (k, d) = (K.getD j 0, cut5 NN LI j) := by
              have e : (frames TOT)[j]? = some (k, d) := by
                rw [hrest, List.getElem?_append_right (by rw [List.length_map, hj]; exact Nat.le_refl _), List.length_map, hj, Nat.sub_self]
                rfl
              rw [HFR.out, List.getElem?_append_left (by rw [fsN_len]; exact hin), fsN_at K NN LI i j hin] at e
              exact (Option.some.inj e).symm
            have hjl : j < nl := by have := HM.out; omega
            have hjk : j < nk := by have := HM.out; omega
            obtain ⟨bl, ol, hal, hLi⟩ := (HSL.out.below (B := 0) h3.bel) (by omega)
            obtain ⟨hcd, hsd, hnc, hna⟩ := hLi j hjl
            subst hal
            obtain ⟨bk, ok, hak, _, hKc⟩ := (HSK.out.later h3.bel).at (by omega)
            subst hak
            have hck := hKc j hjk
            obtain ⟨mn, hmn⟩ : ∃ mn, min (NN j) 100000 = mn := ⟨_, rfl⟩
            have hmin : (if 100000 < (NN j : Int) then (100000 : Int) else (NN j : Int)) = (mn : Int) := by split <;> omega
            simp only [Prod.mk.injEq] at hkd
            obtain ⟨hk1, hd1⟩ := hkd
            rw [← hk1] at hck
            have hsd2 : Sl A' (A j) mn d := by
              rw [hd1, cut5, hmn]
              exact hsd.takeM (by omega)
            have cg : ∀ {w1 : World}, Lat A' w1 → Chg (fun _ => False) A' w1 := fun h => Chg.of_below h
            have hmc : mn ≤ CC j := by omega
            clear hLi hsd hnc hna hKc h1 h2 h3 h4 h5 h6 hrow hd1 hk1
            dsimp only
            gi_wp2
            refine back_r21in Bi Bn S L1 j i bk ok nk ck bl ol nl cl (NN j) (CC j) mn d.length cx k (strOfNums d) (A j) ax A' _ _ lp n (fun h => by obtain ⟨_, _, h⟩ := h; exact h) (by rfl) (by rfl) (by rfl) (by rfl) (by rfl) (by rfl) (by rfl) (fun w1 hL => (H1.out.later hL).cell 0) (fun w1 hL => (H3.out.lat hL).n.cell 0) hin
              (fun w1 hL => (H3.out.lat hL).k.cell 0) (by omega) hjk (fun w1 hL => (cg hL).cellS hck (fun h => h)) (fun w1 hL => (H3.out.lat hL).l.cell 0) (by omega) hjl (fun w1 hL => (cg hL).cellS hcd (fun h => h)) hmin (by omega) (by omega)
              (fun w1 hL => convS (sl_of_owns ((cg hL).owns HROW.out (fun _ _ h => h)) HDB.out.1)) (fun w1 hL => convS (hsd2.later hL)) ?_
            clear cg
            intro v95 v96 v97 v98 v99 v100 v101 v102 v103 v104 v105 v106 v107 v108 v109 v110 v111 v112 v113 v114 v115 v116 v117 v118 v119 v120 v121 w1 hL
            have cI : w1.cell? ⟨Bi, 0, none⟩ = some (.int .i64 (j : Int)) := (H1.out.later hL).cell 0
            have fI := (H1.out.later hL).frozen 0
            have HLL := hidden hL
            clear hL hcd hck hmin hsd2
            simp only [Act.put, List.setIfInBounds_toArray, List.set_cons_succ, List.set_cons_zero]
            gi_wp2
            exact HFIN.out w1 HLL.out _
          · clear h1 h2 h3 h4 h5 h6 hrow
            dsimp only
            gi_wp2
            refine back_r21out Bi Bn S L1 j i d.length cx k ax A' _ _ lp n (fun h => by obtain ⟨_, _, h⟩ := h; exact h) (by rfl) (by rfl) (by rfl) (by rfl) (by rfl) (by rfl) (by rfl) (fun w1 hL => (H1.out.later hL).cell 0) (fun w1 hL => (H3.out.lat hL).n.cell 0) hin ?_
            intro v95 v96 v97 v98 v99 v100 v101 v102 v103 v104 v105 v106 v107 v108 v109 v110 v111 v112 v113 v114 v115 v116 v117 v118 v119 v120 v121 w1 hL
            have cI : w1.cell? ⟨Bi, 0, none⟩ = some (.int .i64 (j : Int)) := (H1.out.later hL).cell 0
            have fI := (H1.out.later hL).frozen 0
            have HLL := hidden hL
            clear hL
            simp only [Act.put, List.setIfInBounds_toArray, List.set_cons_succ, List.set_cons_zero]
            gi_wp2
            exact HFIN.out w1 HLL.out _
        case hend =>
          rintro D A2 hD ⟨h1, h2, h3, h6⟩ hK
          have H1 := hidden h1
          have H2 := hidden h2
          have H3 := hidden h3
          have H6' := hidden h6
          have HK := hidden hK
          have HD := hidden hD
          clear h1 h2 h3 h6 hK hD
          go_wp2_with fail
          refine (get_any aj nj cj J A2 (HSJ.out.later H3.out.bel) hcj (by omega)).mono ?_
          intro e w9 g9
          obtain ⟨k9, d9, m9, hG⟩ : ∃ k9 d9 m9, gett J = (k9, d9, m9) := ⟨_, _, _, rfl⟩
          obtain ⟨a9, c9, rfl, h9⟩ := g9.to hG
          have HB9 := hidden h9.bel
          clear g9 h9
          go_wp2_with fail
          refine (whole_any a6 nt c6 TOT w9 (sl_of_owns ((Chg.of_below (F := fun _ => False) HB9.out).owns H6'.out (fun _ _ h => h)) HBT.out) HN6.out.2.2.2 (by omega)).mono ?_
          rintro e w10 ⟨rfl, hb10⟩
          have hL10 := Lat.trans _ _ _ HB9.out hb10
          have H1w := hidden (H1.out.later hL10)
          have H3w := hidden (H3.out.lat hL10)
          have HKw : Hid (w10.heap[D]? = some (.deferred (some []))) := (hL10.block D (Array.getElem?_eq_some_iff.1 HK.out).1).trans HK.out
          have HS10 : Hid (w8.heap.size ≤ w10.heap.size) := Nat.le_trans H2.out hL10.size
          clear hb10 hL10
          have hmore := frames_more J
          rw [hG] at hmore
          dsimp only at hmore
          have hsz : fsz (frames TOT) = nb + fsz (frames J) := by rw [HFR.out, fsz_append, ← HNB.out]
          rw [hsz]
          have hpb : nb + fsz (frames J) ≤ 4294967296 := by
            have q2 := fsz_le TOT
            have q3 := (sl_of_owns H6'.out HBT.out).len
            omega
          have hqb := fsz_len (frames J)
          obtain ⟨P, hP⟩ : ∃ P, fsz (frames J) = P := ⟨_, rfl⟩
          obtain ⟨q, hq⟩ : ∃ q, (frames J).length = q := ⟨_, rfl⟩
          rw [hP, hq] at hmore
          rw [hP] at hpb ⊢
          rw [hP, hq] at hqb
          rw [hq] at H1w
          obtain ⟨ii, hii⟩ : ∃ ii, i + q = ii := ⟨_, rfl⟩
          obtain ⟨mm, hmm⟩ : ∃ mm, nb + P = mm := ⟨_, rfl⟩
          rw [hii] at H1w
          rw [hmm]
          have cI : w10.cell? ⟨Bi, 0, none⟩ = some (.int .i64 (ii : Int)) := H1w.out.cell 0
          have cN : w10.cell? ⟨Bn, 0, none⟩ = some (.int .i64 (i : Int)) := H3w.out.n.cell 0
          have cR : w10.cell? ⟨R1, 0, none⟩ = some (.bool false) := H3w.out.r.cell 0
          have fR := H3w.out.r.frozen 0
          have q1 : i ≤ ii := by omega
          have q2 : nb ≤ mm := by omega
          have HPOST : Hid (∀ a : Act, a.defers = [{ target := .collected D, args := #[] }] → a.tmps.getD 6 undef = .pointer (some ⟨R1, 0, none⟩) → bodyPostM Fence.wide 3 Try.prog Try.f6 (fun e w' => e = .returned (.bool true) ∧ Below w.heap.size w w') .ret a (w10.setCell ⟨R1, 0, none⟩ (.bool true))) := fun a ha ht => by
            have hcs := Chg.set ⟨R1, 0, none⟩ (.bool true) w10
            have hlo := H3w.out.lo
            have hk : (w10.setCell ⟨R1, 0, none⟩ (.bool true)).heap[D]? = some (.deferred (some [])) := (hcs.block D (Array.getElem?_eq_some_iff.1 HKw.out).1 (fun e => by dsimp only at e; have := HD.out; have := HZ8.out; omega)).trans HKw.out
            show LeavesInM _ _ _ _ _ _ a.defers _ _
            rw [ha]
            refine ⟨by simp, .inl ⟨_, _, rfl, run_takeDeferred hk, ?_⟩⟩
            have qq : Bk w8.heap.size (w10.setCell ⟨R1, 0, none⟩ (.bool true)) ((w10.setCell ⟨R1, 0, none⟩ (.bool true)).putObj D (.deferred none)) := Bk.put _ hk rfl HD.out
            have hrb := qq.blk (H3w.out.r.set 0 (.bool true))
            refine ⟨.bool true, res_cell rfl _ _ R1 true ht (hrb.cell 0), rfl, ?_⟩
            exact Bk.below (H3w.out.bel.trans (hcs.below H3w.out.bel.size (fun g hg => by dsimp only at hg; omega))) qq HC8.out.bel.size (Nat.le_refl _)
          clear hG hsz hP hq hqb
          by_cases h0 : m9 = 0
          · have e1 : mm = nb := by omega
            have e2 : ii = i := by omega
            subst e1 e2 h0
            clear hmore
            go_wp2_with fail
            exact HPOST.out _ rfl rfl
          · have e1 : nb < mm := by omega
            have e2 : i < ii := by omega
            have e3 : 0 < m9 := by omega
            clear hmore
            go_wp2_with fail
            exact HPOST.out _ rfl rfl

end Go.Proofs.Ytiaopgphjailiaa
