/-
  PostWalks' walk.
-/
import Derived.Test.YtjpelnbffodaiaaPwE
import Derived.Test.YtjpelnbffodaiaaPwR
import Derived.Test.YtjpelnbffodaiaaPwG
import Derived.Deep.CutRange
namespace Go.Proofs.Ytjpelnbffodaiaa
open Go Go.RowKit Go.Shelf
set_option linter.unusedVariables false
set_option linter.unusedSimpArgs false
attribute [local go_sem] Oper.semAt_some

/-- The lists that are made of what came in. -/
def css (xs : List Lst) (i : Nat) : List Lst := (xs.take i).map sh
theorem css_next {xs : List Lst} {i : Nat} {x : Lst} (h : xs[i]? = some x) : css xs (i + 1) = css xs i ++ [sh x] := by
  unfold css
  rw [List.take_add_one, h]
  simp
theorem css_len {xs : List Lst} {i : Nat} (h : i ≤ xs.length) : (css xs i).length = i := by
  unfold css
  rw [List.length_map, List.length_take]
  omega
theorem css_bd (xs : List Lst) (i : Nat) : ∀ x ∈ css xs i, x.2.1 ≤ 400 := fun x hx => by
  obtain ⟨y, _, rfl⟩ := List.mem_map.1 hx
  exact Nat.min_le_right _ _
theorem css_ar {w : World} {ad : Option Addr} {xs : List Lst} (h : Lsw w ad xs) (i : Nat) : ∀ x ∈ css xs i, Ar w x.1 x.2.1 x.2.2.1 x.2.2.2 := fun x hx => by
  obtain ⟨y, hy, rfl⟩ := List.mem_map.1 hx
  obtain ⟨k, hk⟩ := List.mem_iff_getElem?.1 (List.mem_of_mem_take hy)
  exact sh_ar (h k y hk).2
theorem func_nil (a : Array Value) (w : World) : (binOp .eql 38 (.func (.func 49) #[] a) .nilFunc).run Try.prog w = .ok (.bool false) w := rfl

set_option maxRecDepth 100000 in
set_option maxHeartbeats 16000000 in
theorem walks_any (ad : Option Addr) (n c : Nat) (xs : List Lst) (stop : Int) (w : World) (h : Lsw w ad xs) (hn : xs.length = n) (hnc : n ≤ c) (hc9 : c ≤ maxLen) :
    Calls Try.prog 4 #[.slice ad n c, .int .i64 stop] w fun e w' => e = .returned (.bool true) ∧ Below w.heap.size w w' := by
  unfold maxLen at hc9
  have HL := hidden h
  have HN := hidden hn
  clear h hn
  refine (callsIn_wide (n := 3)).1 (callsIn_of_wp_marks Try.func4 rfl trivial (wpIn_wide.2 ?_) rfl)
  simp only [Try.ntmps4, List.size_toArray, List.length_cons, List.length_nil, Nat.reduceAdd, Nat.reduceSub, Array.replicate_succ, Array.replicate_zero, List.push_toArray, List.append_toArray, List.nil_append, List.cons_append]
  go_wp2_with fail
  obtain ⟨w1, hw1, hs1, hr1, hb1, hz1⟩ := two_new w 3 4 [.int .i64 stop] [.bool false]
  have hw1' : (w.alloc (.cells #[.int .i64 stop] 3)).alloc (.cells #[.bool false] 4) = w1 := hw1
  obtain ⟨S, hS⟩ : ∃ S, w.heap.size = S := ⟨_, rfl⟩
  rw [hw1', hS]
  rw [hS] at hs1 hr1 hz1
  have HSZ := hidden hS
  have HS1 := hidden hs1
  have HR1 := hidden hr1
  have HB1 := hidden hb1
  have HZ1 := hidden hz1
  clear hw1 hw1' hs1 hr1 hb1 hS hz1
  refine (shownP w1).mono ?_
  rintro e w2 ⟨rfl, hb2⟩
  have HB2 := hidden (HB1.out.trans (hb2.mono HB1.out.size))
  have HS2 := hidden (HS1.out.later hb2)
  have HR2 := hidden (HR1.out.later hb2)
  have HZ2 : Hid (S + 2 ≤ w2.heap.size) := by have q1 := hb2.size; have q2 := HZ1.out; show S + 2 ≤ _; omega
  clear hb2 HS1 HR1 HB1 HZ1
  go_wp2_with fail
  go_loopw [6, 7, 8] (fun s6 s7 s8 wx => ∃ (i c6 c7 : Nat) (a6 a7 : Option Addr) (ls : List Lst), s6 = .slice a6 i c6 ∧ s7 = .slice a7 i c7 ∧ s8 = .int .i64 (i : Int) ∧ i ≤ n ∧ i ≤ 9 ∧
    Hid (wx.ownsRow (S + 2) 22 1 (.slice a6 i c6) i (entv ls)) ∧ Hid (wx.ownsRow (S + 2) 22 1 (.slice a7 i c7) i (entv (css xs i))) ∧ Hid (LA (S + 2) wx (css xs i) ls) ∧
    Hid (∀ g1 g2, Value.ownBlock (.slice a6 i c6) = some g1 → Value.ownBlock (.slice a7 i c7) = some g2 → g1 ≠ g2) ∧ Hid (Below (S + 2) w2 wx)) (fun _ _ s8 _ => 9 - (intOf s8).toNat)
  case atStart => exact ⟨0, 0, 0, none, none, [], rfl, rfl, rfl, by omega, by omega, hidden (World.ownsRow_nil _ _ _ _), hidden (World.ownsRow_nil _ _ _ _), hidden (LA.nil _ _), hidden (fun g1 g2 h => by cases h), hidden (Below.refl _ _)⟩
  case round =>
    rename World => wr
    obtain ⟨i, c6, c7, a6, a7, ls, rfl, rfl, rfl, hin, hi9, hO6, hO7, hLA, hNe, hB⟩ := hrel
    have HLR := hidden (HL.out.below (HB2.out.trans (hB.out.mono (by have := HSZ.out; omega))))
    by_cases hlt : i < n ∧ i < 9
    · have hltz : (i : Int) < (n : Int) := by omega
      have hltz9 : (i : Int) < 9 := by omega
      obtain ⟨x, hx⟩ : ∃ x, xs[i]? = some x := ⟨xs[i]'(by rw [HN.out]; exact hlt.1), by simp⟩
      obtain ⟨⟨b, off, rfl, hbl, hc⟩, hA⟩ := HLR.out i x hx
      have HX := hidden hx
      have HA := hidden hA
      have hcap := hA.le
      have hcm := hA.cm
      clear hx hA
      go_wp2_with fail
      refine (shortP wr x.1 x.2.1 x.2.2.1 hcap hcm).mono ?_
      rintro e w3 ⟨rfl, hw3⟩
      obtain rfl := hw3.symm
      clear hw3
      obtain ⟨ys, hys⟩ : ∃ ys, x.2.2.2.take (min x.2.1 400) = ys := ⟨_, rfl⟩
      have hsh : sh x = (x.1, min x.2.1 400, x.2.2.1, ys) := by rw [← hys]; rfl
      have HAs := hidden (sh_ar HA.out)
      rw [hsh] at HAs
      have HSH := hidden hsh
      obtain ⟨m, hm⟩ : ∃ m, min x.2.1 400 = m := ⟨_, rfl⟩
      have hm4 : m ≤ 400 := by omega
      rw [hm] at HAs HSH ⊢
      clear hys hsh hm
      go_wp2_with fail
      refine (lentO wr x.1 m x.2.2.1 ys HAs.out (by omega)).mono ?_
      rintro e w4 ⟨g, cg, rfl, hlo, hb4⟩
      have HLO := hidden hlo
      have HB4 := hidden hb4
      clear hlo hb4
      have HS3 : Hid (S + 2 ≤ wr.heap.size) := by have q2 := hB.out.size; have q3 := HZ2.out; show S + 2 ≤ _; omega
      have H6 := hidden (owns_later hO6.out HB4.out)
      have H7 := hidden (owns_later hO7.out HB4.out)
      have HA4 := hidden (hLA.out.snoc HB4.out HS3.out (a0 := x.1) (c0 := x.2.2.1) HLO.out)
      rw [← HSH.out, ← css_next HX.out] at HA4
      have HB5 := hidden (hB.out.trans (HB4.out.mono HS3.out))
      have HS4 : Hid (S + 2 ≤ w4.heap.size) := Nat.le_trans HS3.out HB4.out.size
      clear hO6 hO7 hLA hB
      go_wp2_with (first
        | (refine wpList_pushL _ rfl (.tmp 35) (.tmp 38) rfl (S + 2) _ i ls rfl w4 H6.out (some ⟨g, 0, none⟩, m, cg, ys) rfl rfl (by omega) HS4.out ?_; intro g5 c5 w5 o5 m5 ch5; have O5 := hidden o5; have M5 := hidden m5; have CH5 := hidden ch5; clear o5 m5 ch5)
        | (refine wpList_pushL _ rfl (.tmp 40) (.tmp 42) rfl (S + 2) _ i (css xs i) rfl w5 (CH5.out.owns H7.out (fun g hg hf => hNe.out g g hf hg rfl)) (x.1, m, x.2.2.1, ys) rfl rfl (by omega) (Nat.le_trans HS4.out CH5.out.size) ?_; intro g6 c6' w6 o6 m6 ch6; have O6 := hidden o6; have M6 := hidden m6; have CH6 := hidden ch6; clear o6 m6 ch6))
      have H75 := hidden (CH5.out.owns H7.out (fun g hg hf => hNe.out g g hf hg rfl))
      have HA5 := hidden (HA4.out.chg CH5.out (fun g' ht hf => absurd ((owns_tg H6.out g' hf).one ht) (by decide)))
      have HA6 := hidden (HA5.out.chg CH6.out (fun g' ht hf => absurd ((owns_tg H75.out g' hf).one ht) (by decide)))
      have hne5 : ∀ q, Value.ownBlock (.slice a7 i c7) = some q → g5 ≠ q := fun q hq => by
        rcases M5.out with h1 | h1
        · have := owns_lt H7.out q hq
          omega
        · exact hNe.out g5 q h1 hq
      refine ⟨⟨i + 1, c5, c6', _, _, ls ++ [(some ⟨g, 0, none⟩, m, cg, ys)], rfl, rfl, by first | rfl | simp, by omega, by omega, hidden (CH6.out.owns O5.out (fun q hq hf => hne5 q hf (by injection hq))), ?_, HA6, hidden (fun q1 q2 h1 h2 => ?_), hidden ((HB5.out.trans (own_chg_below H6.out HS4.out CH5.out)).trans (own_chg_below H75.out (Nat.le_trans HS4.out CH5.out.size) CH6.out))⟩, ?_⟩
      · rw [css_next HX.out, HSH.out]
        exact O6
      · injection h1 with h1
        injection h2 with h2
        subst h1 h2
        rcases M6.out with hm | hm
        · intro e
          have e2 : g5 = g6 := e
          have := owns_lt O5.out g5 rfl
          omega
        · exact hne5 g6 hm
      · simp [intOf]
        omega
    · go_upto_region 5 with fail
      go_cut [27] from 20 to 27 (fun s27 wx => s27 = .bool false ∧ wx = wr)
      case first =>
        by_cases hl1 : i < n
        · have hltz : (i : Int) < (n : Int) := by omega
          have hl9 : ¬ (i : Int) < 9 := by omega
          go_wp2_with fail
          go_meet
          case rel => exact ⟨rfl, rfl⟩
        · have hltz : ¬ (i : Int) < (n : Int) := by omega
          go_wp2_with fail
          go_meet
          case rel => exact ⟨rfl, rfl⟩
      case rest =>
        obtain ⟨rfl, hwc⟩ := hcut
        obtain rfl := hwc.symm
        clear hwc
        have HCS := hidden (css_len (xs := xs) (i := i) (by rw [HN.out]; exact hin))
        obtain ⟨cs, hcs⟩ : ∃ cs, css xs i = cs := ⟨_, rfl⟩
        have HCB := hidden (css_bd xs i)
        have HCA := hidden (css_ar HLR.out i)
        have HCW := hidden (css_ar HL.out i)
        rw [hcs] at HCS HCB HCA HCW hO7 hLA
        have HCL : Hid (Lsw wr a7 cs) := lsw_of hO7.out HCA.out
        have HSM := hidden (lensum_bd cs HCB.out)
        rw [HCS.out] at HSM
        have hcap7 := (owns_cap hO7.out).2.1
        have hcm7 := (owns_cap hO7.out).2.2.1
        unfold maxLen at hcm7
        clear hcs
        go_wp2_with fail
        refine (walkR wr a7 i c7 cs HCL.out HCS.out (by omega) (by have := HSM.out; omega) hcap7 (by omega)).mono ?_
        rintro e w3 ⟨v1, v2, rfl, ⟨ao, co, am2, cm2, rfl, rfl, hq1, hq2, hq3⟩, hw9, hb3⟩
        obtain ⟨W, hW⟩ : ∃ W, wantF (lss cs) = W := ⟨_, rfl⟩
        rw [hW] at hq1 hq2 hq3 hw9 ⊢
        obtain ⟨M, hM⟩ : ∃ M, W.length = M := ⟨_, rfl⟩
        rw [hM] at hq1 hq2 hw9 ⊢
        have HQ1 := hidden hq1
        have HQ2 := hidden hq2
        have HQ3 := hidden hq3
        have HWW := hidden hW
        have HM := hidden hM
        have HB3 := hidden hb3
        clear hq1 hq2 hq3 hb3 hW hM
        go_upto_region 11 with fail
        obtain ⟨w4, hw4, h10, h11, hb4, hz4⟩ := two_new w3 22 34 [.slice ao M co] [.slice am2 M cm2]
        have hw4' : (w3.alloc (.cells #[.slice ao M co] 22)).alloc (.cells #[.slice am2 M cm2] 34) = w4 := hw4
        obtain ⟨Z, hZ⟩ : ∃ Z, wr.heap.size = Z := ⟨_, rfl⟩
        obtain ⟨T, hT⟩ : ∃ T, w3.heap.size = T := ⟨_, rfl⟩
        rw [hw4', hT]
        rw [hT] at h10 h11 hz4
        rw [hZ] at HQ1 HQ2
        have HQ3' := hidden (owns_later HQ1.out hb4)
        have HQ4' := hidden (owns_later HQ2.out hb4)
        have hA4 := (hLA.out.below HB3.out).below hb4
        have h64 := owns_later (owns_later hO6.out HB3.out) hb4
        have h74 := owns_later (owns_later hO7.out HB3.out) hb4
        have HA4 := hidden hA4
        have H64 := hidden h64
        have H74 := hidden h74
        have H10 := hidden h10
        have H11 := hidden h11
        have HZT : Hid (S + 2 ≤ Z ∧ Z ≤ T ∧ w4.heap.size = T + 2) := by
          have q1 := HB3.out.size
          have q2 := hB.out.size
          have q3 := HZ2.out
          show _ ∧ _ ∧ _
          exact ⟨by omega, by omega, hz4⟩
        have HBW : Hid (Below S w w4) := by
          have q2 := HSZ.out
          have q3 := HZT.out
          exact ((((HB2.out.mono (by omega)).trans (hB.out.mono (by omega))).trans (HB3.out.mono (by omega))).trans (hb4.mono (by omega)))
        have H4S : Hid (Blk w4 S 3 [.int .i64 stop]) := ((HS2.out.below hB.out (by omega)).later HB3.out).later hb4
        have H4R : Hid (Blk w4 (S + 1) 4 [.bool false]) := ((HR2.out.below hB.out (by omega)).later HB3.out).later hb4
        have hO6lt := fun g hg => owns_lt hO6.out g hg
        have hO7lt := fun g hg => owns_lt hO7.out g hg
        rw [hZ] at hO6lt hO7lt
        have HLT := hidden (And.intro hO6lt hO7lt)
        have hcap6 := (owns_cap hO6.out).2.1
        have hcm6 := (owns_cap hO6.out).2.2.1
        unfold maxLen at hcm6
        have hlsn : ls.length = i := by have := hO6.out.1; rw [entv_length] at this; omega
        have HLS := hidden hlsn
        have HSL := hidden (lensum_bd ls (hLA.out.bd HCB.out))
        rw [hlsn] at HSL
        have HLT2 : Hid (∀ (k : Nat) (x : Lst), ls[k]? = some x → ∀ g, x.1 = some ⟨g, 0, none⟩ → g < Z) := by
          intro k x hx g hg
          have hkl := (List.getElem?_eq_some_iff.1 hx).1
          obtain ⟨y, hy⟩ : ∃ y, cs[k]? = some y := ⟨cs[k]'(by rw [← hLA.out.len]; exact hkl), by simp⟩
          obtain ⟨g', h1, _, _, h4⟩ := hLA.out.each k x y hx hy
          rw [h1] at hg
          injection hg with hg
          injection hg with hg
          have := h4.size
          have e : g' = g := hg
          omega
        clear hw4 hw4' h10 h11 hb4 hz4 hZ hT hA4 h64 h74 HQ1 HQ2 HB3 hB hLA hO6 hO7 HLR HCL HS2 HR2 HB2 HZ2 hO6lt hO7lt hlsn
        go_wp2_with fail
        refine (walkP w4 a6 i c6 ls (HA4.out.lsw H64.out) HLS.out (by omega) (by have := HSL.out; omega) hcap6 (by omega)).mono ?_
        rintro e w5 ⟨bx, am, m, cm, L, rfl, hv5, hm5, hr5, hb5⟩
        rw [HA4.out.same, HWW.out] at hr5
        have HV5 := hidden hv5
        have HR5 := hidden hr5
        have HB5 := hidden hb5
        clear hv5 hr5 hb5
        have hfn := func_nil #[.pointer (some ⟨bx, 0, none⟩)]
        have HAP : Hid (∀ (j k : Nat) (x y : Lst), j < k → ls[j]? = some x → ls[k]? = some y → x.1 ≠ y.1) := HA4.out.apart
        have hLC0 : LC (S + 2) Z w5 w5 a6 a7 i c6 c7 cs ls 0 := by
          have hA5 := HA4.out.below HB5.out
          exact ⟨Chg.refl _ _, ⟨ls, owns_later H64.out HB5.out, fun _ _ => rfl⟩, owns_later H74.out HB5.out, fun k x y _ hx hy => hA5.each k x y hx hy⟩
        have HLC0 := hidden hLC0
        have HA4L := hidden HA4.out.len
        clear hLC0 HA4 H64 H74
        go_wp2_with fail
        go_loopw [13] (fun s13 wx => ∃ j : Nat, s13 = .int .i64 (j : Int) ∧ j ≤ i ∧ Hid (LC (S + 2) Z w5 wx a6 a7 i c6 c7 cs ls j)) (fun s13 _ => i - (intOf s13).toNat)
        case atStart => exact ⟨0, rfl, by omega, HLC0⟩
        case round =>
          rename World => wy
          obtain ⟨j, rfl, hji, hLC⟩ := hrel
          clear HLC0
          by_cases hlj : j < i
          · have hljz : (j : Int) < (i : Int) := by omega
            obtain ⟨x, hx⟩ : ∃ x, ls[j]? = some x := ⟨ls[j]'(by rw [HLS.out]; exact hlj), by simp⟩
            obtain ⟨y, hy⟩ : ∃ y, cs[j]? = some y := ⟨cs[j]'(by rw [HCS.out]; exact hlj), by simp⟩
            obtain ⟨g, hg, hxn, hxl, hLo⟩ := hLC.out.each j x y (Nat.le_refl _) hx hy
            obtain ⟨ms, hm1, hm2⟩ := hLC.out.row
            obtain ⟨r6, rfl, hr6⟩ := owns_at hm1 (by omega)
            obtain ⟨r7, rfl, hr7⟩ := owns_at hLC.out.cop (by omega)
            have k6 : wy.cell? ⟨r6, j, none⟩ = some (.slice x.1 x.2.1 x.2.2.1) := by
              rw [hm1.cellAt j (by omega)]
              exact entv_get (by rw [hm2 j (Nat.le_refl _)]; exact hx)
            have k7 : wy.cell? ⟨r7, j, none⟩ = some (.slice y.1 y.2.1 y.2.2.1) := by
              rw [hLC.out.cop.cellAt j (by omega)]
              exact entv_get hy
            obtain ⟨ax, nx, cx, lx⟩ := x
            dsimp only at hg hxn hxl hLo k6
            subst hg
            have hnx : nx ≤ 400 := by rw [hxn]; exact HCB.out y (List.mem_of_getElem? hy)
            have hBY : Below w.heap.size w wy := by
              have q1 := HSZ.out
              have q2 := HZT.out
              have q3 := HB5.out.size
              rw [q1]
              exact (HBW.out.trans (HB5.out.mono (by omega))).trans (hLC.out.ch.below (by omega) (fun b hb => by have := hb.1; omega))
            have hya := (HCW.out y (List.mem_of_getElem? hy)).later hBY
            rw [← hxn, ← hxl] at hya
            rw [← hxn] at k7
            obtain ⟨ay, ny, cy, ly⟩ := y
            dsimp only at hya k7
            have HK6 := hidden k6
            have HX := hidden hx
            have HLO := hidden hLo
            have HST : Hid (∀ wx, Below wy.heap.size wy wx → Calls Try.prog 24 #[.slice (some ⟨g, 0, none⟩) nx cx, .slice ay nx cy] wx fun e w' => e = .returned (.bool true) ∧ Lat wx w') := by
              intro wx hb
              exact stillP wx g nx cx lx (hLo.lt.later hb) ay cy (hya.later hb).sw (by omega)
            have HK7 := hidden k7
            have HMS := hidden hm1
            have hr6l := HLT.out.1 r6 rfl
            have hgl := HLT2.out j _ hx g rfl
            have HR6 : Hid ((S + 2 ≤ r6 ∧ r6 < Z) ∧ S + 2 ≤ g ∧ g < Z) := ⟨⟨hr6, hr6l⟩, hLo.2.2.2.2.2, hgl⟩
            have HRG : Hid (r6 ≠ g) := fun e => absurd ((owns_tg hm1 r6 rfl).one (by rw [e]; exact hLo.tg)) (by decide)
            clear hy hxn hxl hya hm1 hm2 hx hLo hBY hr6l hgl hr6
            go_upto_region 17 with fail
            refine post_r17 r6 r7 g j i c6 c7 nx cx cy ay wy _ _ (by rfl) (by rfl) (by rfl) (by rfl) hljz (fun w1 hL => (Chg.of_below (F := fun _ => False) hL).cellS HK6.out (fun h => h)) (fun w1 hL => (Chg.of_below (F := fun _ => False) hL).cellS HK7.out (fun h => h)) (fun w1 hL => HST.out w1 hL) ?_
            intro v59 v60 v61 v62 v63 v64 v65 v66 v67 wc hbc
            have HBC := hidden hbc
            have HLO2 := hidden (HLO.out.chg (Chg.of_below (F := fun _ => False) hbc) (fun h => h))
            have K6 : Hid (wc.cell? ⟨r6, j, none⟩ = some (.slice (some ⟨g, 0, none⟩) nx cx)) := (Chg.of_below (F := fun _ => False) hbc).cellS HK6.out (fun h => h)
            clear k6 k7 hbc HK7
            simp only [Act.put, List.setIfInBounds_toArray, List.set_cons_succ, List.set_cons_zero]
            go_wp2_with fail
            go_loopw [15] (fun s15 wx => ∃ k : Nat, s15 = .int .i64 (k : Int) ∧ k ≤ nx ∧ Hid (Chg (fun b => b = g) wc wx) ∧ Hid (∃ l', wx.ownsRow (S + 2) 23 1 (.slice (some ⟨g, 0, none⟩) (nx + 3) cx) (nx + 3) (cells32 l'))) (fun s15 _ => nx - (intOf s15).toNat)
            case atStart => exact ⟨0, rfl, by omega, hidden (Chg.refl _ _), hidden ⟨_, HLO2.out.1⟩⟩
            case round =>
              rename World => wz
              obtain ⟨k, rfl, hk, hch, hrw⟩ := hrel
              have k6 : wz.cell? ⟨r6, j, none⟩ = some (.slice (some ⟨g, 0, none⟩) nx cx) := hch.out.cellS K6.out (fun e => HRG.out e)
              by_cases hkl : k < nx
              · have hklz : (k : Int) < (nx : Int) := by omega
                obtain ⟨l', ho⟩ := hrw.out
                have hcl := ho.cellAt k (by omega)
                have hfr : wz.frozen? ⟨g, k, none⟩ = false := own_fr ho
                obtain ⟨u, hu⟩ : ∃ u, (cells32 l')[k]? = some u := ⟨_, List.getElem?_eq_getElem (by have := ho.1; omega)⟩
                rw [hu] at hcl
                have HO := hidden ho
                clear hu ho
                go_wp2_with fail
                have hs := (HO.out.stored k (.int .u32 9)).1
                have e9 : (Value.int IntKind.u32 9) = .int .u32 ((9 : Nat) : Int) := rfl
                rw [e9, set32] at hs
                refine ⟨⟨k + 1, by first | rfl | simp, by omega, hidden (hch.out.trans (Chg.set _ _ _) (fun _ _ h => h)), hidden ⟨_, hs⟩⟩, ?_⟩
                simp [intOf]
                omega
              · have hklz : ¬ (k : Int) < (nx : Int) := by omega
                have hcx : Chg (fun b => b = g) wy wz := (Chg.of_below (F := fun b => b = g) HBC.out).trans hch.out (fun _ _ h => h)
                have hne67 : ∀ q, Value.ownBlock (.slice (some ⟨r7, 0, none⟩) i c7) = some q → r6 ≠ q := fun q hq => hNe.out r6 q rfl hq
                have HNX := hidden (hLC.out.next HX.out rfl hne67 HR6.out.1 HR6.out.2 HLO.out.tg (fun k y hk hy => HAP.out j k _ y hk HX.out hy) hcx)
                have hfr : wz.frozen? ⟨r6, j, none⟩ = false := own_fr (hcx.owns HMS.out (fun q hq e => HRG.out ((Option.some.inj hq).trans e)))
                clear hcx hne67
                go_wp2_with fail
                refine ⟨⟨j + 1, by first | rfl | simp, by omega, HNX⟩, ?_⟩
                simp [intOf]
                omega
          · have hljz : ¬ (j : Int) < (i : Int) := by omega
            have HSD : Hid (ScD w S T bx stop am m cm L ao am2 M co cm2 W wy) := by
              have hch := hLC.out.ch
              obtain ⟨hz1, hz2, hz3⟩ := HZT.out
              have hb5 := HB5.out
              have v1 := HV5.out.1
              have v2 := HV5.out.2.1
              have v3 := HV5.out.2.2.1
              refine ⟨hch.blk (H4S.out.later hb5) (fun e => by have := e.1; omega), hch.blk (H4R.out.later hb5) (fun e => by have := e.1; omega), hch.blk (H10.out.later hb5) (fun e => by have := e.2; omega), hch.blk (H11.out.later hb5) (fun e => by have := e.2; omega),
                hch.blk v1 (fun e => by have := e.2; omega), hch.owns (owns_base v3 (by omega)) (fun q hq e => by have q1 := (v3.lt q hq).1; have q2 := e.2; omega),
                hch.owns (owns_base (owns_later HQ3'.out hb5) hz1) (fun q hq e => by have q1 := (HQ3'.out.lt q hq).1; have q2 := e.2; omega),
                hch.owns (owns_base (owns_later HQ4'.out hb5) hz1) (fun q hq e => by have q1 := (HQ4'.out.lt q hq).1; have q2 := e.2; omega), ?_⟩
              exact (HBW.out.trans (hb5.mono (by omega))).trans (hch.below (by have := hb5.size; omega) (fun b hb => by have := hb.1; omega))
            have HWL := hidden HV5.out.2.2.2
            have HFR := hidden HSD.out.fresh
            obtain ⟨Bi, hBi⟩ : ∃ Bi, wy.heap.size = Bi := ⟨_, rfl⟩
            rw [hBi] at HFR
            have hSs : S ≤ w.heap.size := by have := HSZ.out; omega
            have hSBi : S ≤ Bi := by have := HFR.out.1; omega
            have HSD2 : Hid (ScD w S T bx stop am m cm L ao am2 M co cm2 W (wy.alloc (.cells #[.int .i64 0] 3))) := HSD.out.chg HFR.out (Chg.of_below ((Below.refl _ _).alloc (Nat.le_refl _) _)) hSs
            have HBI : Hid (Blk (wy.alloc (.cells #[.int .i64 0] 3)) Bi 3 [.int .i64 0]) := by
              show Blk _ _ _ _
              rw [← hBi]
              exact Blk.new wy 3 [.int .i64 0]
            have HZC : Hid ((wy.alloc (.cells #[.int .i64 0] 3)).heap.size = Bi + 1) := by show _ = _; simp [hBi]
            clear HSD hLC HV5 HB5 HZT HBW HQ3' HQ4' H10 H11 H4S H4R HLT HLT2 HLS HSL HCB HCA HCW HCS HSM HA4L HAP hNe
            go_wp2_with fail
            try rw [hBi]
            generalize wy.alloc (.cells #[.int .i64 0] 3) = w10 at *
            refine wp_range2 (a := { tmps := _, defers := [] }) (gf := 49) (lb := #[.pointer (some ⟨bx, 0, none⟩)]) 6 rfl (enters_of Try.func49 (by kernel_rfl) rfl) (runs_seqs bx am m cm L w10 (by omega)) (Below.refl _ _) (fun _ => rfl)
              (fun pre A => Blk A Bi 3 [.int .i64 (pre.length : Nat)] ∧ (∃ rest, W = pre ++ rest) ∧ w10.heap.size ≤ A.heap.size ∧ ScD w S T bx stop am m cm L ao am2 M co cm2 W A)
              (fun pre A => (∃ k : Nat, Blk A Bi 3 [.int .i64 (k : Nat)]) ∧ w10.heap.size ≤ A.heap.size ∧ ScD w S T bx stop am m cm L ao am2 M co cm2 W A)
              ?hI ?hIx (fun pre x A B h hk => h) ?hT ?h0 ?a1 ?hexit
              (fun A => ∃ k : Nat, Blk A Bi 3 [.int .i64 (k : Int)] ∧ w10.heap.size ≤ A.heap.size ∧ ScD w S T bx stop am m cm L ao am2 M co cm2 W A) ?hp1 ?hp2 ?assign ?body ?hend
            case assign =>
              intro n lp x A K hK
              simp only [encR]
              gi_wp2
              exact hK
            case hexit =>
              intro a A h
              simpa [Exit.inBlock] using h
            case hI =>
              rintro pre A B ⟨h1, h2, h3, h4⟩ hk
              exact ⟨hk.blk h1, h2, Nat.le_trans h3 hk.size, h4.bk hk (by have := HZC.out; omega) hSs⟩
            case hIx =>
              rintro pre A B ⟨⟨k, h1⟩, h3, h4⟩ hk
              exact ⟨⟨k, hk.blk h1⟩, Nat.le_trans h3 hk.size, h4.bk hk (by have := HZC.out; omega) hSs⟩
            case hT => exact fun pre A h => h.2.2.2.read HWL.out
            case h0 => exact ⟨HBI.out, ⟨W, rfl⟩, Nat.le_refl _, HSD2.out⟩
            case hp1 =>
              rintro xs A hS ⟨h1, h2, h3, h4⟩
              exact ⟨_, h1, h3, h4⟩
            case hp2 =>
              rintro pre A _ ⟨⟨k, h1⟩, h3, h4⟩
              exact ⟨k, h1, h3, h4⟩
            case body =>
              rintro n lp pre ⟨x1, x2⟩ A ⟨h1, _, h3, h4⟩ ⟨rest, hrest⟩
              rw [HR5.out] at hrest
              have hlen := congrArg List.length hrest
              rw [HM.out, List.length_append, List.length_cons] at hlen
              obtain ⟨k, hk⟩ : ∃ k, pre.length = k := ⟨_, rfl⟩
              rw [hk] at h1 hlen
              have cI : A.cell? ⟨Bi, 0, none⟩ = some (.int .i64 (k : Int)) := h1.cell 0
              have fI := h1.frozen 0
              have cS : A.cell? ⟨S, 0, none⟩ = some (.int .i64 stop) := h4.s.cell 0
              have H1 := hidden h1
              have H3 := hidden h3
              have H4 := hidden h4
              have HRS := hidden hrest
              have HK := hidden hk
              clear h1 h3 h4 hrest hk
              dsimp only
              by_cases hks : (k : Int) = stop
              · gi_wp2
                exact ⟨KeepsFrom.refl _ _, rfl, ⟨k, H1.out⟩, H3.out, H4.out⟩
              · gi_wp2
                have hcs := Chg.set ⟨Bi, 0, none⟩ (.int .i64 ((k : Int) + 1)) A
                refine ⟨keeps_chg hcs (fun g o h1 h2 _ => by have e2 : g = Bi := h2; have := HZC.out; omega), trivial, ?_, ⟨rest, by rw [HRS.out]; simp⟩, Nat.le_trans H3.out hcs.size, H4.out.chg HFR.out (hcs.mono (fun i _ h => by have e2 : i = Bi := h; show Bi ≤ i; omega)) hSs⟩
                have := H1.out.set 0 (.int .i64 ((k : Int) + 1))
                rw [List.length_append, List.length_singleton, HK.out]
                exact this
            case hend =>
              rintro D A hD ⟨k, hk1, hk2, hk3⟩ hK
              have HK1 := hidden hk1
              have HK2 := hidden hk2
              have HK3 := hidden hk3
              have HD := hidden hD
              have HKK := hidden hK
              have cI : A.cell? ⟨Bi, 0, none⟩ = some (.int .i64 (k : Int)) := hk1.cell 0
              have fI := hk1.frozen 0
              clear hk1 hk2 hk3 hD hK
              have hcs := Chg.set ⟨Bi, 0, none⟩ (.int .i64 0) A
              have HC3 : Hid (ScD w S T bx stop am m cm L ao am2 M co cm2 W (A.setCell ⟨Bi, 0, none⟩ (.int .i64 0))) := HK3.out.chg HFR.out (hcs.mono (fun i _ h => by have e2 : i = Bi := h; show Bi ≤ i; omega)) hSs
              have HBI3 := hidden (HK1.out.set 0 (.int .i64 0))
              have HZ3 : Hid (w10.heap.size ≤ (A.setCell ⟨Bi, 0, none⟩ (.int .i64 0)).heap.size) := Nat.le_trans HK2.out hcs.size
              have HD3 : Hid ((A.setCell ⟨Bi, 0, none⟩ (.int .i64 0)).heap[D]? = some (.deferred (some []))) := (hcs.block D (Array.getElem?_eq_some_iff.1 HKK.out).1 (fun e => by have e2 : D = Bi := e; have := HD.out; have := HZC.out; omega)).trans HKK.out
              clear hcs
              go_wp2_with fail
              generalize A.setCell ⟨Bi, 0, none⟩ (.int .i64 0) = w11 at *
              have hDl : D < w11.heap.size := (Array.getElem?_eq_some_iff.1 HD3.out).1
              clear cI fI HK1 HK2 HK3 HKK
              refine wp_range2 (a := { tmps := _, defers := _ }) (gf := 49) (lb := #[.pointer (some ⟨bx, 0, none⟩)]) 8 rfl (enters_of Try.func49 (by kernel_rfl) rfl) (runs_seqs bx am m cm L w11 (by omega)) (Below.refl _ _) (fun _ => rfl)
                (fun pre A => Blk A Bi 3 [.int .i64 (pre.length : Nat)] ∧ w11.heap.size ≤ A.heap.size ∧ ScD w S T bx stop am m cm L ao am2 M co cm2 W A ∧ A.heap[D]? = some (.deferred (some [])))
                (fun pre A => False)
                ?hI2 (fun _ _ _ h _ => h) (fun pre x A B h hk => h) ?hT2 ?h02 ?a12 ?hexit2
                (fun A => Blk A Bi 3 [.int .i64 (M : Int)] ∧ ScD w S T bx stop am m cm L ao am2 M co cm2 W A ∧ A.heap[D]? = some (.deferred (some []))) ?hp12 (fun _ _ _ h => h.elim) ?assign2 ?body2 ?hend2
              case assign2 =>
                intro n lp x A K hK
                simp only [encR]
                gi_wp2
                exact hK
              case hexit2 =>
                intro a A h
                simpa [Exit.inBlock] using h
              case hI2 =>
                rintro pre A B ⟨h1, h2, h3, h4⟩ hk
                exact ⟨hk.blk h1, Nat.le_trans h2 hk.size, h3.bk hk (by have := HZ3.out; have := HZC.out; omega) hSs, hk.low hDl h4⟩
              case hT2 => exact fun pre A h => h.2.2.1.read HWL.out
              case h02 => exact ⟨HBI3.out, Nat.le_refl _, HC3.out, HD3.out⟩
              case hp12 =>
                rintro xs A hS ⟨h1, h2, h3, h4⟩
                have e : xs.length = M := by rw [hS, HR5.out, HM.out]
                rw [e] at h1
                exact ⟨h1, h3, h4⟩
              case body2 =>
                rintro n lp pre ⟨x1, x2⟩ A ⟨h1, h3, h4, h5⟩ ⟨rest, hrest⟩
                rw [HR5.out] at hrest
                have hlen := congrArg List.length hrest
                rw [HM.out, List.length_append, List.length_cons] at hlen
                obtain ⟨q, hq⟩ : ∃ q, pre.length = q := ⟨_, rfl⟩
                rw [hq] at h1 hlen
                have hWq : W[q]? = some (x1, x2) := by
                  rw [hrest, List.getElem?_append_right (by omega), hq, Nat.sub_self]
                  rfl
                obtain ⟨g1, g2, rfl, rfl, hqM, k1, k2⟩ := want_cells h4.o1 h4.o2 hWq
                dsimp only at k1 k2
                have cI : A.cell? ⟨Bi, 0, none⟩ = some (.int .i64 (q : Int)) := h1.cell 0
                have fI := h1.frozen 0
                have c10 : A.cell? ⟨T, 0, none⟩ = some (.slice (some ⟨g1, 0, none⟩) M co) := h4.b10.cell 0
                have c11 : A.cell? ⟨T + 1, 0, none⟩ = some (.slice (some ⟨g2, 0, none⟩) M cm2) := h4.b11.cell 0
                have hqz : (q : Int) < (M : Int) := by omega
                have hM9 : M ≤ 40000 := hw9
                have H1 := hidden h1
                have H3 := hidden h3
                have H4 := hidden h4
                have H5 := hidden h5
                have HQ := hidden hq
                clear h1 h3 h4 h5 hrest hq hWq
                dsimp only
                gi_wp2
                have hcs := Chg.set ⟨Bi, 0, none⟩ (.int .i64 ((q : Int) + 1)) A
                refine ⟨keeps_chg hcs (fun g o h1 h2 _ => by have e2 : g = Bi := h2; have := HZ3.out; have := HZC.out; omega), trivial, ?_, Nat.le_trans H3.out hcs.size, H4.out.chg HFR.out (hcs.mono (fun i _ h => by have e2 : i = Bi := h; show Bi ≤ i; omega)) hSs, ?_⟩
                · have := H1.out.set 0 (.int .i64 ((q : Int) + 1))
                  rw [List.length_append, List.length_singleton, HQ.out]
                  exact this
                · exact (hcs.block D (Array.getElem?_eq_some_iff.1 H5.out).1 (fun e => by have e2 : D = Bi := e; have := HD.out; have := HZC.out; omega)).trans H5.out
              case hend2 =>
                rintro D2 A2 hD2 ⟨h1, h2, h3⟩ hK2
                have cI2 : A2.cell? ⟨Bi, 0, none⟩ = some (.int .i64 (M : Int)) := h1.cell 0
                have c102 : A2.cell? ⟨T, 0, none⟩ = some (.slice ao M co) := h2.b10.cell 0
                have cR2 : A2.cell? ⟨S + 1, 0, none⟩ = some (.bool false) := h2.r.cell 0
                have fR2 := h2.r.frozen 0
                have H2 := hidden h2
                have H3 := hidden h3
                have HKD2 := hidden hK2
                have HD2 := hidden hD2
                clear h1 h2 h3 hK2 hD2
                go_wp2_with fail
                have hcs := Chg.set ⟨S + 1, 0, none⟩ (.bool true) A2
                have hf1 := HFR.out.1
                have hk2 : (A2.setCell ⟨S + 1, 0, none⟩ (.bool true)).heap[D2]? = some (.deferred (some [])) := (hcs.block D2 (Array.getElem?_eq_some_iff.1 HKD2.out).1 (fun e => by have e2 : D2 = S + 1 := e; have := HD2.out; have := HZ3.out; have := HZC.out; omega)).trans HKD2.out
                have hk1 : (A2.setCell ⟨S + 1, 0, none⟩ (.bool true)).heap[D]? = some (.deferred (some [])) := (hcs.block D (Array.getElem?_eq_some_iff.1 H3.out).1 (fun e => by have e2 : D = S + 1 := e; have := HD.out; have := HZC.out; omega)).trans H3.out
                have hk1' : ((A2.setCell ⟨S + 1, 0, none⟩ (.bool true)).putObj D2 (.deferred none)).heap[D]? = some (.deferred (some [])) := (World.putObj_heap_other (by have := HD2.out; omega)).trans hk1
                refine ⟨by simp, .inl ⟨_, _, rfl, run_takeDeferred hk2, ?_⟩⟩
                refine ⟨by simp, .inl ⟨_, _, rfl, run_takeDeferred hk1', ?_⟩⟩
                have q1 : Bk w10.heap.size (A2.setCell ⟨S + 1, 0, none⟩ (.bool true)) ((A2.setCell ⟨S + 1, 0, none⟩ (.bool true)).putObj D2 (.deferred none)) := Bk.put _ hk2 rfl (by have := HD2.out; have := HZ3.out; omega)
                have q2 : Bk w10.heap.size ((A2.setCell ⟨S + 1, 0, none⟩ (.bool true)).putObj D2 (.deferred none)) (((A2.setCell ⟨S + 1, 0, none⟩ (.bool true)).putObj D2 (.deferred none)).putObj D (.deferred none)) := Bk.put _ hk1' rfl HD.out
                have hrb := q2.blk (q1.blk (H2.out.r.set 0 (.bool true)))
                refine ⟨.bool true, res_cell rfl _ _ (S + 1) true rfl (hrb.cell 0), rfl, ?_⟩
                have hb0 := H2.out.bel.trans (hcs.below (by have := H2.out.bel.size; omega) (fun g hg => by have e2 : g = S + 1 := hg; omega))
                have hz := HZC.out
                rw [HSZ.out]
                exact Bk.below (Bk.below hb0 q1 (by omega) hSs) q2 (by omega) hSs
end Go.Proofs.Ytjpelnbffodaiaa
