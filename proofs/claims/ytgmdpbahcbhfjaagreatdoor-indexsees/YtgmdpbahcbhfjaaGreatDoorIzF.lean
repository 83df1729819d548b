import Derived.Test.YtgmdpbahcbhfjaaGreatDoorIzC
set_option linter.unusedSimpArgs false
set_option linter.unusedVariables false
set_option maxHeartbeats 40000000
set_option maxRecDepth 100000
/-
  IndexSees.
-/
namespace Go.Proofs.YtgmdpbahcbhfjaaGreatDoor.X
open Go.RowKit

/-- Lists of labels that came in. -/
def Lls (w : World) (ad : Option Addr) (ls : List (List L.Lb)) : Prop := ∀ (i : Nat) (l : List L.Lb), ls[i]? = some l → ∃ b off ai ci, ad = some ⟨b, off, none⟩ ∧ b < w.heap.size ∧ w.cell? ⟨b, off + i, none⟩ = some (.slice ai l.length ci) ∧ L.Ls w ai l ∧ (ai = none → l = [] ∧ ci = 0) ∧ l.length ≤ ci ∧ ci ≤ 9223372036854775807
theorem ls_take {w : World} {ad : Option Addr} {l : List L.Lb} (h : L.Ls w ad l) (k : Nat) : L.Ls w ad (l.take k) := by
  refine ⟨fun x hx => h.sz x (List.mem_of_mem_take hx), fun hne => ?_⟩
  obtain ⟨b, o, e, h1, h2⟩ := h.at' (fun e => hne (by rw [e]; simp))
  refine ⟨b, o, e, h1, fun i x hi => h2 i x ?_⟩
  rw [List.getElem?_take] at hi
  split at hi
  · exact hi
  · cases hi
theorem ms_take {w : World} {ad : Option Addr} {l : List Mt} (h : Ms w ad l) (k : Nat) : Ms w ad (l.take k) := by
  refine ⟨fun x hx => h.sz x (List.mem_of_mem_take hx), fun hne => ?_⟩
  obtain ⟨b, o, e, h1, h2⟩ := h.at' (fun e => hne (by rw [e]; simp))
  refine ⟨b, o, e, h1, fun i x hi => h2 i x ?_⟩
  rw [List.getElem?_take] at hi
  split at hi
  · exact hi
  · cases hi
/-- All labels of these series. -/
def evF (S : List (List L.Lb)) (ids : List Nat) : List L.Lb := ids.flatMap fun i => S.getD i []
theorem ev_next {S : List (List L.Lb)} {ids : List Nat} {k i : Nat} {l : List L.Lb} (hk : ids[k]? = some i) (hl : S[i]? = some l) : evF S (ids.take (k + 1)) = evF S (ids.take k) ++ l := by
  unfold evF
  rw [List.take_add_one, hk, List.flatMap_append]
  simp [List.getD, hl]
theorem ev_mem {S : List (List L.Lb)} {ids : List Nat} {y : L.Lb} : y ∈ evF S ids ↔ ∃ i ∈ ids, y ∈ S.getD i [] := by
  unfold evF
  rw [List.mem_flatMap]
/-- The numbers below i stand ahead of place k. -/
structure LK (ids : List Nat) (k i : Nat) : Prop where
  le : k ≤ ids.length
  lo : ∀ z ∈ ids.take k, z < i
  hi : ∀ z ∈ ids.drop k, i ≤ z
theorem LK.told {ids : List Nat} {k i : Nat} (h : LK ids k i) (hr : J.Ris ids) (hm : i ∈ ids) : ids[k]? = some i ∧ LK ids (k + 1) (i + 1) := by
  have hd : i ∈ ids.drop k := by
    rw [← List.take_append_drop k ids, List.mem_append] at hm
    rcases hm with hm | hm
    · exact absurd (h.lo i hm) (Nat.lt_irrefl _)
    · exact hm
  have hlt : k < ids.length := by
    refine Classical.byContradiction fun hno => ?_
    rw [List.drop_of_length_le (by omega)] at hd
    cases hd
  have hcons : ids.drop k = ids[k] :: ids.drop (k + 1) := List.drop_eq_getElem_cons hlt
  have hrd : (ids[k] :: ids.drop (k + 1)).Pairwise (· < ·) := by rw [← hcons]; exact List.Pairwise.sublist (List.drop_sublist _ _) hr
  have hhead := List.pairwise_cons.1 hrd
  have he : ids[k] = i := by
    have h1 := h.hi ids[k] (by rw [hcons]; exact List.mem_cons_self)
    rw [hcons] at hd
    rcases List.mem_cons.1 hd with e | hd
    · exact e.symm
    · have := hhead.1 i hd
      omega
  refine ⟨by rw [List.getElem?_eq_getElem hlt, he], by omega, fun z hz => ?_, fun z hz => ?_⟩
  · rw [List.take_add_one, List.getElem?_eq_getElem hlt] at hz
    rcases List.mem_append.1 hz with hz | hz
    · have := h.lo z hz
      omega
    · simp at hz
      omega
  · have := hhead.1 z hz
    omega
theorem LK.not {ids : List Nat} {k i : Nat} (h : LK ids k i) (hm : ¬ i ∈ ids) : LK ids k (i + 1) ∧ ∀ z, ids[k]? = some z → ¬ z = i := by
  refine ⟨⟨h.le, fun z hz => Nat.lt_succ_of_lt (h.lo z hz), fun z hz => ?_⟩, fun z hz e => hm (by rw [← e]; exact List.mem_of_getElem? hz)⟩
  have h1 := h.hi z hz
  have h2 : ¬ z = i := fun e => hm (by rw [← e]; exact List.mem_of_mem_drop hz)
  omega
theorem LK.last {ids : List Nat} {k n : Nat} (h : LK ids k n) (hl : ∀ z ∈ ids, z < n) : k = ids.length := by
  have h1 := h.le
  refine Classical.byContradiction fun hne => ?_
  have hlt : k < ids.length := by omega
  have h2 := h.hi ids[k] (by rw [List.drop_eq_getElem_cons hlt]; exact List.mem_cons_self)
  have h3 := hl ids[k] (List.getElem_mem hlt)
  omega
theorem sel_mem {S : List (List L.Lb)} {ms : List Mt} {i : Nat} (h : i < S.length) : i ∈ selF S ms ↔ holdsL ms (S.getD i []) = true := by
  unfold selF
  rw [List.mem_filter, List.mem_range]
  exact ⟨fun h => h.2, fun h2 => ⟨h, h2⟩⟩
set_option maxRecDepth 100000 in
set_option maxHeartbeats 0 in
theorem sees_any (w : World) (B : Nat) (hT : L.Tb B w) (al : Option Addr) (nl cl : Nat) (ls : List (List L.Lb)) (hls : Lls w al ls) (hnl : ls.length = nl) (hn9 : nl ≤ 9223372036854775807) (am : Option Addr) (nm cm : Nat) (lm : List Mt) (hm : Ms w am lm) (hnm : lm.length = nm) (hmo : am = none → nm = 0 ∧ cm = 0) (hmc : nm ≤ cm) (hm9 : cm ≤ 9223372036854775807) (of : ByteArray) :
    Calls Tryz.prog 5 #[.slice al nl cl, .slice am nm cm, .string of] w fun e w' => e = .returned (.bool true) ∧ Below w.heap.size w w' := by
  have HLS := hidden hls
  have HNL := hidden hnl
  have HM := hidden hm
  have HNM := hidden hnm
  have HT := hidden hT
  have hB := hT.size
  have HMO := hidden (And.intro hmo (And.intro hmc hm9))
  clear hls hnl hm hnm hT hmo hmc hm9
  go_enter Tryz.func5, Tryz.ntmps5
  go_wp2_with fail
  refine (shownP B w HT.out).mono ?_
  rintro e w1 ⟨rfl, b1⟩
  have B1 := hidden b1
  clear b1
  go_wp2_with fail
  refine (someP am nm cm w1 HMO.out.2.1 HMO.out.2.2 HMO.out.1).mono ?_
  rintro e w1 ⟨rfl, rfl⟩
  obtain ⟨ml, hml⟩ : ∃ ml, lm.take 20 = ml := ⟨_, rfl⟩
  have hml2 : min nm 20 = ml.length := by rw [← hml, List.length_take, HNM.out, Nat.min_comm]
  have HML := hidden (show Ms w1 am ml by rw [← hml]; exact ms_take (HM.out.later B1.out) 20)
  rw [hml2]
  have hml9 : ml.length ≤ 20 := by omega
  clear hml hml2
  go_wp2_with fail
  refine (setP B am cm ml w1 HML.out (by omega) (HT.out.later B1.out)).mono ?_
  rintro e w2 ⟨s, F, rfl, hs, hF, hb2⟩
  have HSTR := hidden hs
  have HFB := hidden hF
  have B2 : Hid (Below w.heap.size w w2) := hidden (B1.out.trans (hb2.mono B1.out.size))
  have HOKM : Hid (∀ m ∈ setL ml, m.may = true ∧ OkM m) := hidden (fun m hm => ⟨setL_may m hm, HML.out.sz m (setL_sub m hm)⟩)
  have HSL := hidden (setL_len ml)
  generalize setL ml = ms at *
  clear hs hF hb2 HML hml9
  go_wp2_with fail
  refine (newIxP2 w2 (fun _ => none) 0).mono ?_
  rintro e w3 ⟨x, eb, rb, c1, rfl, h1, h2, h3, h4, h5, h6, h7, b3⟩
  have hcol : ∀ i q, c1 i = some (0, q) → i = x ∨ i = eb ∨ i = rb := fun i q e => by
    by_cases hi : i < w2.heap.size
    · rw [h2 i hi] at e; cases e
    · refine Classical.byContradiction fun hno => ?_
      simp only [not_or] at hno
      exact h3 i _ (by omega) hno.1 hno.2.1 hno.2.2 e
  have HLO : Hid (∀ i q, c1 i = some (0, q) → w2.heap.size ≤ i) := hidden (fun i q e => by have := hcol i q e; omega)
  have B3 : Hid (Below w.heap.size w w3) := hidden (B2.out.trans (b3.mono B2.out.size))
  have HCB : Hid (∀ i q, c1 i = some (0, q) → B ≤ i) := hidden (fun i q e => by have := HLO.out i q e; have := B2.out.size; omega)
  have HT3 : Hid (L.Tb B w3) := hidden (HT.out.below B3.out hB)
  have HS3 : Hid (StR F w3 s ms) := hidden (HSTR.out.later b3)
  have HFN : Hid (∀ b, F b → ∀ q, ¬ c1 b = some (0, q)) := hidden (fun b hb q e => by have h1 := (HFB.out b hb).2; have h2 := HLO.out b q e; omega)
  have HLN : Hid (∀ b, b < w.heap.size → ∀ q, ¬ c1 b = some (0, q)) := hidden (fun b hb q e => by have h2 := HLO.out b q e; have := B2.out.size; omega)
  have HX3 : Hid (XS w3 c1 w3 0 x eb rb (RS tT [])) := hidden (by rw [← rs_nil]; exact XS.new h1)
  have HBW : Hid (∀ wx S, XS w3 c1 wx 0 x eb rb (RS tT S) → Below w.heap.size w wx) := hidden (fun wx S hx => B3.out.trans (hx.chg.below B3.out.size (fun i ⟨q, hq⟩ => by have h2 := HLO.out i q hq; have := B2.out.size; omega)))
  clear h1 h2 h3 h4 h5 h6 h7 b3 hcol hB
  go_upto_block 0 with fail
  go_cut [10, 11, 12, 13, 14, 15, 16, 17, 18, 19, 20] from 54 to 144 (fun s10 s11 s12 s13 s14 s15 s16 s17 s18 s19 s20 wx => ∃ (n : Nat) (S : List (List L.Lb)), s10 = .int .i64 (n : Int) ∧ n ≤ 300 ∧ Hid (S.length = n) ∧ Hid (XS w3 c1 wx 0 x eb rb (RS tT S)))
  case first =>
    as_aux_lemma =>
      go_wp2_with fail
      go_loopw [10, 11] (fun s10 s11 wx => ∃ (i n : Nat) (S : List (List L.Lb)), s10 = .int .i64 (n : Int) ∧ s11 = .int .i64 (i : Int) ∧ i ≤ 300 ∧ n ≤ i ∧ Hid (S.length = n) ∧ Hid (XS w3 c1 wx 0 x eb rb (RS tT S))) (fun _ s11 _ => 300 - (intOf s11).toNat)
      case atStart => exact ⟨0, 0, [], rfl, rfl, by omega, by omega, hidden rfl, HX3⟩
      case round =>
        rename World => wx
        obtain ⟨i, n, S, rfl, rfl, hi3, hni, HSN, HX⟩ := hrel
        by_cases hlt : i < nl ∧ i < 300
        · have hltz : (i : Int) < (nl : Int) := by omega
          have hltz2 : (i : Int) < 300 := by omega
          have hi0 : (0 : Int) ≤ (i : Int) := by omega
          obtain ⟨l, hl⟩ : ∃ l, ls[i]? = some l := ⟨ls[i]'(by rw [HNL.out]; exact hlt.1), List.getElem?_eq_getElem _⟩
          obtain ⟨b, off, ai, ci, rfl, hb, hc, hLs, hno, hlc, hci⟩ := HLS.out i l hl
          rw [← (HBW.out wx S HX.out).cell (p := ⟨b, off + i, none⟩) hb] at hc
          obtain ⟨f, hf⟩ : ∃ f, l.take 20 = f := ⟨_, rfl⟩
          obtain ⟨ln, hln⟩ : ∃ ln, l.length = ln := ⟨_, rfl⟩
          rw [hln] at hc hlc
          have hfl : min ln 20 = f.length := by rw [← hf, List.length_take, hln, Nat.min_comm]
          have HFLW : Hid (L.Ls w ai f) := hidden (by rw [← hf]; exact ls_take hLs 20)
          have HNO : Hid (ai = none → f = [] ∧ ci = 0) := hidden (fun e => ⟨by rw [← hf, (hno e).1]; rfl, (hno e).2⟩)
          have HLNO : Hid (ai = none → ln = 0 ∧ ci = 0) := hidden (fun e => ⟨by rw [← hln, (hno e).1]; rfl, (hno e).2⟩)
          have hf20 : f.length ≤ 20 := by omega
          have HFL := hidden hfl
          have HLC := hidden (And.intro hlc hci)
          have HAP : Hid (¬ f = [] → ∀ a, ai = some a → (a.block < w3.heap.size ∧ ∀ q, ¬ c1 a.block = some (0, q)) ∨ wx.heap.size ≤ a.block) := hidden (fun hne a ha => by
            obtain ⟨b2, o2, e2, hlt2, _⟩ := HFLW.out.at' hne
            rw [e2] at ha
            obtain rfl := Option.some.inj ha
            exact .inl ⟨Nat.lt_of_lt_of_le hlt2 B3.out.size, HLN.out _ hlt2⟩)
          have HSB : Hid ((RS tT S tT).length < 1000) := hidden (by rw [rs_at, HSN.out]; omega)
          have HND0 : Hid (S.Nodup) := hidden (by have := HX.out.ok.one tT; rw [rs_at] at this; exact this)
          obtain ⟨hlt1, hlt2⟩ := hlt
          clear hl hb hLs hno hf hln hfl hlc hci
          go_wp2_with fail
          refine (fewP ai ln ci wx HLC.out.1 HLC.out.2 HLNO.out).mono ?_
          rintro e w4 ⟨rfl, rfl⟩
          rw [HFL.out]
          go_wp2_with fail
          have HAD := hidden (HX.out.add (Below.refl _ _) (HX.out.tb HT3.out HCB.out) tT (by decide) ai ci f (HFLW.out.later (HBW.out _ _ HX.out)) HNO.out (by omega) HSB.out HAP.out)
          rw [rs_add, rs_at] at HAD
          by_cases hr : L.right f = true
          · have HRF := hidden hr
            by_cases hm : f ∈ S
            · obtain ⟨k, hk⟩ := List.getElem?_of_mem hm
              have hkn : k < n := by have := (List.getElem?_eq_some_iff.1 hk).1; rw [HSN.out] at this; exact this
              have e1 : addI S f = (k : Int) := by unfold addI; rw [if_pos hr, idx_get HND0.out hk]
              have e2 : addB S f = false := by unfold addB; simp [hm]
              have e3 : addS S f = S := by unfold addS; rw [if_neg (fun e => e.2 hm)]
              have HK := hidden hk
              have HND := HND0
              rw [e1, e2, e3, hr] at HAD
              clear hm hk e1 e2 e3 hr
              refine HAD.out.mono ?_
              rintro e w5 ⟨rfl, hx5⟩
              have X5 := hidden hx5
              clear hx5 HAD HX
              unfold L.errL
              simp only [cond_true]
              have hkz : (k : Int) < (n : Int) := by omega
              have hk0 : ¬ (k : Int) < 0 := by omega
              have hkz2 : ¬ (n : Int) ≤ (k : Int) := by omega
              go_wp2_with (first
                | (go_at_call 20
                   refine (L.rightP B ai ci f _ (HFLW.out.later (HBW.out _ _ X5.out)) (by omega) (X5.out.tb HT3.out HCB.out)).mono ?_
                   rintro e w5r ⟨rfl, hb5⟩
                   rw [HRF.out]
                   unfold L.errL
                   simp only [cond_true]
                   replace X5 := hidden (X5.out.later hb5)
                   clear hb5))
              go_wp2_with fail
              refine (X5.out.find (X5.out.tb HT3.out HCB.out) tT ai ci f (HFLW.out.later (HBW.out _ _ X5.out)) HNO.out (by omega)).mono ?_
              rintro e w6 ⟨⟨fi, fb, hfd, rfl⟩, hb6⟩
              rw [rs_at] at hfd
              obtain ⟨hfe1, hfe2⟩ : fi = (k : Int) ∧ fb = true := by
                rcases hfd with ⟨rfl, k2, rfl, hk2⟩ | ⟨_, _, hno⟩
                · rw [← idx_get HND.out HK.out, idx_get HND.out hk2]
                  exact ⟨rfl, rfl⟩
                · exact absurd (List.mem_of_getElem? HK.out) hno
              subst hfe1 hfe2
              have X6 := hidden (X5.out.later hb6)
              clear hfd hb6 X5
              go_wp2_with fail
              refine (X6.out.labels tT (k : Int)).mono ?_
              rintro e w7 ⟨hlab, hb7⟩
              obtain ⟨a7, c7, hle, hlo⟩ : ∃ a7 c7, e = .returned (.tuple #[.slice a7 f.length c7, .bool true]) ∧ w7.ownsRow w6.heap.size 75 2 (.slice a7 f.length c7) f.length (cLb f) := by
                have hat : atI (RS tT S tT) (k : Int) = some f := by
                  rw [rs_at]
                  unfold atI
                  rw [if_neg (by omega)]
                  exact HK.out
                rcases hlab with ⟨h1, _⟩ | ⟨l', v, h1, h2, h3⟩
                · rw [hat] at h1; cases h1
                · rw [hat] at h1
                  obtain rfl := Option.some.inj h1
                  obtain ⟨a7, c7, e7, _⟩ := owns_form2 h3
                  subst e7
                  exact ⟨a7, c7, h2, h3⟩
              subst hle
              have HLO7 := hidden (ls_of_owns (J.owns_rebase hlo (Nat.zero_le _)) (right_fits HRF.out).2.2).1
              have X7 := hidden (X6.out.later hb7)
              clear hlab hlo hb7 X6
              go_wp2_with fail
              refine (sameP w7 a7 ai c7 ci f HLO7.out (HFLW.out.later (HBW.out _ _ X7.out)) (by omega)).mono ?_
              rintro e w8 ⟨rfl, hb8⟩
              have X8 := hidden (X7.out.later hb8)
              clear hb8 X7 HLO7
              go_wp2_with fail
              refine ⟨⟨i + 1, n, S, by first | rfl | simp, by first | rfl | simp, by omega, by omega, hidden (HSN.out), X8⟩, ?_⟩
              simp [intOf]
              omega
            · have HM0 := hidden hm
              have e1 : addI S f = (n : Int) := by unfold addI; rw [if_pos hr, idx_not hm, HSN.out]
              have e2 : addB S f = true := by unfold addB; simp [hm, hr]
              have e3 : addS S f = S ++ [f] := by unfold addS; rw [if_pos ⟨hr, hm⟩]
              obtain ⟨k, hkn⟩ : ∃ k, n = k := ⟨_, rfl⟩
              have HK : Hid ((S ++ [f])[k]? = some f) := hidden (by rw [← hkn, ← HSN.out]; simp)
              have HND : Hid ((S ++ [f]).Nodup) := hidden (by rw [List.nodup_append]; exact ⟨HND0.out, by simp, fun a ha b hb e => by rw [List.mem_singleton.1 hb] at e; exact HM0.out (by rw [← e]; exact ha)⟩)
              rw [e1, e2, e3, hr, hkn] at HAD
              subst hkn
              clear hm e1 e2 e3 hr
              refine HAD.out.mono ?_
              rintro e w5 ⟨rfl, hx5⟩
              have X5 := hidden hx5
              clear hx5 HAD HX
              unfold L.errL
              simp only [cond_true]
              go_wp2_with (first
                | (go_at_call 20
                   refine (L.rightP B ai ci f _ (HFLW.out.later (HBW.out _ _ X5.out)) (by omega) (X5.out.tb HT3.out HCB.out)).mono ?_
                   rintro e w5r ⟨rfl, hb5⟩
                   rw [HRF.out]
                   unfold L.errL
                   simp only [cond_true]
                   replace X5 := hidden (X5.out.later hb5)
                   clear hb5))
              go_wp2_with fail
              refine (X5.out.find (X5.out.tb HT3.out HCB.out) tT ai ci f (HFLW.out.later (HBW.out _ _ X5.out)) HNO.out (by omega)).mono ?_
              rintro e w6 ⟨⟨fi, fb, hfd, rfl⟩, hb6⟩
              rw [rs_at] at hfd
              obtain ⟨hfe1, hfe2⟩ : fi = (n : Int) ∧ fb = true := by
                rcases hfd with ⟨rfl, k2, rfl, hk2⟩ | ⟨_, _, hno⟩
                · rw [← idx_get HND.out HK.out, idx_get HND.out hk2]
                  exact ⟨rfl, rfl⟩
                · exact absurd (List.mem_of_getElem? HK.out) hno
              subst hfe1 hfe2
              have X6 := hidden (X5.out.later hb6)
              clear hfd hb6 X5
              go_wp2_with fail
              refine (X6.out.labels tT (n : Int)).mono ?_
              rintro e w7 ⟨hlab, hb7⟩
              obtain ⟨a7, c7, hle, hlo⟩ : ∃ a7 c7, e = .returned (.tuple #[.slice a7 f.length c7, .bool true]) ∧ w7.ownsRow w6.heap.size 75 2 (.slice a7 f.length c7) f.length (cLb f) := by
                have hat : atI (RS tT (S ++ [f]) tT) (n : Int) = some f := by
                  rw [rs_at]
                  unfold atI
                  rw [if_neg (by omega)]
                  exact HK.out
                rcases hlab with ⟨h1, _⟩ | ⟨l', v, h1, h2, h3⟩
                · rw [hat] at h1; cases h1
                · rw [hat] at h1
                  obtain rfl := Option.some.inj h1
                  obtain ⟨a7, c7, e7, _⟩ := owns_form2 h3
                  subst e7
                  exact ⟨a7, c7, h2, h3⟩
              subst hle
              have HLO7 := hidden (ls_of_owns (J.owns_rebase hlo (Nat.zero_le _)) (right_fits HRF.out).2.2).1
              have X7 := hidden (X6.out.later hb7)
              clear hlab hlo hb7 X6
              go_wp2_with fail
              refine (sameP w7 a7 ai c7 ci f HLO7.out (HFLW.out.later (HBW.out _ _ X7.out)) (by omega)).mono ?_
              rintro e w8 ⟨rfl, hb8⟩
              have X8 := hidden (X7.out.later hb8)
              clear hb8 X7 HLO7
              go_wp2_with fail
              refine ⟨⟨i + 1, n + 1, (S ++ [f]), by first | rfl | simp, by first | rfl | simp, by omega, by omega, hidden (by rw [List.length_append, HSN.out]; rfl), X8⟩, ?_⟩
              simp [intOf]
              omega
          · have hr' : L.right f = false := by simpa using hr
            have HRF := hidden hr'
            have e1 : addI S f = 0 := by unfold addI; rw [if_neg hr]
            have e2 : addB S f = false := by unfold addB; simp [hr']
            have e3 : addS S f = S := by unfold addS; rw [if_neg (fun e => hr e.1)]
            rw [e1, e2, e3, hr'] at HAD
            clear e1 e2 e3 hr hr'
            refine HAD.out.mono ?_
            rintro e w5 ⟨rfl, hx5⟩
            have X5 := hidden hx5
            clear hx5 HAD HX
            unfold L.errL
            simp only [cond_false]
            go_wp2_with (first
              | (go_at_call 20
                 refine (L.rightP B ai ci f _ (HFLW.out.later (HBW.out _ _ X5.out)) (by omega) (X5.out.tb HT3.out HCB.out)).mono ?_
                 rintro e w5r ⟨rfl, hb5⟩
                 rw [HRF.out]
                 unfold L.errL
                 simp only [cond_false]
                 replace X5 := hidden (X5.out.later hb5)
                 clear hb5))
            refine ⟨⟨i + 1, n, S, by first | rfl | simp, by first | rfl | simp, by omega, by omega, HSN, X5⟩, ?_⟩
            simp [intOf]
            omega
        · have HLT := hidden hlt
          clear hlt
          by_cases h1 : i < nl
          · have hz1 : (i : Int) < (nl : Int) := by omega
            have hz2 : ¬ (i : Int) < 300 := fun e => HLT.out ⟨h1, by omega⟩
            go_wp2_with fail
            go_meet
            exact ⟨n, S, rfl, by omega, HSN, HX⟩
          · have hz1 : ¬ (i : Int) < (nl : Int) := by omega
            go_wp2_with fail
            go_meet
            exact ⟨n, S, rfl, by omega, HSN, HX⟩
  case rest =>
    rename World => wa
    obtain ⟨n, S, rfl, hn3, HSN, HX⟩ := hcut
    as_aux_lemma =>
      have HRI : Hid (∀ l ∈ S, L.right l = true) := hidden (by have := HX.out.ok.right tT; rw [rs_at] at this; exact this)
      clear HX3 HLS HNL HM HNM HFB HMO
      go_wp2_with fail
      have hse := HX.out.select (HX.out.tb HT3.out HCB.out) tT (by decide) s ms ⟨F, HX.out.str HS3.out HFN.out⟩ HOKM.out (by have := HSL.out; omega)
      rw [rs_at] at hse
      refine hse.mono ?_
      clear hse
      rintro e w9 ⟨a9, c9, rfl, ho9, hb9⟩
      have X9 := hidden (HX.out.later hb9)
      have HZ9 := hidden (zrs_of_owns ho9)
      have HIR := hidden (selF_ris S ms)
      have HIM : Hid (∀ i, i < n → (i ∈ selF S ms ↔ holdsL ms (S.getD i []) = true)) := hidden (fun i hi => sel_mem (by rw [HSN.out]; exact hi))
      have HIL : Hid (∀ z ∈ selF S ms, z < n) := hidden (fun z hz => by have := selF_lt hz; rw [HSN.out] at this; exact this)
      have hik := selF_len S ms
      rw [HSN.out] at hik
      obtain ⟨ids, hids⟩ : ∃ ids, selF S ms = ids := ⟨_, rfl⟩
      obtain ⟨K, hK⟩ : ∃ K, ids.length = K := ⟨_, rfl⟩
      rw [hids] at HZ9 HIR HIM HIL hik ⊢
      rw [hK] at hik ⊢
      have HIDS := hidden hids
      have HK := hidden hK
      clear ho9 hb9 HX hids hK
      go_wp2_with fail
      have hna := X9.out.names (X9.out.tb HT3.out HCB.out) tT (by decide) s ms ⟨F, X9.out.str HS3.out HFN.out⟩ HOKM.out (by have := HSL.out; omega)
      rw [rs_at, HIDS.out] at hna
      refine hna.mono ?_
      clear hna
      rintro e w10 ⟨ln, a10, c10, rfl, ho10, ha10, hm10, hb10⟩
      have X10 := hidden (X9.out.later hb10)
      have HZ10 := hidden (HZ9.out.later hb10)
      have HN10 := hidden (txs_of_owns ho10)
      have HNQ := hidden (And.intro ha10 hm10)
      clear ho10 ha10 hm10 hb10 X9 HZ9
      go_wp2_with fail
      have hva := X10.out.values (X10.out.tb HT3.out HCB.out) tT (by decide) s ms ⟨F, X10.out.str HS3.out HFN.out⟩ HOKM.out (by have := HSL.out; omega) of
      rw [rs_at, HIDS.out] at hva
      refine hva.mono ?_
      clear hva
      rintro e w11 ⟨lv, a11, c11, rfl, ho11, ha11, hm11, hb11⟩
      have X11 := hidden (X10.out.later hb11)
      have HZ11 := hidden (HZ10.out.later hb11)
      have HN11 := hidden (HN10.out.later hb11)
      have HV11 := hidden (txs_of_owns ho11)
      have HVQ := hidden (And.intro ha11 hm11)
      clear ho11 ha11 hm11 hb11 X10 HZ10 HN10
      obtain ⟨Kn, hKn⟩ : ∃ Kn, ln.length = Kn := ⟨_, rfl⟩
      obtain ⟨Kv, hKv⟩ : ∃ Kv, lv.length = Kv := ⟨_, rfl⟩
      rw [hKn, hKv]
      have HKN := hidden hKn
      have HKV := hidden hKv
      clear hKn hKv
      have HEV : Hid (∀ z ∈ ids, z < n) := HIL
      obtain ⟨i0, hi0, hz0, hz1, hz2⟩ := ix_info75
      go_upto_block 2 with fail
      go_cut [24, 25, 26, 27, 28, 29] from 155 to 188 (fun s24 s25 s26 s27 s28 s29 wx => ∃ (M cu : Nat) (au : Option Addr), s24 = .int .i64 (K : Int) ∧ s25 = .slice au M cu ∧ M ≤ 8000 ∧ Hid (wx.ownsRow w11.heap.size 75 2 (.slice au M cu) M (cLb (evF S ids))) ∧ Hid (Below w11.heap.size w11 wx))
      case first =>
        as_aux_lemma =>
          go_wp2_with fail
          go_loopw [24, 25, 26] (fun s24 s25 s26 wx => ∃ (i k M cu : Nat) (au : Option Addr), s24 = .int .i64 (k : Int) ∧ s25 = .slice au M cu ∧ s26 = .int .i64 (i : Int) ∧ i ≤ n ∧ k ≤ K ∧ M ≤ 8 * k ∧ Hid (LK ids k i) ∧ Hid (wx.ownsRow w11.heap.size 75 2 (.slice au M cu) M (cLb (evF S (ids.take k)))) ∧ Hid (Below w11.heap.size w11 wx)) (fun _ _ s26 _ => n - (intOf s26).toNat)
          case atStart => exact ⟨0, 0, 0, 0, none, rfl, rfl, rfl, by omega, by omega, by omega, hidden ⟨Nat.zero_le _, (by simp), fun z _ => Nat.zero_le z⟩, hidden (World.ownsRow_nil _ _ _ _), hidden (Below.refl _ _)⟩
          case round =>
            rename World => wx
            obtain ⟨i, k, M, cu, au, rfl, rfl, rfl, hin, hkK, hM8, HLK, HEO, HBX⟩ := hrel
            by_cases hlt : i < n
            · have hltz : (i : Int) < (n : Int) := by omega
              obtain ⟨l, hl⟩ : ∃ l, S[i]? = some l := ⟨S[i]'(by rw [HSN.out]; exact hlt), List.getElem?_eq_getElem _⟩
              have HRL := hidden (HRI.out l (List.mem_of_getElem? hl))
              have HL := hidden hl
              have HMEM : Hid (i ∈ ids ↔ holdsL ms l = true) := hidden (by have := HIM.out i hlt; rw [show S.getD i [] = l by simp [List.getD, hl]] at this; exact this)
              have XX := hidden (X11.out.later HBX.out)
              have hl8 : l.length ≤ 8 := (right_fits HRL.out).1
              have hl1 : 1 ≤ l.length := (right_fits HRL.out).2.1
              obtain ⟨m, hm⟩ : ∃ m, l.length = m := ⟨_, rfl⟩
              rw [hm] at hl8 hl1
              have HMM := hidden hm
              clear hl hm
              go_wp2_with fail
              refine (XX.out.labels tT (i : Int)).mono ?_
              rintro e w7 ⟨hlab, hb7⟩
              obtain ⟨a7, c7, hle, hlo⟩ : ∃ a7 c7, e = .returned (.tuple #[.slice a7 m c7, .bool true]) ∧ w7.ownsRow wx.heap.size 75 2 (.slice a7 m c7) m (cLb l) := by
                have hat : atI (RS tT S tT) (i : Int) = some l := by
                  rw [rs_at]
                  unfold atI
                  rw [if_neg (by omega)]
                  exact HL.out
                rcases hlab with ⟨h1, _⟩ | ⟨l', v, h1, h2, h3⟩
                · rw [hat] at h1; cases h1
                · rw [hat] at h1
                  obtain rfl := Option.some.inj h1
                  rw [HMM.out] at h3
                  obtain ⟨a7, c7, e7, _⟩ := owns_form2 h3
                  subst e7
                  exact ⟨a7, c7, h2, h3⟩
              subst hle
              have HLO := hidden hlo
              have HL7 : Hid (L.Ls w7 a7 l ∧ (a7 = none → l = [] ∧ c7 = 0)) := hidden (by
                have := HLO.out
                rw [← HMM.out] at this
                exact ls_of_owns (J.owns_rebase this (Nat.zero_le _)) (right_fits HRL.out).2.2)
              have X7 := hidden (XX.out.later hb7)
              have HE7 := hidden (owl HEO.out hb7)
              have HB7 : Hid (Below w11.heap.size w11 w7) := hidden (HBX.out.trans (hb7.mono HBX.out.size))
              have HZ7 : Hid (Zrs w7 a9 ids) := hidden (HZ11.out.later HB7.out)
              have HHO : Hid (∀ wy, XS w3 c1 wy 0 x eb rb (RS tT S) → L.Ls wy a7 l → Calls Tryz.prog 27 #[.pointer (some ⟨s, 0, none⟩), .slice a7 m c7] wy fun e w' => e = .returned (.bool (holdsL ms l)) ∧ Below wy.heap.size wy w') := hidden (fun wy hx hL => by
                have := holdsP F wy s ms (hx.str HS3.out HFN.out) (by have := HSL.out; omega) a7 c7 l hL (by rw [HMM.out]; omega) (fun y hy => by have := (fits_name ((right_fits HRL.out).2.2 y hy)).2.2.2; omega)
                rw [HMM.out] at this
                exact this)
              have HSZX : Hid (∀ g, (Value.slice au M cu).ownBlock = some g → g < wx.heap.size) := hidden (fun g hg => owns_lt HEO.out g hg)
              clear hlab hlo hb7 XX HEO HBX
              by_cases ht : i ∈ ids
              · obtain ⟨hk, hlk⟩ := HLK.out.told HIR.out ht
                have hkl : k < K := by have := (List.getElem?_eq_some_iff.1 hk).1; rw [HK.out] at this; exact this
                have hklz : (k : Int) < (K : Int) := by omega
                obtain ⟨zb, zo, rfl, hzb, hzc⟩ := HZ7.out k i hk
                have HT : Hid (holdsL ms l = true) := hidden (HMEM.out.1 ht)
                rw [HT.out] at HHO
                have HLK2 := hidden hlk
                have HEN : Hid (evF S (ids.take (k + 1)) = evF S (ids.take k) ++ l) := hidden (ev_next hk HL.out)
                obtain ⟨gx, rfl⟩ : ∃ gx, a7 = some gx := by
                  cases a7 with
                  | none => exfalso; have := (HL7.out.2 rfl).1; rw [this] at HMM; have := HMM.out; simp at this; omega
                  | some gx => exact ⟨gx, rfl⟩
                clear ht hk hlk hzb
                go_wp2_with (first
                  | (refine wpList_append_own _ rfl _ _ 36 rfl w11.heap.size 75 i0 (.agg #[.string em0, .string em0]) 2 32 Tryz.underlying36 hi0 hz0 hz1 hz2 rfl (by decide) (.slice au M cu) M (cLb (evF S (ids.take k))) rfl HE7.out gx m c7 (cLb l) rfl (by rw [cLb_len, HMM.out]) (ls_cells HL7.out.1) (cLb_one l) (by unfold maxLen; omega) (by omega) HB7.out.size ?_
                     intro v' w8 ho8 hg8 _
                     obtain ⟨a8, c8, rfl, _⟩ := owns_form2 ho8
                     have hc8 : Chg (fun i => (Value.slice au M cu).ownBlock = some i) w7 w8 := Chg.of_grown (F := fun i => (Value.slice au M cu).ownBlock = some i) hg8 (fun i hi => hi)
                     have HO8 := hidden ho8
                     have hb8 : Below w11.heap.size w7 w8 := hc8.below HB7.out.size (fun i hi => (HE7.out.lt i hi).1)
                     have HB8 : Hid (Below w11.heap.size w11 w8) := hidden (HB7.out.trans hb8)
                     have X8 : Hid (XS w3 c1 w8 0 x eb rb (RS tT S)) := hidden (X11.out.later HB8.out)
                     have HL8 : Hid (L.Ls w8 (some gx) l) := hidden (ls_chg HL7.out.1 hc8 (fun a ha e => by
                       have h1 := HSZX.out _ e
                       have h2 := (HLO.out.lt a.block (by
                         rcases HLO.out.2 with ⟨h3, _⟩ | ⟨g3, _, _, h3, _⟩
                         · cases h3
                         · simp only [Value.slice.injEq, Option.some.injEq] at h3
                           cases ha
                           rw [h3.1]
                           rfl)).1
                       omega))
                     clear ho8 hg8 hc8 hb8)
                  | (go_at_call 27
                     refine (HHO.out w8 X8.out HL8.out).mono ?_
                     rintro e w9' ⟨rfl, hb9⟩
                     have HB9 := hidden hb9
                     clear hb9))
                refine ⟨⟨i + 1, k + 1, M + m, c8, a8, by first | rfl | simp, by first | rfl | simp, by first | rfl | simp, by omega, by omega, by omega, HLK2, hidden ?_, hidden (HB8.out.trans (HB9.out.mono HB8.out.size))⟩, ?_⟩
                · rw [HEN.out]
                  have := owl HO8.out HB9.out
                  rw [show cLb (evF S (ids.take k)) ++ cLb l = cLb (evF S (ids.take k) ++ l) by unfold cLb; rw [List.flatMap_append]] at this
                  exact this
                · simp [intOf]
                  omega
              · obtain ⟨hlk, hne⟩ := HLK.out.not ht
                have HT : Hid (holdsL ms l = false) := hidden (by cases hh : holdsL ms l with
                  | false => rfl
                  | true => exact absurd (HMEM.out.2 hh) ht)
                rw [HT.out] at HHO
                have HLK2 := hidden hlk
                clear ht hlk
                by_cases hkl : k < K
                · have hklz : (k : Int) < (K : Int) := by omega
                  obtain ⟨z, hz⟩ : ∃ z, ids[k]? = some z := ⟨ids[k]'(by rw [HK.out]; exact hkl), List.getElem?_eq_getElem _⟩
                  obtain ⟨zb, zo, rfl, hzb, hzc⟩ := HZ7.out k z hz
                  have hzi : ((z : Int) == (i : Int)) = false := by have := hne z hz; simp; omega
                  clear hz hzb hne
                  go_wp2_with (first
                    | (go_at_call 27
                       refine (HHO.out w7 X7.out HL7.out.1).mono ?_
                       rintro e w9' ⟨rfl, hb9⟩
                       have HB9 := hidden hb9
                       clear hb9))
                  refine ⟨⟨i + 1, k, M, cu, au, by first | rfl | simp, by first | rfl | simp, by first | rfl | simp, by omega, by omega, by omega, HLK2, hidden (owl HE7.out HB9.out), hidden (HB7.out.trans (HB9.out.mono HB7.out.size))⟩, ?_⟩
                  simp [intOf]
                  omega
                · have hklz : ¬ (k : Int) < (K : Int) := by omega
                  clear hne
                  go_wp2_with (first
                    | (go_at_call 27
                       refine (HHO.out w7 X7.out HL7.out.1).mono ?_
                       rintro e w9' ⟨rfl, hb9⟩
                       have HB9 := hidden hb9
                       clear hb9))
                  refine ⟨⟨i + 1, k, M, cu, au, by first | rfl | simp, by first | rfl | simp, by first | rfl | simp, by omega, by omega, by omega, HLK2, hidden (owl HE7.out HB9.out), hidden (HB7.out.trans (HB9.out.mono HB7.out.size))⟩, ?_⟩
                  simp [intOf]
                  omega
            · have hltz : ¬ (i : Int) < (n : Int) := by omega
              have hin2 : i = n := by omega
              have hkk : k = K := by
                have h1 := HLK.out
                rw [hin2] at h1
                rw [← HK.out]
                exact h1.last (fun z hz => HIL.out z hz)
              subst hkk
              go_wp2_with fail
              go_meet
              refine ⟨M, cu, au, rfl, rfl, by omega, hidden ?_, HBX⟩
              have := HEO.out
              rw [List.take_of_length_le (by rw [HK.out]; exact Nat.le_refl _)] at this
              exact this
      case rest =>
        rename World => wb
        obtain ⟨M, cu, au, rfl, rfl, hM8, HEO, HBX⟩ := hcut
        as_aux_lemma =>
          have hME : (evF S ids).length = M := by have := HEO.out.1; rw [cLb_len] at this; omega
          have HME := hidden hME
          have HEF : Hid (∀ y ∈ evF S ids, y.fits = true ∧ y.n ∈ ln ∧ (y.n = of → y.v ∈ lv)) := hidden (fun y hy => by
            obtain ⟨z, hz, hyz⟩ := ev_mem.1 hy
            have hzn := HIL.out z hz
            rw [← HSN.out] at hzn
            have hzl : S.getD z [] = S[z] := by simp [List.getD, List.getElem?_eq_getElem hzn]
            refine ⟨(right_fits (HRI.out S[z] (List.getElem_mem hzn))).2.2 y (by rw [← hzl]; exact hyz), (HNQ.out.2 _).2 ⟨z, hz, y, hyz, rfl⟩, fun e => (HVQ.out.2 _).2 ⟨z, hz, by rw [← e]; exact hyz⟩⟩)
          have HNE : Hid (∀ nn ∈ ln, ∃ y ∈ evF S ids, y.n = nn) := hidden (fun nn hn => by
            obtain ⟨z, hz, y, hy, e⟩ := (HNQ.out.2 nn).1 hn
            exact ⟨y, ev_mem.2 ⟨z, hz, hy⟩, e⟩)
          have HVE : Hid (∀ v ∈ lv, (⟨of, v⟩ : L.Lb) ∈ evF S ids) := hidden (fun v hv => by
            obtain ⟨z, hz, hy⟩ := (HVQ.out.2 v).1 hv
            exact ev_mem.2 ⟨z, hz, hy⟩)
          have hnd : ∀ l : List ByteArray, Asc l → l.Nodup := fun l h => h.imp (fun {a b} h e => by rw [e, L.lss_irr] at h; cases h)
          have hkn9 : Kn ≤ 8000 := by
            have h1 := nodup_len ln ((evF S ids).map (·.n)) (hnd ln HNQ.out.1) (fun nn hn => by obtain ⟨y, hy, e⟩ := HNE.out nn hn; exact List.mem_map.2 ⟨y, hy, e⟩)
            rw [List.length_map, hME, HKN.out] at h1
            omega
          have hkv9 : Kv ≤ 8000 := by
            have h1 := nodup_len lv ((evF S ids).map (·.v)) (hnd lv HVQ.out.1) (fun v hv => List.mem_map.2 ⟨_, HVE.out v hv, rfl⟩)
            rw [List.length_map, hME, HKV.out] at h1
            omega
          have HASC := hidden (And.intro HNQ.out.1 HVQ.out.1)
          have HLE : Hid (L.Ls wb au (evF S ids)) := hidden (by
            have := HEO.out
            rw [← hME] at this
            exact (ls_of_owns (J.owns_rebase this (Nat.zero_le _)) (fun y hy => (HEF.out y hy).1)).1)
          have HNB : Hid (Txs wb a10 ln) := hidden (HN11.out.later HBX.out)
          have HVB : Hid (Txs wb a11 lv) := hidden (HV11.out.later HBX.out)
          have XB : Hid (XS w3 c1 wb 0 x eb rb (RS tT S)) := hidden (X11.out.later HBX.out)
          have HBW2 : Hid (Below w.heap.size w wb) := hidden (HBW.out wb S XB.out)
          generalize evF S ids = E at *
          clear hME hnd HN11 HV11 X11 HBX HEO HZ11 HIM HIL HEV HIR HNQ HVQ hi0 hz0 hz1 hz2
          go_upto_block 4 with fail
          go_cut [30, 31, 32] from 189 to 223 (fun s30 s31 s32 wx => Hid (Below wb.heap.size wb wx))
          case first =>
            as_aux_lemma =>
              go_wp2_with fail
              go_loopw [30] (fun s30 wx => ∃ i : Nat, s30 = .int .i64 (i : Int) ∧ i ≤ M ∧ Hid (Below wb.heap.size wb wx)) (fun s30 _ => M - (intOf s30).toNat)
              case atStart => exact ⟨0, rfl, by omega, hidden (Below.refl _ _)⟩
              case round =>
                rename World => wx
                obtain ⟨i, rfl, hin, HBX⟩ := hrel
                by_cases hlt : i < M
                · have hltz : (i : Int) < (M : Int) := by omega
                  obtain ⟨b1, o1, y, rfl, hb1, hy, hy', k0, k1, z0, z1⟩ := (HLE.out.later HBX.out).get (i := i) (by rw [HME.out]; exact hlt)
                  obtain ⟨hfy, hyn, hyv⟩ := HEF.out y (List.mem_of_getElem? hy)
                  have HYN := hidden hyn
                  have HYV := hidden hyv
                  have HB1 := hidden hb1
                  clear hy hy' hfy hyn hyv hb1
                  go_wp2_with fail
                  have hh1 := hasP wx a10 c10 ln y.n (HNB.out.later HBX.out) (by rw [HKN.out]; omega)
                  rw [HKN.out] at hh1
                  refine hh1.mono ?_
                  clear hh1
                  rintro e w7 ⟨⟨q1, rfl, hq1⟩, hb7⟩
                  obtain rfl : q1 = true := hq1.2 HYN.out
                  have j1 : w7.cell? ⟨b1, o1 + i * 2 + 1, none⟩ = some (.string y.v) := by rw [hb7.cell (p := ⟨b1, o1 + i * 2 + 1, none⟩) HB1.out]; exact k1
                  have j0 : w7.cell? ⟨b1, o1 + i * 2, none⟩ = some (.string y.n) := by rw [hb7.cell (p := ⟨b1, o1 + i * 2, none⟩) HB1.out]; exact k0
                  have HB7 : Hid (Below wb.heap.size wb w7) := hidden (HBX.out.trans (hb7.mono HBX.out.size))
                  have HL7 := hidden (Nat.lt_of_lt_of_le HB1.out hb7.size)
                  clear hq1 hb7 k0 k1
                  go_wp2_with fail
                  have hh2 := hasP w7 a11 c11 lv y.v (HVB.out.later HB7.out) (by rw [HKV.out]; omega)
                  rw [HKV.out] at hh2
                  refine hh2.mono ?_
                  clear hh2
                  rintro e w8 ⟨⟨q2, rfl, hq2⟩, hb8⟩
                  have g0 : w8.cell? ⟨b1, o1 + i * 2, none⟩ = some (.string y.n) := by rw [hb8.cell (p := ⟨b1, o1 + i * 2, none⟩) HL7.out]; exact j0
                  have HB8 : Hid (Below wb.heap.size wb w8) := hidden (HB7.out.trans (hb8.mono HB7.out.size))
                  have heq := str_eqT (a := y.n) (b := of)
                  have HQ2 := hidden hq2
                  clear hb8 j0 j1 hq2
                  by_cases hof : y.n = of
                  · rw [decide_eq_true hof] at heq
                    obtain rfl : q2 = true := HQ2.out.2 (HYV.out hof)
                    clear hof
                    go_wp2_with fail
                    refine ⟨⟨i + 1, by first | rfl | simp, by omega, HB8⟩, ?_⟩
                    simp [intOf]
                    omega
                  · rw [decide_eq_false hof] at heq
                    clear hof
                    go_wp2_with fail
                    refine ⟨⟨i + 1, by first | rfl | simp, by omega, HB8⟩, ?_⟩
                    simp [intOf]
                    omega
                · have hltz : ¬ (i : Int) < (M : Int) := by omega
                  go_wp2_with fail
                  go_meet
                  exact HBX
          case rest =>
            rename World => wd
            have HBD := hcut
            clear hcut
            as_aux_lemma =>
              have HLD : Hid (L.Ls wd au E) := hidden (HLE.out.later HBD.out)
              have HND : Hid (Txs wd a10 ln) := hidden (HNB.out.later HBD.out)
              have HVD : Hid (Txs wd a11 lv) := hidden (HVB.out.later HBD.out)
              have XD : Hid (XS w3 c1 wd 0 x eb rb (RS tT S)) := hidden (XB.out.later HBD.out)
              have HBW3 : Hid (Below w.heap.size w wd) := hidden (HBW.out wd S XD.out)
              clear HLE HNB HVB XB HBW2 HBD HEF
              go_upto_block 6 with fail
              go_cut [33, 34, 35] from 224 to 266 (fun s33 s34 s35 wx => Hid (Below wd.heap.size wd wx))
              case first =>
                as_aux_lemma =>
                  go_wp2_with fail
                  go_loopw [33] (fun s33 wx => ∃ i : Nat, s33 = .int .i64 (i : Int) ∧ i ≤ Kn ∧ Hid (Below wd.heap.size wd wx)) (fun s33 _ => Kn - (intOf s33).toNat)
                  case atStart => exact ⟨0, rfl, by omega, hidden (Below.refl _ _)⟩
                  case round =>
                    rename World => wx
                    obtain ⟨i, rfl, hin, HBX⟩ := hrel
                    by_cases hlt : i < Kn
                    · have hltz : (i : Int) < (Kn : Int) := by omega
                      obtain ⟨nn, hnn⟩ : ∃ nn, ln[i]? = some nn := ⟨ln[i]'(by rw [HKN.out]; exact hlt), List.getElem?_eq_getElem _⟩
                      obtain ⟨nb, no, rfl, hnb, hnc⟩ := HND.out i nn hnn
                      have HNN := hidden hnn
                      have HEX := hidden (HNE.out nn (List.mem_of_getElem? hnn))
                      have HNC := hidden (And.intro hnb hnc)
                      clear hnn hnb hnc
                      go_wp2_with fail
                      go_loopw [34, 35] (fun s34 s35 wy => ∃ (j : Nat) (fl : Bool), s34 = .bool fl ∧ s35 = .int .i64 (j : Int) ∧ j ≤ M ∧ Hid (fl = true ↔ ∃ y ∈ E.take j, y.n = nn) ∧ Hid (Below wd.heap.size wd wy)) (fun _ s35 _ => M - (intOf s35).toNat)
                      case atStart => exact ⟨0, false, rfl, rfl, by omega, hidden (by simp), HBX⟩
                      case round =>
                        rename World => wy
                        obtain ⟨j, fl, rfl, rfl, hjm, HFL, HBY⟩ := hrel
                        by_cases hjt : j < M
                        · have hjtz : (j : Int) < (M : Int) := by omega
                          obtain ⟨b1, o1, y, rfl, hb1, hy, hy', k0, k1, z0, z1⟩ := (HLD.out.later HBY.out).get (i := j) (by rw [HME.out]; exact hjt)
                          have hcn : wy.cell? ⟨nb, no + i, none⟩ = some (.string nn) := by rw [HBY.out.cell (p := ⟨nb, no + i, none⟩) HNC.out.1]; exact HNC.out.2
                          have heq := str_eqT (a := y.n) (b := nn)
                          have HTK : Hid (E.take (j + 1) = E.take j ++ [y]) := hidden (by rw [List.take_add_one, hy]; rfl)
                          clear hb1 hy hy' k1
                          by_cases hfl : fl = true
                          · subst hfl
                            clear k0 hcn heq
                            go_wp2_with fail
                            go_quiet (fail)
                            go_wp2_with fail
                            refine ⟨⟨j + 1, true, by first | rfl | simp, by first | rfl | simp, by omega, hidden ?_, hidden (below_drewN HBY.out _)⟩, ?_⟩
                            · rw [HTK.out]
                              exact ⟨fun _ => by obtain ⟨y', h1, h2⟩ := HFL.out.1 (by simp); exact ⟨y', List.mem_append_left _ h1, h2⟩, fun _ => (by simp)⟩
                            · simp [intOf]
                              omega
                          · obtain rfl : fl = false := by simpa using hfl
                            have hno : ∀ y' ∈ E.take j, ¬ y'.n = nn := fun y' h1 h2 => absurd (HFL.out.2 ⟨y', h1, h2⟩) (by simp)
                            have HNO2 := hidden hno
                            clear hno hfl
                            by_cases hye : y.n = nn
                            · rw [decide_eq_true hye] at heq
                              have HYE := hidden hye
                              clear hye
                              go_wp2_with fail
                              go_quiet (fail)
                              go_wp2_with fail
                              refine ⟨⟨j + 1, true, by first | rfl | simp, by first | rfl | simp, by omega, hidden ?_, hidden (below_drewN HBY.out _)⟩, ?_⟩
                              · rw [HTK.out]
                                exact ⟨fun _ => ⟨y, List.mem_append_right _ (by simp), HYE.out⟩, fun _ => (by simp)⟩
                              · simp [intOf]
                                omega
                            · rw [decide_eq_false hye] at heq
                              have HYE := hidden hye
                              clear hye
                              go_wp2_with fail
                              go_quiet (fail)
                              go_wp2_with fail
                              refine ⟨⟨j + 1, false, by first | rfl | simp, by first | rfl | simp, by omega, hidden ?_, hidden (below_drewN HBY.out _)⟩, ?_⟩
                              · rw [HTK.out]
                                exact ⟨fun e => (by cases e), fun ⟨y', h1, h2⟩ => by
                                  rcases List.mem_append.1 h1 with h1 | h1
                                  · exact absurd h2 (HNO2.out y' h1)
                                  · simp at h1
                                    rw [h1] at h2
                                    exact absurd h2 HYE.out⟩
                              · simp [intOf]
                                omega
                        · have hjtz : ¬ (j : Int) < (M : Int) := by omega
                          obtain rfl : fl = true := HFL.out.2 (by
                            obtain ⟨y, h1, h2⟩ := HEX.out
                            exact ⟨y, by rw [List.take_of_length_le (by rw [HME.out]; omega)]; exact h1, h2⟩)
                          have HBYY := hidden HBY.out
                          clear HFL HBX HBY
                          by_cases hi0' : i = 0
                          · have HI0 := hidden hi0'
                            have hgt : decide (0 < i) = false := decide_eq_false (by omega)
                            clear hi0'
                            go_wp2_with fail
                            go_quiet (fail)
                            go_wp2_with fail
                            refine ⟨⟨i + 1, by first | rfl | simp, by omega, hidden (below_drewN HBYY.out _)⟩, ?_⟩
                            simp [intOf]
                            omega
                          · have hgt : 0 < i := by omega
                            obtain ⟨q, hq⟩ : ∃ q, i = q + 1 := ⟨i - 1, by omega⟩
                            have hsub : IntKind.i64.wrap ((i : Int) - 1) = (q : Int) := by simp [IntKind.wrap, IntKind.signed, IntKind.bits]; omega
                            have hql : (q : Int) < (Kn : Int) := by omega
                            have hq0 : (0 : Int) ≤ (q : Int) := by omega
                            obtain ⟨np, hnp⟩ : ∃ np, ln[q]? = some np := ⟨ln[q]'(by rw [HKN.out]; omega), List.getElem?_eq_getElem _⟩
                            obtain ⟨nb2, no2, e2, hnb2, hnc2⟩ := HND.out q np hnp
                            cases e2
                            have hc1 : wy.cell? ⟨nb, no + q, none⟩ = some (.string np) := by rw [HBYY.out.cell (p := ⟨nb, no + q, none⟩) hnb2]; exact hnc2
                            have hc2 : wy.cell? ⟨nb, no + i, none⟩ = some (.string nn) := by rw [HBYY.out.cell (p := ⟨nb, no + i, none⟩) HNC.out.1]; exact HNC.out.2
                            have hlss : L.lss (L.bts np) (L.bts nn) = true := by
                              have h1 := HASC.out.1
                              unfold Asc at h1
                              rw [List.pairwise_iff_getElem] at h1
                              have h2 := HNN.out
                              obtain ⟨u1, u2⟩ := List.getElem?_eq_some_iff.1 hnp
                              obtain ⟨v1, v2⟩ := List.getElem?_eq_some_iff.1 h2
                              have := h1 q i u1 v1 (by omega)
                              rw [u2, v2] at this
                              exact this
                            have hbl : Op.bytesLess np.toList nn.toList = true := by
                              rw [L.bytesLess_lss, ByteArray.toList_eq, ByteArray.toList_eq]
                              exact hlss
                            clear hi0' hq hnp hnb2 hnc2 hlss
                            go_wp2_with fail
                            go_quiet (fail)
                            go_wp2_with fail
                            refine ⟨⟨i + 1, by first | rfl | simp, by omega, hidden (below_drewN HBYY.out _)⟩, ?_⟩
                            simp [intOf]
                            omega
                    · have hltz : ¬ (i : Int) < (Kn : Int) := by omega
                      go_wp2_with fail
                      go_meet
                      exact HBX
              case rest =>
                rename World => wf
                have HBF := hcut
                clear hcut
                as_aux_lemma =>
                  have HLF : Hid (L.Ls wf au E) := hidden (HLD.out.later HBF.out)
                  have HVF : Hid (Txs wf a11 lv) := hidden (HVD.out.later HBF.out)
                  have XF : Hid (XS w3 c1 wf 0 x eb rb (RS tT S)) := hidden (XD.out.later HBF.out)
                  have HBW4 : Hid (Below w.heap.size w wf) := hidden (HBW.out wf S XF.out)
                  clear HLD HND HVD XD HBW3 HBF HNE
                  go_upto_block 10 with fail
                  go_cut [36, 37, 38] from 267 to 310 (fun s36 s37 s38 wx => Hid (Below wf.heap.size wf wx))
                  case first =>
                    as_aux_lemma =>
                      go_wp2_with fail
                      go_loopw [36] (fun s36 wx => ∃ i : Nat, s36 = .int .i64 (i : Int) ∧ i ≤ Kv ∧ Hid (Below wf.heap.size wf wx)) (fun s36 _ => Kv - (intOf s36).toNat)
                      case atStart => exact ⟨0, rfl, by omega, hidden (Below.refl _ _)⟩
                      case round =>
                        rename World => wx
                        obtain ⟨i, rfl, hin, HBX⟩ := hrel
                        by_cases hlt : i < Kv
                        · have hltz : (i : Int) < (Kv : Int) := by omega
                          obtain ⟨nn, hnn⟩ : ∃ nn, lv[i]? = some nn := ⟨lv[i]'(by rw [HKV.out]; exact hlt), List.getElem?_eq_getElem _⟩
                          obtain ⟨nb, no, rfl, hnb, hnc⟩ := HVF.out i nn hnn
                          have HNN := hidden hnn
                          have HEX := hidden (HVE.out nn (List.mem_of_getElem? hnn))
                          have HNC := hidden (And.intro hnb hnc)
                          clear hnn hnb hnc
                          go_wp2_with fail
                          go_loopw [37, 38] (fun s37 s38 wy => ∃ (j : Nat) (fl : Bool), s37 = .bool fl ∧ s38 = .int .i64 (j : Int) ∧ j ≤ M ∧ Hid (fl = true ↔ (⟨of, nn⟩ : L.Lb) ∈ E.take j) ∧ Hid (Below wf.heap.size wf wy)) (fun _ s38 _ => M - (intOf s38).toNat)
                          case atStart => exact ⟨0, false, rfl, rfl, by omega, hidden (by simp), HBX⟩
                          case round =>
                            rename World => wy
                            obtain ⟨j, fl, rfl, rfl, hjm, HFL, HBY⟩ := hrel
                            by_cases hjt : j < M
                            · have hjtz : (j : Int) < (M : Int) := by omega
                              obtain ⟨b1, o1, y, rfl, hb1, hy, hy', k0, k1, z0, z1⟩ := (HLF.out.later HBY.out).get (i := j) (by rw [HME.out]; exact hjt)
                              have hcn : wy.cell? ⟨nb, no + i, none⟩ = some (.string nn) := by rw [HBY.out.cell (p := ⟨nb, no + i, none⟩) HNC.out.1]; exact HNC.out.2
                              have heq := str_eqT (a := y.n) (b := of)
                              have heq2 := str_eqT (a := y.v) (b := nn)
                              have HTK : Hid (E.take (j + 1) = E.take j ++ [y]) := hidden (by rw [List.take_add_one, hy]; rfl)
                              clear hb1 hy hy'
                              by_cases hfl : fl = true
                              · subst hfl
                                clear k0 k1 hcn heq heq2
                                go_wp2_with fail
                                go_quiet (fail)
                                go_wp2_with fail
                                refine ⟨⟨j + 1, true, by first | rfl | simp, by first | rfl | simp, by omega, hidden ?_, hidden (below_drewN HBY.out _)⟩, ?_⟩
                                · rw [HTK.out]
                                  exact ⟨fun _ => List.mem_append_left _ (HFL.out.1 (by simp)), fun _ => (by simp)⟩
                                · simp [intOf]
                                  omega
                              · obtain rfl : fl = false := by simpa using hfl
                                have hno : ¬ (⟨of, nn⟩ : L.Lb) ∈ E.take j := fun h1 => absurd (HFL.out.2 h1) (by simp)
                                have HNO2 := hidden hno
                                clear hno hfl
                                by_cases hye : y.n = of
                                · rw [decide_eq_true hye] at heq
                                  have HYE := hidden hye
                                  clear hye
                                  by_cases hyv : y.v = nn
                                  · rw [decide_eq_true hyv] at heq2
                                    have HYV := hidden hyv
                                    clear hyv
                                    go_wp2_with fail
                                    go_quiet (fail)
                                    go_wp2_with fail
                                    refine ⟨⟨j + 1, true, by first | rfl | simp, by first | rfl | simp, by omega, hidden ?_, hidden (below_drewN HBY.out _)⟩, ?_⟩
                                    · rw [HTK.out]
                                      exact ⟨fun _ => List.mem_append_right _ (by rw [← HYE.out, ← HYV.out]; simp), fun _ => (by simp)⟩
                                    · simp [intOf]
                                      omega
                                  · rw [decide_eq_false hyv] at heq2
                                    have HYV := hidden hyv
                                    clear hyv
                                    go_wp2_with fail
                                    go_quiet (fail)
                                    go_wp2_with fail
                                    refine ⟨⟨j + 1, false, by first | rfl | simp, by first | rfl | simp, by omega, hidden ?_, hidden (below_drewN HBY.out _)⟩, ?_⟩
                                    · rw [HTK.out]
                                      exact ⟨fun e => (by cases e), fun h1 => by
                                        rcases List.mem_append.1 h1 with h1 | h1
                                        · exact absurd h1 HNO2.out
                                        · exact absurd (by rw [← List.mem_singleton.1 h1]) HYV.out⟩
                                    · simp [intOf]
                                      omega
                                · rw [decide_eq_false hye] at heq
                                  have HYE := hidden hye
                                  clear hye
                                  go_wp2_with fail
                                  go_quiet (fail)
                                  go_wp2_with fail
                                  refine ⟨⟨j + 1, false, by first | rfl | simp, by first | rfl | simp, by omega, hidden ?_, hidden (below_drewN HBY.out _)⟩, ?_⟩
                                  · rw [HTK.out]
                                    exact ⟨fun e => (by cases e), fun h1 => by
                                      rcases List.mem_append.1 h1 with h1 | h1
                                      · exact absurd h1 HNO2.out
                                      · exact absurd (by rw [← List.mem_singleton.1 h1]) HYE.out⟩
                                  · simp [intOf]
                                    omega
                            · have hjtz : ¬ (j : Int) < (M : Int) := by omega
                              obtain rfl : fl = true := HFL.out.2 (by rw [List.take_of_length_le (by rw [HME.out]; omega)]; exact HEX.out)
                              have HBYY := hidden HBY.out
                              clear HFL HBX HBY
                              by_cases hi0' : i = 0
                              · have HI0 := hidden hi0'
                                have hgt : decide (0 < i) = false := decide_eq_false (by omega)
                                clear hi0'
                                go_wp2_with fail
                                go_quiet (fail)
                                go_wp2_with fail
                                refine ⟨⟨i + 1, by first | rfl | simp, by omega, hidden (below_drewN HBYY.out _)⟩, ?_⟩
                                simp [intOf]
                                omega
                              · have hgt : 0 < i := by omega
                                obtain ⟨q, hq⟩ : ∃ q, i = q + 1 := ⟨i - 1, by omega⟩
                                have hsub : IntKind.i64.wrap ((i : Int) - 1) = (q : Int) := by simp [IntKind.wrap, IntKind.signed, IntKind.bits]; omega
                                have hql : (q : Int) < (Kv : Int) := by omega
                                have hq0 : (0 : Int) ≤ (q : Int) := by omega
                                obtain ⟨np, hnp⟩ : ∃ np, lv[q]? = some np := ⟨lv[q]'(by rw [HKV.out]; omega), List.getElem?_eq_getElem _⟩
                                obtain ⟨nb2, no2, e2, hnb2, hnc2⟩ := HVF.out q np hnp
                                cases e2
                                have hc1 : wy.cell? ⟨nb, no + q, none⟩ = some (.string np) := by rw [HBYY.out.cell (p := ⟨nb, no + q, none⟩) hnb2]; exact hnc2
                                have hc2 : wy.cell? ⟨nb, no + i, none⟩ = some (.string nn) := by rw [HBYY.out.cell (p := ⟨nb, no + i, none⟩) HNC.out.1]; exact HNC.out.2
                                have hlss : L.lss (L.bts np) (L.bts nn) = true := by
                                  have h1 := HASC.out.2
                                  unfold Asc at h1
                                  rw [List.pairwise_iff_getElem] at h1
                                  have h2 := HNN.out
                                  obtain ⟨u1, u2⟩ := List.getElem?_eq_some_iff.1 hnp
                                  obtain ⟨v1, v2⟩ := List.getElem?_eq_some_iff.1 h2
                                  have := h1 q i u1 v1 (by omega)
                                  rw [u2, v2] at this
                                  exact this
                                have hbl : Op.bytesLess np.toList nn.toList = true := by
                                  rw [L.bytesLess_lss, ByteArray.toList_eq, ByteArray.toList_eq]
                                  exact hlss
                                clear hi0' hq hnp hnb2 hnc2 hlss
                                go_wp2_with fail
                                go_quiet (fail)
                                go_wp2_with fail
                                refine ⟨⟨i + 1, by first | rfl | simp, by omega, hidden (below_drewN HBYY.out _)⟩, ?_⟩
                                simp [intOf]
                                omega
                        · have hltz : ¬ (i : Int) < (Kv : Int) := by omega
                          go_wp2_with fail
                          go_meet
                          exact HBX
                  case rest =>
                    rename World => wg
                    have HBG := hcut
                    clear hcut
                    as_aux_lemma =>
                      have XG : Hid (XS w3 c1 wg 0 x eb rb (RS tT S)) := hidden (XF.out.later HBG.out)
                      go_wp2_with (first
                        | (go_at_call 19
                           have hle := XG.out.len tT
                           rw [rs_at, HSN.out] at hle
                           refine hle.mono ?_
                           rintro e wh ⟨rfl, hbh⟩
                           have HBH := hidden hbh
                           clear hle hbh))
                      go_ret
                      exact ⟨by rfl, (HBW4.out.trans (HBG.out.mono HBW4.out.size)).trans (HBH.out.mono (Nat.le_trans HBW4.out.size HBG.out.size))⟩
end Go.Proofs.YtgmdpbahcbhfjaaGreatDoor.X
