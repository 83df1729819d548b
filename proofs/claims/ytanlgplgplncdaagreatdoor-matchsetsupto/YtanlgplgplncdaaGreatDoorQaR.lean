import Derived.Test.YtanlgplgplncdaaGreatDoorQaP
/-
  The document's Match: ends of a repetition; Match.
-/
namespace Go.Proofs.YtanlgplgplncdaaGreatDoor
open Go.RowKit
set_option linter.unusedVariables false
set_option linter.unusedSimpArgs false

set_option maxRecDepth 100000 in
set_option maxHeartbeats 0 in
theorem ends_rep (a : Pt) (s : Nat) (hs : s = 42 ∨ s = 43 ∨ s = 63) (hE : EnC a) : EnC (.rep a s) := by
  intro F w u va fa vc fc t fb n hN hA
  obtain ⟨i0, hi0, hz0, hz1, hz2⟩ := info_parts info4
  have HI := hidden hi0
  simp only [NdV] at hN
  obtain ⟨b, off, c, u', rfl, h1, h2, h3⟩ := hN
  have hn9 := hA.nl
  obtain ⟨w1, hw1, hB1, hb1, hs1⟩ := box70 w (nV 5 0 false s sN (.slice (some ⟨b, off, none⟩) 1 c))
  have x0 : w1.cell? ⟨w.heap.size, 0, none⟩ = some (.int .i64 5) := hB1.cell 0
  have HB1 := hidden hb1
  have BB := hidden hB1
  have HA := hidden hA
  have HCS := hidden h2
  have HSH := hidden h3.sh
  have HK : Hid (∀ wx (ba : Option Addr) (bc : Nat) (bb : List Bool), Below w.heap.size w wx → BlV wx ba bb → bb.length = n + 1 → Calls Tryz.prog 63 #[.agg (List.toArray u'), .slice va n vc, .slice ba (n + 1) bc] wx (EnR a.has t bb n wx)) := hidden (fun wx ba bc bb hb hbl hbb => hE F wx u' va ba vc bc t bb n (NdV.keep (Chg.of_below (F := fun _ => False) hb) (fun _ _ h => h) a u' h3) ⟨(hA.later hb).cp, hbl, hA.tl, hbb, hA.nl, hA.vc⟩)
  have HHAS : Hid (∀ v, (Pt.rep a s).has v ↔ (s ≠ 43 ∧ v = []) ∨ (s = 63 ∧ a.has v) ∨ (s ≠ 63 ∧ Plus a.has v)) := hidden (fun v => by simp only [Pt.has])
  obtain ⟨L, hL⟩ : ∃ L, (Pt.rep a s).has = L := ⟨_, rfl⟩
  rw [hL] at HHAS ⊢
  simp only [nV, sN] at hw1 ⊢
  have HW1 := hidden hw1
  clear hA hw1 hB1 hb1 hs1 hi0 h1 h2 h3 hE hL
  unfold EnR at HK
  obtain ⟨SZ, hSZ⟩ : ∃ SZ : Int, (s : Int) = SZ := ⟨_, rfl⟩
  have HSZ := hidden hSZ
  rw [hSZ] at HW1 ⊢
  go_enter Tryz.func63, Tryz.ntmps63
  go_upto_region 1 with fail
  rw [show (w.alloc (.cells #[.int .i64 5, .int .i32 0, .bool false, .int .u8 SZ, .slice none 0 0, .slice (some ⟨b, off, none⟩) 1 c] 123)) = w1 from HW1.out]
  clear HW1
  go_upto_region 26 with (first
    | (refine wpList_make_room _ rfl (.tmp 17) (.tmp 17) 128 rfl 4 i0 (.bool false) Tryz.underlying128 HI.out hz0 hz1 hz2 rfl .i64 .i64 ((n + 1 : Nat) : Int) ((n + 1 : Nat) : Int) (n + 1) (n + 1) rfl rfl rfl rfl (Nat.le_refl _) (by omega) ?_; intro w2 hB2 hs2 hb2; have HB2 := hidden (HB1.out.trans (hb2.mono HB1.out.size)); have BB2 := hidden (BB.out.later hb2); have y0 : w2.cell? ⟨w.heap.size, 0, none⟩ = some (.int .i64 5) := BB2.out.cell 0; have y5 : w2.cell? ⟨w.heap.size, 5, none⟩ = some (.slice (some ⟨b, off, none⟩) 1 c) := BB2.out.cell 5; have CS2 := hidden (HCS.out.keep (Chg.of_below (F := fun _ => False) HB2.out) (fun h => h)).range; have kE := HK.out w2 fa fc fb HB2.out (HA.out.later HB2.out).bl HA.out.fl; clear hB2 hs2 hb2 x0)
    | (refine wpList_load_mid rfl 123 (.tmp 98) rfl b off (by rfl) u' _ CS2.out Tryz.underlying123 rfl (sz6 HSH.out) ?_)
    | (go_at_call 63; refine kE.mono ?_; rintro e w3 ⟨a3, c3, ob, rfl, q1, q2, q3, q4⟩; have Q := hidden (And.intro q1 (And.intro q2 (And.intro q3 q4))); have HB3 := hidden (HB2.out.trans (q4.mono HB2.out.size)); have BB3 := hidden (BB2.out.later q4); clear kE q1 q2 q3 q4 y0 y5))
  obtain ⟨q1, q2, q3, q4⟩ := Q.out
  have HQ1 := hidden q1
  have HQ2 := hidden q2
  have HQ3 := hidden q3
  clear q1 q2 q3 q4 Q CS2
  obtain ⟨g3, o3, rfl, _⟩ := HQ1.out (fun e => by have := HQ2.out; rw [e] at this; simp at this)
  have z3 : w3.cell? ⟨w.heap.size, 3, none⟩ = some (.int .u8 SZ) := by rw [← HSZ.out]; exact BB3.out.cell 3
  by_cases h63 : s = 63
  · obtain rfl : SZ = 63 := by rw [← hSZ, h63]; rfl
    have kJ := joinedR (ca := fc) (cb := c3) (HA.out.later HB3.out).bl HQ1.out HA.out.fl HQ2.out (by omega)
    go_wp2_with (go_at_call 81; refine kJ.mono ?_; rintro e w4 ⟨g4, c4, rfl, r1, r2⟩; have R := hidden (And.intro r1 r2); clear kJ r1 r2)
    go_ret
    obtain ⟨r1, r2⟩ := R.out
    refine ⟨_, c4, _, rfl, r1, by simp, fun j hj => ?_, HB3.out.trans (r2.mono HB3.out.size)⟩
    have h1 : j < fb.length := by have := HA.out.fl; omega
    have h2 : j < ob.length := by have := HQ2.out; omega
    have e1 : En1 L t (fun k => fb[k]? = some true) j ↔ (fb[j]? = some true ∨ ob[j]? = some true) := by
      rw [HQ3.out j hj, ← en_nil t (fun k => fb[k]? = some true) j (by rw [HA.out.tl]; exact hj), ← en_or]
      exact en_congr (fun v => by rw [HHAS.out v, h63]; simp) (fun _ _ => Iff.rfl)
    rw [e1, List.getElem?_map, List.getElem?_range (by omega)]
    simp only [Option.map_some, List.getElem?_eq_getElem h1, List.getElem?_eq_getElem h2, Option.getD_some, Option.some.injEq, Bool.or_eq_true]
  · have hSZ63 : ¬ SZ = 63 := by rw [← hSZ]; omega
    go_wp2_with fail
    clear hSZ63 z3
    generalize (SZ == 63) = bo63
    go_loopw [13] (fun s13 wx => ∃ (g4 off4 c4 : Nat), s13 = .slice (some ⟨g4, off4, none⟩) (n + 1) c4 ∧ Hid (Below w3.heap.size w3 wx ∧ ∃ ab, BlV wx (some ⟨g4, off4, none⟩) ab ∧ ab.length = n + 1 ∧ (∀ j, j ≤ n → ob[j]? = some true → ab[j]? = some true) ∧ (∀ j, j ≤ n → ab[j]? = some true → En1 (Plus a.has) t (fun k => fb[k]? = some true) j))) (fun s13 wx => outs (n + 1) s13 wx)
    case atStart => exact ⟨g3, o3, c3, rfl, hidden ⟨Below.refl _ _, ob, HQ1.out, HQ2.out, fun j _ h => h, fun j hj h => en_plus_one ((HQ3.out j hj).1 h)⟩⟩
    case round =>
      rename World => wr
      obtain ⟨g4, off4, c4, rfl, hex⟩ := hrel
      obtain ⟨hbel, ab, hO, hol, hsub, hup⟩ := hex.out
      have HBE := hidden hbel
      have HBW := hidden (HB3.out.trans (hbel.mono HB3.out.size))
      have HO := hidden hO
      have HOL := hidden hol
      have HSUB := hidden hsub
      have HUP := hidden hup
      have HMS : Hid (outs (n + 1) (.slice (some ⟨g4, off4, none⟩) (n + 1) c4) wr = ((List.range (n + 1)).filter (fun i => decide (ab[i]? ≠ some true))).length) := hidden (outs_eq hO hol (by omega))
      have y5 : wr.cell? ⟨w.heap.size, 5, none⟩ = some (.slice (some ⟨b, off, none⟩) 1 c) := (BB3.out.later hbel).cell 5
      have CS4 := hidden (HCS.out.keep (Chg.of_below (F := fun _ => False) HBW.out) (fun h => h)).range
      have kE := HK.out wr _ c4 ab HBW.out hO hol
      clear hex hbel hO hol hsub hup
      go_upto_region 31 with (first
        | (refine wpList_load_mid rfl 123 (.tmp 113) rfl b off (by rfl) u' _ CS4.out Tryz.underlying123 rfl (sz6 HSH.out) ?_)
        | (go_at_call 63; refine kE.mono ?_; rintro e w5 ⟨a5, c5, ob5, rfl, q1, q2, q3, q4⟩; have Q5 := hidden (And.intro q1 (And.intro q2 (And.intro q3 q4))); have kJ := joinedR (ca := c4) (cb := c5) (HO.out.later q4) q1 HOL.out q2 (by omega); have HB5 := hidden q4; clear kE q1 q2 q3 q4)
        | (go_at_call 81; refine kJ.mono ?_; rintro e w6 ⟨g6, c6, rfl, r1, r2⟩; obtain ⟨M, hM⟩ : ∃ M, (List.range (n + 1)).map (fun i => ab[i]?.getD false || ob5[i]?.getD false) = M := ⟨_, rfl⟩; rw [hM] at r1; have HMD := hidden hM; have hML : M.length = n + 1 := (by rw [← hM]; simp); have R6 := hidden (And.intro r1 r2); have HB6 := hidden (HB5.out.trans (r2.mono HB5.out.size)); have kS := sameBR (ca := c6) (cb := c4) r1 (HO.out.later HB6.out) hML HOL.out (by omega); obtain ⟨dz, hdz⟩ : ∃ dz, decide (M = ab) = dz := ⟨_, rfl⟩; rw [hdz] at kS; have HDZ := hidden hdz; clear kJ r1 r2 hM hdz)
        | (go_at_call 82; refine kS.mono ?_; rintro e w7 ⟨rfl, g7⟩; have HB7 := hidden (HB6.out.trans (g7.mono HB6.out.size)); have G7 := hidden g7; clear kS g7))
      obtain ⟨q1, q2, q3, q4⟩ := Q5.out
      have HG : Hid (∀ j, j ≤ n → (M[j]? = some true ↔ (ab[j]? = some true ∨ En1 a.has t (fun k => ab[k]? = some true) j))) := hidden (fun j hj => by
        have h1 : j < ab.length := by have := HOL.out; omega
        have h2 : j < ob5.length := by omega
        rw [← q3 j hj, ← HMD.out, List.getElem?_map, List.getElem?_range (by omega)]
        simp only [Option.map_some, List.getElem?_eq_getElem h1, List.getElem?_eq_getElem h2, Option.getD_some, Option.some.injEq, Bool.or_eq_true])
      have HMM : Hid (BlV w7 (some ⟨g6, 0, none⟩) M) := hidden (R6.out.1.later G7.out)
      have HB37 := hidden (HBE.out.trans (HB7.out.mono HBE.out.size))
      have HBW7 := hidden (HB3.out.trans (HB37.out.mono HB3.out.size))
      clear q1 q2 q3 q4 Q5 R6
      cases dz with
      | true =>
        -- closed
        have hMa : M = ab := of_decide_eq_true HDZ.out
        have HALL : Hid (∀ j, j ≤ n → (ab[j]? = some true ↔ En1 (Plus a.has) t (fun k => fb[k]? = some true) j)) := hidden (fun j hj => ⟨HUP.out j hj, fun h => by
          refine en_plus_sub (A := fun k => k ≤ n ∧ ab[k]? = some true) (fun k hk h1 => ?_) (fun k hk h1 => ?_) j (by rw [HA.out.tl]; exact hj) h |>.2
          · have hk' : k ≤ n := by rw [HA.out.tl] at hk; exact hk
            exact ⟨hk', HSUB.out k hk' ((HQ3.out k hk').2 h1)⟩
          · have hk' : k ≤ n := by rw [HA.out.tl] at hk; exact hk
            refine ⟨hk', ?_⟩
            have := (HG.out k hk').2 (.inr ((en_congr (fun v => Iff.rfl) (fun i hi => ⟨fun h => h.2, fun h => ⟨by omega, h⟩⟩)).1 h1))
            rw [hMa] at this
            exact this⟩)
        have z3 : w7.cell? ⟨w.heap.size, 3, none⟩ = some (.int .u8 SZ) := by rw [← HSZ.out]; exact (BB3.out.later HB37.out).cell 3
        have HAB7 := hidden (HO.out.later HB7.out)
        clear hMa HMM HG
        by_cases h42 : s = 42
        · obtain rfl : SZ = 42 := by rw [← hSZ, h42]; rfl
          have kJ := joinedR (ca := fc) (cb := c4) (HA.out.later HBW7.out).bl HAB7.out HA.out.fl HOL.out (by omega)
          go_wp2_with (go_at_call 81; refine kJ.mono ?_; rintro e w8 ⟨g8, c8, rfl, r1, r2⟩; have R8 := hidden (And.intro r1 r2); clear kJ r1 r2)
          go_ret
          obtain ⟨r1, r2⟩ := R8.out
          refine ⟨_, c8, _, rfl, r1, by simp, fun j hj => ?_, HBW7.out.trans (r2.mono HBW7.out.size)⟩
          have h1 : j < fb.length := by have := HA.out.fl; omega
          have h2 : j < ab.length := by have := HOL.out; omega
          have e1 : En1 L t (fun k => fb[k]? = some true) j ↔ (fb[j]? = some true ∨ ab[j]? = some true) := by
            rw [HALL.out j hj, ← en_nil t (fun k => fb[k]? = some true) j (by rw [HA.out.tl]; exact hj), ← en_or]
            exact en_congr (fun v => by rw [HHAS.out v, h42]; simp) (fun _ _ => Iff.rfl)
          rw [e1, List.getElem?_map, List.getElem?_range (by omega)]
          simp only [Option.map_some, List.getElem?_eq_getElem h1, List.getElem?_eq_getElem h2, Option.getD_some, Option.some.injEq, Bool.or_eq_true]
        · have h43 : s = 43 := by omega
          have hSZ42 : ¬ SZ = 42 := by rw [← hSZ]; omega
          go_wp2
          go_ret
          refine ⟨_, c4, ab, rfl, HAB7.out, HOL.out, fun j hj => ?_, HBW7.out⟩
          rw [HALL.out j hj]
          exact en_congr (fun v => by rw [HHAS.out v, h43]; simp) (fun _ _ => Iff.rfl)
      | false =>
        have HNE : Hid (¬ M = ab) := hidden (of_decide_eq_false HDZ.out)
        go_wp2
        refine ⟨⟨g6, 0, c6, rfl, hidden ⟨HB37.out, M, HMM.out, hML, fun j hj h => (HG.out j hj).2 (.inl (HSUB.out j hj h)), fun j hj h => ?_⟩⟩, ?_⟩
        · rcases (HG.out j hj).1 h with h | h
          · exact HUP.out j hj h
          · obtain ⟨i, h1, h2, h3⟩ := h
            exact en_plus_more ⟨i, h1, HUP.out i (by omega) h2, h3⟩
        · show outs (n + 1) (.slice (some ⟨g6, 0, none⟩) (n + 1) c6) w7 < outs (n + 1) (.slice (some ⟨g4, off4, none⟩) (n + 1) c4) wr
          rw [HMS.out, outs_eq HMM.out hML (by omega)]
          refine filter_lt (fun x hx hp => ?_) ?_
          · have hx' : x ≤ n := by have := List.mem_range.1 hx; omega
            simp only [decide_eq_true_eq] at hp ⊢
            exact fun h => hp ((HG.out x hx').2 (.inl h))
          · apply Classical.byContradiction
            intro hno
            refine HNE.out (List.ext_getElem? (fun x => ?_))
            rcases Nat.lt_or_ge x (n + 1) with hx | hx
            · have h1 : x < M.length := by omega
              have h2 : x < ab.length := by have := HOL.out; omega
              rw [List.getElem?_eq_getElem h1, List.getElem?_eq_getElem h2]
              have hg := HG.out x (by omega)
              rw [List.getElem?_eq_getElem h1, List.getElem?_eq_getElem h2] at hg
              cases hm : M[x] with
              | true =>
                cases ha : ab[x] with
                | true => rfl
                | false =>
                  exfalso
                  refine hno ⟨x, List.mem_range.2 hx, ?_, ?_⟩
                  · rw [List.getElem?_eq_getElem h2, ha]; simp
                  · rw [List.getElem?_eq_getElem h1, hm]; simp
              | false =>
                cases ha : ab[x] with
                | false => rfl
                | true =>
                  exfalso
                  have := hg.2 (.inl (by rw [ha]))
                  rw [hm] at this
                  simp at this
            · rw [List.getElem?_eq_none (by omega), List.getElem?_eq_none (by have := HOL.out; omega)]

end Go.Proofs.YtanlgplgplncdaaGreatDoor

/-
  The document's Match.
-/
namespace Go.Proofs.YtanlgplgplncdaaGreatDoor
open Go.RowKit
set_option linter.unusedVariables false
set_option linter.unusedSimpArgs false

theorem rowsLen : ∀ (l : List (List Pt)), rowsFine l → ∀ r ∈ l, r.length ≤ 1000
  | [], _, r, h => by cases h
  | q :: t, hf, r, h => by
    simp only [rowsFine] at hf
    rcases List.mem_cons.1 h with e | h
    · rw [e]; exact hf.2.1
    · exact rowsLen t hf.2.2 r h
mutual
/-- ENDS TELLS WHERE WHAT A PART MEANS MAY END. -/
theorem endsP : ∀ p : Pt, p.fine → EnC p
  | .chr c, _ => ends_leaf _ trivial
  | .any, _ => ends_leaf _ trivial
  | .cls neg l, _ => ends_leaf _ trivial
  | .grp l, h => by
    simp only [Pt.fine] at h
    exact ends_grp l h.2 (ends_any l (fun r hr => ends_row r (endsRows l h.1 r hr)) (rowsLen l h.1))
  | .rep a s, h => by
    simp only [Pt.fine] at h
    exact ends_rep a s h.2 (endsP a h.1)
theorem endsRow : ∀ (r : List Pt), rowFine r → ∀ (p : Pt), p ∈ r → EnC p
  | [], _, p, h => by cases h
  | q :: t, hf, p, h => by
    simp only [rowFine] at hf
    rcases List.mem_cons.1 h with e | h
    · rw [e]; exact endsP q hf.1
    · exact endsRow t hf.2 p h
theorem endsRows : ∀ (l : List (List Pt)), rowsFine l → ∀ (r : List Pt), r ∈ l → ∀ p ∈ r, EnC p
  | [], _, r, h => by cases h
  | q :: t, hf, r, h => by
    simp only [rowsFine] at hf
    rcases List.mem_cons.1 h with e | h
    · rw [e]; exact endsRow q hf.1
    · exact endsRows t hf.2.2 r h
end

theorem anyP (l : List (List Pt)) (h : rowsFine l) : EnAny l := ends_any l (fun r hr => ends_row r (endsRows l h r hr)) (rowsLen l h)

theorem rs_inj : ∀ (t t' : Tx) (L : List UInt8), Rs L t → Rs L t' → t = t'
  | [], t', L, h, h' => by
    have : L = [] := by simpa using h.2
    rw [this] at h'
    exact (rs_nil h').symm
  | c :: t, [], L, h, h' => by
    have : L = [] := by simpa using h'.2
    rw [this] at h
    exact rs_nil h
  | c :: t, c' :: t', L, h, h' => by
    obtain ⟨h1, h2⟩ := rs_cons h
    obtain ⟨k1, k2⟩ := rs_cons h'
    obtain ⟨e1, e2⟩ := Prod.mk.inj (Option.some.inj (h1.symm.trans k1))
    rw [e2] at h2
    rw [e1, rs_inj t t' _ h2 k2]
theorem Rn.good {S : List UInt8} {a : Nat} {rl : List Int} {al : List Nat} (h : Rn S a rl al) : (∃ t : Tx, rl = t.map (fun (c : Nat) => (c : Int)) ∧ Rs (S.drop a) t) ∨ (rl.getLast? = some (-2) ∧ ∀ t, ¬ Rs (S.drop a) t) := by
  induction h with
  | fin => exact .inl ⟨[], rfl, by rw [List.drop_length]; exact Rs.nil⟩
  | bad a h hf =>
    refine .inr ⟨rfl, fun t ht => ?_⟩
    have hne : S.drop a ≠ [] := fun e => by
      have := congrArg List.length e
      rw [List.length_drop] at this
      simp at this
      omega
    exact rs_none hne hf (fun _ => True) ⟨t, ht, trivial⟩
  | step a c k cs ps hf h ih =>
    rcases ih with ⟨t, e, ht⟩ | ⟨e, ht⟩
    · refine .inl ⟨c :: t, by rw [e]; rfl, cons_rs hf ?_⟩
      rw [List.drop_drop]; exact ht
    · refine .inr ⟨?_, fun t' ht' => ?_⟩
      · cases cs with
        | nil => simp at e
        | cons x y => rw [List.getLast?_cons_cons]; exact e
      · cases t' with
        | nil =>
          have := ht'.2
          simp at this
          have hl := fp_len hf
          rw [List.length_drop] at hl
          omega
        | cons d t' =>
          obtain ⟨k1, k2⟩ := rs_cons ht'
          obtain ⟨e1, e2⟩ := Prod.mk.inj (Option.some.inj (hf.symm.trans k1))
          rw [← e2, List.drop_drop] at k2
          exact ht t' k2

set_option maxRecDepth 100000 in
set_option maxHeartbeats 0 in
/-- THE DOCUMENT'S MATCH TELLS WHAT THE TREE MEANS. -/
theorem matchN (B : Nat) {F : Nat → Prop} {w : World} {p : Nat} {l : List (List Pt)} {u : List Value} (hP : PaN F w p l u) (hfine : rowsFine l) (hl : l.length ≤ 1000) (v : ByteArray) (hv : v.size ≤ 1048576) (hT : Tb B w) (R : Bool) (hR : mB l (bts v) = R) :
    Calls Tryz.prog 46 #[.pointer (some ⟨p, 0, none⟩), .string v] w fun e w' => e = .returned (.bool R) ∧ Below w.heap.size w w' := by
  obtain ⟨i0, hi0, hz0, hz1, hz2⟩ := info_parts info4
  have HI := hidden hi0
  have kR := runesR B v w (by omega) hT
  have HP := hidden hP
  have HSH := hidden hP.an.sh
  have HEN := hidden (anyP l hfine)
  have HR := hidden hR
  have HL := hidden hl
  unfold RunesR at kR
  clear hi0 hP hfine hT hR hl
  go_enter Tryz.func46, Tryz.ntmps46
  go_upto_region 2 with (go_at_call 59; refine kR.mono ?_; rintro e w2 ⟨ra, n, rc, aa, ac, rl, al, rfl, hN, hU, hns⟩; have HN := hidden hN; have HU := hidden hU; clear kR hN hU)
  obtain ⟨rb, ab, q1, rfl, _, _, _, _, _⟩ := HU.out.rx (by omega)
  have hrl : rl.length = n := by have := HU.out.o1.1; simpa [c32] using this
  have HQ1 := hidden q1
  have HRL := hidden hrl
  have HB2 := hidden HU.out.bel
  clear q1 hrl
  rcases HN.out.good with ⟨t, ht, hrs⟩ | ⟨hlast, hno⟩
  · rw [List.drop_zero] at hrs
    have HRS := hidden hrs
    have HTT := hidden ht
    have htl : t.length = n := by have := HRL.out; rw [ht] at this; simpa using this
    have HTL := hidden htl
    have hcell : ∀ (i : Nat) (x : Nat), t[i]? = some x → ra = some ⟨rb, 0, none⟩ ∧ w2.cell? ⟨rb, i, none⟩ = some (.int .i32 (x : Int)) := fun i x hx => HQ1.out i x (by rw [ht, List.getElem?_map, hx]; rfl)
    have HCE := hidden hcell
    have HCP : Hid (CpV w2 ra t) := hidden (fun h0 => by
      cases t with
      | nil => exact absurd rfl h0
      | cons x y =>
        refine ⟨rb, 0, (hcell 0 x rfl).1, fun i z hz => ?_⟩
        rw [Nat.zero_add]
        exact (hcell i z hz).2)
    have HVC : Hid (∀ c ∈ t, c ≤ 1114111) := hidden (fun c hc => by have := hrs.1 c hc; unfold Vc at this; omega)
    have HMV : Hid (R = true ↔ rowsHas l t) := hidden (by
      rw [← HR.out, mB_iff]
      constructor
      · rintro ⟨t', h1, h2⟩
        rw [rs_inj t t' _ hrs h1]
        exact h2
      · exact fun h => ⟨t, hrs, h⟩)
    clear hcell hrs ht htl
    go_cut [24] from 13 to 24 (fun s wx => s = .bool false ∧ wx = w2)
    case first =>
      by_cases h0 : n = 0
      · have h0z : decide (0 < n) = false := decide_eq_false (by omega)
        clear h0
        go_wp2_with fail
        go_meet
        exact ⟨rfl, rfl⟩
      · have h0z : decide (0 < n) = true := decide_eq_true (by omega)
        obtain ⟨m, hm⟩ : ∃ m, n = m + 1 := ⟨n - 1, by omega⟩
        obtain ⟨x, hx⟩ : ∃ x, t[m]? = some x := ⟨_, List.getElem?_eq_getElem (by have := HTL.out; omega)⟩
        obtain ⟨e, k1⟩ := HCE.out m x hx
        subst e
        have k1' : w2.cell? ⟨rb, 0 + m, none⟩ = some (.int .i32 (x : Int)) := by rw [Nat.zero_add]; exact k1
        have hx2 : ¬ (x : Int) = -2 := by omega
        have em : (n : Int) - 1 = (m : Int) := by omega
        have em1 : (m : Int) < (n : Int) := by omega
        have HM := hidden hm
        have HX2 : Hid (((x : Int) == -2) = false) := hidden (by simp)
        clear hx hm h0 hx2
        go_wp2_with fail
        go_meet
        exact ⟨by rw [HX2.out], rfl⟩
    case rest =>
      obtain ⟨rfl, hwc⟩ := hcut
      obtain rfl := hwc.symm
      clear hwc
      have hn9 : n ≤ 1048576 := by omega
      go_upto_region 6 with (refine wpList_make_room _ rfl (.tmp 27) (.tmp 27) 128 rfl 4 i0 (.bool false) Tryz.underlying128 HI.out hz0 hz1 hz2 rfl .i64 .i64 ((n : Int) + 1) ((n : Int) + 1) (n + 1) (n + 1) rfl rfl (by omega) (by omega) (Nat.le_refl _) (by omega) ?_; intro w3 hB3 hs3 hb3; have F3 := hidden (Fil.new hb3 hB3 (fun k => decide (k = 0))); have HB3 := hidden (HB2.out.trans (hb3.mono HB2.out.size)); have G3 := hidden hb3; obtain ⟨⟨z, c0⟩, f0⟩ := F3.out.at (k := 0) (by omega); clear hB3 hs3 hb3)
      have F4 := hidden (F3.out.set (show 0 < n + 1 by omega))
      obtain ⟨w4, hw4⟩ : ∃ w4, w3.setCell ⟨w2.heap.size, 0, none⟩ (.bool true) = w4 := ⟨_, rfl⟩
      have F4' : Hid (∃ l', Blk w4 w2.heap.size 4 (bB l') ∧ l'.length = n + 1 ∧ ∀ i, i ≤ n → (l'[i]? = some true ↔ i = 0)) := hidden ⟨(List.replicate (n + 1) false).set 0 true, by rw [← hw4]; exact F4.out.blk, by simp, fun i hi => by
        rw [List.getElem?_set]
        by_cases h : 0 = i
        · subst h; simp
        · rw [if_neg h, List.getElem?_replicate, if_pos (by omega)]
          simp
          omega⟩
      have HB4 : Hid (Below w2.heap.size w2 w4) := hidden (by rw [← hw4]; exact F4.out.bel)
      have HB4w : Hid (Below w.heap.size w w4) := hidden (HB2.out.trans (HB4.out.mono HB2.out.size))
      rw [hw4]
      obtain ⟨fb, hfb, hfl, hft⟩ := F4'.out
      have HBL : Hid (BlV w4 (some ⟨w2.heap.size, 0, none⟩) fb) := hidden (fun _ => ⟨w2.heap.size, 0, rfl, fun i x hx => by rw [Nat.zero_add, hfb.cell, bB, List.getElem?_map, hx]; rfl⟩)
      have HFT := hidden hft
      have kE := HEN.out F w4 u ra (some ⟨w2.heap.size, 0, none⟩) rc (n + 1) t fb n (HP.out.later HB4w.out).an HL.out ⟨HCP.out.later HB4.out, HBL.out, HTL.out, hfl, by omega, HVC.out⟩
      have HRA := hidden (HP.out.later HB4w.out).blk.all
      clear hw4 hfb hft c0 f0
      unfold EnR at kE
      go_wp2_with (first
        | (refine wpList_load_mid rfl 123 (.tmp 33) rfl p 0 (by rfl) u _ HRA.out Tryz.underlying123 rfl (sz6 HSH.out) ?_)
        | (go_at_call 63; refine kE.mono ?_; rintro e w5 ⟨a5, c5, ob, rfl, q1, q2, q3, q4⟩; have Q2 := hidden q2; have Q3 := hidden q3; have Q4 := hidden q4; obtain ⟨b5, o5, rfl, hc5⟩ := q1 (fun e => (by rw [e] at q2; simp at q2)); obtain ⟨y, hy⟩ : ∃ y, ob[n]? = some y := ⟨_, List.getElem?_eq_getElem (by omega)⟩; have k5 := hc5 n y hy; have HY := hidden hy; clear kE q2 q3 q4 hc5 hy q1))
      go_ret
      refine ⟨?_, HB4w.out.trans (Q4.out.mono HB4w.out.size)⟩
      have hyR : y = R := by
        rw [Bool.eq_iff_iff, HMV.out]
        have h1 := Q3.out n (Nat.le_refl _)
        rw [HY.out] at h1
        have h2 : (y = true) ↔ En1 (rowsHas l) t (fun i => fb[i]? = some true) n := by rw [← h1]; simp
        rw [h2]
        constructor
        · rintro ⟨i, e1, e2, e3⟩
          obtain rfl := (HFT.out i e1).1 e2
          rw [List.drop_zero, List.take_of_length_le (by rw [HTL.out]; exact Nat.le_refl _)] at e3
          exact e3
        · intro h
          exact ⟨0, Nat.zero_le _, (HFT.out 0 (Nat.zero_le _)).2 rfl, by rw [List.drop_zero, List.take_of_length_le (by rw [HTL.out]; exact Nat.le_refl _)]; exact h⟩
      rw [← hyR]
      rfl
  · rw [List.drop_zero] at hno
    have hRf : R = false := by
      rw [← HR.out]
      cases h : mB l (bts v) with
      | false => rfl
      | true =>
        obtain ⟨t, h1, _⟩ := (mB_iff _ _).1 h
        exact absurd h1 (hno t)
    subst hRf
    have hne : rl ≠ [] := fun e => by rw [e] at hlast; simp at hlast
    obtain ⟨m, hm⟩ : ∃ m, n = m + 1 := ⟨n - 1, by have := HRL.out; have := List.length_pos_iff.2 hne; omega⟩
    have hx : rl[m]? = some (-2) := by
      rw [List.getLast?_eq_getElem?] at hlast
      have := HRL.out
      rw [show rl.length - 1 = m by omega] at hlast
      exact hlast
    obtain ⟨e, k1⟩ := HQ1.out m (-2) hx
    subst e
    have k1' : w2.cell? ⟨rb, 0 + m, none⟩ = some (.int .i32 (-2)) := by rw [Nat.zero_add]; exact k1
    have h0z : decide (0 < n) = true := decide_eq_true (by omega)
    have em : (n : Int) - 1 = (m : Int) := by omega
    have em1 : (m : Int) < (n : Int) := by omega
    have HM := hidden hm
    clear hx hm hne hlast hno
    go_wp2
    go_ret
    exact ⟨rfl, HB2.out⟩

end Go.Proofs.YtanlgplgplncdaaGreatDoor
