import Derived.Test.YtndegcgcbhcokaaDoorQaP
import Derived.Deep.MidRow
import Derived.Test.YtndegcgcbhcokaaDoorQaF
import Derived.Test.YtndegcgcbhcokaaDoorQaV
import Derived.Test.YtndegcgcbhcokaaDoorPuV
/-
  The document's Match: ends of brackets, repetitions, rows.
-/
namespace Go.Proofs.YtndegcgcbhcokaaDoor
open Go.RowKit
set_option linter.unusedVariables false
set_option linter.unusedSimpArgs false

theorem Cs.range {w : World} {b off : Nat} {u : List Value} (h : Cs w b off u) : w.rangeAt b off u := h
theorem NdsV.get {F : Nat → Prop} {w : World} : ∀ {r : List Pt} {b off : Nat}, NdsV F w r b off → ∀ (i : Nat) (p : Pt), r[i]? = some p → ∃ u, Cs w b (off + i * 6) u ∧ NdV F w p u
  | [], b, off, _, i, p, hp => by simp at hp
  | q :: t, b, off, h, 0, p, hp => by
    simp only [NdsV] at h
    simp at hp
    subst hp
    simpa using h.1
  | q :: t, b, off, h, i + 1, p, hp => by
    simp only [NdsV] at h
    obtain ⟨u, h1, h2⟩ := NdsV.get h.2 i p (by simpa using hp)
    exact ⟨u, by rw [show off + (i + 1) * 6 = off + 6 + i * 6 by omega]; exact h1, h2⟩
theorem RwsV.get {F : Nat → Prop} {w : World} : ∀ {l : List (List Pt)} {b off : Nat}, RwsV F w l b off → ∀ (i : Nat) (r : List Pt), l[i]? = some r → ∃ u, Cs w b (off + i * 6) u ∧ RwV F w r u
  | [], b, off, _, i, p, hp => by simp at hp
  | q :: t, b, off, h, 0, p, hp => by
    simp only [RwsV] at h
    simp at hp
    subst hp
    obtain ⟨⟨ad, c, b', off', h1, h2, h3⟩, _⟩ := h
    exact ⟨_, by simpa using h1, ad, c, b', off', rfl, h2, h3⟩
  | q :: t, b, off, h, i + 1, p, hp => by
    simp only [RwsV] at h
    obtain ⟨u, h1, h2⟩ := RwsV.get h.2 i p (by simpa using hp)
    exact ⟨u, by rw [show off + (i + 1) * 6 = off + 6 + i * 6 by omega]; exact h1, h2⟩

set_option maxRecDepth 100000 in
set_option maxHeartbeats 0 in
theorem ends_grp (l : List (List Pt)) (hl : l.length ≤ 1000) (hE : EnAny l) : EnC (.grp l) := by
  intro F w u va fa vc fc t fb n hN hA
  obtain ⟨i0, hi0, hz0, hz1, hz2⟩ := info_parts info4
  have HI := hidden hi0
  simp only [NdV] at hN
  obtain ⟨b, off, c, ad, c2, b2, off2, rfl, h1, h2, h3, h4⟩ := hN
  have hn9 := hA.nl
  obtain ⟨w1, hw1, hB1, hb1, hs1⟩ := box70 w (nV 4 0 false 0 sN (.slice (some ⟨b, off, none⟩) 1 c))
  have x0 : w1.cell? ⟨w.heap.size, 0, none⟩ = some (.int .i64 4) := hB1.cell 0
  have HB1 := hidden hb1
  have BB := hidden hB1
  have hAN : AnV F w l (nV 7 0 false 0 sN (.slice ad l.length c2)) := ⟨ad, c2, b2, off2, rfl, h3, h4⟩
  have HCS := hidden h2
  obtain ⟨m, hm⟩ : ∃ m, l.length = m := ⟨_, rfl⟩
  have HK : Hid (∀ wx, Below w.heap.size w wx → Calls Tryd.prog 33 #[.agg #[.int .i64 7, .int .i32 0, .bool false, .int .u8 0, .slice none 0 0, .slice ad m c2], .slice va n vc, .slice fa (n + 1) fc] wx (EnR (rowsHas l) t fb n wx)) := hidden (fun wx hb => by
    have := hE F wx _ va fa vc fc t fb n (hAN.keep (Chg.of_below (F := fun _ => False) hb) (fun _ _ h => h)) hl (hA.later hb)
    rw [hm] at this
    exact this)
  simp only [nV, sN] at hw1 ⊢
  rw [hm] at HCS
  have HW1 := hidden hw1
  clear hA hw1 hB1 hb1 hs1 hi0 h1 h2 h3 h4 hAN hm hE
  unfold EnR at HK
  go_enter Tryd.func33, Tryd.ntmps33
  go_upto_region 1 with fail
  rw [show (w.alloc (.cells #[.int .i64 4, .int .i32 0, .bool false, .int .u8 0, .slice none 0 0, .slice (some ⟨b, off, none⟩) 1 c] 70)) = w1 from HW1.out]
  clear HW1
  go_wp2_with (first
    | (refine wpList_make_room _ rfl (.tmp 17) (.tmp 17) 91 rfl 4 i0 (.bool false) Tryd.underlying91 HI.out hz0 hz1 hz2 rfl .i64 .i64 ((n + 1 : Nat) : Int) ((n + 1 : Nat) : Int) (n + 1) (n + 1) rfl rfl rfl rfl (Nat.le_refl _) (by omega) ?_; intro w2 hB2 hs2 hb2; have HB2 := hidden (HB1.out.trans (hb2.mono HB1.out.size)); have y0 : w2.cell? ⟨w.heap.size, 0, none⟩ = some (.int .i64 4) := (BB.out.later hb2).cell 0; have y5 : w2.cell? ⟨w.heap.size, 5, none⟩ = some (.slice (some ⟨b, off, none⟩) 1 c) := (BB.out.later hb2).cell 5; have CS2 := hidden (HCS.out.keep (Chg.of_below (F := fun _ => False) HB2.out) (fun h => h)).range; have kE := HK.out w2 HB2.out; clear hB2 hs2 hb2 x0)
    | (refine wpList_load_mid rfl 70 (.tmp 52) rfl b off (by rfl) (nV 7 0 false 0 sN (.slice ad m c2)) _ CS2.out Tryd.underlying70 rfl info70s ?_; simp only [nV, sN])
    | (go_at_call 33; refine kE.mono ?_; rintro e w3 ⟨a', c', ob, rfl, q1, q2, q3, q4⟩; have Q := hidden (And.intro q1 (And.intro q2 (And.intro q3 q4))); clear kE q1 q2 q3 q4))
  go_ret
  obtain ⟨q1, q2, q3, q4⟩ := Q.out
  refine ⟨a', c', ob, rfl, q1, q2, fun j hj => ?_, HB2.out.trans (q4.mono HB2.out.size)⟩
  rw [q3 j hj]
  exact en_congr (fun v => by simp only [Pt.has]) (fun i _ => Iff.rfl)

set_option maxRecDepth 100000 in
set_option maxHeartbeats 0 in
theorem ends_row (r : List Pt) (hE : ∀ p ∈ r, EnC p) : EnRow r := by
  intro F w u va fa vc fc t fb n hN hr hA
  obtain ⟨i0, hi0, hz0, hz1, hz2⟩ := info_parts info4
  have HI := hidden hi0
  obtain ⟨ad, c, b, off, rfl, h1, h2⟩ := hN
  have hn9 := hA.nl
  obtain ⟨w1, hw1, hB1, hb1, hs1⟩ := box70 w (nV 6 0 false 0 sN (.slice ad r.length c))
  obtain ⟨m, hm⟩ : ∃ m, r.length = m := ⟨_, rfl⟩
  have HMR := hidden hm
  rw [hm] at hB1
  have x0 : w1.cell? ⟨w.heap.size, 0, none⟩ = some (.int .i64 6) := hB1.cell 0
  have HB1 := hidden hb1
  have BB := hidden hB1
  have HA := hidden hA
  have HH1 := hidden h1
  have HND := hidden h2
  have HE := hidden hE
  simp only [nV, sN] at hw1 ⊢
  rw [hm] at hw1 ⊢
  have hr1 : m ≤ 1000 := by omega
  have HW1 := hidden hw1
  clear hw1 hB1 hb1 hs1 hi0 hm hE h1 h2 hA hr
  go_enter Tryd.func33, Tryd.ntmps33
  go_upto_region 1 with fail
  rw [show (w.alloc (.cells #[.int .i64 6, .int .i32 0, .bool false, .int .u8 0, .slice none 0 0, .slice ad m c] 70)) = w1 from HW1.out]
  clear HW1
  go_wp2_with (refine wpList_make_room _ rfl (.tmp 17) (.tmp 17) 91 rfl 4 i0 (.bool false) Tryd.underlying91 HI.out hz0 hz1 hz2 rfl .i64 .i64 ((n + 1 : Nat) : Int) ((n + 1 : Nat) : Int) (n + 1) (n + 1) rfl rfl rfl rfl (Nat.le_refl _) (by omega) ?_; intro w2 hB2 hs2 hb2; have HB2 := hidden (HB1.out.trans (hb2.mono HB1.out.size)); have BB2 := hidden (BB.out.later hb2); have y0 : w2.cell? ⟨w.heap.size, 0, none⟩ = some (.int .i64 6) := BB2.out.cell 0; clear hB2 hs2 hb2 x0)
  go_loopw [7, 10] (fun s7 s10 wx => ∃ (i : Nat) (oa : Option Addr) (oc : Nat), s7 = .slice oa (n + 1) oc ∧ s10 = .int .i64 (i : Int) ∧ i ≤ m ∧ Hid (Below w2.heap.size w2 wx ∧ ∃ ob, BlV wx oa ob ∧ ob.length = n + 1 ∧ ∀ j, j ≤ n → (En1 (rowHas (r.drop i)) t (fun k => ob[k]? = some true) j ↔ En1 (rowHas r) t (fun k => fb[k]? = some true) j))) (fun _ s10 _ => m - (intOf s10).toNat)
  case atStart => exact ⟨0, fa, fc, rfl, rfl, by omega, hidden ⟨Below.refl _ _, fb, HA.out.bl.later HB2.out, HA.out.fl, fun j hj => Iff.rfl⟩⟩
  case round =>
    rename World => wr
    obtain ⟨i, oa, oc, rfl, rfl, hi, hex⟩ := hrel
    obtain ⟨hbel, ob, hO, hol, hrel⟩ := hex.out
    have HBE := hidden hbel
    have HBW := hidden (HB2.out.trans (hbel.mono HB2.out.size))
    have HO := hidden hO
    have HOL := hidden hol
    have HRE := hidden hrel
    clear hex hbel hO hol hrel
    have y5 : wr.cell? ⟨w.heap.size, 5, none⟩ = some (.slice ad m c) := (BB2.out.later HBE.out).cell 5
    by_cases hlt : i < m
    · have hltz : (i : Int) < (m : Int) := by omega
      have hll : i < r.length := by have := HMR.out; omega
      have hne : r ≠ [] := fun e => by rw [e] at hll; simp at hll
      obtain ⟨rfl, hFb⟩ := HH1.out hne
      obtain ⟨p, hp⟩ : ∃ p, r[i]? = some p := ⟨_, List.getElem?_eq_getElem hll⟩
      obtain ⟨u, hcs, hnd⟩ := NdsV.get (NdsV.keep (Chg.of_below (F := fun _ => False) HBW.out) (fun _ _ h => h) r b off (fun _ => hFb) HND.out) i p hp
      have kE := HE.out p (List.mem_of_getElem? hp) F wr u va oa vc oc t ob n hnd ⟨(HA.out.later HBW.out).cp, HO.out, HA.out.tl, HOL.out, HA.out.nl, HA.out.vc⟩
      have HCS := hidden hcs
      have HSH := hidden hnd.sh
      have HDR : Hid (rowHas (r.drop i) = Cat p.has (rowHas (r.drop (i + 1)))) := hidden (by
        have e : r.drop i = p :: r.drop (i + 1) := by
          obtain ⟨h, e⟩ := List.getElem?_eq_some_iff.1 hp
          rw [← e]; exact List.drop_eq_getElem_cons h
        rw [e]
        funext v
        simp only [rowHas])
      unfold EnR at kE
      clear hcs hnd hp hll hne hFb
      go_wp2_with (first
        | (refine wpList_load_mid rfl 70 (.tmp 70) rfl b (off + i * 6) (by rfl) u _ HCS.out.range Tryd.underlying70 rfl (sz6 HSH.out) ?_)
        | (go_at_call 33; refine kE.mono ?_; rintro e w3 ⟨a', c', ob', rfl, q1, q2, q3, q4⟩; have Q := hidden (And.intro q1 (And.intro q2 (And.intro q3 q4))); clear kE q1 q2 q3 q4))
      obtain ⟨q1, q2, q3, q4⟩ := Q.out
      refine ⟨⟨i + 1, a', c', by first | rfl | simp, by first | rfl | simp, by omega, hidden ⟨HBE.out.trans (q4.mono HBE.out.size), ob', q1, q2, fun j hj => ?_⟩⟩, ?_⟩
      · rw [← HRE.out j hj, HDR.out, en_cat _ _ _ _ _ (by rw [HA.out.tl]; exact hj)]
        exact en_congr (fun v => Iff.rfl) (fun k hk => q3 k (by omega))
      · simp [intOf]
        omega
    · have hltz : ¬ (i : Int) < (m : Int) := by omega
      have HD : Hid (r.drop i = []) := hidden (List.drop_of_length_le (by have := HMR.out; omega))
      go_wp2
      go_ret
      refine ⟨oa, oc, ob, rfl, HO.out, HOL.out, fun j hj => ?_, HBW.out⟩
      rw [← HRE.out j hj, HD.out]
      have := en_nil t (fun k => ob[k]? = some true) j (by rw [HA.out.tl]; exact hj)
      exact (this.symm).trans (en_congr (fun v => by simp only [rowHas]) (fun _ _ => Iff.rfl))

set_option maxRecDepth 100000 in
set_option maxHeartbeats 0 in
theorem ends_any (l : List (List Pt)) (hE : ∀ r ∈ l, EnRow r) (hlr : ∀ r ∈ l, r.length ≤ 1000) : EnAny l := by
  intro F w u va fa vc fc t fb n hN hr hA
  obtain ⟨i0, hi0, hz0, hz1, hz2⟩ := info_parts info4
  have HI := hidden hi0
  obtain ⟨ad, c, b, off, rfl, h1, h2⟩ := hN
  have hn9 := hA.nl
  obtain ⟨w1, hw1, hB1, hb1, hs1⟩ := box70 w (nV 7 0 false 0 sN (.slice ad l.length c))
  obtain ⟨m, hm⟩ : ∃ m, l.length = m := ⟨_, rfl⟩
  have HMR := hidden hm
  rw [hm] at hB1
  have x0 : w1.cell? ⟨w.heap.size, 0, none⟩ = some (.int .i64 7) := hB1.cell 0
  have HB1 := hidden hb1
  have BB := hidden hB1
  have HA := hidden hA
  have HH1 := hidden h1
  have HND := hidden h2
  have HE := hidden hE
  have HLR := hidden hlr
  simp only [nV, sN] at hw1 ⊢
  rw [hm] at hw1 ⊢
  have hr1 : m ≤ 1000 := by omega
  have HW1 := hidden hw1
  clear hw1 hB1 hb1 hs1 hi0 hm hE h1 h2 hA hr hlr
  go_enter Tryd.func33, Tryd.ntmps33
  go_upto_region 1 with fail
  rw [show (w.alloc (.cells #[.int .i64 7, .int .i32 0, .bool false, .int .u8 0, .slice none 0 0, .slice ad m c] 70)) = w1 from HW1.out]
  clear HW1
  go_wp2_with (refine wpList_make_room _ rfl (.tmp 17) (.tmp 17) 91 rfl 4 i0 (.bool false) Tryd.underlying91 HI.out hz0 hz1 hz2 rfl .i64 .i64 ((n + 1 : Nat) : Int) ((n + 1 : Nat) : Int) (n + 1) (n + 1) rfl rfl rfl rfl (Nat.le_refl _) (by omega) ?_; intro w2 hB2 hs2 hb2; have HB2 := hidden (HB1.out.trans (hb2.mono HB1.out.size)); have BB2 := hidden (BB.out.later hb2); have y0 : w2.cell? ⟨w.heap.size, 0, none⟩ = some (.int .i64 7) := BB2.out.cell 0; have F2 := hidden (Fil.new hb2 hB2 (fun _ => false)); clear hB2 hs2 hb2 x0)
  have HST : Hid (BlV w2 (some ⟨w1.heap.size, 0, none⟩) (List.replicate (n + 1) false)) := hidden (fun _ => ⟨w1.heap.size, 0, rfl, fun i x hx => by
    rw [Nat.zero_add, F2.out.blk.cell, bB, List.getElem?_map, hx]
    rfl⟩)
  go_loopw [7, 11] (fun s7 s11 wx => ∃ (i : Nat) (oa : Option Addr) (oc : Nat), s7 = .slice oa (n + 1) oc ∧ s11 = .int .i64 (i : Int) ∧ i ≤ m ∧ Hid (Below w2.heap.size w2 wx ∧ ∃ ob, BlV wx oa ob ∧ ob.length = n + 1 ∧ ∀ j, j ≤ n → ((ob[j]? = some true ∨ En1 (rowsHas (l.drop i)) t (fun k => fb[k]? = some true) j) ↔ En1 (rowsHas l) t (fun k => fb[k]? = some true) j))) (fun _ s11 _ => m - (intOf s11).toNat)
  case atStart => exact ⟨0, _, n + 1, rfl, rfl, by omega, hidden ⟨Below.refl _ _, List.replicate (n + 1) false, HST.out, by simp, fun j hj => by
    rw [List.getElem?_replicate, if_pos (by omega)]
    simp⟩⟩
  case round =>
    rename World => wr
    obtain ⟨i, oa, oc, rfl, rfl, hi, hex⟩ := hrel
    obtain ⟨hbel, ob, hO, hol, hrel⟩ := hex.out
    have HBE := hidden hbel
    have HBW := hidden (HB2.out.trans (hbel.mono HB2.out.size))
    have HO := hidden hO
    have HOL := hidden hol
    have HRE := hidden hrel
    clear hex hbel hO hol hrel
    have y5 : wr.cell? ⟨w.heap.size, 5, none⟩ = some (.slice ad m c) := (BB2.out.later HBE.out).cell 5
    by_cases hlt : i < m
    · have hltz : (i : Int) < (m : Int) := by omega
      have hll : i < l.length := by have := HMR.out; omega
      have hne : l ≠ [] := fun e => by rw [e] at hll; simp at hll
      obtain ⟨rfl, hFb⟩ := HH1.out hne
      obtain ⟨p, hp⟩ : ∃ p, l[i]? = some p := ⟨_, List.getElem?_eq_getElem hll⟩
      obtain ⟨u, hcs, hnd⟩ := RwsV.get (RwsV.keep (Chg.of_below (F := fun _ => False) HBW.out) (fun _ _ h => h) l b off (fun _ => hFb) HND.out) i p hp
      have kE := HE.out p (List.mem_of_getElem? hp) F wr u va fa vc fc t fb n hnd (HLR.out p (List.mem_of_getElem? hp)) (HA.out.later HBW.out)
      have HCS := hidden hcs
      have HSH := hidden hnd.sh
      have HDR : Hid (rowsHas (l.drop i) = fun v => rowHas p v ∨ rowsHas (l.drop (i + 1)) v) := hidden (by
        have e : l.drop i = p :: l.drop (i + 1) := by
          obtain ⟨h, e⟩ := List.getElem?_eq_some_iff.1 hp
          rw [← e]; exact List.drop_eq_getElem_cons h
        rw [e]
        funext v
        simp only [rowsHas])
      unfold EnR at kE
      clear hcs hnd hp hll hne hFb
      go_wp2_with (first
        | (refine wpList_load_mid rfl 70 (.tmp 88) rfl b (off + i * 6) (by rfl) u _ HCS.out.range Tryd.underlying70 rfl (sz6 HSH.out) ?_)
        | (go_at_call 33; refine kE.mono ?_; rintro e w3 ⟨a', c', ob', rfl, q1, q2, q3, q4⟩; have Q := hidden (And.intro q1 (And.intro q2 (And.intro q3 q4))); have kJ := joinedR (ca := oc) (cb := c') (HO.out.later q4) q1 HOL.out q2 (by omega); clear kE q1 q2 q3 q4)
        | (go_at_call 54; refine kJ.mono ?_; rintro e w4 ⟨g4, c4, rfl, r1, r2⟩; have R := hidden (And.intro r1 r2); clear kJ r1 r2))
      obtain ⟨q1, q2, q3, q4⟩ := Q.out
      obtain ⟨r1, r2⟩ := R.out
      have b4 := HBE.out.trans (q4.mono HBE.out.size)
      refine ⟨⟨i + 1, _, c4, by first | rfl | simp, by first | rfl | simp, by omega, hidden ⟨b4.trans (r2.mono b4.size), _, r1, by simp, fun j hj => ?_⟩⟩, ?_⟩
      · rw [← HRE.out j hj, HDR.out, en_or, ← q3 j hj, List.getElem?_map, List.getElem?_range (by omega)]
        have h1 : j < ob.length := by have := HOL.out; omega
        have h2 : j < ob'.length := by omega
        simp only [Option.map_some, List.getElem?_eq_getElem h1, List.getElem?_eq_getElem h2, Option.getD_some, Option.some.injEq, Bool.or_eq_true, or_assoc]
      · simp [intOf]
        omega
    · have hltz : ¬ (i : Int) < (m : Int) := by omega
      have HD : Hid (l.drop i = []) := hidden (List.drop_of_length_le (by have := HMR.out; omega))
      go_wp2
      go_ret
      refine ⟨oa, oc, ob, rfl, HO.out, HOL.out, fun j hj => ?_, HBW.out⟩
      rw [← HRE.out j hj, HD.out]
      constructor
      · exact fun h => .inl h
      · rintro (h | ⟨_, _, _, h⟩)
        · exact h
        · simp only [rowsHas] at h

def isT : Option Value → Bool
  | some (.bool true) => true
  | _ => false
/-- How many places of a row of bools are not in the set, as memory tells. -/
def outs (n : Nat) (v : Value) (w : World) : Nat := match v with
  | .slice (some ⟨b, off, none⟩) _ _ => ((List.range n).filter (fun i => !isT (w.cell? ⟨b, off + i, none⟩))).length
  | _ => 0
theorem outs_eq {w : World} {g off c n m : Nat} {l : List Bool} (h : BlV w (some ⟨g, off, none⟩) l) (hl : l.length = n) (hn : 0 < n) : outs n (.slice (some ⟨g, off, none⟩) m c) w = ((List.range n).filter (fun i => decide (l[i]? ≠ some true))).length := by
  show ((List.range n).filter (fun i => !isT (w.cell? ⟨g, off + i, none⟩))).length = _
  congr 1
  obtain ⟨b', off', e, hc⟩ := h (fun e => by rw [e] at hl; simp at hl; omega)
  injection e with e
  injection e with e1 e2
  subst e1 e2
  refine List.filter_congr (fun i hi => ?_)
  have hi' : i < l.length := by rw [hl]; exact List.mem_range.1 hi
  rw [hc i l[i] (List.getElem?_eq_getElem hi'), List.getElem?_eq_getElem hi']
  cases l[i] <;> simp [isT]
theorem filter_lt {α : Type} {p q : α → Bool} : ∀ {l : List α}, (∀ x ∈ l, p x = true → q x = true) → (∃ x ∈ l, q x = true ∧ p x = false) → (l.filter p).length < (l.filter q).length
  | [], _, ⟨x, hx, _⟩ => by cases hx
  | a :: t, h1, ⟨x, hx, h2, h3⟩ => by
    have hle : (t.filter p).length ≤ (t.filter q).length := by
      clear h2 h3 hx
      induction t with
      | nil => simp
      | cons b t ih =>
        have ih' := ih (fun x hx => h1 x (by rcases List.mem_cons.1 hx with h | h <;> simp [h]))
        by_cases hp : p b = true
        · have hq := h1 b (by simp) hp
          simp [List.filter_cons, hp, hq]; exact ih'
        · by_cases hq : q b = true
          · simp [List.filter_cons, hp, hq]; omega
          · simp [List.filter_cons, hp, hq]; exact ih'
    rcases List.mem_cons.1 hx with e | hx
    · subst e
      simp [List.filter_cons, h2, h3]; omega
    · have ih := filter_lt (l := t) (fun x hx => h1 x (by simp [hx])) ⟨x, hx, h2, h3⟩
      by_cases hp : p a = true
      · have hq := h1 a (by simp) hp
        simp [List.filter_cons, hp, hq]; exact ih
      · by_cases hq : q a = true
        · simp [List.filter_cons, hp, hq]; omega
        · simp [List.filter_cons, hp, hq]; exact ih

end Go.Proofs.YtndegcgcbhcokaaDoor

/-
  The document's Words: of a class.
-/
namespace Go.Proofs.YtndegcgcbhcokaaDoor
open Go.RowKit
set_option linter.unusedVariables false
set_option linter.unusedSimpArgs false

/-- What is answered of words. -/
def WdN (z : Bool) (R : Option Wl) (w : World) (e : Ending) (w' : World) : Prop := ∃ a' m' c' ok, e = .returned (.tuple #[.slice a' m' c', .bool ok]) ∧ Below w.heap.size w w' ∧ ((ok = true ∧ m' ≤ 16 ∧ ∃ l, R = some l ∧ Lw w' a' m' c' l ∧ Rise l) ∨ (ok = false ∧ R = none ∧ (z = true → m' = 0)))

theorem wrap32_nat {n : Nat} (h : n ≤ 2000000) : wrap32 (n : Int) = (n : Int) := by
  unfold wrap32
  omega
theorem oth_step {l : Sn} {i low : Nat} {o : Nat × Nat} {acc L : Sn} (h : l[i]? = some o) (hI : acc ++ othS low (l.drop i) = L) : (low < o.1 → (acc ++ [(low, o.1 - 1)]) ++ othS (o.2 + 1) (l.drop (i + 1)) = L) ∧ (¬ low < o.1 → acc ++ othS (o.2 + 1) (l.drop (i + 1)) = L) := by
  rw [drop_cons h, othS] at hI
  refine ⟨fun h1 => ?_, fun h1 => ?_⟩
  · rw [if_pos h1] at hI; rw [List.append_assoc]; exact hI
  · rw [if_neg h1, List.nil_append] at hI; exact hI

set_option maxRecDepth 100000 in
set_option maxHeartbeats 0 in
theorem classN (neg : Bool) (l : Sn) (F : Nat → Prop) (w : World) (u : List Value) (hN : RgV F w neg l u) : Calls Tryd.prog 49 #[.agg (List.toArray u)] w (WdN false (Pt.wds (.cls neg l)) w) := by
  obtain ⟨ad, c, raw, rfl, hs, _, hfo, hok, hne, hrl⟩ := hN
  have htd : tdyF raw = l := by rw [tdy_eq hok, hfo]
  have hti : Tidy l := by rw [← hfo]; exact (fold_tidy raw.length raw rfl hok).1
  have hbd : Bd l := fun o ho => ⟨(vc_ok (tidy_le hti o ho).2.1).2, (vc_ok (tidy_le hti o ho).2.2).2⟩
  obtain ⟨w1, hw1, hB1, hb1, hs1⟩ := box70 w (nV 3 0 neg 0 (.slice ad raw.length c) sN)
  have x2 : w1.cell? ⟨w.heap.size, 2, none⟩ = some (.bool neg) := hB1.cell 2
  have x4 : w1.cell? ⟨w.heap.size, 4, none⟩ = some (.slice ad raw.length c) := hB1.cell 4
  have HB1 := hidden hb1
  have BB := hidden hB1
  have k52 := tidyR ad c raw w1 (hs.later hb1) hrl
  unfold TdP at k52
  rw [htd] at k52
  obtain ⟨L, hL⟩ : ∃ L, (if neg then othS 0 l else l) = L := ⟨_, rfl⟩
  have hRS : RwS L := by
    rw [← hL]
    cases neg with
    | false => exact tidy_rws hti
    | true => exact oth0_rws hti
  obtain ⟨R, hR⟩ : ∃ R, spF L [] = R := ⟨_, rfl⟩
  have HW : Hid (Pt.wds (.cls neg l) = R) := hidden (by rw [Pt.wds, hL, hR])
  have HCI : Hid (CIx L R 0 []) := hidden (CIx.start hR)
  have HRS := hidden hRS
  have HLL := hidden hL
  have HTI := hidden hti
  have HBD := hidden hbd
  rw [HW.out]
  obtain ⟨n, hn⟩ : ∃ n, raw.length = n := ⟨_, rfl⟩
  obtain ⟨m, hm⟩ : ∃ m, l.length = m := ⟨_, rfl⟩
  have HM := hidden hm
  rw [hn] at x4 k52 hrl hw1 hB1 BB ⊢
  rw [hm] at k52
  simp only [nV, sN] at hw1 ⊢
  have HW1 := hidden hw1
  show Calls Tryd.prog 49 #[.agg #[.int .i64 3, .int .i32 0, .bool neg, .int .u8 0, .slice ad n c, .slice none 0 0]] w (WdN false R w)
  clear hw1 hB1 hb1 hs1 hs hfo hok hne htd hn hm hti hbd hRS hL hR HW
  go_enter Tryd.func49, Tryd.ntmps49
  go_upto_region 1 with fail
  rw [show (w.alloc (.cells #[.int .i64 3, .int .i32 0, .bool neg, .int .u8 0, .slice ad n c, .slice none 0 0] 70)) = w1 from HW1.out]
  clear HW1
  go_upto_if 15 with (go_at_call 52; refine k52.mono ?_; rintro e w2 ⟨a2, c2, rfl, q1, q2, q3⟩; have SS := hidden q1; have HB2 := hidden (HB1.out.trans (q3.mono HB1.out.size)); have y2 : w2.cell? ⟨w.heap.size, 2, none⟩ = some (.bool neg) := (BB.out.later q3).cell 2; have hmn := q2; clear k52 q1 q2 q3 x2 x4)
  go_cut [4] from 16 to 53 (fun s4 wx => ∃ (a4 : Option Addr) (c4 : Nat), s4 = .slice a4 L.length c4 ∧ Hid (Ss wx a4 L ∧ Below w.heap.size w wx ∧ L.length ≤ n + 1))
  case first =>
    cases neg with
    | false =>
      have HE : Hid (l = L) := hidden (by have := HLL.out; simpa using this)
      go_wp2_with fail
      go_meet
      exact ⟨a2, c2, by rw [← HE.out, HM.out], hidden ⟨by rw [← HE.out]; exact SS.out, HB2.out, by rw [← HE.out, HM.out]; omega⟩⟩
    | true =>
      have HO0 : Hid ([] ++ othS 0 (l.drop 0) = L) := hidden (by have := HLL.out; simpa using this)
      have HT0 := hidden (TA.nil w2)
      go_wp2_with fail
      go_loopw [5, 6, 7] (fun s5 s6 s7 wx => ∃ (i low k c5 : Nat) (a5 : Option Addr) (acc : Sn), s5 = .slice a5 k c5 ∧ s6 = .int .i32 (low : Int) ∧ s7 = .int .i64 (i : Int) ∧ i ≤ m ∧ k ≤ i ∧ low ≤ 1114112 ∧ Hid (acc ++ othS low (l.drop i) = L) ∧ Hid (TA w2 wx a5 k c5 acc)) (fun _ _ s7 _ => m - (intOf s7).toNat)
      case atStart => exact ⟨0, 0, 0, 0, none, [], rfl, rfl, rfl, by omega, by omega, by omega, HO0, HT0⟩
      case round =>
        rename World => wr
        obtain ⟨i, low, k, c5, a5, acc, rfl, rfl, rfl, hi, hk, hlow, hO, hT⟩ := hrel
        clear HO0 HT0
        by_cases hlt : i < m
        · have hltz : (i : Int) < (m : Int) := by omega
          obtain ⟨gb, goff, o, rfl, hgb, ho, _, o0, o1, z1, z2⟩ := (SS.out.later hT.out.bel).get (i := i) (by rw [HM.out]; exact hlt)
          obtain ⟨hA, hB⟩ := oth_step ho hO.out
          have z2z : (o.2 : Int) ≤ 1114111 := by omega
          by_cases hlo : low < o.1
          · have hloz : (low : Int) < (o.1 : Int) := by omega
            have hO2 := hidden (hA hlo)
            have HCE : Hid (∀ wx, Below w2.heap.size w2 wx → wx.cell? ⟨gb, goff + i * 2 + 1, none⟩ = some (.int .i32 (o.2 : Int))) := hidden (fun wx hb => by
              obtain ⟨b', off', x', e, _, hx', _, d0, d1, _⟩ := (SS.out.later hb).get (i := i) (by rw [HM.out]; exact hlt)
              injection e with e; injection e with e1 e2; subst e1; subst e2
              rw [ho] at hx'
              injection hx' with hx'; subst hx'
              exact d1)
            have HZ := hidden (And.intro z1 z2)
            clear hA hB hO ho hgb
            go_wp2_with (refine wpList_pushR _ rfl (.tmp 29) (.tmp 38) rfl w2.heap.size (.slice a5 k c5) k acc rfl wr hT.out.own low (o.1 - 1) _ _ rfl (by omega) rfl rfl (by omega) hT.out.bel.size ?_; intro g8 c8 w8 o8 b8; have T8 := hidden (hT.out.push o8 b8 ⟨by omega, by omega⟩); have e8 : w8.cell? ⟨gb, goff + i * 2 + 1, none⟩ = some (.int .i32 (o.2 : Int)) := HCE.out w8 T8.out.bel; clear o8 b8)
            refine ⟨⟨i + 1, o.2 + 1, k + 1, c8, _, acc ++ [(low, o.1 - 1)], rfl, rfl, rfl, by omega, by omega, by omega, hO2, T8⟩, ?_⟩
            simp [intOf]
            omega
          · have hloz : ¬ (low : Int) < (o.1 : Int) := by omega
            have hO2 := hidden (hB hlo)
            clear hA hB hO ho hgb
            go_wp2_with fail
            refine ⟨⟨i + 1, o.2 + 1, k, c5, a5, acc, rfl, rfl, rfl, by omega, by omega, by omega, hO2, hT⟩, ?_⟩
            simp [intOf]
            omega
        · have hltz : ¬ (i : Int) < (m : Int) := by omega
          have hO3 : acc ++ (if low ≤ 1114111 then [(low, 1114111)] else []) = L := by
            have := hO.out
            rw [List.drop_eq_nil_of_le (by rw [HM.out]; omega), othS] at this
            exact this
          clear hO
          by_cases hlo : low ≤ 1114111
          · have hloz : (low : Int) ≤ 1114111 := by omega
            rw [if_pos hlo] at hO3
            have HO3 := hidden hO3
            clear hO3
            go_wp2_with (refine wpList_pushR _ rfl (.tmp 48) (.tmp 51) rfl w2.heap.size (.slice a5 k c5) k acc rfl wr hT.out.own low 1114111 _ _ rfl rfl rfl rfl (by omega) hT.out.bel.size ?_; intro g8 c8 w8 o8 b8; have T8 := hidden (hT.out.push o8 b8 ⟨by omega, by omega⟩); clear o8 b8)
            go_meet
            have hl9 := T8.out.len
            rw [HO3.out] at hl9
            exact ⟨_, c8, by rw [hl9], hidden ⟨by have := T8.out.ss; rw [HO3.out] at this; exact this, HB2.out.trans (T8.out.bel.mono HB2.out.size), by omega⟩⟩
          · have hloz : ¬ (low : Int) ≤ 1114111 := by omega
            rw [if_neg hlo, List.append_nil] at hO3
            have HO3 := hidden hO3
            clear hO3
            go_wp2_with fail
            go_meet
            have hl9 := hT.out.len
            rw [HO3.out] at hl9
            exact ⟨_, c5, by rw [hl9], hidden ⟨by have := hT.out.ss; rw [HO3.out] at this; exact this, HB2.out.trans (hT.out.bel.mono HB2.out.size), by omega⟩⟩
  case rest =>
    obtain ⟨a4, c4, rfl, hQ⟩ := hcut
    rename World => w3
    obtain ⟨hSL, hB3, hNL⟩ := hQ.out
    obtain ⟨N, hN⟩ : ∃ N, L.length = N := ⟨_, rfl⟩
    have HN := hidden hN
    have HSL := hidden hSL
    have HB3 := hidden hB3
    rw [hN] at hNL ⊢
    have hN2 : N ≤ 2000 := by omega
    clear hQ hSL hB3 hN y2 SS HB2
    generalize hne : Value.bool neg = nb
    clear hne
    go_wp2_with fail
    go_loopw [8, 9] (fun s8 s9 wx => ∃ (i m8 c8 : Nat) (a8 : Option Addr) (out : Wl), s8 = .slice a8 m8 c8 ∧ s9 = .int .i64 (i : Int) ∧ i ≤ N ∧ m8 ≤ 17 ∧ Hid (CIx L R i out) ∧ Hid (Lw wx a8 m8 c8 out ∧ Below w3.heap.size w3 wx)) (fun _ s9 _ => N - (intOf s9).toNat)
    case atStart => exact ⟨0, 0, 0, none, [], rfl, rfl, by omega, by omega, HCI, hidden ⟨Lw.nil _, Below.refl _ _⟩⟩
    case round =>
      rename World => wr
      obtain ⟨i, m8, c8, a8, out, rfl, rfl, hi, hm8, hC, hW⟩ := hrel
      clear HCI
      by_cases hlt : i < N
      · have hltz : (i : Int) < (N : Int) := by omega
        obtain ⟨gb, goff, o, rfl, hgb, ho, _, o0, o1, z1, z2⟩ := (HSL.out.later hW.out.2).get (i := i) (by rw [HN.out]; exact hlt)
        have HCE : Hid (∀ wx, Below w3.heap.size w3 wx → wx.cell? ⟨gb, goff + i * 2 + 1, none⟩ = some (.int .i32 (o.2 : Int))) := hidden (fun wx hb => by
          obtain ⟨b', off', x', e, _, hx', _, d0, d1, _⟩ := (HSL.out.later hb).get (i := i) (by rw [HN.out]; exact hlt)
          injection e with e; injection e with e1 e2; subst e1; subst e2
          rw [ho] at hx'
          injection hx' with hx'; subst hx'
          exact d1)
        have HCJ := hidden (hC.out.go ho HRS.out)
        have HO := hidden ho
        clear hC ho hgb o1
        go_wp2_with fail
        go_loopw [8, 10] (fun s8 s10 wx => ∃ (c m8 c8 : Nat) (a8 : Option Addr) (out : Wl), s8 = .slice a8 m8 c8 ∧ s10 = .int .i32 (c : Int) ∧ c ≤ 1114200 ∧ m8 ≤ 17 ∧ Hid (CJx o (L.drop (i + 1)) R c out) ∧ Hid (Lw wx a8 m8 c8 out ∧ Below w3.heap.size w3 wx)) (fun _ s10 _ => 1114300 - (intOf s10).toNat)
        case atStart => exact ⟨o.1, m8, c8, a8, out, rfl, rfl, by omega, hm8, HCJ, hW⟩
        case round =>
          rename World => wk
          obtain ⟨cc, m9, c9, a9, ou, rfl, rfl, hcc, hm9, hJ, hV⟩ := hrel
          clear HCJ hW o0
          have e1 := HCE.out wk hV.out.2
          have HLE := hidden hV.out.1.1
          go_upto_region 19 with fail
          go_cut [76] from 65 to 91 (fun s wx => ∃ B : Bool, s = .bool B ∧ wx = wk ∧ ((B = true ∧ cc ≤ o.2 ∧ m9 ≤ 16) ∨ (B = false ∧ (o.2 < cc ∨ 16 < m9))))
          case first =>
            by_cases hc1 : cc ≤ o.2
            · have hc1z : (cc : Int) ≤ (o.2 : Int) := by omega
              by_cases hc2 : m9 ≤ 16
              · have hc2z : (m9 : Int) ≤ 16 := by omega
                go_wp2_with fail
                go_meet
                exact ⟨true, rfl, rfl, .inl ⟨rfl, hc1, hc2⟩⟩
              · have hc2z : ¬ (m9 : Int) ≤ 16 := by omega
                have hc2d : decide ((m9 : Int) ≤ 16) = false := decide_eq_false hc2z
                go_wp2_with fail
                go_meet
                exact ⟨false, rfl, rfl, .inr ⟨rfl, .inr (by omega)⟩⟩
            · have hc1z : ¬ (cc : Int) ≤ (o.2 : Int) := by omega
              have hc1d : decide ((cc : Int) ≤ (o.2 : Int)) = false := decide_eq_false hc1z
              go_wp2_with fail
              go_meet
              exact ⟨false, rfl, rfl, .inr ⟨rfl, .inl (by omega)⟩⟩
          case rest =>
            obtain ⟨B, rfl, hwk, hB⟩ := hcut
            obtain rfl := hwk.symm
            rcases hB with ⟨rfl, hc1, hc2⟩ | ⟨rfl, hex⟩
            · have hc1z : (cc : Int) ≤ (o.2 : Int) := by omega
              by_cases hcv : cc = 55296
              · have hcvz : (cc : Int) = 55296 := by omega
                by_cases hcw : 57344 ≤ o.2
                · have hcwz : (57344 : Int) ≤ (o.2 : Int) := by omega
                  obtain ⟨p1, p2⟩ := hJ.out.put (c' := 57344) (by rw [HLE.out]; exact hc2) hc1 z2 (by rw [if_pos hcv]) hcw
                  have HJ2 := hidden p1
                  have kP := putR a9 m9 c9 ou (str 57344) wk hV.out.1 p2 (by omega)
                  have hst : Utf8.encode (57344 : Int) = str 57344 := rfl
                  generalize str 57344 = S7 at *
                  unfold PuL at kP
                  clear p1 p2 hJ hcv
                  go_wp2_with (go_at_call 50; refine kP.mono ?_; rintro e w5 ⟨a5, m5, c5, rfl, q1, q2⟩; have hm5 := q1.1; have hpl := putF_len ou S7; have hm6 : m5 ≤ 17 := (by have := HLE.out; omega); have Q := hidden (And.intro q1 (hV.out.2.trans (q2.mono hV.out.2.size))); clear kP q1 q2 hm5 hpl)
                  refine ⟨⟨57344 + 1, m5, c5, a5, putF ou S7, rfl, rfl, by omega, hm6, HJ2, Q⟩, ?_⟩
                  simp [intOf]
                  omega
                · have hcwz : ¬ (57344 : Int) ≤ (o.2 : Int) := by omega
                  have HJ2 := hidden (hJ.out.pass hcv hc1 hcw)
                  clear hJ hcv
                  go_wp2_with fail
                  refine ⟨⟨57344 + 1, m9, c9, a9, ou, rfl, rfl, by omega, hm9, HJ2, hV⟩, ?_⟩
                  simp [intOf]
                  omega
              · have hcvz : ¬ (cc : Int) = 55296 := by omega
                obtain ⟨p1, p2⟩ := hJ.out.put (c' := cc) (by rw [HLE.out]; exact hc2) hc1 z2 (by rw [if_neg hcv]) hc1
                have HJ2 := hidden p1
                have kP := putR a9 m9 c9 ou (str cc) wk hV.out.1 p2 (by omega)
                have hst : Utf8.encode (cc : Int) = str cc := rfl
                generalize str cc = S7 at *
                unfold PuL at kP
                have HZ := hidden (And.intro hcc (And.intro z2 (And.intro hc1 (And.intro hc2 hm9))))
                obtain ⟨CZ, hCZ⟩ : ∃ CZ : Int, (cc : Int) = CZ := ⟨_, rfl⟩
                rw [hCZ] at hcvz hc1z hst ⊢
                have hCZ2 : CZ + 1 = ((cc + 1 : Nat) : Int) := by omega
                have HCZ := hidden hCZ2
                have hCw : wrap32 (CZ + 1) = CZ + 1 := by rw [hCZ2]; exact wrap32_nat (by omega)
                clear p1 p2 hJ hcv z1 z2 hcc hc1 hc2 hm9 hCZ hCZ2
                go_wp2_with (go_at_call 50; refine kP.mono ?_; rintro e w5 ⟨a5, m5, c5, rfl, q1, q2⟩; have hm5 := q1.1; have hpl := putF_len ou S7; have hm6 : m5 ≤ 17 := (by have := HLE.out; have := HZ.out; omega); have Q := hidden (And.intro q1 (hV.out.2.trans (q2.mono hV.out.2.size))); clear kP q1 q2 hm5 hpl)
                obtain ⟨hcc, z2, hc1, hc2, hm9⟩ := HZ.out
                refine ⟨⟨cc + 1, m5, c5, a5, putF ou S7, rfl, by rw [HCZ.out, wrap32_nat (by omega)], by omega, hm6, HJ2, Q⟩, ?_⟩
                simp [intOf]
                have := HCZ.out
                omega
            · have HFI : Hid (CIx L R (i + 1) ou) := hidden (hJ.out.fin HO.out HRS.out (by rw [HLE.out]; exact hex))
              go_wp2_with fail
              refine ⟨⟨i + 1, m9, c9, a9, ou, rfl, rfl, by omega, hm9, HFI, hV⟩, ?_⟩
              simp [intOf]
              omega
      · have hltz : ¬ (i : Int) < (N : Int) := by omega
        have HD : Hid ((out.length ≤ 16 ∧ R = some out ∧ Rise out) ∨ (16 < out.length ∧ R = none)) := hidden (by
          have := hC.out
          obtain rfl : i = N := by omega
          rw [← HN.out] at this
          exact this.done)
        have hlen := hW.out.1.1
        rcases HD.out with ⟨h1, h2, h3⟩ | ⟨h1, h2⟩
        · have h16 : (m8 : Int) ≤ 16 := by omega
          have H2 := hidden h2
          clear h2
          go_wp2
          go_ret2
          exact ⟨a8, m8, c8, true, rfl, HB3.out.trans (hW.out.2.mono HB3.out.size), .inl ⟨rfl, by omega, out, H2.out, hW.out.1, h3⟩⟩
        · have h16 : ¬ (m8 : Int) ≤ 16 := by omega
          have h16d : decide ((m8 : Int) ≤ 16) = false := decide_eq_false h16
          have H2 := hidden h2
          clear h2
          go_wp2
          go_ret2
          exact ⟨a8, m8, c8, false, rfl, HB3.out.trans (hW.out.2.mono HB3.out.size), .inr ⟨rfl, H2.out, fun h => by cases h⟩⟩

end Go.Proofs.YtndegcgcbhcokaaDoor

/-
  The document's Words: of parts.
-/
namespace Go.Proofs.YtndegcgcbhcokaaDoor
open Go.RowKit
set_option linter.unusedVariables false
set_option linter.unusedSimpArgs false

def WdC (p : Pt) : Prop := ∀ (F : Nat → Prop) (w : World) (u : List Value), NdV F w p u → Calls Tryd.prog 31 #[.agg (List.toArray u)] w (WdN false p.wds w)
def WdRow (r : List Pt) : Prop := ∀ (F : Nat → Prop) (w : World) (u : List Value), RwV F w r u → r.length ≤ 1000 → Calls Tryd.prog 31 #[.agg (List.toArray u)] w (WdN true (rowW r [noText]) w)
def WdAny (l : List (List Pt)) : Prop := ∀ (F : Nat → Prop) (w : World) (u : List Value), AnV F w l u → l.length ≤ 1000 → Calls Tryd.prog 31 #[.agg (List.toArray u)] w (WdN true (rowsW l []) w)
theorem Lw.new1 (w : World) (x : ByteArray) : Lw (w.alloc (.cells #[.string x] 9)) (some ⟨w.heap.size, 0, none⟩) 1 1 [x] := Lw.owns (base := w.heap.size) (owns_new w x)

set_option maxRecDepth 100000 in
set_option maxHeartbeats 0 in
theorem wordsN_chr (c : Nat) : WdC (.chr c) := by
  intro F w u hN
  simp only [NdV] at hN
  obtain ⟨rfl, hv⟩ := hN
  obtain ⟨w1, hw1, hB1, hb1, hs1⟩ := box70 w (nV 1 c false 0 sN sN)
  have x0 : w1.cell? ⟨w.heap.size, 0, none⟩ = some (.int .i64 1) := hB1.cell 0
  have x1 : w1.cell? ⟨w.heap.size, 1, none⟩ = some (.int .i32 (c : Int)) := hB1.cell 1
  have HB1 := hidden hb1
  have HT : Hid ((Pt.chr c).wds = some [str c]) := hidden (by rw [Pt.wds]; exact spF_chr hv)
  have hst : Utf8.encode (c : Int) = str c := rfl
  generalize str c = S at *
  simp only [nV, sN] at hw1 ⊢
  rw [HT.out]
  have HW1 := hidden hw1
  have HL := hidden (Lw.new1 w1 S)
  show Calls Tryd.prog 31 #[.agg #[.int .i64 1, .int .i32 (c : Int), .bool false, .int .u8 0, .slice none 0 0, .slice none 0 0]] w (WdN false (some [S]) w)
  clear hw1 hB1 hb1 hs1 hv
  go_enter Tryd.func31, Tryd.ntmps31
  go_upto_region 1 with fail
  rw [show (w.alloc (.cells #[.int .i64 1, .int .i32 (c : Int), .bool false, .int .u8 0, .slice none 0 0, .slice none 0 0] 70)) = w1 from HW1.out]
  clear HW1
  go_wp2
  go_ret2
  exact ⟨_, 1, 1, true, rfl, HB1.out.alloc HB1.out.size _, .inl ⟨rfl, by omega, [S], rfl, HL.out, List.pairwise_singleton _ _⟩⟩
set_option maxRecDepth 100000 in
set_option maxHeartbeats 0 in
theorem wordsN_any : WdC .any := by
  intro F w u hN
  simp only [NdV] at hN
  subst hN
  obtain ⟨w1, hw1, hB1, hb1, hs1⟩ := box70 w (nV 2 0 false 0 sN sN)
  have x0 : w1.cell? ⟨w.heap.size, 0, none⟩ = some (.int .i64 2) := hB1.cell 0
  have HB1 := hidden hb1
  simp only [nV, sN] at hw1 ⊢
  have HW1 := hidden hw1
  rw [show Pt.any.wds = none by rw [Pt.wds]; exact spF_any]
  show Calls Tryd.prog 31 #[.agg #[.int .i64 2, .int .i32 0, .bool false, .int .u8 0, .slice none 0 0, .slice none 0 0]] w (WdN false none w)
  clear hw1 hB1 hb1 hs1
  go_enter Tryd.func31, Tryd.ntmps31
  go_upto_region 1 with fail
  rw [show (w.alloc (.cells #[.int .i64 2, .int .i32 0, .bool false, .int .u8 0, .slice none 0 0, .slice none 0 0] 70)) = w1 from HW1.out]
  clear HW1
  go_wp2
  go_ret2
  exact ⟨_, 0, 0, false, rfl, HB1.out, .inr ⟨rfl, rfl, fun _ => rfl⟩⟩
set_option maxRecDepth 100000 in
set_option maxHeartbeats 0 in
theorem wordsN_cls (neg : Bool) (l : Sn) : WdC (.cls neg l) := by
  intro F w u hN
  have hN' : RgV F w neg l u := by simpa only [NdV] using hN
  obtain ⟨w1, hw1, hB1, hb1, hs1⟩ := box70 w u
  have kC := classN neg l F w1 u (hN'.keep (Chg.of_below (F := fun _ => False) hb1) (fun _ _ h => h))
  obtain ⟨ad, c, raw, rfl, hs, _, hfo, hok, hne, hrl⟩ := hN'
  have x0 : w1.cell? ⟨w.heap.size, 0, none⟩ = some (.int .i64 3) := hB1.cell 0
  have HB1 := hidden hb1
  have BB := hidden hB1
  obtain ⟨R, hR⟩ : ∃ R, (Pt.cls neg l).wds = R := ⟨_, rfl⟩
  obtain ⟨n, hn⟩ : ∃ n, raw.length = n := ⟨_, rfl⟩
  rw [hR] at kC ⊢
  rw [hn] at kC hw1 BB ⊢
  simp only [nV, sN] at hw1 kC ⊢
  have HW1 := hidden hw1
  have kC2 : Calls Tryd.prog 49 #[.agg #[.int .i64 3, .int .i32 0, .bool neg, .int .u8 0, .slice ad n c, .slice none 0 0]] w1 (WdN false R w1) := kC
  show Calls Tryd.prog 31 #[.agg #[.int .i64 3, .int .i32 0, .bool neg, .int .u8 0, .slice ad n c, .slice none 0 0]] w (WdN false R w)
  unfold WdN at kC2
  clear hw1 hB1 hb1 hs1 hs hfo hok hne hn hR hN kC
  go_enter Tryd.func31, Tryd.ntmps31
  go_upto_region 1 with fail
  rw [show (w.alloc (.cells #[.int .i64 3, .int .i32 0, .bool neg, .int .u8 0, .slice ad n c, .slice none 0 0] 70)) = w1 from HW1.out]
  clear HW1
  go_wp2_with (first
    | (refine wpList_load_blk rfl 70 (.tmp 1) rfl w.heap.size BB.out rfl Tryd.underlying70 rfl info70s ?_; simp only [nV, sN])
    | (go_at_call 49; refine kC2.mono ?_; rintro e w3 ⟨a3, m3, c3, ok3, rfl, q1, q2⟩; have Q := hidden (And.intro q1 q2); clear kC2 q1 q2))
  go_ret2
  exact ⟨a3, m3, c3, ok3, rfl, HB1.out.trans (Q.out.1.mono HB1.out.size), Q.out.2⟩
set_option maxRecDepth 100000 in
set_option maxHeartbeats 0 in
theorem wordsN_grp (l : List (List Pt)) (hl9 : l.length ≤ 1000) (hE : WdAny l) : WdC (.grp l) := by
  intro F w u hN
  simp only [NdV] at hN
  obtain ⟨b, off, c, ad, c2, b2, off2, rfl, h1, h2, h3, h4⟩ := hN
  obtain ⟨w1, hw1, hB1, hb1, hs1⟩ := box70 w (nV 4 0 false 0 sN (.slice (some ⟨b, off, none⟩) 1 c))
  have x0 : w1.cell? ⟨w.heap.size, 0, none⟩ = some (.int .i64 4) := hB1.cell 0
  have x5 : w1.cell? ⟨w.heap.size, 5, none⟩ = some (.slice (some ⟨b, off, none⟩) 1 c) := hB1.cell 5
  have HB1 := hidden hb1
  have hAN : AnV F w l (nV 7 0 false 0 sN (.slice ad l.length c2)) := ⟨ad, c2, b2, off2, rfl, h3, h4⟩
  have kE := hE F w1 _ (hAN.keep (Chg.of_below (F := fun _ => False) hb1) (fun _ _ h => h)) hl9
  have CS1 := hidden (h2.keep (Chg.of_below (F := fun _ => False) hb1) (fun h => h)).range
  obtain ⟨m, hm⟩ : ∃ m, l.length = m := ⟨_, rfl⟩
  obtain ⟨R, hR⟩ : ∃ R, rowsW l [] = R := ⟨_, rfl⟩
  rw [Pt.wds, hR]
  rw [hR] at kE
  rw [hm] at kE CS1
  simp only [nV, sN] at hw1 kE ⊢
  have HW1 := hidden hw1
  unfold WdN at kE
  show Calls Tryd.prog 31 #[.agg #[.int .i64 4, .int .i32 0, .bool false, .int .u8 0, .slice none 0 0, .slice (some ⟨b, off, none⟩) 1 c]] w (WdN false R w)
  clear hw1 hB1 hb1 hs1 h1 h2 h3 h4 hAN hm hE hR hl9
  go_enter Tryd.func31, Tryd.ntmps31
  go_upto_region 1 with fail
  rw [show (w.alloc (.cells #[.int .i64 4, .int .i32 0, .bool false, .int .u8 0, .slice none 0 0, .slice (some ⟨b, off, none⟩) 1 c] 70)) = w1 from HW1.out]
  clear HW1
  go_wp2_with (first
    | (refine wpList_load_mid rfl 70 (.tmp 39) rfl b off (by rfl) (nV 7 0 false 0 sN (.slice ad m c2)) _ CS1.out Tryd.underlying70 rfl info70s ?_; simp only [nV, sN])
    | (go_at_call 31; refine kE.mono ?_; rintro e w3 ⟨a3, m3, c3, ok3, rfl, q1, q2⟩; have Q := hidden (And.intro q1 q2); clear kE q1 q2))
  go_ret2
  refine ⟨a3, m3, c3, ok3, rfl, HB1.out.trans (Q.out.1.mono HB1.out.size), ?_⟩
  rcases Q.out.2 with h | ⟨h1, h2, _⟩
  · exact .inl h
  · exact .inr ⟨h1, h2, fun h => by cases h⟩

end Go.Proofs.YtndegcgcbhcokaaDoor
