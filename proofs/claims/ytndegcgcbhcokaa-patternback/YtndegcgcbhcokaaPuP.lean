/-
  PatternJoins: the walk.
-/
import Derived.Test.YtndegcgcbhcokaaPuO
namespace Go.Proofs.Ytndegcgcbhcokaa
open Go.RowKit
set_option linter.unusedVariables false
set_option linter.unusedSimpArgs false

theorem prs_no (S : List UInt8) : prs S ≠ .out := by
  unfold prs
  split
  · simp
  · have := (read_bd S (4 * S.length + 4) 0 0 (Nat.zero_le _)).1.2 (by omega)
    cases h : rowsF S (4 * S.length + 4) 0 0 with
    | out => exact absurd h this
    | bad k => simp [endF]
    | ok l b => rw [endF]; split <;> simp
theorem parse_ok {s : ByteArray} {l : List (List Pt)} {b : Nat} (h : prs (bts s) = .ok l b) (w : World) : Calls Try.prog 6 #[.string s] w fun e w' => ∃ p F, e = .returned (.tuple #[.pointer (some ⟨p, 0, none⟩), .nilIface]) ∧ PaR F w' p l ∧ Below w.heap.size w w' := by
  refine (parseP s w).mono ?_
  rintro e w' ⟨hb, ⟨p, F, l', ⟨b', h1⟩, rfl, h2, _⟩ | ⟨k, g, h1, _⟩⟩
  · rw [h] at h1
    injection h1 with e1 e2
    subst e1
    exact ⟨p, F, rfl, h2, hb⟩
  · rw [h] at h1; cases h1
theorem parse_bad {s : ByteArray} {k : Nat} (h : prs (bts s) = .bad k) (w : World) : Calls Try.prog 6 #[.string s] w fun e w' => ∃ g, e = .returned (.tuple #[.pointer none, .iface 39 (.pointer (some ⟨g, 0, none⟩))]) ∧ Below w.heap.size w w' := by
  refine (parseP s w).mono ?_
  rintro e w' ⟨hb, ⟨p, F, l', ⟨b', h1⟩, rfl, h2, _⟩ | ⟨k, g, h1, rfl, _⟩⟩
  · rw [h] at h1; cases h1
  · exact ⟨g, rfl, hb⟩
theorem parse_any (s : ByteArray) (w : World) : Calls Try.prog 6 #[.string s] w fun e w' => ∃ P Er, e = .returned (.tuple #[P, Er]) ∧ Below w.heap.size w w' := by
  refine (parseP s w).mono ?_
  rintro e w' ⟨hb, ⟨p, F, l', ⟨b', h1⟩, rfl, h2, _⟩ | ⟨k, g, h1, rfl, _⟩⟩
  · exact ⟨_, _, rfl, hb⟩
  · exact ⟨_, _, rfl, hb⟩

theorem bts_append (a b : ByteArray) : bts (a ++ b) = bts a ++ bts b := by
  simp [bts]
def bothK (p q : Nat → Bool) : Nat → Bool
  | 0 => false
  | i + 1 => bothK p q i || (p i && q i)
def againK (e : Bool) (p c : Nat → Bool) : Nat → Bool
  | 0 => e
  | i + 1 => againK e p c i || (decide (0 < i) && p i && c i)
theorem bothK_iff (p q : Nat → Bool) : ∀ n, bothK p q n = true ↔ ∃ j, j < n ∧ p j = true ∧ q j = true
  | 0 => by simp [bothK]
  | n + 1 => by
    rw [bothK, Bool.or_eq_true, bothK_iff p q n, Bool.and_eq_true]
    constructor
    · rintro (⟨j, h1, h2⟩ | h)
      · exact ⟨j, by omega, h2⟩
      · exact ⟨n, by omega, h⟩
    · rintro ⟨j, h1, h2⟩
      rcases (show j < n ∨ j = n by omega) with h | rfl
      · exact Or.inl ⟨j, h, h2⟩
      · exact Or.inr h2
theorem againK_iff (e : Bool) (p c : Nat → Bool) : ∀ n, againK e p c n = true ↔ e = true ∨ ∃ j, 0 < j ∧ j < n ∧ p j = true ∧ c j = true
  | 0 => by simp [againK]
  | n + 1 => by
    rw [againK, Bool.or_eq_true, againK_iff e p c n, Bool.and_eq_true, Bool.and_eq_true, decide_eq_true_eq]
    constructor
    · rintro ((h | ⟨j, h0, h1, h2⟩) | ⟨⟨h0, h1⟩, h2⟩)
      · exact Or.inl h
      · exact Or.inr ⟨j, h0, by omega, h2⟩
      · exact Or.inr ⟨n, h0, by omega, h1, h2⟩
    · rintro (h | ⟨j, h0, h1, h2⟩)
      · exact Or.inl (Or.inl h)
      · rcases (show j < n ∨ j = n by omega) with h | rfl
        · exact Or.inl (Or.inr ⟨j, h0, h, h2⟩)
        · exact Or.inr ⟨⟨h0, h2.1⟩, h2.2⟩
open Classical in
/-- Does it mean the bytes, as a Bool? -/
noncomputable def mB (l : List (List Pt)) (L : List UInt8) : Bool := decide (Means l L)
theorem mB_iff (l : List (List Pt)) (L : List UInt8) : mB l L = true ↔ Means l L := by unfold mB; exact @decide_eq_true_iff _ (Classical.propDecidable _)
theorem match_mB {F : Nat → Prop} {w : World} {p : Nat} {l : List (List Pt)} (hP : PaR F w p l) (v : ByteArray) (hv : v.size ≤ 100000) (R : Bool) (hR : mB l (bts v) = R) :
    Calls Try.prog 11 #[.pointer (some ⟨p, 0, none⟩), .string v] w fun e w' => e = .returned (.bool R) ∧ Below w.heap.size w w' :=
  matchP F w p l hP v hv R (by rw [← hR]; exact mB_iff _ _)
theorem bts_pre (v : ByteArray) (i : Nat) : bts (v.extract 0 i) = (bts v).take i := by rw [bts_extract]; simp
theorem bts_suf (v : ByteArray) (i : Nat) : bts (v.extract i v.size) = (bts v).drop i := by rw [bts_extract, List.take_of_length_le (by rw [List.length_drop, size_bts]; exact Nat.le_refl _)]
theorem size_pre (v : ByteArray) (i : Nat) : (v.extract 0 i).size ≤ v.size := by rw [size_bts, bts_pre, size_bts]; simp; omega
theorem size_suf (v : ByteArray) (i : Nat) : (v.extract i v.size).size ≤ v.size := by rw [size_bts, bts_suf, size_bts]; simp

set_option maxRecDepth 100000 in
set_option maxHeartbeats 16000000 in
theorem joins_main (hsh : ∀ w, Calls Try.prog 5 #[] w fun e w' => e = .returned (.bool true) ∧ Below w.heap.size w w') (s t v : ByteArray) (w : World) (ls lt : List (List Pt)) (bs bt : Nat) (hs : prs (bts s) = .ok ls bs) (ht : prs (bts t) = .ok lt bt) (hlen : s.size + t.size ≤ 58) (hv : v.size ≤ 200)
    (hd1 : rowsDep ls ≤ 15) (hd2 : rowsDep lt ≤ 15) :
    Calls Try.prog 4 #[.string s, .string t, .string v] w fun e w' => e = .returned (.bool true) ∧ Below w.heap.size w w' := by
  have k5 := hsh w
  have kS := fun w => parse_ok hs w
  have kT := fun w => parse_ok ht w
  have hlz : ¬ (58 : Int) < (s.size : Int) + (t.size : Int) := by omega
  have hvz : ¬ (200 : Int) < (v.size : Int) := by omega
  have hlen' := hlen
  rw [size_bts, size_bts] at hlen'
  obtain ⟨bA, hA⟩ := (prs_or hs ht hlen').1 hd1 hd2
  obtain ⟨bB, hB⟩ := prs_cat hs ht hlen' hd1 hd2
  obtain ⟨bC, hC⟩ := (prs_star hs (by omega)).1 hd1
  have kA := fun w => parse_ok (s := { data := #[40] } ++ s ++ { data := #[41, 124, 40] } ++ t ++ { data := #[41] }) (l := [[.grp ls], [.grp lt]]) (b := bA) (by simp only [bts_append]; exact hA) w
  have kB := fun w => parse_ok (s := { data := #[40] } ++ s ++ { data := #[41, 40] } ++ t ++ { data := #[41] }) (l := [[.grp ls, .grp lt]]) (b := bB) (by simp only [bts_append]; exact hB) w
  have kC := fun w => parse_ok (s := { data := #[40] } ++ s ++ { data := #[41, 42] }) (l := [[.rep (.grp ls) 42]]) (b := bC) (by simp only [bts_append]; exact hC) w
  obtain ⟨n, hn⟩ : ∃ n, v.size = n := ⟨_, rfl⟩
  have HSV := hidden hn
  have HLV : Hid ((bts v).length = n) := hidden (by rw [← size_bts]; exact hn)
  obtain ⟨e0, he0⟩ : ∃ e0, v.toList.isEmpty = e0 := ⟨_, rfl⟩
  have HE0 : Hid (e0 = true ↔ bts v = []) := hidden (by rw [← he0, ByteArray.toList_eq]; exact List.isEmpty_iff)
  obtain ⟨pS, hpS⟩ : ∃ f : Nat → Bool, ∀ i, mB ls ((bts v).take i) = f i := ⟨_, fun _ => rfl⟩
  obtain ⟨qT, hqT⟩ : ∃ f : Nat → Bool, ∀ i, mB lt ((bts v).drop i) = f i := ⟨_, fun _ => rfl⟩
  obtain ⟨cD, hcD⟩ : ∃ f : Nat → Bool, ∀ i, mB [[.rep (.grp ls) 42]] ((bts v).drop i) = f i := ⟨_, fun _ => rfl⟩
  have HPS := hidden hpS
  have HQT := hidden hqT
  have HCD := hidden hcD
  have HOR := hidden (means_or ls lt (bts v))
  have HCAT := hidden (means_cat ls lt (bts v))
  have HSTAR := hidden (means_star ls (bts v))
  rw [hn] at hv hvz
  clear hs ht hd1 hd2 hA hB hC hpS hqT hcD hlen'
  go_enter Try.func4, Try.ntmps4
  go_wp2_with (first
    | (go_at_call 5; refine k5.mono ?_; rintro e w1 ⟨rfl, h1⟩; have H1 := hidden h1; clear k5 h1)
    | (go_at_call 6; refine (kS w1).mono ?_; rintro e w2 ⟨p2, F2, rfl, hp2, h2⟩; have H2 := hidden h2; have P2 := hidden hp2; clear kS h2 hp2)
    | (go_at_call 6; refine (kT w2).mono ?_; rintro e w3 ⟨p3, F3, rfl, hp3, h3⟩; have H3 := hidden h3; have P3 := hidden hp3; clear kT h3 hp3)
    | (go_at_call 6; refine (kA w3).mono ?_; rintro e w4 ⟨p4, F4, rfl, hp4, h4⟩; have H4 := hidden h4; have P4 := hidden hp4; clear kA h4 hp4)
    | (go_at_call 6; refine (kB w4).mono ?_; rintro e w5 ⟨p5, F5, rfl, hp5, h5⟩; have H5 := hidden h5; have P5 := hidden hp5; clear kB h5 hp5)
    | (go_at_call 6; refine (kC w5).mono ?_; rintro e w6 ⟨p6, F6, rfl, hp6, h6⟩; have H6 := hidden h6; have P6 := hidden hp6; clear kC h6 hp6))
  -- all five beside one another
  have Q3 := hidden (P3.out)
  have q45 := H4.out.trans (H5.out.mono H4.out.size)
  have q46 := q45.trans (H6.out.mono q45.size)
  have q36 := H3.out.trans (q46.mono H3.out.size)
  have q26 := H2.out.trans (q36.mono H2.out.size)
  have q16 := H1.out.trans (q26.mono H1.out.size)
  have HW6 := hidden q16
  have X2 := hidden (P2.out.later q36)
  have X3 := hidden (P3.out.later q46)
  have X4 := hidden (P4.out.later (H5.out.trans (H6.out.mono H5.out.size)))
  have X5 := hidden (P5.out.later H6.out)
  have X6 := P6
  clear q45 q46 q36 q26 q16 P2 P3 P4 P5 P6 Q3 H1 H2 H3 H4 H5 H6
  go_loopw [18, 19, 20] (fun s18 s19 s20 wx => ∃ (i : Nat) (bo ag : Bool), s18 = .bool bo ∧ s19 = .bool ag ∧ s20 = .int .i64 (i : Int) ∧ i ≤ n + 1 ∧ Hid (bothK pS qT i = bo) ∧ Hid (againK e0 pS cD i = ag) ∧ Hid (Below w6.heap.size w6 wx)) (fun _ _ s20 _ => n + 1 - (intOf s20).toNat)
  case atStart => exact ⟨0, false, e0, rfl, rfl, rfl, by omega, hidden rfl, hidden rfl, hidden (Below.refl _ _)⟩
  case round =>
    rename World => wr
    obtain ⟨i, bo, ag, rfl, rfl, rfl, hi, hbo, hag, hbel⟩ := hrel
    by_cases hlt : i ≤ n
    · have hltz : (i : Int) ≤ (n : Int) := by omega
      have kP := match_mB (X2.out.later hbel.out) (v.extract 0 i) (by have := size_pre v i; have := HSV.out; omega) (pS i) (by rw [bts_pre]; exact HPS.out i)
      have kQ : Hid (∀ wx, Below wr.heap.size wr wx → Calls Try.prog 11 #[.pointer (some ⟨p3, 0, none⟩), .string (v.extract i v.size)] wx fun e w' => e = .returned (.bool (qT i)) ∧ Below wx.heap.size wx w') := hidden (fun wx hb => match_mB ((X3.out.later hbel.out).later hb) (v.extract i v.size) (by have := size_suf v i; have := HSV.out; omega) (qT i) (by rw [bts_suf]; exact HQT.out i))
      have kC : Hid (∀ wx, Below wr.heap.size wr wx → Calls Try.prog 11 #[.pointer (some ⟨p6, 0, none⟩), .string (v.extract i v.size)] wx fun e w' => e = .returned (.bool (cD i)) ∧ Below wx.heap.size wx w') := hidden (fun wx hb => match_mB ((X6.out.later hbel.out).later hb) (v.extract i v.size) (by have := size_suf v i; have := HSV.out; omega) (cD i) (by rw [bts_suf]; exact HCD.out i))
      rw [HSV.out] at kQ kC
      have hbo1 : bothK pS qT (i + 1) = (bo || (pS i && qT i)) := by rw [bothK, hbo.out]
      have hag0 : i = 0 → againK e0 pS cD (i + 1) = ag := fun h => by rw [againK, hag.out, h]; simp
      have hag1 : 0 < i → againK e0 pS cD (i + 1) = (ag || (pS i && cD i)) := fun h => by rw [againK, hag.out]; simp [h]
      generalize pS i = a at kP hbo1 hag1
      generalize qT i = b at kQ hbo1
      generalize cD i = c at kC hag1
      have HBO := hidden hbo1
      have HA0 := hidden hag0
      have HA1 := hidden hag1
      clear hbo1 hag0 hag1 hbo hag
      go_upto_region 18 with (first
        | (go_at_call 11; refine kP.mono ?_; rintro e u1 ⟨rfl, g1⟩; have G1 := hidden g1; have kQ' := kQ.out u1 g1; clear kP kQ g1)
        | (go_at_call 11; refine kQ'.mono ?_; rintro e u2 ⟨rfl, g2⟩; have G2 := hidden (G1.out.trans (g2.mono G1.out.size)); have kC' := kC.out u2 G2.out; clear kQ' kC g2))
      have HB2 := hidden (hbel.out.trans (G2.out.mono hbel.out.size))
      rcases Nat.eq_zero_or_pos i with hi0 | hi0
      · have hiz : ¬ (0 : Int) < (i : Int) := by omega
        have HA := HA0.out hi0
        clear kC' HA1 HA0 hi0
        cases a <;> cases b <;> cases bo
        all_goals
          go_wp2
          refine ⟨⟨i + 1, _, ag, by first | rfl | simp, by first | rfl | simp, by first | rfl | simp, by omega, hidden (by rw [HBO.out]; rfl), hidden HA, HB2⟩, ?_⟩
          simp [intOf]
          omega
      · have hiz : (0 : Int) < (i : Int) := by omega
        have HA := HA1.out hi0
        clear HA1 HA0 hi0
        cases a with
        | false =>
          clear kC'
          cases b <;> cases bo
          all_goals
            go_wp2
            refine ⟨⟨i + 1, _, ag, by first | rfl | simp, by first | rfl | simp, by first | rfl | simp, by omega, hidden (by rw [HBO.out]; rfl), hidden (by rw [HA]; simp), HB2⟩, ?_⟩
            simp [intOf]
            omega
        | true =>
          cases b <;> cases bo <;> cases ag
          all_goals
            go_wp2_with (go_at_call 11; refine kC'.mono ?_; rintro e u3 ⟨rfl, g3⟩; have G3 := hidden (G2.out.trans (g3.mono G2.out.size)); clear kC' g3)
            refine ⟨⟨i + 1, _, _, by first | rfl | simp, by first | rfl | simp, by first | rfl | simp, by omega, hidden (by rw [HBO.out]; rfl), hidden (by rw [HA]; first | rfl | simp), hidden (hbel.out.trans (G3.out.mono hbel.out.size))⟩, ?_⟩
            simp [intOf]
            omega
    · have hltz : ¬ (i : Int) ≤ (n : Int) := by omega
      have hie : i = n + 1 := by omega
      subst hie
      have hbo2 : mB [[.grp ls, .grp lt]] (bts v) = bo := by
        rw [Bool.eq_iff_iff, mB_iff, HCAT.out, ← hbo.out, bothK_iff]
        constructor
        · rintro ⟨j, h1, h2, h3⟩
          exact ⟨j, by rw [HLV.out] at h1; omega, by rw [← HPS.out, mB_iff]; exact h2, by rw [← HQT.out, mB_iff]; exact h3⟩
        · rintro ⟨j, h1, h2, h3⟩
          exact ⟨j, by rw [HLV.out]; omega, by rw [← HPS.out, mB_iff] at h2; exact h2, by rw [← HQT.out, mB_iff] at h3; exact h3⟩
      have hag2 : mB [[.rep (.grp ls) 42]] (bts v) = ag := by
        rw [Bool.eq_iff_iff, mB_iff, HSTAR.out, ← hag.out, againK_iff, HE0.out]
        constructor
        · rintro (h | ⟨j, h0, h1, h2, h3⟩)
          · exact Or.inl h
          · exact Or.inr ⟨j, h0, by rw [HLV.out] at h1; omega, by rw [← HPS.out, mB_iff]; exact h2, by rw [← HCD.out, mB_iff]; exact h3⟩
        · rintro (h | ⟨j, h0, h1, h2, h3⟩)
          · exact Or.inl h
          · exact Or.inr ⟨j, h0, by rw [HLV.out]; omega, by rw [← HPS.out, mB_iff] at h2; exact h2, by rw [← HCD.out, mB_iff] at h3; exact h3⟩
      obtain ⟨pV, hpV⟩ : ∃ pV, mB ls (bts v) = pV := ⟨_, rfl⟩
      obtain ⟨qV, hqV⟩ : ∃ qV, mB lt (bts v) = qV := ⟨_, rfl⟩
      have hor : mB [[.grp ls], [.grp lt]] (bts v) = (pV || qV) := by
        rw [Bool.eq_iff_iff, mB_iff, HOR.out, Bool.or_eq_true, ← hpV, ← hqV, mB_iff, mB_iff]
      have hvb : v.size ≤ 100000 := by rw [HSV.out]; omega
      have kP : Hid (∀ wx, Below wr.heap.size wr wx → Calls Try.prog 11 #[.pointer (some ⟨p2, 0, none⟩), .string v] wx fun e w' => e = .returned (.bool pV) ∧ Below wx.heap.size wx w') := hidden (fun wx hb => match_mB ((X2.out.later hbel.out).later hb) v hvb pV hpV)
      have kQ : Hid (∀ wx, Below wr.heap.size wr wx → Calls Try.prog 11 #[.pointer (some ⟨p3, 0, none⟩), .string v] wx fun e w' => e = .returned (.bool qV) ∧ Below wx.heap.size wx w') := hidden (fun wx hb => match_mB ((X3.out.later hbel.out).later hb) v hvb qV hqV)
      have kA : Hid (∀ wx, Below wr.heap.size wr wx → Calls Try.prog 11 #[.pointer (some ⟨p4, 0, none⟩), .string v] wx fun e w' => e = .returned (.bool (pV || qV)) ∧ Below wx.heap.size wx w') := hidden (fun wx hb => match_mB ((X4.out.later hbel.out).later hb) v hvb _ hor)
      have kB : Hid (∀ wx, Below wr.heap.size wr wx → Calls Try.prog 11 #[.pointer (some ⟨p5, 0, none⟩), .string v] wx fun e w' => e = .returned (.bool bo) ∧ Below wx.heap.size wx w') := hidden (fun wx hb => match_mB ((X5.out.later hbel.out).later hb) v hvb _ hbo2)
      have kC : Hid (∀ wx, Below wr.heap.size wr wx → Calls Try.prog 11 #[.pointer (some ⟨p6, 0, none⟩), .string v] wx fun e w' => e = .returned (.bool ag) ∧ Below wx.heap.size wx w') := hidden (fun wx hb => match_mB ((X6.out.later hbel.out).later hb) v hvb _ hag2)
      have kP' := kP.out wr (Below.refl _ _)
      clear hbo hag hbo2 hag2 hpV hqV hor kP hi
      cases pV
      all_goals
        go_wp2_with (first
          | (go_at_call 11; refine kP'.mono ?_; rintro e u1 ⟨rfl, g1⟩; have G1 := hidden g1; have kQ' := kQ.out u1 g1; clear kP' kQ g1)
          | (go_at_call 11; refine kQ'.mono ?_; rintro e u2 ⟨rfl, g2⟩; have G2 := hidden (G1.out.trans (g2.mono G1.out.size)); have kA' := kA.out u2 G2.out; clear kQ' kA g2)
          | (go_at_call 11; refine kA'.mono ?_; rintro e u3 ⟨rfl, g3⟩; have G3 := hidden (G2.out.trans (g3.mono G2.out.size)); have kB' := kB.out u3 G3.out; clear kA' kB g3)
          | (go_at_call 11; refine kB'.mono ?_; rintro e u4 ⟨rfl, g4⟩; have G4 := hidden (G3.out.trans (g4.mono G3.out.size)); have kC' := kC.out u4 G4.out; clear kB' kC g4)
          | (go_at_call 11; refine kC'.mono ?_; rintro e u5 ⟨rfl, g5⟩; have G5 := hidden (G4.out.trans (g5.mono G4.out.size)); clear kC' g5))
        go_ret
        have r1 := hbel.out.trans (G5.out.mono hbel.out.size)
        exact ⟨rfl, HW6.out.trans (r1.mono HW6.out.size)⟩

set_option maxRecDepth 100000 in
set_option maxHeartbeats 8000000 in
theorem joins_any (hsh : ∀ w, Calls Try.prog 5 #[] w fun e w' => e = .returned (.bool true) ∧ Below w.heap.size w w') (s t v : ByteArray) (w : World) :
    Calls Try.prog 4 #[.string s, .string t, .string v] w fun e w' => e = .returned (.bool true) ∧ Below w.heap.size w w' := by
  have k5 := hsh w
  cases hs : prs (bts s) with
  | out => exact absurd hs (prs_no _)
  | bad k =>
    have kS := fun w => parse_bad hs w
    have kT := fun w => parse_any t w
    clear hs
    go_enter Try.func4, Try.ntmps4
    go_wp2_with (first
      | (go_at_call 5; refine k5.mono ?_; rintro e w1 ⟨rfl, h1⟩; have H1 := hidden h1; clear k5 h1)
      | (go_at_call 6; refine (kS w1).mono ?_; rintro e w2 ⟨g2, rfl, h2⟩; have H2 := hidden h2; clear kS h2)
      | (go_at_call 6; refine (kT w2).mono ?_; rintro e w3 ⟨P3, E3, rfl, h3⟩; have H3 := hidden h3; clear kT h3))
    go_ret
    have q := H1.out.trans (H2.out.mono H1.out.size)
    exact ⟨rfl, q.trans (H3.out.mono q.size)⟩
  | ok ls bs =>
    have kS := fun w => parse_ok hs w
    cases ht : prs (bts t) with
    | out => exact absurd ht (prs_no _)
    | bad k =>
      have kT := fun w => parse_bad ht w
      clear hs ht
      go_enter Try.func4, Try.ntmps4
      go_wp2_with (first
        | (go_at_call 5; refine k5.mono ?_; rintro e w1 ⟨rfl, h1⟩; have H1 := hidden h1; clear k5 h1)
        | (go_at_call 6; refine (kS w1).mono ?_; rintro e w2 ⟨p2, F2, rfl, hp2, h2⟩; have H2 := hidden h2; clear kS h2 hp2)
        | (go_at_call 6; refine (kT w2).mono ?_; rintro e w3 ⟨g3, rfl, h3⟩; have H3 := hidden h3; clear kT h3))
      go_ret
      have q := H1.out.trans (H2.out.mono H1.out.size)
      exact ⟨rfl, q.trans (H3.out.mono q.size)⟩
    | ok lt bt =>
      have kT := fun w => parse_ok ht w
      have hsz := (prs_ok hs).1
      have htz := (prs_ok ht).1
      rw [← size_bts] at hsz htz
      by_cases hlen : s.size + t.size ≤ 58
      · have hlz : ¬ (58 : Int) < (s.size : Int) + (t.size : Int) := by omega
        by_cases hv : v.size ≤ 200
        · have hvz : ¬ (200 : Int) < (v.size : Int) := by omega
          by_cases hd : rowsDep ls ≤ 15 ∧ rowsDep lt ≤ 15
          · exact joins_main hsh s t v w ls lt bs bt hs ht hlen hv hd.1 hd.2
          · have hlen' := hlen
            rw [size_bts, size_bts] at hlen'
            obtain ⟨kk, hA⟩ := (prs_or hs ht hlen').2 (by omega)
            have kA := fun w => parse_bad (s := { data := #[40] } ++ s ++ { data := #[41, 124, 40] } ++ t ++ { data := #[41] }) (k := kk) (by simp only [bts_append]; exact hA) w
            have kB := fun w => parse_any ({ data := #[40] } ++ s ++ { data := #[41, 40] } ++ t ++ { data := #[41] }) w
            have kC := fun w => parse_any ({ data := #[40] } ++ s ++ { data := #[41, 42] }) w
            clear hs ht hd hA hlen'
            go_enter Try.func4, Try.ntmps4
            go_wp2_with (first
              | (go_at_call 5; refine k5.mono ?_; rintro e w1 ⟨rfl, h1⟩; have H1 := hidden h1; clear k5 h1)
              | (go_at_call 6; refine (kS w1).mono ?_; rintro e w2 ⟨p2, F2, rfl, hp2, h2⟩; have H2 := hidden h2; clear kS h2 hp2)
              | (go_at_call 6; refine (kT w2).mono ?_; rintro e w3 ⟨p3, F3, rfl, hp3, h3⟩; have H3 := hidden h3; clear kT h3 hp3)
              | (go_at_call 6; refine (kA w3).mono ?_; rintro e w4 ⟨g4, rfl, h4⟩; have H4 := hidden h4; clear kA h4)
              | (go_at_call 6; refine (kB w4).mono ?_; rintro e w5 ⟨P5, E5, rfl, h5⟩; have H5 := hidden h5; clear kB h5)
              | (go_at_call 6; refine (kC w5).mono ?_; rintro e w6 ⟨P6, E6, rfl, h6⟩; have H6 := hidden h6; clear kC h6))
            go_ret
            have q2 := H1.out.trans (H2.out.mono H1.out.size)
            have q3 := q2.trans (H3.out.mono q2.size)
            have q4 := q3.trans (H4.out.mono q3.size)
            have q5 := q4.trans (H5.out.mono q4.size)
            exact ⟨rfl, q5.trans (H6.out.mono q5.size)⟩
        · have hvz : (200 : Int) < (v.size : Int) := by omega
          clear hs ht
          go_enter Try.func4, Try.ntmps4
          go_wp2_with (first
            | (go_at_call 5; refine k5.mono ?_; rintro e w1 ⟨rfl, h1⟩; have H1 := hidden h1; clear k5 h1)
            | (go_at_call 6; refine (kS w1).mono ?_; rintro e w2 ⟨p2, F2, rfl, hp2, h2⟩; have H2 := hidden h2; clear kS h2 hp2)
            | (go_at_call 6; refine (kT w2).mono ?_; rintro e w3 ⟨p3, F3, rfl, hp3, h3⟩; have H3 := hidden h3; clear kT h3 hp3))
          go_ret
          have q := H1.out.trans (H2.out.mono H1.out.size)
          exact ⟨rfl, q.trans (H3.out.mono q.size)⟩
      · have hlz : (58 : Int) < (s.size : Int) + (t.size : Int) := by omega
        clear hs ht
        go_enter Try.func4, Try.ntmps4
        go_wp2_with (first
          | (go_at_call 5; refine k5.mono ?_; rintro e w1 ⟨rfl, h1⟩; have H1 := hidden h1; clear k5 h1)
          | (go_at_call 6; refine (kS w1).mono ?_; rintro e w2 ⟨p2, F2, rfl, hp2, h2⟩; have H2 := hidden h2; clear kS h2 hp2)
          | (go_at_call 6; refine (kT w2).mono ?_; rintro e w3 ⟨p3, F3, rfl, hp3, h3⟩; have H3 := hidden h3; clear kT h3 hp3))
        go_ret
        have q := H1.out.trans (H2.out.mono H1.out.size)
        exact ⟨rfl, q.trans (H3.out.mono q.size)⟩

end Go.Proofs.Ytndegcgcbhcokaa
