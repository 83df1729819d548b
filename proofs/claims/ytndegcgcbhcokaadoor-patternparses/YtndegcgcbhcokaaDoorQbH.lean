/-
  The document's Words: of a repetition.
-/
import Derived.Test.YtndegcgcbhcokaaDoorQaQ
namespace Go.Proofs.YtndegcgcbhcokaaDoor
open Go.RowKit
set_option linter.unusedVariables false
set_option linter.unusedSimpArgs false

theorem empty_iff (x : ByteArray) : x.toList = [] ↔ x = noText := by
  rw [tl_bts]
  constructor
  · intro h; exact bts_inj (by rw [h]; rfl)
  · rintro rfl; rfl
theorem putF_nil1 : putF [] noText = [noText] := rfl
theorem putF_one1 : putF [noText] noText = [noText] := by
  unfold putF
  have : putI [noText] noText [noText].length = 0 := by
    show putI [noText] noText 1 = 0
    rw [putI]
    simp only [List.getElem?_cons_zero]
    rw [if_neg (by rw [bl_irr]; simp)]
    rfl
  rw [this]
  rfl
/-- What is answered of a repetition, by cases. -/
theorem rep_cases (l : Wl) (s : Nat) :
    ((l = [] ∨ l = [noText]) ∧ repW (some l) s = some (if s = 43 then l else [noText])) ∨
    ((1 < l.length ∨ ∃ x, l = [x] ∧ x ≠ noText) ∧ repW (some l) s = if s = 63 then (if 16 < (putF l noText).length then none else some (putF l noText)) else none) := by
  unfold repW letters
  rcases l with _ | ⟨x, _ | ⟨y, t⟩⟩
  · left
    refine ⟨.inl rfl, ?_⟩
    simp only [List.length_nil, Nat.not_lt_zero, decide_false, Bool.false_or, Bool.false_eq_true, false_and, if_false]
    split
    · rfl
    · rw [togF, putF_nil1]; rfl
  · by_cases hx : x = noText
    · left
      subst hx
      refine ⟨.inr rfl, ?_⟩
      have : noText.toList = [] := (empty_iff _).2 rfl
      simp only [List.length_singleton, Nat.lt_irrefl, decide_false, Bool.false_or, this, List.isEmpty_nil, Bool.not_true, Bool.false_eq_true, false_and, if_false]
      split
      · rfl
      · rw [togF, putF_one1]; rfl
    · right
      refine ⟨.inr ⟨x, rfl, hx⟩, ?_⟩
      have he : x.toList.isEmpty = false := by
        cases h : x.toList with
        | nil => exact absurd ((empty_iff x).1 h) hx
        | cons a t => rfl
      simp only [List.length_singleton, Nat.lt_irrefl, decide_false, Bool.false_or, he, Bool.not_false, true_and]
      by_cases hs : s = 63
      · subst hs
        rw [if_pos rfl, if_neg (by simp), if_neg (by decide), togF]
        split
        · rfl
        · rfl
      · rw [if_neg hs, if_pos hs]
  · right
    refine ⟨.inl (by simp), ?_⟩
    have h1 : decide (1 < (x :: y :: t).length) = true := by simp
    simp only [h1, Bool.true_or, true_and]
    by_cases hs : s = 63
    · subst hs
      rw [if_pos rfl, if_neg (by simp), if_neg (by decide), togF]
      split
      · rfl
      · rfl
    · rw [if_neg hs, if_pos hs]

set_option maxRecDepth 100000 in
set_option maxHeartbeats 0 in
theorem wordsN_rep (a : Pt) (s : Nat) (hE : WdC a) : WdC (.rep a s) := by
  intro F w u hN
  simp only [NdV] at hN
  obtain ⟨b, off, c, u', rfl, h1, h2, h3⟩ := hN
  obtain ⟨w1, hw1, hB1, hb1, hs1⟩ := box70 w (nV 5 0 false s sN (.slice (some ⟨b, off, none⟩) 1 c))
  have x0 : w1.cell? ⟨w.heap.size, 0, none⟩ = some (.int .i64 5) := hB1.cell 0
  have x5 : w1.cell? ⟨w.heap.size, 5, none⟩ = some (.slice (some ⟨b, off, none⟩) 1 c) := hB1.cell 5
  have HB1 := hidden hb1
  have BB := hidden hB1
  have kE := hE F w1 u' (NdV.keep (Chg.of_below (F := fun _ => False) hb1) (fun _ _ h => h) a u' h3)
  have CS1 := hidden (h2.keep (Chg.of_below (F := fun _ => False) hb1) (fun h => h)).range
  have HSH := hidden h3.sh
  rw [Pt.wds]
  obtain ⟨R, hR⟩ : ∃ R, a.wds = R := ⟨_, rfl⟩
  rw [hR] at kE ⊢
  obtain ⟨T, hT⟩ : ∃ T, repW R s = T := ⟨_, rfl⟩
  have HT := hidden hT
  rw [hT]
  unfold WdN at kE
  simp only [nV, sN] at hw1 ⊢
  have HW1 := hidden hw1
  obtain ⟨SZ, hSZ⟩ : ∃ SZ : Int, (s : Int) = SZ := ⟨_, rfl⟩
  have HSZ := hidden hSZ
  have BB2 : Hid (∀ wx, Below w1.heap.size w1 wx → wx.cell? ⟨w.heap.size, 3, none⟩ = some (.int .u8 SZ)) := hidden (fun wx hb => by rw [← hSZ]; exact (BB.out.later hb).cell 3)
  rw [hSZ] at HW1 ⊢
  show Calls Tryd.prog 31 #[.agg #[.int .i64 5, .int .i32 0, .bool false, .int .u8 SZ, .slice none 0 0, .slice (some ⟨b, off, none⟩) 1 c]] w (WdN false T w)
  clear hw1 hB1 hb1 hs1 h1 h2 h3 hE hR hSZ hT
  go_enter Tryd.func31, Tryd.ntmps31
  go_upto_region 1 with fail
  rw [show (w.alloc (.cells #[.int .i64 5, .int .i32 0, .bool false, .int .u8 SZ, .slice none 0 0, .slice (some ⟨b, off, none⟩) 1 c] 70)) = w1 from HW1.out]
  clear HW1
  go_upto_region 12 with (first
    | (refine wpList_load_mid rfl 70 (.tmp 49) rfl b off (by rfl) u' _ CS1.out Tryd.underlying70 rfl (sz6 HSH.out) ?_)
    | (go_at_call 31; refine kE.mono ?_; rintro e w3 ⟨a3, m3, c3, ok3, rfl, q1, q2⟩; have HB3 := hidden (HB1.out.trans (q1.mono HB1.out.size)); have y3 := BB2.out w3 q1; have Q := hidden q2; clear kE q1 q2 x0 x5))
  rcases Q.out with ⟨rfl, hm, l, hR, hL, hri⟩ | ⟨rfl, hR, _⟩
  · subst hR
    have HL := hidden hL
    rcases rep_cases l s with ⟨hl, hrw⟩ | ⟨hl, hrw⟩
    · -- nothing, or the empty text
      have HRW : Hid (T = _) := hidden (HT.out.symm.trans hrw)
      have hln := hL.1
      clear hrw
      have hsub : (m3 = 0 ∧ l = []) ∨ (∃ g x, a3 = some ⟨g, 0, none⟩ ∧ m3 = 1 ∧ l = [noText] ∧ w3.cell? ⟨g, 0, none⟩ = some (.string x) ∧ x.toList = []) := by
        rcases hl with rfl | rfl
        · exact .inl ⟨by rw [← hln]; rfl, rfl⟩
        · have h1 : m3 = 1 := by rw [← hln]; rfl
          obtain ⟨g, x, e, hg, hx, hc⟩ := hL.get (i := 0) (by omega)
          simp at hx
          exact .inr ⟨g, x, e, h1, rfl, hc, (empty_iff x).2 hx.symm⟩
      clear hL hl hm hln
      by_cases h43 : s = 43
      · obtain rfl : SZ = 43 := by rw [← HSZ.out, h43]; rfl
        rw [if_pos h43] at HRW
        rcases hsub with ⟨rfl, hl⟩ | ⟨g, x, rfl, rfl, hl, hc, hx⟩
        · go_wp2
          go_ret2
          exact ⟨a3, 0, c3, true, rfl, HB3.out, .inl ⟨rfl, by omega, l, HRW.out, HL.out, hri⟩⟩
        · have hq3 : x.toList.isEmpty = true := by rw [hx]; rfl
          go_wp2
          go_ret2
          exact ⟨_, 1, c3, true, rfl, HB3.out, .inl ⟨rfl, by omega, l, HRW.out, HL.out, hri⟩⟩
      · have hSZ : ¬ SZ = 43 := by rw [← HSZ.out]; omega
        rw [if_neg h43] at HRW
        have HN1 := hidden (Lw.new1 w3 noText)
        rcases hsub with ⟨rfl, hl⟩ | ⟨g, x, rfl, rfl, hl, hc, hx⟩
        · go_wp2
          go_ret2
          exact ⟨_, 1, 1, true, rfl, HB3.out.alloc HB3.out.size _, .inl ⟨rfl, by omega, [noText], HRW.out, HN1.out, List.pairwise_singleton _ _⟩⟩
        · have hq3 : x.toList.isEmpty = true := by rw [hx]; rfl
          go_wp2
          go_ret2
          exact ⟨_, 1, 1, true, rfl, HB3.out.alloc HB3.out.size _, .inl ⟨rfl, by omega, [noText], HRW.out, HN1.out, List.pairwise_singleton _ _⟩⟩
    · -- letters
      have HRW : Hid (T = _) := hidden (HT.out.symm.trans hrw)
      have hln := hL.1
      clear hrw
      have hsub : (¬ (m3 : Int) = 0 ∧ ¬ (m3 : Int) = 1) ∨ (∃ g x, a3 = some ⟨g, 0, none⟩ ∧ m3 = 1 ∧ w3.cell? ⟨g, 0, none⟩ = some (.string x) ∧ x.toList.isEmpty = false ∧ ¬ x.toList = []) := by
        rcases hl with hl | ⟨x, rfl, hx⟩
        · exact .inl ⟨by omega, by omega⟩
        · have h1 : m3 = 1 := by rw [← hln]; rfl
          obtain ⟨g, x', e, hg, hx', hc⟩ := hL.get (i := 0) (by omega)
          simp at hx'
          subst hx'
          have hne : ¬ x.toList = [] := fun h => hx ((empty_iff x).1 h)
          exact .inr ⟨g, x, e, h1, hc, by cases h : x.toList <;> simp_all, hne⟩
      have kP := putR a3 m3 c3 l noText w3 hL hri (by omega)
      unfold PuL at kP
      have HRS := hidden hri
      clear hL hl hri hln
      by_cases h63 : s = 63
      · obtain rfl : SZ = 63 := by rw [← HSZ.out, h63]; rfl
        rw [if_pos h63] at HRW
        obtain ⟨PF, hPF⟩ : ∃ PF, putF l noText = PF := ⟨_, rfl⟩
        have HRI : Hid (Rise PF) := hidden (by rw [← hPF]; exact putF_rise HRS.out _)
        rw [hPF] at HRW kP
        clear hPF
        by_cases h16 : 16 < PF.length
        · rw [if_pos h16] at HRW
          rcases hsub with ⟨hm0, hm1⟩ | ⟨g, x, rfl, rfl, hc, hq3, hq4⟩
          all_goals (
            go_wp2_with (go_at_call 50; refine kP.mono ?_; rintro e w5 ⟨a5, m5, c5, rfl, p1, p2⟩; have hm5 := p1.1; have P5 := hidden (And.intro p1 p2); have h5z : ¬ (m5 : Int) ≤ 16 := (by omega); have h5d : decide ((m5 : Int) ≤ 16) = false := decide_eq_false h5z; clear kP p1 p2)
            go_ret2
            exact ⟨_, m5, c5, false, rfl, HB3.out.trans (P5.out.2.mono HB3.out.size), .inr ⟨rfl, HRW.out, fun h => by cases h⟩⟩)
        · rw [if_neg h16] at HRW
          rcases hsub with ⟨hm0, hm1⟩ | ⟨g, x, rfl, rfl, hc, hq3, hq4⟩
          all_goals (
            go_wp2_with (go_at_call 50; refine kP.mono ?_; rintro e w5 ⟨a5, m5, c5, rfl, p1, p2⟩; have hm5 := p1.1; have P5 := hidden (And.intro p1 p2); have h5z : (m5 : Int) ≤ 16 := (by omega); clear kP p1 p2)
            go_ret2
            exact ⟨_, m5, c5, true, rfl, HB3.out.trans (P5.out.2.mono HB3.out.size), .inl ⟨rfl, by omega, PF, HRW.out, P5.out.1, HRI.out⟩⟩)
      · have hSZ : ¬ SZ = 63 := by rw [← HSZ.out]; omega
        rw [if_neg h63] at HRW
        clear kP
        rcases hsub with ⟨hm0, hm1⟩ | ⟨g, x, rfl, rfl, hc, hq3, hq4⟩
        · go_wp2
          go_ret2
          exact ⟨_, 0, 0, false, rfl, HB3.out, .inr ⟨rfl, HRW.out, fun _ => rfl⟩⟩
        · go_wp2
          go_ret2
          exact ⟨_, 0, 0, false, rfl, HB3.out, .inr ⟨rfl, HRW.out, fun _ => rfl⟩⟩
  · subst hR
    have HRN : Hid (T = none) := hidden HT.out.symm
    clear Q
    by_cases h63 : s = 63
    · obtain rfl : SZ = 63 := by rw [← HSZ.out, h63]; rfl
      go_wp2
      go_ret2
      exact ⟨_, 0, 0, false, rfl, HB3.out, .inr ⟨rfl, HRN.out, fun _ => rfl⟩⟩
    · have hSZ : ¬ SZ = 63 := by rw [← HSZ.out]; omega
      go_wp2
      go_ret2
      exact ⟨_, 0, 0, false, rfl, HB3.out, .inr ⟨rfl, HRN.out, fun _ => rfl⟩⟩

end Go.Proofs.YtndegcgcbhcokaaDoor
