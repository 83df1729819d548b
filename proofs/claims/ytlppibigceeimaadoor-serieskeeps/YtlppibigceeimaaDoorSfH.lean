/-
  SeriesKeeps: the walk.
-/
import Derived.Test.YtlppibigceeimaaDoorSfF
import Derived.Test.YtlppibigceeimaaDoorSfI
import Derived.Test.YtlppibigceeimaaDoorSfJ
import Derived.Test.YtlppibigceeimaaDoorSfK
import Derived.Deep.CutRange
namespace Go.Proofs.YtlppibigceeimaaDoor
open Go.RowKit
set_option linter.unusedVariables false
set_option linter.unusedSimpArgs false

theorem ris_step0 {all m : List Sm} {x : Sm} (h : m[0]? = some x) : Ris (all ++ m.take 1) ↔ Ris all ∧ (all = [] ∨ (all.getLast?.getD z0).t < x.t) := by
  have e : m.take 1 = [x] := by rw [List.take_add_one (i := 0), h]; rfl
  rw [e]
  exact ris_snoc
theorem ris_stepS {all m : List Sm} {k : Nat} {x z : Sm} (h : m[k + 1]? = some x) (hz : m[k]? = some z) : Ris (all ++ m.take (k + 1 + 1)) ↔ Ris (all ++ m.take (k + 1)) ∧ z.t < x.t := by
  have e1 : m.take (k + 1 + 1) = m.take (k + 1) ++ [x] := by rw [List.take_add_one, h]; rfl
  have e2 : m.take (k + 1) = m.take k ++ [z] := by rw [List.take_add_one, hz]; rfl
  rw [e1, ← List.append_assoc, ris_snoc]
  refine and_congr Iff.rfl ?_
  rw [e2, ← List.append_assoc]
  simp
theorem ris_pre {all m : List Sm} {k : Nat} (h : Ris (all ++ m.take (k + 1))) : Ris (all ++ m.take k) := by
  have e : m.take (k + 1) = m.take k ++ (m[k]?).toList := List.take_add_one
  rw [e, ← List.append_assoc] at h
  exact (List.pairwise_append.1 h).1
theorem one_ok : ∀ x ∈ ([⟨1, 1⟩] : List Sm), OkS x := by
  intro x hx
  simp only [List.mem_cons, List.not_mem_nil, or_false] at hx
  subst hx
  exact ⟨by simp [I64], by simp⟩
theorem one_gn : (gO (gB [] [⟨1, 1⟩])).length = 1 := by kernel_rfl
set_option maxRecDepth 100000 in
set_option maxHeartbeats 16000000 in
theorem keeps_any (sl : Int) (l : List Sm) (pz : List Int) (adl adp : Option Addr) (N cl M cp : Nat) (w : World) (hG : Gv w) (hlo : 2 ≤ w.heap.size) (hsl : I64 sl) (hL : Ss w adl l) (hN : l.length = N) (hNc : N ≤ cl) (hcl : cl ≤ 9223372036854775807) (hZ : SlZ w adp pz) (hM : pz.length = M) (hM9 : M ≤ 9223372036854775807) :
    Calls Tryd.prog 3 #[.int .i64 sl, .slice adl N cl, .slice adp M cp] w fun e w' => e = .returned (.bool true) ∧ Below w.heap.size w w' := by
  have HG := hidden hG
  have HLO := hidden hlo
  have HL := hidden hL
  have HZ := hidden hZ
  have HN := hidden (And.intro hN hM)
  unfold I64 at hsl
  have HSL := hidden hsl
  clear hG hlo hL hZ hN hM hsl
  go_enter Tryd.func3, Tryd.ntmps3
  go_wp2_with fail
  refine (shownP w HG.out HLO.out).mono ?_
  rintro e w1 ⟨rfl, b1⟩
  have B1 := hidden b1
  clear b1
  go_wp2_with fail
  refine (pickP sl 30 (by omega) (by omega) HSL.out w1).mono ?_
  rintro e wq ⟨⟨r, hr, rfl⟩, rfl⟩
  obtain ⟨n, hn⟩ : ∃ n : Nat, (n : Int) = 1 + (r : Int) := ⟨1 + r, by omega⟩
  have hn1 : 1 ≤ n ∧ n ≤ 30 := by omega
  have hn2 : (1 : Int) + (r : Int) = (n : Int) := hn.symm
  clear hn hr
  go_wp2_with fail
  refine (K.newX n hn1.1 (by omega) wq).mono ?_
  rintro e w2 ⟨p, G1, rfl, hP1, b2, hp1, hG1⟩
  have HP1 := hidden hP1
  have HG1 := hidden hG1
  have B2 := hidden b2
  clear hP1 hG1 b2
  go_wp2_with fail
  refine (K.newX n hn1.1 (by omega) w2).mono ?_
  rintro e w3 ⟨q, G2, rfl, hP2, b3, hp2, hG2⟩
  have HP2 := hidden hP2
  have HG2 := hidden hG2
  have B3 := hidden b3
  clear hP2 hG2 b3
  go_wp2_with fail
  refine (storeP G1 w3 p n (HP1.out.later B3.out)).mono ?_
  rintro e w4 ⟨S, F1, rfl, hQ1, b4, hS1, hF1⟩
  have HQ1 := hidden hQ1
  have HF1 := hidden hF1
  have B4 := hidden b4
  clear hQ1 hF1 b4
  go_wp2_with fail
  refine (storeP G2 w4 q n (HP2.out.later B4.out)).mono ?_
  rintro e w5 ⟨S2, F2, rfl, hQ2, b5, hS2, hF2⟩
  have HQ2 := hidden hQ2
  have HF2 := hidden hF2
  have B5 := hidden b5
  clear hQ2 hF2 b5
  have BA : Hid (Below w.heap.size w w5) := hidden (by
    have a1 := B1.out
    have a2 := a1.trans (B2.out.mono a1.size)
    have a3 := a2.trans (B3.out.mono a2.size)
    have a4 := a3.trans (B4.out.mono a3.size)
    exact a4.trans (B5.out.mono a4.size))
  have HDJ : Hid ((∀ i, F1 i → ¬ F2 i) ∧ (∀ i, F1 i → wq.heap.size ≤ i) ∧ (∀ i, F2 i → wq.heap.size ≤ i)) := hidden (by
    have z2 := B2.out.size
    have z3 := B3.out.size
    have z4 := B4.out.size
    refine ⟨fun i h1 h2 => ?_, fun i h1 => ?_, fun i h2 => ?_⟩
    · have t1 := (HQ1.out.tag h1).1
      rcases HF2.out i h2 with e2 | e2
      · have u2 := HP2.out.lt e2
        have v2 := HG2.out i e2
        rcases HF1.out i h1 with e1 | e1
        · have := HP1.out.lt e1; omega
        · omega
      · omega
    · rcases HF1.out i h1 with e1 | e1
      · exact HG1.out i e1
      · omega
    · rcases HF2.out i h2 with e2 | e2
      · have := HG2.out i e2; omega
      · omega)
  clear hp1 hp2 hS1 hS2
  go_wp2_with fail
  refine (sampleP 1 1 w5).mono ?_
  rintro e w6 ⟨rfl, b6⟩
  have B6 := hidden b6
  clear b6
  go_wp2_with fail
  have bl7 : Below w6.heap.size w6 (w6.alloc (.cells #[.int .i64 1, .int .u64 1] 35)) := (Below.refl _ _).alloc (Nat.le_refl _) _
  have S7 := hidden (ss_new w6 [⟨1, 1⟩] one_ok #[.int .i64 1, .int .u64 1] rfl)
  obtain ⟨w7, hw7⟩ : ∃ w7, w6.alloc (.cells #[.int .i64 1, .int .u64 1] 35) = w7 := ⟨_, rfl⟩
  rw [hw7] at bl7 S7 ⊢
  have B7 : Hid (Below w5.heap.size w5 w7) := hidden (B6.out.trans (bl7.mono B6.out.size))
  clear bl7 hw7
  have BB : Hid (Below w.heap.size w w7) := hidden (BA.out.trans (B7.out.mono BA.out.size))
  have hq1 : SQ F1 w7 S p n (fun _ => none) (fun _ => []) := (HQ1.out.later B5.out).later B7.out
  have hq2 : SQ F2 w7 S2 q n (fun _ => none) (fun _ => []) := HQ2.out.later B7.out
  have hlo7 := Nat.le_trans HLO.out BB.out.size
  have hw1l : 2 ≤ wq.heap.size := Nat.le_trans HLO.out B1.out.size
  have HQ27 := hidden hq2
  refine (app_ok oB 3 F1 S p n (fun _ => none) (fun _ => []) (some ⟨w6.heap.size, 0, none⟩) 1 1 [⟨1, 1⟩] w7 hq1 (HG.out.bel BB.out HLO.out) hlo7 (fun i hi => Nat.le_trans hw1l (HDJ.out.2.1 i hi)) S7.out rfl (by omega) (by omega) (by simp [enL, Ris]) (by simp) (by
    rw [t0_zero]
    show ((gO (gB [] [⟨1, 1⟩])).length : Int) - _ ≤ _
    rw [one_gn]
    show (1 : Int) - ((hadL [] : Nat) : Int) ≤ _
    have : hadL [] = 0 := rfl
    rw [this]
    omega)).mono ?_
  rintro e w8 ⟨rfl, F3, st3, news3, c1, c2, c3, c4, c5⟩
  have K1 : Hid (KS F3 w8 S p n st3 (setZ (fun _ => []) oB 3 (news3, [⟨1, 1⟩])) []) := hidden (ks_start c1 (by
    rw [c4, t0_zero]
    show 0 + ((gO (gB [] [⟨1, 1⟩])).length - _) = 1
    rw [one_gn]
    rfl))
  have HC8 := hidden (And.intro c2 c3)
  clear hq1 hq2 hlo7 c1 c2 c3 c4 c5
  go_wp2_with fail
  refine (sampleP 1 1 w8).mono ?_
  rintro e w9 ⟨rfl, b9⟩
  have B9 := hidden b9
  clear b9
  go_wp2_with fail
  have bl10 : Below w9.heap.size w9 (w9.alloc (.cells #[.int .i64 1, .int .u64 1] 35)) := (Below.refl _ _).alloc (Nat.le_refl _) _
  have S10 := hidden (ss_new w9 [⟨1, 1⟩] one_ok #[.int .i64 1, .int .u64 1] rfl)
  obtain ⟨w10, hw10⟩ : ∃ w10, w9.alloc (.cells #[.int .i64 1, .int .u64 1] 35) = w10 := ⟨_, rfl⟩
  rw [hw10] at bl10 S10 ⊢
  have B10 : Hid (Below w8.heap.size w8 w10) := hidden (B9.out.trans (bl10.mono B9.out.size))
  clear bl10 hw10
  have hwz : w.heap.size ≤ wq.heap.size := B1.out.size
  have BC : Hid (Below w.heap.size w w10) := hidden (by
    have a1 := BB.out.trans (HC8.out.1.below BB.out.size (fun i hi => Nat.le_trans hwz (HDJ.out.2.1 i hi)))
    exact a1.trans (B10.out.mono a1.size))
  have hq2 : SQ F2 w10 S2 q n (fun _ => none) (fun _ => []) := (HQ27.out.chg HC8.out.1 (fun e => by
      rcases (((HQ1.out.later B5.out).later B7.out).tag e).2 58 HQ27.out.blk.1 with e | e <;> cases e) (fun e => by
      rcases (((HQ1.out.later B5.out).later B7.out).tag e).2 55 HQ27.out.blk.2 with e | e <;> cases e) (fun i hi e => HDJ.out.1 i e hi)).later B10.out
  have hlo10 := Nat.le_trans HLO.out BC.out.size
  refine (app_ok oB 3 F2 S2 q n (fun _ => none) (fun _ => []) (some ⟨w9.heap.size, 0, none⟩) 1 1 [⟨1, 1⟩] w10 hq2 (HG.out.bel BC.out HLO.out) hlo10 (fun i hi => Nat.le_trans hw1l (HDJ.out.2.2 i hi)) S10.out rfl (by omega) (by omega) (by simp [enL, Ris]) (by simp) (by
    rw [t0_zero]
    show ((gO (gB [] [⟨1, 1⟩])).length : Int) - _ ≤ _
    rw [one_gn]
    show (1 : Int) - ((hadL [] : Nat) : Int) ≤ _
    have : hadL [] = 0 := rfl
    rw [this]
    omega)).mono ?_
  rintro e w11 ⟨rfl, F4, st4, news4, c1, c2, c3, c4, c5⟩
  have K2 : Hid (KS F4 w11 S2 q n st4 (setZ (fun _ => []) oB 3 (news4, [⟨1, 1⟩])) []) := hidden (ks_start c1 (by
    rw [c4, t0_zero]
    show 0 + ((gO (gB [] [⟨1, 1⟩])).length - _) = 1
    rw [one_gn]
    rfl))
  have HLI : Hid (LI w S p S2 q n [] [] [] (.slice none 0 0) w11) := hidden (by
    have k10 := K1.out.later B10.out
    have hd3 : ∀ i, F3 i → ¬ F2 i := fun i h3 h2 => by
      rcases HC8.out.2 i h3 with e | e
      · exact HDJ.out.1 i e h2
      · have := (HQ27.out.tag h2).1; omega
    have k11 := k10.chg c2 (fun i hi t ht => (hq2.tag hi).2 t ht) hd3
    refine ⟨⟨F3, _, _, F4, _, _, k11, K2.out, fun i h3 h4 => ?_, fun i h3 => ?_, fun i h4 => ?_⟩, BC.out.trans (c2.below BC.out.size (fun i hi => Nat.le_trans hwz (HDJ.out.2.2 i hi))), World.ownsRow_nil _ _ _ _, HG.out, HLO.out⟩
    · rcases c3 i h4 with e | e
      · exact hd3 i h3 e
      · have := (k10.q.tag h3).1; omega
    · rcases HC8.out.2 i h3 with e | e
      · exact Nat.le_trans hwz (HDJ.out.2.1 i e)
      · exact Nat.le_trans BB.out.size e
    · rcases c3 i h4 with e | e
      · exact Nat.le_trans hwz (HDJ.out.2.2 i e)
      · exact Nat.le_trans BC.out.size e)
  clear hq2 hlo10 c1 c2 c3 c4 c5 K1 K2 HC8 HQ27 HQ1 HQ2 HF1 HF2 HP1 HP2 HG1 HG2 hwz hw1l HSL S10 S7 B1 B2 B3 B4 B5 B6 B7 B9 B10 BA BB BC HDJ
  clear hn2
  go_wp2_with fail
  go_loopw [15, 16, 17] (fun v15 v16 v17 wx => ∃ (i a : Nat) (all : List Sm), v16 = .int .i64 (a : Int) ∧ v17 = .int .i64 (i : Int) ∧ i ≤ 100 ∧ a ≤ 50 * i ∧ a ≤ N ∧ Hid (all.length ≤ a ∧ LI w S p S2 q n all all all v15 wx)) (fun _ _ v17 _ => 100 - (intOf v17).toNat)
  case atStart => exact ⟨0, 0, [], rfl, rfl, by omega, by omega, by omega, hidden ⟨by simp, HLI.out⟩⟩
  case round =>
    clear HLI
    obtain ⟨i, a, all, rfl, rfl, hi, hai, haN, hI⟩ := hrel
    obtain ⟨ad15, c15, hv15, _⟩ := owns_formS hI.out.2.row
    subst hv15
    obtain ⟨L15, hL15⟩ : ∃ L15, all.length = L15 := ⟨_, rfl⟩
    have HL15 := hidden hL15
    rw [hL15] at hI ⊢
    have hl15 : L15 ≤ 5000 := by have := hI.out.1; omega
    clear hL15
    by_cases hgo : i < M ∧ i < 100 ∧ a < N
    · obtain ⟨hiM, hi1, haN2⟩ := hgo
      have q1 : (i : Int) < (M : Int) := by omega
      have q2 : (i : Int) < 100 := by omega
      have q3 : (a : Int) < (N : Int) := by omega
      obtain ⟨z, hz⟩ : ∃ z, pz[i]? = some z := ⟨pz[i]'(by have := HN.out.2; omega), by simp⟩
      obtain ⟨bp, op, hadp, _, hcp⟩ := (HZ.out.later hI.out.2.bel).at' (by rintro rfl; simp at hz)
      subst hadp
      have hcz := hcp i z hz
      have hzb := HZ.out.ok z (List.mem_of_getElem? hz)
      unfold I64 at hzb
      have HZB := hidden hzb
      obtain ⟨bl, ol, hadl, _, _⟩ := HL.out.at' (fun e0 => by have := HN.out.1; rw [e0] at this; simp at this; omega)
      subst hadl
      clear hcp hz hzb
      go_upto_region 18 with fail
      go_cut [18] from 87 to 244 (fun s18 wx => wx = wr ∧ ∃ e : Nat, s18 = .int .i64 (e : Int) ∧ a < e ∧ e ≤ N ∧ e ≤ a + 50)
      case first =>
        go_wp2_with fail
        refine (pickP z 50 (by omega) (by omega) HZB.out wr).mono ?_
        rintro e wz ⟨⟨r, hr, rfl⟩, hwz⟩
        obtain rfl := hwz.symm
        clear hwz
        by_cases hm : (N : Int) ≤ (a : Int) + 1 + (r : Int)
        · have hm2 : min (N : Int) ((a : Int) + 1 + (r : Int)) = (N : Int) := by omega
          go_wp2_with fail
          all_goals (go_meet; exact ⟨rfl, N, by first | rfl | simp [hm2], by omega, by omega, by omega⟩)
        · have hm2 : min (N : Int) ((a : Int) + 1 + (r : Int)) = (a : Int) + 1 + (r : Int) := by omega
          go_wp2_with fail
          all_goals (go_meet; exact ⟨rfl, a + 1 + r, by first | rfl | simp [hm2], by omega, by omega, by omega⟩)
      case rest =>
        obtain ⟨hwc, e, rfl, he1, he2, he3⟩ := hcut
        obtain rfl := hwc.symm
        clear hwc hcz HZB
        obtain ⟨mm, hmm⟩ : ∃ mm, (l.take e).drop a = mm := ⟨_, rfl⟩
        obtain ⟨K9, hK9⟩ : ∃ K9, e - a = K9 := ⟨_, rfl⟩
        have HK9 := hidden hK9
        have hml : mm.length = K9 := by rw [← hmm, List.length_drop, List.length_take]; have := HN.out.1; omega
        have hk9 : 1 ≤ K9 ∧ K9 ≤ 50 := by omega
        have HML := hidden hml
        have HSM : Hid (∀ wy, LI w S p S2 q n all all all (.slice ad15 L15 c15) wy → Ss wy (some ⟨bl, ol + a * 2, none⟩) mm) := hidden (fun wy h => by rw [← hmm]; exact (h.ss HL.out).part a e)
        have ha1 : (a : Int) ≤ (e : Int) := by omega
        have ha2 : (e : Int) ≤ (cl : Int) := by omega
        have ha3 : ¬ cl = a := by omega
        have ha4 : ¬ (e : Int) < (a : Int) := by omega
        have ha5 : ¬ (cl : Int) < (e : Int) := by omega
        have ha6 : a ≤ e := by omega
        have ha7 : e ≤ cl := by omega
        have HSS0 : Hid (∀ wy, Below w.heap.size w wy → Ss wy (some ⟨bl, ol + a * 2, none⟩) mm) := hidden (fun wy hb => by rw [← hmm]; exact (HL.out.later hb).part a e)
        clear hmm hml
        go_upto_region 21 with fail
        obtain ⟨O9, hO9⟩ : ∃ O9, ol + a * 2 = O9 := ⟨_, rfl⟩
        obtain ⟨C9, hC9⟩ : ∃ C9, cl - a = C9 := ⟨_, rfl⟩
        have HC9 : Hid (K9 ≤ C9 ∧ C9 ≤ 9223372036854775807) := hidden (by omega)
        rw [hO9] at HSM HSS0 ⊢
        rw [hC9]
        clear ha1 ha2 ha3 ha4 ha5 ha6 ha7 q1 q2 q3 hO9 hC9 hK9
        go_wp2_with fail
        go_loopw [20, 21] (fun v20 v21 wx => ∃ (k : Nat) (b : Bool), v21 = .int .i64 (k : Int) ∧ v20 = .bool b ∧ k ≤ K9 ∧ Hid (b = decide (Ris (all ++ mm.take k)) ∧ LI w S p S2 q n all all all (.slice ad15 L15 c15) wx)) (fun _ v21 _ => K9 - (intOf v21).toNat)
        case atStart => exact ⟨0, true, rfl, rfl, by omega, hidden ⟨by rw [List.take_zero, List.append_nil, decide_eq_true hI.out.2.okA.1], hI.out.2⟩⟩
        case round =>
          obtain ⟨k, b, rfl, rfl, hkK, hJ⟩ := hrel
          have LJ := hidden hJ.out.2
          by_cases hkl : k < K9
          · have hkz : (k : Int) < (K9 : Int) := by omega
            obtain ⟨x, hx⟩ : ∃ x, mm[k]? = some x := ⟨mm[k]'(by have := HML.out; omega), by simp⟩
            obtain ⟨b1, o1, he0, hb1, hcx⟩ := (HSM.out _ LJ.out).at' (by rintro rfl; simp at hx)
            cases he0
            obtain ⟨c0, _⟩ := hcx k x hx
            have HEND : Hid (∀ (K1 : Int) (b' : Bool) (wy : World), K1 = ((k + 1 : Nat) : Int) → b' = decide (Ris (all ++ mm.take (k + 1))) → LI w S p S2 q n all all all (.slice ad15 L15 c15) wy → (∃ (k' : Nat) (b : Bool), Value.int .i64 K1 = .int .i64 (k' : Int) ∧ Value.bool b' = .bool b ∧ k' ≤ K9 ∧ Hid (b = decide (Ris (all ++ mm.take k')) ∧ LI w S p S2 q n all all all (.slice ad15 L15 c15) wy))) := hidden (fun K1 b' wy h0 h1 h2 => ⟨k + 1, b', by rw [h0], rfl, by omega, hidden ⟨h1, h2⟩⟩)
            cases b with
            | false =>
              have hF : decide (Ris (all ++ mm.take (k + 1))) = false := by
                rw [decide_eq_false_iff_not]
                intro h
                have := hJ.out.1
                rw [decide_eq_true (ris_pre h)] at this
                cases this
              have HF := hidden hF
              clear hcx hx hF c0
              go_wp2_with fail
              refine may_no _ _ _ rfl rfl ?_
              intro v125 v126 v127 v128 v129 v130 v131 v132 v133 v134 v135 v136 v137 v138 v139 v140 v141 v142 v143 v144 v145 v146 v147 v148 v149 v150 v151 v152 v153 v154 v155 v156 v157 v158 v159 v160 v161 v162 v163 v164 v165 v166 wy hLy
              have LY := hidden (LJ.out.later hLy)
              clear hLy
              simp only [Act.put, List.setIfInBounds_toArray, List.set_cons_succ, List.set_cons_zero]
              go_wp2_with fail
              refine ⟨HEND.out _ false _ (by omega) HF.out.symm LY.out, ?_⟩
              first
                | (show K9 - 1 < K9 - 0; omega)
                | (show K9 - ((k : Int) + 1).toNat < K9 - (k : Int).toNat; omega)
            | true =>
              have hT : Ris (all ++ mm.take k) := of_decide_eq_true hJ.out.1.symm
              by_cases hk0 : k = 0
              · subst hk0
                have hst := ris_step0 (all := all) hx
                have HC00 : Hid (∀ w1, Lat wr w1 → w1.cell? ⟨bl, O9, none⟩ = some (.int .i64 x.t)) := hidden (fun w1 hL => by
                  rw [Below.cell (p := ⟨bl, O9, none⟩) hL hb1]
                  simpa using c0)
                by_cases hall : all = []
                · have hL0 : L15 = 0 := by rw [← HL15.out, hall]; rfl
                  have HF : Hid (true = decide (Ris (all ++ mm.take (0 + 1)))) := hidden (by rw [eq_comm, decide_eq_true_eq]; exact hst.2 ⟨LJ.out.okA.1, .inl hall⟩)
                  subst hL0
                  clear hcx hx hst c0 hT hall
                  go_wp2_with fail
                  refine may_first ad15 c15 _ _ _ rfl rfl rfl rfl ?_
                  intro v125 v126 v127 v128 v129 v130 v131 v132 v133 v134 v135 v136 v137 v138 v139 v140 v141 v142 v143 v144 v145 v146 v147 v148 v149 v150 v151 v152 v153 v154 v155 v156 v157 v158 v159 v160 v161 v162 v163 v164 v165 v166 wy hLy
                  have LY := hidden (LJ.out.later hLy)
                  clear hLy
                  simp only [Act.put, List.setIfInBounds_toArray, List.set_cons_succ, List.set_cons_zero]
                  go_wp2_with fail
                  refine ⟨HEND.out _ true _ (by omega) HF.out LY.out, ?_⟩
                  first
                    | (show K9 - 1 < K9 - 0; omega)
                    | (show K9 - ((k : Int) + 1).toNat < K9 - (k : Int).toNat; omega)
                · obtain ⟨L', hL'⟩ : ∃ L', L15 = L' + 1 := ⟨L15 - 1, by have := List.length_pos_iff.2 hall; have := HL15.out; omega⟩
                  obtain ⟨yl, hyl⟩ : ∃ yl, all[L']? = some yl := ⟨all[L']'(by have := HL15.out; omega), by simp⟩
                  have hgl : all.getLast?.getD z0 = yl := by rw [List.getLast?_eq_getElem?, HL15.out, hL', Nat.add_sub_cancel, hyl]; rfl
                  obtain ⟨b15, o15, had, hb15, hc15⟩ := (ss_of_owns LJ.out.row LJ.out.okA.2.1).at' hall
                  obtain ⟨cy, _⟩ := hc15 L' yl hyl
                  subst had hL'
                  have HCY : Hid (∀ w1, Lat wr w1 → w1.cell? ⟨b15, o15 + L' * 2, none⟩ = some (.int .i64 yl.t)) := hidden (fun w1 hL => by
                    rw [Below.cell (p := ⟨b15, o15 + L' * 2, none⟩) hL hb15]
                    exact cy)
                  rw [hgl] at hst
                  by_cases hlt : yl.t < x.t
                  · have HF : Hid (true = decide (Ris (all ++ mm.take (0 + 1)))) := hidden (by rw [eq_comm, decide_eq_true_eq]; exact hst.2 ⟨LJ.out.okA.1, .inr hlt⟩)
                    have HLT := hidden hlt
                    clear hcx hx hst c0 hT hall hc15 hyl hgl hlt cy
                    go_wp2_with fail
                    refine may_behind_true bl O9 K9 C9 b15 o15 L' c15 x.t yl.t _ _ _ rfl rfl rfl rfl rfl (by rw [beq_eq_false_iff_ne]; omega) (by omega) (i64_id (by omega) (by omega)) (by omega) (by omega) (by omega) (by have := HLT.out; omega) HC00.out HCY.out ?_
                    intro v125 v126 v127 v128 v129 v130 v131 v132 v133 v134 v135 v136 v137 v138 v139 v140 v141 v142 v143 v144 v145 v146 v147 v148 v149 v150 v151 v152 v153 v154 v155 v156 v157 v158 v159 v160 v161 v162 v163 v164 v165 v166 wy hLy
                    have LY := hidden (LJ.out.later hLy)
                    clear hLy
                    simp only [Act.put, List.setIfInBounds_toArray, List.set_cons_succ, List.set_cons_zero]
                    go_wp2_with fail
                    refine ⟨HEND.out _ true _ (by omega) HF.out LY.out, ?_⟩
                    first
                      | (show K9 - 1 < K9 - 0; omega)
                      | (show K9 - ((k : Int) + 1).toNat < K9 - (k : Int).toNat; omega)
                  · have HF : Hid (false = decide (Ris (all ++ mm.take (0 + 1)))) := hidden (by
                      rw [eq_comm, decide_eq_false_iff_not]
                      intro h
                      rcases (hst.1 h).2 with e | e
                      · exact hall e
                      · exact hlt e)
                    have HLT := hidden hlt
                    clear hcx hx hst c0 hT hall hc15 hyl hgl hlt cy
                    go_wp2_with fail
                    refine may_behind_false bl O9 K9 C9 b15 o15 L' c15 x.t yl.t _ _ _ rfl rfl rfl rfl rfl (by rw [beq_eq_false_iff_ne]; omega) (by omega) (i64_id (by omega) (by omega)) (by omega) (by omega) (by omega) (by have := HLT.out; omega) HC00.out HCY.out ?_
                    intro v125 v126 v127 v128 v129 v130 v131 v132 v133 v134 v135 v136 v137 v138 v139 v140 v141 v142 v143 v144 v145 v146 v147 v148 v149 v150 v151 v152 v153 v154 v155 v156 v157 v158 v159 v160 v161 v162 v163 v164 v165 v166 wy hLy
                    have LY := hidden (LJ.out.later hLy)
                    clear hLy
                    simp only [Act.put, List.setIfInBounds_toArray, List.set_cons_succ, List.set_cons_zero]
                    go_wp2_with fail
                    refine ⟨HEND.out _ false _ (by omega) HF.out LY.out, ?_⟩
                    first
                      | (show K9 - 1 < K9 - 0; omega)
                      | (show K9 - ((k : Int) + 1).toNat < K9 - (k : Int).toNat; omega)
              · obtain ⟨k', hk'⟩ : ∃ k', k = k' + 1 := ⟨k - 1, by omega⟩
                obtain ⟨zz, hzz⟩ : ∃ zz, mm[k']? = some zz := ⟨mm[k']'(by have := HML.out; omega), by simp⟩
                obtain ⟨cz, _⟩ := hcx k' zz hzz
                have hst : Ris (all ++ mm.take (k + 1)) ↔ Ris (all ++ mm.take k) ∧ zz.t < x.t := by
                  rw [hk'] at hx ⊢
                  exact ris_stepS hx hzz
                have HCX : Hid (∀ w1, Lat wr w1 → w1.cell? ⟨bl, O9 + k * 2, none⟩ = some (.int .i64 x.t)) := hidden (fun w1 hL => by
                  rw [Below.cell (p := ⟨bl, O9 + k * 2, none⟩) hL hb1]
                  exact c0)
                have HCY : Hid (∀ w1, Lat wr w1 → w1.cell? ⟨bl, O9 + k' * 2, none⟩ = some (.int .i64 zz.t)) := hidden (fun w1 hL => by
                  rw [Below.cell (p := ⟨bl, O9 + k' * 2, none⟩) hL hb1]
                  exact cz)
                have HKK := hidden (And.intro hk' hkl)
                by_cases hlt : zz.t < x.t
                · have HF : Hid (true = decide (Ris (all ++ mm.take (k + 1)))) := hidden (by rw [eq_comm, decide_eq_true_eq]; exact hst.2 ⟨hT, hlt⟩)
                  have HLT := hidden hlt
                  clear hcx hx hst hT hzz hk' hk0 hlt c0 cz
                  go_wp2_with fail
                  refine may_next_true bl O9 K9 C9 k k' x.t zz.t _ _ _ rfl rfl rfl rfl (by have := HKK.out; rw [beq_eq_false_iff_ne]; omega) (by have := HKK.out; omega) (by have := HKK.out; omega) (by omega) (by have := HKK.out; omega) (by have := HKK.out; rw [i64_id (by omega) (by omega)]; omega) (by omega) (by have := HKK.out; omega) (by have := HLT.out; omega) HCX.out HCY.out ?_
                  intro v125 v126 v127 v128 v129 v130 v131 v132 v133 v134 v135 v136 v137 v138 v139 v140 v141 v142 v143 v144 v145 v146 v147 v148 v149 v150 v151 v152 v153 v154 v155 v156 v157 v158 v159 v160 v161 v162 v163 v164 v165 v166 wy hLy
                  have LY := hidden (LJ.out.later hLy)
                  clear hLy
                  simp only [Act.put, List.setIfInBounds_toArray, List.set_cons_succ, List.set_cons_zero]
                  go_wp2_with fail
                  refine ⟨HEND.out _ true _ (by omega) HF.out LY.out, ?_⟩
                  first
                    | (show K9 - 1 < K9 - 0; omega)
                    | (show K9 - ((k : Int) + 1).toNat < K9 - (k : Int).toNat; omega)
                · have HF : Hid (false = decide (Ris (all ++ mm.take (k + 1)))) := hidden (by
                    rw [eq_comm, decide_eq_false_iff_not]
                    intro h
                    exact hlt (hst.1 h).2)
                  have HLT := hidden hlt
                  clear hcx hx hst hT hzz hk' hk0 hlt c0 cz
                  go_wp2_with fail
                  refine may_next_false bl O9 K9 C9 k k' x.t zz.t _ _ _ rfl rfl rfl rfl (by have := HKK.out; rw [beq_eq_false_iff_ne]; omega) (by have := HKK.out; omega) (by have := HKK.out; omega) (by omega) (by have := HKK.out; omega) (by have := HKK.out; rw [i64_id (by omega) (by omega)]; omega) (by omega) (by have := HKK.out; omega) (by have := HLT.out; omega) HCX.out HCY.out ?_
                  intro v125 v126 v127 v128 v129 v130 v131 v132 v133 v134 v135 v136 v137 v138 v139 v140 v141 v142 v143 v144 v145 v146 v147 v148 v149 v150 v151 v152 v153 v154 v155 v156 v157 v158 v159 v160 v161 v162 v163 v164 v165 v166 wy hLy
                  have LY := hidden (LJ.out.later hLy)
                  clear hLy
                  simp only [Act.put, List.setIfInBounds_toArray, List.set_cons_succ, List.set_cons_zero]
                  go_wp2_with fail
                  refine ⟨HEND.out _ false _ (by omega) HF.out LY.out, ?_⟩
                  first
                    | (show K9 - 1 < K9 - 0; omega)
                    | (show K9 - ((k : Int) + 1).toNat < K9 - (k : Int).toNat; omega)
          · have hkK2 : k = K9 := by omega
            have hbb : b = decide (Ris (all ++ mm)) := by
              have := hJ.out.1
              rw [List.take_of_length_le (by have := HML.out; omega)] at this
              exact this
            have HBB := hidden hbb
            have SS := hidden (HSM.out _ LJ.out)
            have hmne : mm ≠ [] := by rintro rfl; have := HML.out; simp at this; omega
            have HMN := hidden hmne
            have hOKm := HSM.out _ LJ.out
            have hgl := gn_le LJ.out.okA.2.1
            have hgl2 := gn_le (A := all ++ mm) (fun x hx => by rcases List.mem_append.1 hx with hx | hx; exact LJ.out.okA.2.1 x hx; exact hOKm.sz x hx)
            have hgm := gn_mono LJ.out.okA.2.1 mm
            rw [List.length_append, HL15.out, HML.out] at hgl2
            rw [HL15.out] at hgl
            have hgn := LJ.out.okA.2.2
            obtain ⟨L0, hL0⟩ : ∃ L0 : Int, (n : Int) - 1 - (gn all : Int) = L0 := ⟨_, rfl⟩
            obtain ⟨D0, hD0⟩ : ∃ D0 : Int, (gn (all ++ mm) : Int) - (gn all : Int) = D0 := ⟨_, rfl⟩
            have hLb : 0 ≤ L0 ∧ L0 ≤ 30 := by omega
            have hDb : 0 ≤ D0 ∧ D0 ≤ 6000 := by omega
            have HLD := hidden (And.intro hL0 hD0)
            have hOUT : Hid (∀ (all' : List Sm) (v' : Value) (wy : World) (K1 : Int), K1 = ((i + 1 : Nat) : Int) → all'.length ≤ e → LI w S p S2 q n all' all' all' v' wy → ∃ (i' a' : Nat) (all : List Sm), Value.int .i64 (e : Int) = .int .i64 (a' : Int) ∧ Value.int .i64 K1 = .int .i64 (i' : Int) ∧ i' ≤ 100 ∧ a' ≤ 50 * i' ∧ a' ≤ N ∧ Hid (all.length ≤ a' ∧ LI w S p S2 q n all all all v' wy)) := hidden (fun all' v' wy K1 h0 h1 h2 => ⟨i + 1, e, all', rfl, by rw [h0], by omega, by omega, by omega, hidden ⟨h1, h2⟩⟩)
            have HAL : Hid (all.length ≤ e ∧ (all ++ mm).length ≤ e) := hidden (by
              have h1 := hI.out.1
              have h2 := HML.out
              rw [List.length_append]
              have h3 := HL15.out
              have h4 := HK9.out
              omega)
            clear hbb hmne hOKm hgl hgl2 hgm hL0 hD0
            go_wp2_with fail
            refine (li_need (some ⟨bl, O9, none⟩) K9 C9 mm LJ.out SS.out HML.out (by omega)).mono ?_
            rintro e2 u1 ⟨b1, hh⟩
            have L1 := hidden (LJ.out.later b1)
            clear b1
            rcases hh with ⟨hr, rfl⟩ | ⟨hr, rfl⟩
            · have hbf : b = false := by rw [HBB.out, decide_eq_false hr]
              subst hbf
              have HRR := hidden hr
              clear hr
              go_wp2_with fail
              refine (li_left1 L1.out).mono ?_
              rw [HLD.out.1]
              rintro e2 u2 ⟨rfl, b2⟩
              have L2 := hidden (L1.out.later b2)
              clear b2
              go_wp2_with fail
              refine (li_app1 (some ⟨bl, O9, none⟩) K9 C9 mm L2.out (HSM.out _ L2.out) HML.out (by omega) HMN.out).mono ?_
              rintro e2 u3 (⟨_, rfl, b3⟩ | ⟨hr, _⟩ | ⟨hr, _⟩)
              · have L3 := hidden (L2.out.later b3)
                clear b3
                go_wp2_with fail
                refine (li_left1 L3.out).mono ?_
                rw [HLD.out.1]
                rintro e2 u4 ⟨rfl, b4⟩
                have L4 := hidden (L3.out.later b4)
                clear b4
                go_wp2_with fail
                refine ⟨hOUT.out all _ _ _ (by omega) HAL.out.1 L4.out, ?_⟩
                show 100 - ((i : Int) + 1).toNat < 100 - (i : Int).toNat
                omega
              · exact absurd hr HRR.out
              · exact absurd hr HRR.out
            · have hbf : b = true := by rw [HBB.out, decide_eq_true hr]
              subst hbf
              have HRR := hidden hr
              clear hr
              rw [HLD.out.2]
              go_wp2_with fail
              refine (li_left1 L1.out).mono ?_
              rw [HLD.out.1]
              rintro e2 u2 ⟨rfl, b2⟩
              have L2 := hidden (L1.out.later b2)
              clear b2
              go_wp2_with fail
              refine (li_app1 (some ⟨bl, O9, none⟩) K9 C9 mm L2.out (HSM.out _ L2.out) HML.out (by omega) HMN.out).mono ?_
              rintro e2 u3 (⟨hr, _⟩ | ⟨_, hfull, rfl, b3⟩ | ⟨_, hroom, rfl, L3⟩)
              · exact absurd HRR.out hr
              · have L3 := hidden (L2.out.later b3)
                have hDL : ¬ D0 ≤ L0 := by have := HLD.out; omega
                have hDL2 : L0 < D0 := by omega
                clear b3 hfull
                go_wp2_with fail
                refine (li_left1 L3.out).mono ?_
                rw [HLD.out.1]
                rintro e2 u4 ⟨rfl, b4⟩
                have L4 := hidden (L3.out.later b4)
                clear b4
                go_wp2_with fail
                refine ⟨hOUT.out all _ _ _ (by omega) HAL.out.1 L4.out, ?_⟩
                show 100 - ((i : Int) + 1).toNat < 100 - (i : Int).toNat
                omega
              · have H3 := hidden L3
                have hDL : D0 ≤ L0 := by have := HLD.out; omega
                have HRM := hidden hroom
                clear L3 hroom
                obtain ⟨L9, hL9⟩ : ∃ L9, L15 + K9 = L9 := ⟨_, rfl⟩
                have HL9 := hidden hL9
                have hl9 : L9 ≤ 6000 := by omega
                have S3 : Hid (Ss u3 (some ⟨bl, O9, none⟩) mm) := hidden (by
                  have := HSM.out _ L2.out
                  have q9 := H3.out.bel
                  refine ⟨this.sz, fun h0 => ?_⟩
                  exact (HSS0.out u3 q9).at' h0)
                have O3 : Hid (u3.ownsRow w.heap.size 35 2 (.slice ad15 L15 c15) L15 (cS all)) := hidden (by have q9 := H3.out.row; rw [HL15.out] at q9; exact q9)
                clear hL9
                have HE9 : Hid ((all ++ mm).length = L9) := hidden (by rw [List.length_append, HL15.out, HML.out, HL9.out])
                go_wp2_with (refine wpList_appS2 u3 rfl (.tmp 222) (.tmp 223) rfl w.heap.size (.slice ad15 L15 c15) L15 all rfl O3.out ⟨bl, O9, none⟩ K9 C9 mm rfl S3.out HML.out L9 HL9.out (by omega) H3.out.bel.size ?_; intro a5 c5 u5 o5 g5; have H5 : Hid (LI w S p S2 q n (all ++ mm) all (all ++ mm) (.slice a5 L9 c5) u5) := hidden (H3.out.push g5 (by rw [HE9.out]; exact o5)); clear o5 g5)
                obtain ⟨L1', hL1'⟩ : ∃ L1' : Int, (n : Int) - 1 - (gn (all ++ mm) : Int) = L1' := ⟨_, rfl⟩
                have hLD : L0 - D0 = L1' := by have := HLD.out; omega
                have HL1' := hidden hL1'
                clear hL1'
                refine (li_left1 H5.out).mono ?_
                rw [HL1'.out]
                rintro e2 u6 ⟨rfl, b6⟩
                have H6 := hidden (H5.out.later b6)
                clear b6
                go_wp2_with fail
                go_loopw [26] (fun v26 wx => ∃ k2 : Nat, v26 = .int .i64 (k2 : Int) ∧ k2 ≤ K9 ∧ Hid (LI w S p S2 q n (all ++ mm) (all ++ mm.take k2) (all ++ mm) (.slice a5 L9 c5) wx)) (fun v26 _ => K9 - (intOf v26).toNat)
                case atStart => exact ⟨0, rfl, by omega, hidden (by rw [List.take_zero, List.append_nil]; exact H6.out)⟩
                case round =>
                  obtain ⟨k2, rfl, hk2, hM⟩ := hrel
                  by_cases hk3 : k2 < K9
                  · have hk4 : (k2 : Int) < (K9 : Int) := by omega
                    have hcc := HC9.out
                    have hk5 : ¬ C9 = k2 := by omega
                    have hk6 : (k2 : Int) + 1 ≤ (C9 : Int) := by omega
                    have hk7 : ¬ (C9 : Int) < (k2 : Int) + 1 := by omega
                    have hk8 : k2 + 1 ≤ C9 := by omega
                    obtain ⟨x, hx⟩ : ∃ x, mm[k2]? = some x := ⟨mm[k2]'(by have := HML.out; omega), by simp⟩
                    have htk : mm.take (k2 + 1) = mm.take k2 ++ [x] := by rw [List.take_add_one, hx]; rfl
                    have HTK := hidden htk
                    have SX : Hid (Ss wr (some ⟨bl, O9 + k2 * 2, none⟩) [x]) := hidden (by
                      have q9 := (HSS0.out wr hM.out.bel).part k2 (k2 + 1)
                      have e9 : (mm.take (k2 + 1)).drop k2 = [x] := by
                        rw [htk, List.drop_append_of_le_length (by rw [List.length_take]; have := HML.out; omega), List.drop_of_length_le (by rw [List.length_take]; omega)]
                        rfl
                      rw [e9] at q9
                      exact q9)
                    have hpre : Ris ((all ++ mm.take k2) ++ [x]) := by
                      rw [List.append_assoc, ← htk]
                      have h9 := HRR.out
                      rw [← List.take_append_drop (k2 + 1) mm, ← List.append_assoc] at h9
                      exact (List.pairwise_append.1 h9).1
                    have hrm : 1 + gn ((all ++ mm.take k2) ++ [x]) ≤ n := by
                      have h8 := gn_mono (A := (all ++ mm.take k2) ++ [x]) (fun y hy => by
                        rcases List.mem_append.1 hy with hy | hy
                        · exact hM.out.okB.2.1 y hy
                        · simp at hy; subst hy; exact (HSS0.out wr hM.out.bel).sz y (List.mem_of_getElem? hx)) (mm.drop (k2 + 1))
                      have e9 : (all ++ mm.take k2) ++ [x] ++ mm.drop (k2 + 1) = all ++ mm := by
                        rw [List.append_assoc all, ← htk, List.append_assoc, List.take_append_drop]
                      rw [e9] at h8
                      have := HRM.out
                      omega
                    have HAP := hidden (li_app2 (some ⟨bl, O9 + k2 * 2, none⟩) 1 (C9 - k2) [x] hM.out SX.out rfl (by omega) (by simp) hpre hrm)
                    clear hx htk hpre hrm hcc
                    go_wp2_with fail
                    refine HAP.out.mono ?_
                    rintro e2 u7 ⟨rfl, l7⟩
                    have H7 : Hid (LI w S p S2 q n (all ++ mm) (all ++ mm.take (k2 + 1)) (all ++ mm) (.slice a5 L9 c5) u7) := hidden (by rw [HTK.out, ← List.append_assoc]; exact l7)
                    clear l7
                    go_wp2_with fail
                    refine ⟨⟨k2 + 1, by first | rfl | simp, by omega, H7⟩, ?_⟩
                    show K9 - ((k2 : Int) + 1).toNat < K9 - (k2 : Int).toNat
                    omega
                  · have HLL : Hid (LI w S p S2 q n (all ++ mm) (all ++ mm) (all ++ mm) (.slice a5 L9 c5) wr) := hidden (by
                      have q9 := hM.out
                      rw [List.take_of_length_le (by have := HML.out; omega)] at q9
                      exact q9)
                    clear hM
                    go_wp2_with fail
                    refine ⟨hOUT.out (all ++ mm) _ _ _ (by omega) HAL.out.2 HLL.out, ?_⟩
                    show 100 - ((i : Int) + 1).toNat < 100 - (i : Int).toNat
                    omega
    · have hgo2 : ¬ (i : Int) < (M : Int) ∨ ((i : Int) < (M : Int) ∧ ¬ (i : Int) < 100) ∨ ((i : Int) < (M : Int) ∧ (i : Int) < 100 ∧ ¬ (a : Int) < (N : Int)) := by omega
      clear hgo
      rcases hgo2 with g1 | ⟨g1, g2⟩ | ⟨g1, g2, g3⟩
      all_goals
        go_wp2_with fail
        refine (li_range oA hI.out.2 (.inl rfl)).mono ?_
        rw [if_pos rfl]
        rintro e u1 ⟨ad1, c1, rfl, o1, k1, b1⟩
        have L1 := hidden (hI.out.2.later b1)
        have S1 := hidden (ss_of_owns o1 k1)
        have O1 := hidden (ss_of_owns L1.out.row L1.out.okA.2.1)
        rw [HL15.out]
        clear o1 k1 b1
        go_wp2_with fail
        have HS := hidden (sameSP u1 ad1 ad15 c1 c15 all S1.out O1.out (by rw [HL15.out]; omega))
        rw [HL15.out] at HS
        refine HS.out.mono ?_
        rintro e u2 ⟨rfl, b2⟩
        have L2 := hidden (L1.out.later (b2.below (Nat.le_refl _) (fun _ h => h.elim)))
        clear b2 HS
        go_wp2_with fail
        refine (li_chunks1 L2.out).mono ?_
        rintro e u3 ⟨ac, cc, D1, rfl, ck1, b3⟩
        rw [List.length_map] at ck1 ⊢
        have L3 := hidden (L2.out.later b3)
        have CK1 := hidden (ck1.base L2.out.bel.size)
        clear ck1 b3
        obtain ⟨g, hg⟩ : ∃ g, (gO (gF all)).length = g := ⟨_, rfl⟩
        rw [hg] at CK1 ⊢
        have HGN : Hid (gn all = g) := hidden hg
        have hgl : g ≤ 30 := by have := L3.out.okA.2.2; have h9 := HGN.out; omega
        clear hg
        go_wp2_with fail
        refine (li_chunks2 L3.out).mono ?_
        rintro e u4 ⟨ac2, cc2, D2, rfl, ck2, b4⟩
        rw [List.length_map, show (gO (gF all)).length = g from HGN.out] at ck2 ⊢
        have L4 := hidden (L3.out.later b4)
        have CK2 := hidden (ck2.base L3.out.bel.size)
        have CK3 := hidden (CK1.out.later b4)
        clear ck2 b4
        go_wp2_with fail
        refine (sameCP u4 ac ac2 cc cc2 w.heap.size g D1 D2 ((gO (gF all)).map encC) (by rw [List.length_map]; exact HGN.out) CK3.out CK2.out (by omega)).mono ?_
        rintro e u5 ⟨rfl, b5⟩
        have L5 := hidden (L4.out.later (b5.below (Nat.le_refl _) (fun _ h => h.elim)))
        clear b5
        go_wp2_with fail
        refine (li_range oB L5.out (.inr rfl)).mono ?_
        rw [if_neg (by decide)]
        rintro e u6 ⟨ad6, c6, rfl, o6, k6, b6⟩
        have L6 := hidden (L5.out.later b6)
        have hlb : ∃ lb, ad6 = some ⟨lb, 0, none⟩ := by
          rcases o6.2 with ⟨e0, _⟩ | ⟨g, cap, cur, e0, _⟩
          · cases e0
          · simp only [Value.slice.injEq] at e0; exact ⟨g, e0.1⟩
        obtain ⟨lb, rfl⟩ := hlb
        have O6 := hidden (owns_base o6 (b' := 0) (fun g hg => Nat.zero_le _))
        clear o6 k6 b6
        go_wp2_with fail
        have HCE : Hid (∀ w1, (LI w S p S2 q n all all all (.slice ad15 L15 c15) w1 ∧ w1.ownsRow 0 35 2 (.slice (some ⟨lb, 0, none⟩) 1 c6) 1 (cS [⟨1, 1⟩])) → w1.cell? ⟨lb, 0, none⟩ = some (.int .i64 1) ∧ w1.cell? ⟨lb, 1, none⟩ = some (.int .u64 1)) := hidden (fun w1 h => ⟨owns_cell h.2 0 _ rfl, owns_cell h.2 1 _ rfl⟩)
        refine keeps_r48 S p q n g lb c6 cc ac (fun _ w1 => LI w S p S2 q n all all all (.slice ad15 L15 c15) w1 ∧ w1.ownsRow 0 35 2 (.slice (some ⟨lb, 0, none⟩) 1 c6) 1 (cS [⟨1, 1⟩])) _ _ _ rfl rfl rfl rfl rfl rfl rfl rfl rfl (fun w1 ⟨k, _, h⟩ => (HCE.out w1 h).1) (fun w1 ⟨k, _, h⟩ => (HCE.out w1 h).2) (i64_id (by omega) (by omega)) (i64_id (by omega) (by omega)) ⟨L6.out.later (Below.refl _ _).drew, owl O6.out (Below.refl _ _).drew⟩ ?_ (fun w1 h => h) ?_ (fun w1 h => h) ?_ (fun w1 h => h) ?_ (fun w1 h => h) ?_ ?_ ?_
        · intro w1 h
          refine (sampleP 1 1 w1).mono ?_
          rintro e w2 ⟨rfl, b⟩
          exact ⟨rfl, h.1.later b, owl h.2 b⟩
        · intro w1 h
          refine (li_slots h.1).mono ?_
          rw [HGN.out]
          rintro e w2 ⟨rfl, b⟩
          exact ⟨rfl, h.1.later b, owl h.2 b⟩
        · intro w1 h
          refine (li_used h.1).mono ?_
          rw [HGN.out]
          rintro e w2 ⟨rfl, rfl⟩
          exact ⟨rfl, h⟩
        · intro w1 h
          refine (li_left1 h.1).mono ?_
          rw [HGN.out]
          rintro e w2 ⟨rfl, b⟩
          exact ⟨rfl, h.1.later b, owl h.2 b⟩
        · intro w1 h
          refine (li_left1 h.1).mono ?_
          rw [HGN.out]
          rintro e w2 ⟨rfl, b⟩
          exact ⟨rfl, h.1.later b, owl h.2 b⟩
        · intro w1 h
          refine (li_left2 h.1).mono ?_
          rw [HGN.out]
          rintro e w2 ⟨rfl, b⟩
          exact ⟨rfl, h.1.later b, owl h.2 b⟩
        · intro v259 v260 v261 v262 v263 v264 v265 v266 v267 v268 v269 v270 v271 v272 v273 v274 v275 v276 v277 v278 v279 v280 v281 v282 v283 v284 v285 v286 v287 v288 v289 v290 v291 v292 v293 v294 v295 v296 v297 v298 v299 v300 v301 v302 v303 v304 v305 w2 hI9
          have HI9 := hidden hI9.1.bel
          clear hI9
          simp only [Act.put, List.setIfInBounds_toArray, List.set_cons_succ, List.set_cons_zero]
          go_wp2_with fail
          go_ret
          exact ⟨rfl, HI9.out⟩

end Go.Proofs.YtlppibigceeimaaDoor
