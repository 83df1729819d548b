/-
  The document's head of a file.
-/
import Derived.Test.YtnfjhdedcnbdbaaGreatWrR
import Derived.Test.YtnfjhdedcnbdbaaGreatFrE
import Derived.Test.YtnfjhdedcnbdbaaGreatScA
namespace Go.Proofs.YtnfjhdedcnbdbaaGreat
open Go.RowKit
set_option linter.unusedVariables false
set_option linter.unusedSimpArgs false

theorem results_row2 {P : Program} {fn : Func} {p r : Tmp} {ty : TypeId} (h : fn.results = #[.cell p ty, .tmp r]) (tmps : Array Value) (w : World) (g : Nat) (t : TypeId) (l : List Value) (d : TypeDesc)
    (hp : tmps.getD p undef = .pointer (some ⟨g, 0, none⟩)) (hg : Blk w g t l) (hu : P.underlying ty = some d) (hd : (match d with | .struct _ | .array _ _ => true | _ => false) = true) (hi : (P.info? ty).map (·.size) = some l.length) :
    (results fn tmps).run P w = .ok (.tuple #[.agg l.toArray, tmps.getD r undef]) w := by
  have hp' : tmps[p]?.getD undef = .pointer (some ⟨g, 0, none⟩) := by simpa using hp
  simp [results, h, hp', asAddr, run_loadVar_row w g t ty l.toArray (0, 0) d hg hu hd (by simpa using hi)]
def hcell (h : Hd) (sv : Value) : List Value := [.int .u64 (h.g : Int), .int .i64 (h.cap : Int), .int .i64 (h.slots : Int), sv]
/-- What the document's head tells. -/
def HdR (w : World) (l : List Int) (e : Ending) (w' : World) : Prop := Below w.heap.size w w' ∧ ∃ (hd : Hd) (sa : Option Addr) (sn sc : Nat) (ok : Bool), e = .returned (.tuple #[.agg (hcell hd (.slice sa sn sc)).toArray, .bool ok]) ∧
  ((headAt l = none ∧ ok = false) ∨ ∃ st, headAt l = some (hd, st) ∧ ok = true ∧ RowE w.heap.size st.length st (.slice sa sn sc) w')
theorem headAt_gett {l : List Int} (h : (gett l).2.2 ≠ 0) : headAt l = headIn (gett l).1 (gett l).2.1 := by
  unfold headAt
  rw [frames_some h]
theorem headAt_gett0 {l : List Int} (h : (gett l).2.2 = 0) : headAt l = none := by
  unfold headAt
  rw [frames_none h]
theorem z4_set {w : World} {g : Nat} {a0 a1 a2 a3 : Value} (h : Blk w g 85 [a0, a1, a2, a3]) (v0 v1 v2 v3 : Value) : Blk ((((w.setCell ⟨g, 0, none⟩ v0).setCell ⟨g, 1, none⟩ v1).setCell ⟨g, 2, none⟩ v2).setCell ⟨g, 3, none⟩ v3) g 85 [v0, v1, v2, v3] ∧ Chg (fun i => i = g) w ((((w.setCell ⟨g, 0, none⟩ v0).setCell ⟨g, 1, none⟩ v1).setCell ⟨g, 2, none⟩ v2).setCell ⟨g, 3, none⟩ v3) := by
  refine ⟨?_, ?_⟩
  · have := (((h.set 0 v0).set 1 v1).set 2 v2).set 3 v3
    exact this
  · exact (((Chg.set ⟨g, 0, none⟩ v0 w).trans (Chg.set ⟨g, 1, none⟩ v1 _) (fun _ _ h => h)).trans (Chg.set ⟨g, 2, none⟩ v2 _) (fun _ _ h => h)).trans (Chg.set ⟨g, 3, none⟩ v3 _) (fun _ _ h => h)

set_option maxRecDepth 100000 in
set_option maxHeartbeats 1000000 in
theorem rhead_walk (ad : Option Addr) (len cap : Nat) (l : List Int) (w : World) (hs : Sl w ad len l) (hc : len ≤ cap) (hb : len ≤ 16777216) (R : Ending → World → Prop) (hR : ∀ e w', HdR w l e w' → R e w') : Calls Tryz.prog 85 #[.slice ad len cap] w R := by
  have HS := hidden hs
  have HR := hidden hR
  have HBY := hidden (gett_byte hs.byte)
  have HKK := hidden (gett_k hs.byte)
  have HG0 : Hid ((gett l).2.2 = 0 → _) := @headAt_gett0 l
  have HG1 : Hid ((gett l).2.2 ≠ 0 → _) := @headAt_gett l
  have HGN := hidden (gett_n l)
  clear hs hR
  go_enter Tryz.func85, Tryz.ntmps85
  go_wp2_with (refine wpList_alloc_blk rfl 85 rfl 2 rfl [Value.int .u64 0, .int .i64 0, .int .i64 0, .slice none 0 0] zero98 ?_; intro w2 B2 bl2 hz2; have HB2 := hidden B2; have HL2 := hidden bl2; have HZ2 := hidden hz2; clear B2 bl2 hz2)
  refine (refGet_any ad len cap l w2 (HS.out.later HL2.out) hc (by omega)).mono ?_
  rintro e w3 ⟨ag, c, rfl, hbd⟩
  have HBD := hidden hbd
  have HL3 := hidden (Lat.trans _ _ _ HL2.out hbd.bel)
  have HB3 := hidden (HB2.out.later hbd.bel)
  clear hbd
  generalize gett l = G at *
  obtain ⟨k, d, m⟩ := G
  dsimp only at *
  have c0 := HB3.out.cell 0
  have c1 := HB3.out.cell 1
  have c2 := HB3.out.cell 2
  have c3 := HB3.out.cell 3
  have f0 := HB3.out.frozen 0
  have f1 := HB3.out.frozen 1
  have f2 := HB3.out.frozen 2
  have f3 := HB3.out.frozen 3
  simp only [List.getElem?_cons_succ, List.getElem?_cons_zero] at c0 c1 c2 c3
  have HNO : Hid (headAt l = none → ∀ w4, Lat w w4 → R (.returned (.tuple #[.agg #[.int .u64 0, .int .i64 0, .int .i64 0, .slice none 0 0], .bool false])) w4) := fun hn w4 h4 => HR.out _ _ ⟨h4, ⟨0, 0, 0⟩, none, 0, 0, false, rfl, .inl ⟨hn, rfl⟩⟩
  have HZZ : Hid (∀ w4, w4 = ((((w3.setCell ⟨w.heap.size, 0, none⟩ (.int .u64 0)).setCell ⟨w.heap.size, 1, none⟩ (.int .i64 0)).setCell ⟨w.heap.size, 2, none⟩ (.int .i64 0)).setCell ⟨w.heap.size, 3, none⟩ (.slice none 0 0)) → Lat w w4 ∧ Blk w4 w.heap.size 85 [.int .u64 0, .int .i64 0, .int .i64 0, .slice none 0 0]) := fun w4 e => by
    subst e
    obtain ⟨hB, hC⟩ := z4_set HB3.out (.int .u64 0) (.int .i64 0) (.int .i64 0) (.slice none 0 0)
    exact ⟨Below.trans HL3.out (hC.below HL3.out.size (fun i hi => by omega)), hB⟩
  by_cases hm : m = 0
  · subst hm
    have hn := HG0.out rfl
    have HN := hidden hn
    clear hn HG0 HG1 HGN
    go_wp2_with fail
    obtain ⟨z1, z2⟩ := HZZ.out _ rfl
    refine bodyPost_ret (results_row2 rfl _ _ w.heap.size 85 _ _ rfl z2 Tryz.underlying85 rfl size98) rfl ?_
    exact HNO.out HN.out _ z1
  · have hm' : ¬ (m : Int) = 0 := by omega
    have HN := hidden (HG1.out hm)
    have hdl : d.length ≤ 4194304 := by have := HGN.out; omega
    clear HG0 HG1 HGN
    by_cases h1 : k = 1
    · subst h1
      by_cases h2 : 24 ≤ d.length
      · obtain ⟨g, c', hv, hdc, _, _⟩ := owns_some HBD.out.row (by omega)
        cases hv
        have HSD : Hid (Sl w3 (some ⟨g, 0, none⟩) d.length d) := sl_of_owns HBD.out.row HBY.out
        have HS8 : Hid (Sl w3 (some ⟨g, 0, none⟩) 8 (d.take 8)) := HSD.out.cutT (by omega)
        have h2' : ¬ (d.length : Int) < 24 := by omega
        have hc8 : ¬ (c : Int) < 8 := by omega
        by_cases h3 : d.take 8 = mark
        · have hcv : (convert 28 9 (.slice (some ⟨g, 0, none⟩) 8 c)).run Tryz.prog w3 = .ok (.string ⟨#[116, 117, 114, 110, 107, 101, 121, 49]⟩) w3 := by have := convS (cap := c) HS8.out; rw [h3, str_mark] at this; exact this
          have hg1 := num_lt ((d.drop 8).take 8) (fun x hx => HBY.out x (List.mem_of_mem_drop (List.mem_of_mem_take hx)))
          have hp1 := num_lt ((d.drop 16).take 4) (fun x hx => HBY.out x (List.mem_of_mem_drop (List.mem_of_mem_take hx)))
          have hs1 := num_lt ((d.drop 20).take 4) (fun x hx => HBY.out x (List.mem_of_mem_drop (List.mem_of_mem_take hx)))
          have n1 : ∀ w1 : World, Lat w3 w1 → Calls Tryz.prog 96 #[.slice (some ⟨g, 0 + 8, none⟩) 8 (c - 8)] w1 fun e w2 => e = .returned (.int .u64 ((num ((d.drop 8).take 8) : Nat) : Int)) ∧ Lat w1 w2 := fun w1 hb => (numberR _ 8 _ _ _ (((HSD.out.later hb).cutL (K := 8) (by omega)).cutT (K := 8) (by omega)) (by omega)).mono (fun e w2 h => ⟨h.1, by rw [h.2]; exact Lat.refl _⟩)
          have n2 : ∀ w1 : World, Lat w3 w1 → Calls Tryz.prog 96 #[.slice (some ⟨g, 0 + 16, none⟩) 4 (c - 16)] w1 fun e w2 => e = .returned (.int .u64 ((num ((d.drop 16).take 4) : Nat) : Int)) ∧ Lat w1 w2 := fun w1 hb => (numberR _ 4 _ _ _ (((HSD.out.later hb).cutL (K := 16) (by omega)).cutT (K := 4) (by omega)) (by omega)).mono (fun e w2 h => ⟨h.1, by rw [h.2]; exact Lat.refl _⟩)
          have n3 : ∀ w1 : World, Lat w3 w1 → Calls Tryz.prog 96 #[.slice (some ⟨g, 0 + 20, none⟩) 4 (c - 20)] w1 fun e w2 => e = .returned (.int .u64 ((num ((d.drop 20).take 4) : Nat) : Int)) ∧ Lat w1 w2 := fun w1 hb => (numberR _ 4 _ _ _ (((HSD.out.later hb).cutL (K := 20) (by omega)).cutT (K := 4) (by omega)) (by omega)).mono (fun e w2 h => ⟨h.1, by rw [h.2]; exact Lat.refl _⟩)
          rw [List.length_take, List.length_drop, Nat.min_eq_left (by omega)] at hg1 hp1 hs1
          have HQ : Hid (headIn 1 d = if okH (num ((d.drop 8).take 8)) (num ((d.drop 16).take 4)) (num ((d.drop 20).take 4)) = true then some (⟨num ((d.drop 8).take 8), num ((d.drop 16).take 4), num ((d.drop 20).take 4)⟩, d.drop 24) else none) := by
            show _ = _
            unfold headIn
            by_cases ho : okH (num ((d.drop 8).take 8)) (num ((d.drop 16).take 4)) (num ((d.drop 20).take 4)) = true
            · rw [if_pos ho, if_pos ⟨rfl, h2, h3, ho⟩]
              rfl
            · rw [if_neg ho, if_neg (fun h => ho h.2.2.2)]
          generalize num ((d.drop 8).take 8) = gn at *
          generalize num ((d.drop 16).take 4) = p at *
          generalize num ((d.drop 20).take 4) = s at *
          have HN1 := hidden n1
          have HN2 := hidden n2
          have HN3 := hidden n3
          clear n1 n2 n3 h3
          have hg2 : gn < 18446744073709551616 := by simpa using hg1
          have hp2 : p < 4294967296 := by simpa using hp1
          have hs2 : s < 4294967296 := by simpa using hs1
          clear hg1 hp1 hs1
          go_wp2_with fail
          refine rhead_r4 g 0 d.length c gn p s w3 _ _ (by rfl) (by rfl) (by omega) (by omega) (by omega) (by omega) (by omega) (by omega) (wrapI _ (by omega) (by omega)) (wrapI _ (by omega) (by omega)) HN1.out HN2.out HN3.out ?_
          intro v33 v34 v35 v36 v37 v38 v39 v40 v41 v42 v43 v44 v7 w4 hb hL4 hbB hv7 hbk
          subst hv7
          simp only [Act.put, List.setIfInBounds_toArray, List.set_cons_succ, List.set_cons_zero]
          obtain ⟨GG, hGG⟩ : ∃ GG : Int, (gn : Int) = GG := ⟨_, rfl⟩
          rw [hGG] at HQ ⊢
          have HGG := hidden hGG
          clear hGG
          have HHB : Hid (w3.heap.size ≤ hb) := hbB
          have HB4 := hidden (blk_stored (l := [.int .u64 GG, .int .i64 (p : Int), .int .i64 (s : Int), .slice none 0 0]) hbk rfl)
          have hcs := chg_sets (fun i => i = hb) hb rfl [.int .u64 GG, .int .i64 (p : Int), .int .i64 (s : Int), .slice none 0 0] 0 w4
          have HL4 : Hid (Lat w (w4.setCells hb 0 [.int .u64 GG, .int .i64 (p : Int), .int .i64 (s : Int), .slice none 0 0])) := Below.trans (Lat.trans _ _ _ HL3.out hL4) (hcs.below (Nat.le_trans HL3.out.size hL4.size) (fun i hi => by have := HHB.out; have := HL3.out.size; omega))
          have HRB4 := hidden (hcs.blk (HB3.out.later hL4) (by have := HHB.out; have := HB3.out.lt; omega))
          have HSD4 := hidden (hcs.sl (HSD.out.later hL4) (fun x hx hp e => by
            have e1 : x = ⟨g, 0, none⟩ := (Option.some.inj hx).symm
            subst e1
            have := (HSD.out.at (by omega))
            obtain ⟨b', o', e2, hlt, _⟩ := this
            have e3 : b' = g := by cases e2; rfl
            subst e3
            have := HHB.out
            dsimp only at e
            omega))
          have HDL : Hid (c = 24 → d.length = 24) := fun h => by omega
          clear hcs hL4 hbk hbB c0 c1 c2 c3 f0 f1 f2 f3
          generalize w4.setCells hb 0 [.int .u64 GG, .int .i64 (p : Int), .int .i64 (s : Int), .slice none 0 0] = W4 at *
          by_cases hc24 : c = 24
          · have hd24 : d.length = 24 := by omega
            subst hc24
            simp only [hd24]
            have HD24 := hidden hd24
            clear hd24 h2' hdc HDL hc8
            go_wp2_with fail
            refine rhead_r5_eq g 0 24 24 hb (d.drop 24) W4 _ _ (by rfl) (by rfl) (by rfl) (fun w1 hL => (HB4.out.later hL).cell 3) (fun w1 hL => by rw [List.drop_of_length_le (by have := HD24.out; omega)]; exact Sl.nil _ _) _ (fun w1 hL => (HB4.out.later hL).cell 3) (fun w1 hL => (HB4.out.later hL).frozen 3) ?_
            intro v45 v46 v47 v48 v49 v50 w5 ag cg hL5 hR5
            simp only [Act.put, List.setIfInBounds_toArray, List.set_cons_succ, List.set_cons_zero]
            have HB6 := hidden ((HB4.out.later hL5).set 3 (.slice ag 0 cg))
            have HC6 : Hid (Chg (fun i => i = hb) w5 (w5.setCell ⟨hb, 3, none⟩ (.slice ag 0 cg))) := Chg.set ⟨hb, 3, none⟩ (.slice ag 0 cg) w5
            have HR6 : Hid (RowE w.heap.size 0 (d.drop 24) (.slice ag 0 cg) (w5.setCell ⟨hb, 3, none⟩ (.slice ag 0 cg))) := by
              obtain ⟨a', c', e', ho'⟩ := hR5
              exact ⟨a', c', e', HC6.out.owns (owns_lower ho' HL4.out.size) (fun g' hg' e => by
                have e2 : g' = hb := e
                subst e2
                exact absurd ((HB4.out.later hL5).tg.one (owns_tg ho' _ hg')) (by decide))⟩
            have HL6 : Hid (Lat w (w5.setCell ⟨hb, 3, none⟩ (.slice ag 0 cg))) := Below.trans (Lat.trans _ _ _ HL4.out hL5) (HC6.out.below (Nat.le_trans HL4.out.size hL5.size) (fun i hi => by have := HHB.out; have := HL3.out.size; omega))
            have HRB6 : Hid (Blk (w5.setCell ⟨hb, 3, none⟩ (.slice ag 0 cg)) w.heap.size 85 [.int .u64 0, .int .i64 0, .int .i64 0, .slice none 0 0]) := HC6.out.blk (HRB4.out.later hL5) (by have := HHB.out; have := HB3.out.lt; omega)
            clear hL5 hR5
            generalize w5.setCell ⟨hb, 3, none⟩ (.slice ag 0 cg) = w6 at *
            have q0 : w6.cell? ⟨hb, 0, none⟩ = some (.int .u64 GG) := HB6.out.cell 0
            have q1 : w6.cell? ⟨hb, 1, none⟩ = some (.int .i64 (p : Int)) := HB6.out.cell 1
            have q2 : w6.cell? ⟨hb, 2, none⟩ = some (.int .i64 (s : Int)) := HB6.out.cell 2
            have q3 : w6.cell? ⟨hb, 3, none⟩ = some (.slice ag 0 cg) := HB6.out.cell 3
            have c0 := HRB6.out.cell 0
            have c1 := HRB6.out.cell 1
            have c2 := HRB6.out.cell 2
            have c3 := HRB6.out.cell 3
            have f0 := HRB6.out.frozen 0
            have f1 := HRB6.out.frozen 1
            have f2 := HRB6.out.frozen 2
            have f3 := HRB6.out.frozen 3
            simp only [List.getElem?_cons_succ, List.getElem?_cons_zero] at c0 c1 c2 c3
            have hhne : ¬ hb = w.heap.size := by have := HHB.out; have := HB3.out.lt; omega
            have hhne2 : ¬ w.heap.size = hb := by have := HHB.out; have := HB3.out.lt; omega
            go_wp2_with fail
            refine (mayR p s w6).mono ?_
            rintro e w7 ⟨rfl, rfl⟩
            have HZ4 := hidden (z4_set HRB6.out (.int .u64 GG) (.int .i64 (p : Int)) (.int .i64 (s : Int)) (.slice ag 0 cg))
            by_cases hgp : 0 < GG
            · have HOE : Hid (okH GG p s = okH 1 p s) := by
                show _ = _
                unfold okH
                rw [decide_eq_decide]
                omega
              obtain ⟨ok, hok⟩ : ∃ ok, okH 1 (p : Int) (s : Int) = ok := ⟨_, rfl⟩
              rw [hok] at HOE ⊢
              have HOK := hidden hok
              clear hok
              cases ok with
              | false =>
                go_wp2_with fail
                refine bodyPost_ret (results_row2 rfl _ _ w.heap.size 85 _ _ rfl HZ4.out.1 Tryz.underlying85 rfl size98) rfl ?_
                exact HR.out _ _ ⟨Below.trans HL6.out (HZ4.out.2.below HL6.out.size (fun i hi => by omega)), ⟨gn, p, s⟩, ag, 0, cg, false, (by unfold hcell; dsimp only; rw [HGG.out]; rfl), .inl ⟨by rw [HN.out, HQ.out, HOE.out, if_neg (by simp)], rfl⟩⟩
              | true =>
                go_wp2_with fail
                refine bodyPost_ret (results_row2 rfl _ _ w.heap.size 85 _ _ rfl HZ4.out.1 Tryz.underlying85 rfl size98) rfl ?_
                refine HR.out _ _ ⟨Below.trans HL6.out (HZ4.out.2.below HL6.out.size (fun i hi => by omega)), ⟨gn, p, s⟩, ag, 0, cg, true, (by unfold hcell; dsimp only; rw [HGG.out]; rfl), .inr ⟨d.drop 24, by rw [HN.out, HQ.out, HOE.out, if_pos rfl], rfl, ?_⟩⟩
                obtain ⟨a', c', e', ho'⟩ := HR6.out
                have hml : (d.drop 24).length = 0 := by rw [List.length_drop, HD24.out]
                rw [hml]
                exact ⟨a', c', e', HZ4.out.2.owns ho' (fun g' hg' e => by
                  have e2 : g' = w.heap.size := e
                  subst e2
                  exact absurd (HRB6.out.tg.one (owns_tg ho' _ hg')) (by decide))⟩
            · have HOE : Hid (okH GG p s = false) := by
                show _ = _
                unfold okH
                exact decide_eq_false (fun h => hgp h.1)
              go_wp2_with fail
              refine bodyPost_ret (results_row2 rfl _ _ w.heap.size 85 _ _ rfl HZ4.out.1 Tryz.underlying85 rfl size98) rfl ?_
              exact HR.out _ _ ⟨Below.trans HL6.out (HZ4.out.2.below HL6.out.size (fun i hi => by omega)), ⟨gn, p, s⟩, ag, 0, cg, false, (by unfold hcell; dsimp only; rw [HGG.out]; rfl), .inl ⟨by rw [HN.out, HQ.out, HOE.out, if_neg (by simp)], rfl⟩⟩
          · have hqq : True := trivial
            go_wp2_with fail
            refine rhead_r5 g 0 d.length c hb (d.drop 24) W4 _ _ (by rfl) (by rfl) (by rfl) (fun w1 hL => (HB4.out.later hL).cell 3) (fun w1 hL => (HSD4.out.later hL).cutL (K := 24) (by omega)) (by omega) hdc hc24 (by omega) _ (fun w1 hL => (HB4.out.later hL).cell 3) (fun w1 hL => (HB4.out.later hL).frozen 3) ?_
            intro v45 v46 v47 v48 v49 v50 w5 ag cg hL5 hR5
            simp only [Act.put, List.setIfInBounds_toArray, List.set_cons_succ, List.set_cons_zero]
            have HB6 := hidden ((HB4.out.later hL5).set 3 (.slice ag (d.length - 24) cg))
            have HC6 : Hid (Chg (fun i => i = hb) w5 (w5.setCell ⟨hb, 3, none⟩ (.slice ag (d.length - 24) cg))) := Chg.set ⟨hb, 3, none⟩ (.slice ag (d.length - 24) cg) w5
            have HR6 : Hid (RowE w.heap.size (d.length - 24) (d.drop 24) (.slice ag (d.length - 24) cg) (w5.setCell ⟨hb, 3, none⟩ (.slice ag (d.length - 24) cg))) := by
              obtain ⟨a', c', e', ho'⟩ := hR5
              exact ⟨a', c', e', HC6.out.owns (owns_lower ho' HL4.out.size) (fun g' hg' e => by
                have e2 : g' = hb := e
                subst e2
                exact absurd ((HB4.out.later hL5).tg.one (owns_tg ho' _ hg')) (by decide))⟩
            have HL6 : Hid (Lat w (w5.setCell ⟨hb, 3, none⟩ (.slice ag (d.length - 24) cg))) := Below.trans (Lat.trans _ _ _ HL4.out hL5) (HC6.out.below (Nat.le_trans HL4.out.size hL5.size) (fun i hi => by have := HHB.out; have := HL3.out.size; omega))
            have HRB6 : Hid (Blk (w5.setCell ⟨hb, 3, none⟩ (.slice ag (d.length - 24) cg)) w.heap.size 85 [.int .u64 0, .int .i64 0, .int .i64 0, .slice none 0 0]) := HC6.out.blk (HRB4.out.later hL5) (by have := HHB.out; have := HB3.out.lt; omega)
            clear hL5 hR5
            generalize w5.setCell ⟨hb, 3, none⟩ (.slice ag (d.length - 24) cg) = w6 at *
            have q0 : w6.cell? ⟨hb, 0, none⟩ = some (.int .u64 GG) := HB6.out.cell 0
            have q1 : w6.cell? ⟨hb, 1, none⟩ = some (.int .i64 (p : Int)) := HB6.out.cell 1
            have q2 : w6.cell? ⟨hb, 2, none⟩ = some (.int .i64 (s : Int)) := HB6.out.cell 2
            have q3 : w6.cell? ⟨hb, 3, none⟩ = some (.slice ag (d.length - 24) cg) := HB6.out.cell 3
            have c0 := HRB6.out.cell 0
            have c1 := HRB6.out.cell 1
            have c2 := HRB6.out.cell 2
            have c3 := HRB6.out.cell 3
            have f0 := HRB6.out.frozen 0
            have f1 := HRB6.out.frozen 1
            have f2 := HRB6.out.frozen 2
            have f3 := HRB6.out.frozen 3
            simp only [List.getElem?_cons_succ, List.getElem?_cons_zero] at c0 c1 c2 c3
            have hhne : ¬ hb = w.heap.size := by have := HHB.out; have := HB3.out.lt; omega
            have hhne2 : ¬ w.heap.size = hb := by have := HHB.out; have := HB3.out.lt; omega
            go_wp2_with fail
            refine (mayR p s w6).mono ?_
            rintro e w7 ⟨rfl, rfl⟩
            have HZ4 := hidden (z4_set HRB6.out (.int .u64 GG) (.int .i64 (p : Int)) (.int .i64 (s : Int)) (.slice ag (d.length - 24) cg))
            by_cases hgp : 0 < GG
            · have HOE : Hid (okH GG p s = okH 1 p s) := by
                show _ = _
                unfold okH
                rw [decide_eq_decide]
                omega
              obtain ⟨ok, hok⟩ : ∃ ok, okH 1 (p : Int) (s : Int) = ok := ⟨_, rfl⟩
              rw [hok] at HOE ⊢
              have HOK := hidden hok
              clear hok
              cases ok with
              | false =>
                go_wp2_with fail
                refine bodyPost_ret (results_row2 rfl _ _ w.heap.size 85 _ _ rfl HZ4.out.1 Tryz.underlying85 rfl size98) rfl ?_
                exact HR.out _ _ ⟨Below.trans HL6.out (HZ4.out.2.below HL6.out.size (fun i hi => by omega)), ⟨gn, p, s⟩, ag, (d.length - 24), cg, false, (by unfold hcell; dsimp only; rw [HGG.out]; rfl), .inl ⟨by rw [HN.out, HQ.out, HOE.out, if_neg (by simp)], rfl⟩⟩
              | true =>
                go_wp2_with fail
                refine bodyPost_ret (results_row2 rfl _ _ w.heap.size 85 _ _ rfl HZ4.out.1 Tryz.underlying85 rfl size98) rfl ?_
                refine HR.out _ _ ⟨Below.trans HL6.out (HZ4.out.2.below HL6.out.size (fun i hi => by omega)), ⟨gn, p, s⟩, ag, (d.length - 24), cg, true, (by unfold hcell; dsimp only; rw [HGG.out]; rfl), .inr ⟨d.drop 24, by rw [HN.out, HQ.out, HOE.out, if_pos rfl], rfl, ?_⟩⟩
                obtain ⟨a', c', e', ho'⟩ := HR6.out
                have hml : (d.drop 24).length = (d.length - 24) := by rw [List.length_drop]
                rw [hml]
                exact ⟨a', c', e', HZ4.out.2.owns ho' (fun g' hg' e => by
                  have e2 : g' = w.heap.size := e
                  subst e2
                  exact absurd (HRB6.out.tg.one (owns_tg ho' _ hg')) (by decide))⟩
            · have HOE : Hid (okH GG p s = false) := by
                show _ = _
                unfold okH
                exact decide_eq_false (fun h => hgp h.1)
              go_wp2_with fail
              refine bodyPost_ret (results_row2 rfl _ _ w.heap.size 85 _ _ rfl HZ4.out.1 Tryz.underlying85 rfl size98) rfl ?_
              exact HR.out _ _ ⟨Below.trans HL6.out (HZ4.out.2.below HL6.out.size (fun i hi => by omega)), ⟨gn, p, s⟩, ag, (d.length - 24), cg, false, (by unfold hcell; dsimp only; rw [HGG.out]; rfl), .inl ⟨by rw [HN.out, HQ.out, HOE.out, if_neg (by simp)], rfl⟩⟩
        · have hq : Hid (headIn 1 d = none) := by show _ = _; unfold headIn; rw [if_neg (fun h => h3 h.2.2.1)]
          have hne := str_ne2 HBY.out h3
          have hne2 := beq_eq_false_iff_ne.1 hne
          have hcv := convS (cap := c) HS8.out
          go_wp2_with fail
          obtain ⟨z1, z2⟩ := HZZ.out _ rfl
          refine bodyPost_ret (results_row2 rfl _ _ w.heap.size 85 _ _ rfl z2 Tryz.underlying85 rfl size98) rfl ?_
          exact HNO.out (HN.out.trans hq.out) _ z1
      · have hq : Hid (headIn 1 d = none) := by show _ = _; unfold headIn; rw [if_neg (fun h => h2 h.2.1)]
        have h2' : (d.length : Int) < 24 := by omega
        go_wp2_with fail
        obtain ⟨z1, z2⟩ := HZZ.out _ rfl
        refine bodyPost_ret (results_row2 rfl _ _ w.heap.size 85 _ _ rfl z2 Tryz.underlying85 rfl size98) rfl ?_
        exact HNO.out (HN.out.trans hq.out) _ z1
    · have hq : Hid (headIn k d = none) := by show _ = _; unfold headIn; rw [if_neg (fun h => h1 h.1)]
      have h1' : ¬ k = 1 := h1
      go_wp2_with fail
      obtain ⟨z1, z2⟩ := HZZ.out _ rfl
      refine bodyPost_ret (results_row2 rfl _ _ w.heap.size 85 _ _ rfl z2 Tryz.underlying85 rfl size98) rfl ?_
      exact HNO.out (HN.out.trans hq.out) _ z1

end Go.Proofs.YtnfjhdedcnbdbaaGreat
