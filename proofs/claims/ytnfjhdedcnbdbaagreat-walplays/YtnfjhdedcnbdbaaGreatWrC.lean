/-
  The document's Open.
-/
import Derived.Test.YtnfjhdedcnbdbaaGreatWrB
import Derived.Test.YtnfjhdedcnbdbaaGreatWlK
import Derived.Test.YtnfjhdedcnbdbaaGreatWsM
import Derived.Deep.CutRange
import Derived.Deep.CutBlock
namespace Go.Proofs.YtnfjhdedcnbdbaaGreat
open Go.RowKit
set_option linter.unusedVariables false
set_option linter.unusedSimpArgs false

/-- The document's log in memory. -/
def Lq (w : World) (lp p : Nat) (l : Lw) (sv : Value) : Prop := Blk w lp 91 [.pointer (some ⟨p, 0, none⟩), .int .i64 (l.falls : Int), .int .i64 (l.live : Int), .int .u64 (l.h.g : Int), .int .i64 (l.h.cap : Int), .int .i64 (l.h.slots : Int), sv]
/-- What the document's Open tells. -/
def OpenQ (w : World) (p : Nat) (F : Nat → Prop) (S : St) (e : Ending) (w' : World) : Prop := ∃ F', Dk 82 97 w' p F' S.opens.2 ∧ Chg F w w' ∧ New w F F' ∧
  ((∃ er, S.opens.1 = .error er ∧ er ≠ 0 ∧ e = .returned (.tuple #[.pointer none, .slice none 0 0, .slice none 0 0, .int .i64 er])) ∨
   (∃ (f : Fnd) (lp : Nat) (r : List El) (sv rv : Value), S.opens.1 = .ok f ∧ S.opens.2.falls = S.falls ∧ Lq w' lp p ⟨S.falls, f.live, f.h⟩ sv ∧ w.heap.size ≤ lp ∧ RowE w.heap.size f.state.length f.state sv w' ∧ f.recs = r.map (·.2.2) ∧ (∀ y ∈ r, RowX w.heap.size w' y) ∧ w'.ownsRow w.heap.size 28 1 rv r.length (r.map (·.2.1)) ∧
      (∀ y ∈ r, ∀ g, y.2.1.ownBlock = some g → ¬ F' g) ∧ (∀ g, sv.ownBlock = some g → ¬ F' g) ∧ e = .returned (.tuple #[.pointer (some ⟨lp, 0, none⟩), sv, rv, .int .i64 0])))
theorem hcell_one (h : Hd) (a : Option Addr) (n c : Nat) : (hcell h (.slice a n c)).length = 4 := rfl

set_option maxRecDepth 100000 in
set_option maxHeartbeats 8000000 in
theorem ropen_walk (p : Nat) (F : Nat → Prop) (S : St) (w : World) (h : Dk 82 97 w p F S) (hf : S.falls ≤ 1099511627776) (hfl : ∀ i, (S.file i).length ≤ 1048576) (R : Ending → World → Prop) (hR : ∀ e w', OpenQ w p F S e w' → R e w') : Calls Tryz.prog 55 #[.pointer (some ⟨p, 0, none⟩)] w R := by
  obtain ⟨fb0, fc0, set0, ops0, ka0, kn0, kc0, p0, p1, p2, _, _, _, h8, h1⟩ := h.head
  have H := hidden h
  have HF := hidden hf
  have HR := hidden hR
  have HB0 := hidden (file_len h 0).2
  have HB1 := hidden (file_len h 1).2
  have hl0 := hfl 0
  have hl1 := hfl 1
  have hsz1 := St.size_le h 1
  have HSO := hidden S.size_one
  have HFAL := hidden p2
  clear h hf hR hfl p0 p2
  obtain ⟨on, hon⟩ : ∃ on, S.on = on := ⟨_, rfl⟩
  have HON := hidden hon
  rw [hon] at p1
  clear hon
  cases on with
  | false =>
    have hq : Unit → S.find = .error 40 := fun _ => by unfold St.find; rw [if_pos HON.out]
    go_enter Tryz.func55, Tryz.ntmps55
    go_wp2_with fail
    refine bodyPost_ret (results_tmp4 rfl _ _ _) rfl ?_
    refine HR.out _ _ ⟨F, ?_, Chg.refl _ _, New.refl _ _, .inl ⟨40, ?_, by decide, rfl⟩⟩
    · rw [opens_error (hq ())]
      exact H.out
    · rw [opens_error (hq ())]
  | true =>
    go_enter Tryz.func55, Tryz.ntmps55
    go_wp2_with fail
    refine (wholeR p F S w 0 H.out HON.out).mono ?_
    rintro e w1 ⟨a1, m1, c1, rfl, ho1, hb1⟩
    have HO1 := hidden ho1
    have HL1 : Hid (Lat w w1) := hb1
    have hm1 : m1 ≤ 1048576 := by have := ho1.1; rw [cells8_length] at this; omega
    clear ho1 hb1
    go_wp2_with fail
    refine (wholeR p F S w1 1 (H.out.lat HL1.out) HON.out).mono ?_
    rintro e w2 ⟨a2, m2, c2, rfl, ho2, hb2⟩
    have HO2 := hidden ho2
    have HL2 := hidden (Lat.trans _ _ _ HL1.out hb2)
    have HO12 := hidden ((Chg.of_below (F := fun _ => False) hb2).owns HO1.out (fun _ _ h => h))
    have hm2 : m2 ≤ 1048576 := by have := ho2.1; rw [cells8_length] at this; omega
    clear ho2 hb2
    go_wp2_with fail
    refine rhead_walk a1 m1 c1 (S.file 0) w2 (sl_of_owns HO12.out HB0.out) (owns_cap HO12.out).2.1 (by omega) _ ?_
    rintro e w3 ⟨hb3, hd0, sa0, sn0, sc0, ok0, rfl, hc0⟩
    have HC0 := hidden hc0
    have HL3 := hidden (Lat.trans _ _ _ HL2.out hb3)
    have HL23 : Hid (Lat w2 w3) := hb3
    clear hc0 hb3
    unfold hcell
    go_wp2_with fail
    have HA3 : Hid (Blk (w3.alloc (.cells #[.int .u64 (hd0.g : Int), .int .i64 (hd0.cap : Int), .int .i64 (hd0.slots : Int), .slice sa0 sn0 sc0] 85)) w3.heap.size 85 [.int .u64 (hd0.g : Int), .int .i64 (hd0.cap : Int), .int .i64 (hd0.slots : Int), .slice sa0 sn0 sc0]) := Blk.new w3 85 _
    have HLA : Hid (Lat w3 (w3.alloc (.cells #[.int .u64 (hd0.g : Int), .int .i64 (hd0.cap : Int), .int .i64 (hd0.slots : Int), .slice sa0 sn0 sc0] 85))) := (Below.refl _ w3).alloc (Nat.le_refl _) _
    generalize w3.alloc (.cells #[.int .u64 (hd0.g : Int), .int .i64 (hd0.cap : Int), .int .i64 (hd0.slots : Int), .slice sa0 sn0 sc0] 85) = w4 at *
    obtain ⟨ab, hab⟩ : ∃ ab, w3.heap.size = ab := ⟨_, rfl⟩
    rw [hab] at HA3 ⊢
    have HAB := hidden hab
    clear hab
    have HL4 := hidden (Lat.trans _ _ _ HL3.out HLA.out)
    have HO24 := hidden ((Chg.of_below (F := fun _ => False) (Lat.trans _ _ _ HL23.out HLA.out)).owns HO2.out (fun _ _ h => h))
    refine rhead_walk a2 m2 c2 (S.file 1) w4 (sl_of_owns HO24.out HB1.out) (owns_cap HO24.out).2.1 (by omega) _ ?_
    rintro e w5 ⟨hb5, hd1, sa1, sn1, sc1, ok1, rfl, hc1⟩
    have HC1 := hidden hc1
    have HL45 : Hid (Lat w4 w5) := hb5
    have HL5 := hidden (Lat.trans _ _ _ HL4.out hb5)
    clear hc1 hb5
    unfold hcell
    have q0 := (HA3.out.later HL45.out).cell 0
    have q1 := (HA3.out.later HL45.out).cell 1
    have q2 := (HA3.out.later HL45.out).cell 2
    have q3 := (HA3.out.later HL45.out).cell 3
    simp only [List.getElem?_cons_succ, List.getElem?_cons_zero] at q0 q1 q2 q3
    have hablt : ab < w5.heap.size := (HA3.out.later HL45.out).lt
    go_upto_block 0 with fail
    obtain ⟨w6, hw6, hB6, hH6, hb6, hz6⟩ := two_new w5 85 85 [.int .u64 (hd1.g : Int), .int .i64 (hd1.cap : Int), .int .i64 (hd1.slots : Int), .slice sa1 sn1 sc1] [.int .u64 (hd0.g : Int), .int .i64 (hd0.cap : Int), .int .i64 (hd0.slots : Int), .slice sa0 sn0 sc0]
    have hw6' : (w5.alloc (.cells #[.int .u64 (hd1.g : Int), .int .i64 (hd1.cap : Int), .int .i64 (hd1.slots : Int), .slice sa1 sn1 sc1] 85)).alloc (.cells #[.int .u64 (hd0.g : Int), .int .i64 (hd0.cap : Int), .int .i64 (hd0.slots : Int), .slice sa0 sn0 sc0] 85) = w6 := hw6
    rw [hw6']
    obtain ⟨bb, hbb⟩ : ∃ bb, w5.heap.size = bb := ⟨_, rfl⟩
    rw [hbb] at hB6 hH6 hz6 hablt ⊢
    have HBB := hidden hbb
    have HB6 := hidden hB6
    have HH6 := hidden hH6
    have HA6 := hidden ((HA3.out.later HL45.out).later hb6)
    have HL56 : Hid (Lat w5 w6) := hb6
    have HL6 := hidden (Lat.trans _ _ _ HL5.out hb6)
    have HZ6 := hidden hz6
    clear hw6 hw6' hB6 hH6 hb6 hz6 hbb q0 q1 q2 q3
    have q0 := HA6.out.cell 0
    have q1 := HA6.out.cell 1
    have q2 := HA6.out.cell 2
    have q3 := HA6.out.cell 3
    simp only [List.getElem?_cons_succ, List.getElem?_cons_zero] at q0 q1 q2 q3
    have rr0 := HB6.out.cell 0
    have rr1 := HB6.out.cell 1
    have rr2 := HB6.out.cell 2
    have rr3 := HB6.out.cell 3
    simp only [List.getElem?_cons_succ, List.getElem?_cons_zero] at rr0 rr1 rr2 rr3
    have t0 := HH6.out.cell 0
    have t1 := HH6.out.cell 1
    have t2 := HH6.out.cell 2
    have t3 := HH6.out.cell 3
    have uu0 := HH6.out.frozen 0
    have uu1 := HH6.out.frozen 1
    have uu2 := HH6.out.frozen 2
    have uu3 := HH6.out.frozen 3
    simp only [List.getElem?_cons_succ, List.getElem?_cons_zero] at t0 t1 t2 t3
    have hne1 : ¬ ab = bb + 1 := by omega
    have hne2 : ¬ bb = bb + 1 := by omega
    have HO16 := hidden ((Chg.of_below (F := fun _ => False) (Lat.trans _ _ _ (Lat.trans _ _ _ HL23.out HLA.out) (Lat.trans _ _ _ HL45.out HL56.out))).owns HO12.out (fun _ _ h => h))
    have HO26 := hidden ((Chg.of_below (F := fun _ => False) (Lat.trans _ _ _ HL45.out HL56.out)).owns HO24.out (fun _ _ h => h))
    have HC06 : Hid ((headAt (S.file 0) = none ∧ ok0 = false) ∨ ∃ st, headAt (S.file 0) = some (hd0, st) ∧ ok0 = true ∧ RowE w.heap.size st.length st (.slice sa0 sn0 sc0) w6) := HC0.out.imp id (fun ⟨st, h1, h2, h3⟩ => ⟨st, h1, h2, by
      obtain ⟨a', c', e', ho'⟩ := h3
      exact ⟨a', c', e', (Chg.of_below (F := fun _ => False) (Lat.trans _ _ _ HLA.out (Lat.trans _ _ _ HL45.out HL56.out))).owns (owns_lower ho' HL2.out.size) (fun _ _ h => h)⟩⟩)
    have HC16 : Hid ((headAt (S.file 1) = none ∧ ok1 = false) ∨ ∃ st, headAt (S.file 1) = some (hd1, st) ∧ ok1 = true ∧ RowE w.heap.size st.length st (.slice sa1 sn1 sc1) w6) := HC1.out.imp id (fun ⟨st, h1, h2, h3⟩ => ⟨st, h1, h2, by
      obtain ⟨a', c', e', ho'⟩ := h3
      exact ⟨a', c', e', (Chg.of_below (F := fun _ => False) HL56.out).owns (owns_lower ho' HL4.out.size) (fun _ _ h => h)⟩⟩)
    have HERR : Hid (∀ er wz, S.find = .error er → er ≠ 0 → Lat w wz → R (.returned (.tuple #[.pointer none, .slice none 0 0, .slice none 0 0, .int .i64 er])) wz) := fun er wz hfe hne hlz => HR.out _ _ ⟨F, by rw [opens_error hfe]; exact H.out.lat hlz, Chg.of_below hlz, New.refl _ _, .inl ⟨er, by rw [opens_error hfe], hne, rfl⟩⟩
    have HFON : Hid (2 ≤ S.L.length → _) := fun h2 => find_on HON.out h2
    have HSZ6 := hidden (sizeR p F S w6 1 (H.out.lat HL6.out))
    have HFS : Hid (S.L.length < 2 → S.find = .error 61) := fun h2 => by unfold St.find; rw [if_neg (by rw [HON.out]; simp), if_pos h2]
    clear HC0 HC1 hsz1 h8 h1 p1
    go_cut [12, 14] from 41 to 79 (fun s12 s14 wx => ∃ (live : Nat) (hdL : Hd) (saL : Option Addr) (snL scL : Nat) (aL : Option Addr) (mL cL : Nat) (stL : List Int), live ≤ 1 ∧ 2 ≤ S.L.length ∧ s12 = .int .i64 (live : Int) ∧ s14 = .slice aL mL cL ∧ S.find = finS S live (hdL, stL) ∧ headAt (S.file live) = some (hdL, stL) ∧ wx.ownsRow w.heap.size 5 1 (.slice aL mL cL) mL (cells8 (S.file live)) ∧ Blk wx (bb + 1) 85 [.int .u64 (hdL.g : Int), .int .i64 (hdL.cap : Int), .int .i64 (hdL.slots : Int), .slice saL snL scL] ∧ RowE w.heap.size stL.length stL (.slice saL snL scL) wx ∧ Chg (fun i => i = bb + 1) w6 wx)
    case first =>
      go_wp2_with fail
      refine HSZ6.out.mono ?_
      rintro e w7 ⟨rfl, rfl⟩
      obtain ⟨z, hz⟩ : ∃ z, S.size 1 = z := ⟨_, rfl⟩
      rw [hz] at HSO ⊢
      clear hz
      by_cases hz0 : z < 0
      · have h2 : S.L.length < 2 := by
          have q := HSO.out
          have : ¬ 0 ≤ z := by omega
          rw [q] at this
          omega
        have HH2 := hidden (HFS.out h2)
        clear HFS h2
        go_wp2_with fail
        refine bodyPost_ret (results_tmp4 rfl _ _ _) rfl ?_
        exact HERR.out 61 _ HH2.out (by decide) HL6.out
      · have h2 : 2 ≤ S.L.length := by
          have q := HSO.out
          have : 0 ≤ z := by omega
          rw [q] at this
          exact this
        have HFO := hidden (HFON.out h2)
        have hz0' : ¬ z < 0 := hz0
        clear HFON HFS
        obtain ⟨G0, hG0⟩ : ∃ G0 : Int, (hd0.g : Int) = G0 := ⟨_, rfl⟩
        obtain ⟨G1, hG1⟩ : ∃ G1 : Int, (hd1.g : Int) = G1 := ⟨_, rfl⟩
        rw [hG0] at q0
        rw [hG1] at rr0
        have HG0 := hidden hG0
        have HG1 := hidden hG1
        clear hG0 hG1
        rcases HC06.out with ⟨hn0, rfl⟩ | ⟨st0, hs0, rfl, hr0⟩
        · rcases HC16.out with ⟨hn1, rfl⟩ | ⟨st1, hs1, rfl, hr1⟩
          · have HFIN : Hid (S.find = .error 61) := by show _ = _; rw [HFO.out, hn0, hn1]
            clear hn0 hn1 HC06 HC16 HFO
            go_wp2_with fail
            refine bodyPost_ret (results_tmp4 rfl _ _ _) rfl ?_
            exact HERR.out 61 _ HFIN.out (by decide) HL6.out
          · have HFIN : Hid (S.find = finS S 1 (hd1, st1)) := by show _ = _; rw [HFO.out, hn0, hs1]
            have HS1 := hidden hs1
            have HR1 := hidden hr1
            clear hn0 hs1 hr1 HC06 HC16 HFO
            obtain ⟨hz4, hzc⟩ := z4_set HH6.out (.int .u64 G1) (.int .i64 (hd1.cap : Int)) (.int .i64 (hd1.slots : Int)) (.slice sa1 sn1 sc1)
            go_wp2_with fail
            go_meet
            case rel =>
              refine ⟨1, hd1, sa1, sn1, sc1, a2, m2, c2, st1, by omega, h2, rfl, rfl, HFIN.out, HS1.out, hzc.owns (owns_lower HO26.out HL1.out.size) (fun g hg e => ?_), by rw [HG1.out]; exact hz4, ?_, hzc⟩
              · have e2 : g = bb + 1 := e
                subst e2
                exact absurd (HH6.out.tg.one (owns_tg HO26.out _ hg)) (by decide)
              · obtain ⟨a', c', e', ho'⟩ := HR1.out
                exact ⟨a', c', e', hzc.owns ho' (fun g hg e => by
                  have e2 : g = bb + 1 := e
                  subst e2
                  exact absurd (HH6.out.tg.one (owns_tg ho' _ hg)) (by decide))⟩
        · rcases HC16.out with ⟨hn1, rfl⟩ | ⟨st1, hs1, rfl, hr1⟩
          · have HFIN : Hid (S.find = finS S 0 (hd0, st0)) := by show _ = _; rw [HFO.out, hs0, hn1]
            have HS0 := hidden hs0
            have HR0 := hidden hr0
            clear hs0 hn1 hr0 HC06 HC16 HFO
            go_wp2_with fail
            go_meet
            case rel => exact ⟨0, hd0, sa0, sn0, sc0, a1, m1, c1, st0, by omega, h2, rfl, rfl, HFIN.out, HS0.out, owns_lower HO16.out (Nat.le_refl _), HH6.out, HR0.out, Chg.refl _ _⟩
          · have HFI : Hid (S.find = if hd0.g = hd1.g then .error 62 else if hd0.g < hd1.g then finS S 1 (hd1, st1) else finS S 0 (hd0, st0)) := by show _ = _; rw [HFO.out, hs0, hs1]
            have HS0 := hidden hs0
            have HR0 := hidden hr0
            have HS1 := hidden hs1
            have HR1 := hidden hr1
            clear hs0 hr0 hs1 hr1 HC06 HC16 HFO
            by_cases hEq : G0 = G1
            · have HFIN : Hid (S.find = .error 62) := by show _ = _; rw [HFI.out, if_pos (by have := HG0.out; have := HG1.out; omega)]
              clear HFI
              subst hEq
              go_wp2_with fail
              refine bodyPost_ret (results_tmp4 rfl _ _ _) rfl ?_
              exact HERR.out 62 _ HFIN.out (by decide) HL6.out
            · by_cases hlt : G0 < G1
              · have HFIN : Hid (S.find = finS S 1 (hd1, st1)) := by show _ = _; rw [HFI.out, if_neg (by have := HG0.out; have := HG1.out; omega), if_pos (by have := HG0.out; have := HG1.out; omega)]
                clear HFI
                obtain ⟨hz4, hzc⟩ := z4_set HH6.out (.int .u64 G1) (.int .i64 (hd1.cap : Int)) (.int .i64 (hd1.slots : Int)) (.slice sa1 sn1 sc1)
                go_wp2_with fail
                go_meet
                case rel =>
                  refine ⟨1, hd1, sa1, sn1, sc1, a2, m2, c2, st1, by omega, h2, rfl, rfl, HFIN.out, HS1.out, hzc.owns (owns_lower HO26.out HL1.out.size) (fun g hg e => ?_), by rw [HG1.out]; exact hz4, ?_, hzc⟩
                  · have e2 : g = bb + 1 := e
                    subst e2
                    exact absurd (HH6.out.tg.one (owns_tg HO26.out _ hg)) (by decide)
                  · obtain ⟨a', c', e', ho'⟩ := HR1.out
                    exact ⟨a', c', e', hzc.owns ho' (fun g hg e => by
                      have e2 : g = bb + 1 := e
                      subst e2
                      exact absurd (HH6.out.tg.one (owns_tg ho' _ hg)) (by decide))⟩
              · have HFIN : Hid (S.find = finS S 0 (hd0, st0)) := by show _ = _; rw [HFI.out, if_neg (by have := HG0.out; have := HG1.out; omega), if_neg (by have := HG0.out; have := HG1.out; omega)]
                clear HFI
                go_wp2_with fail
                go_meet
                case rel => exact ⟨0, hd0, sa0, sn0, sc0, a1, m1, c1, st0, by omega, h2, rfl, rfl, HFIN.out, HS0.out, owns_lower HO16.out (Nat.le_refl _), HH6.out, HR0.out, Chg.refl _ _⟩
    case rest =>
      obtain ⟨live, hdL, saL, snL, scL, aL, mL, cL, stL, hlv, h2, rfl, rfl, hfin, hhead, hrow, hblk, hst, hchg⟩ := hcut
      rename World => w8
      have HFIN := hidden hfin
      have HHEAD := hidden hhead
      have HROW := hidden hrow
      have HBLK := hidden hblk
      have HST := hidden hst
      have HCHG := hidden hchg
      clear hfin hhead hrow hblk hst hchg HC06 HC16 HFON HFS HSZ6 q0 q1 q2 q3 rr0 rr1 rr2 rr3 t0 t1 t2 t3 uu0 uu1 uu2 uu3
      have hml : mL ≤ 1048576 := by
        have q := HROW.out.1
        rw [cells8_length] at q
        rcases (show live = 0 ∨ live = 1 by omega) with rfl | rfl <;> omega
      have HBL : Hid (Byte (S.file live)) := by
        rcases (show live = 0 ∨ live = 1 by omega) with rfl | rfl
        · exact HB0.out
        · exact HB1.out
      go_wp2_with fail
      refine (refScan_any aL mL cL (S.file live) w8 (sl_of_owns HROW.out HBL.out) (owns_cap HROW.out).2.1 (owns_cap HROW.out).2.2.2 hml).mono ?_
      rintro e w9 ⟨v, els, rfl, hls, hels, hb9⟩
      obtain ⟨aw, cw, rfl⟩ := owns_formG hls.1
      obtain ⟨e0, re, hre⟩ : ∃ e0 re, els = e0 :: re := by
        cases els with
        | nil =>
          have q := HHEAD.out
          unfold headAt at q
          rw [← hels] at q
          cases q
        | cons a b => exact ⟨a, b, rfl⟩
      have HLS := hidden hls
      have HELS := hidden hels
      have HL89 : Hid (Lat w8 w9) := hb9
      have HL68 : Hid (Below w.heap.size w w8) := Below.trans HL6.out (HCHG.out.below HL6.out.size (fun i hi => by have := HBB.out; have := HL5.out.size; omega))
      have HL9 : Hid (Lat w w9) := Lat.trans _ _ _ HL68.out HL89.out
      have HBLK9 := hidden (HBLK.out.later HL89.out)
      have HST9 : Hid (RowE w.heap.size stL.length stL (.slice saL snL scL) w9) := by
        obtain ⟨a', c', e', ho'⟩ := HST.out
        exact ⟨a', c', e', (Chg.of_below (F := fun _ => False) HL89.out).owns ho' (fun _ _ h => h)⟩
      have HFZ : Hid (fsz (frames (S.file live)) ≤ mL) := by
        have q := HROW.out.1
        rw [cells8_length] at q
        have q2 := fsz_le (S.file live)
        show _ ≤ _
        omega
      have HGOOD : Hid (good hdL (frames (S.file live)) = (decide (hdL.g < 9223372036854775808 ∧ fsz (frames (S.file live)) ≤ hdL.cap) && re.all (fun y => decide (y.1 = 2)))) := by
        show _ = _
        unfold good
        congr 1
        rw [← hels, hre]
        simp [fr, Function.comp_def]
        rfl
      have HBAD : Hid (good hdL (frames (S.file live)) = false → S.find = .error 62) := fun h => by rw [HFIN.out]; unfold finS; rw [if_neg (by rw [h]; simp)]
      have HOKF : Hid (good hdL (frames (S.file live)) = true → S.find = .ok ⟨live, hdL, stL, re.map (·.2.2), fsz (frames (S.file live))⟩) := fun h => by
        rw [HFIN.out]
        unfold finS
        rw [if_pos h, ← hels, hre]
        simp [fr, Function.comp_def]
      have hel : els.length ≤ 1048576 := by
        have q1 := fsz_len (frames (S.file live))
        rw [← hels, List.length_map] at q1
        have q2 := HFZ.out
        rw [← hels] at q2
        omega
      have HEP : Hid (els.length = re.length + 1) := by show _ = _; rw [hre]; rfl
      have HRE := hidden hre
      clear hls hels hb9 hre
      have hfz := HFZ.out
      generalize fsz (frames (S.file live)) = fz at *
      obtain ⟨G, hG⟩ : ∃ G : Int, (hdL.g : Int) = G := ⟨_, rfl⟩
      have HG := hidden hG
      have y0 : w9.cell? ⟨bb + 1, 0, none⟩ = some (.int .u64 G) := by rw [← hG]; exact HBLK9.out.cell 0
      have y1 : w9.cell? ⟨bb + 1, 1, none⟩ = some (.int .i64 (hdL.cap : Int)) := HBLK9.out.cell 1
      clear hG
      by_cases hgen : (9223372036854775808 : Int) ≤ G
      · have HX : Hid (S.find = .error 62) := HBAD.out (by rw [HGOOD.out, decide_eq_false (by have := HG.out; omega)]; rfl)
        clear HBAD HOKF HGOOD
        go_wp2_with fail
        refine bodyPost_ret (results_tmp4 rfl _ _ _) rfl ?_
        exact HERR.out 62 _ HX.out (by decide) HL9.out
      · by_cases hcp : (hdL.cap : Int) < (fz : Int)
        · have HX : Hid (S.find = .error 62) := HBAD.out (by rw [HGOOD.out, decide_eq_false (by omega)]; rfl)
          clear HBAD HOKF HGOOD
          go_wp2_with fail
          refine bodyPost_ret (results_tmp4 rfl _ _ _) rfl ?_
          exact HERR.out 62 _ HX.out (by decide) HL9.out
        · have HGD : Hid (good hdL (frames (S.file live)) = re.all (fun y => decide (y.1 = 2))) := by
            show _ = _
            rw [HGOOD.out, decide_eq_true (by have := HG.out; omega)]
            rfl
          clear HGOOD
          have hbg : decide ((9223372036854775808 : Int) ≤ G) = false := decide_eq_false hgen
          have hbc : decide ((hdL.cap : Int) < (fz : Int)) = false := decide_eq_false hcp
          have hbn : decide (hdL.cap < fz) = false := decide_eq_false (by omega)
          clear hgen hcp
          obtain ⟨i2, hi2, hy0, hy1, hy2⟩ := info_parts info22
          obtain ⟨gw, rfl⟩ : ∃ gw, aw = some ⟨gw, 0, none⟩ := by
            rcases HLS.out.1.2 with ⟨h0, h1⟩ | ⟨g, cap, cur, h0, _⟩
            · have := HEP.out; omega
            · cases h0; exact ⟨g, rfl⟩
          go_wp2_with fail
          go_loopw [2, 3, 4, 5, 17, 18] (fun v2 v3 v4 v5 v17 v18 wr => ∃ (j : Nat) (ar : Option Addr) (cr : Nat), 1 ≤ j ∧ j ≤ els.length ∧ v18 = .int .i64 (j : Int) ∧ v17 = .slice ar (j - 1) cr ∧ wr.ownsRow w9.heap.size 28 1 (.slice ar (j - 1) cr) (j - 1) ((re.take (j - 1)).map (·.2.1)) ∧ (∀ y ∈ re.take (j - 1), y.1 = 2) ∧ Below w9.heap.size w9 wr)
            (fun v2 v3 v4 v5 v17 v18 _ => els.length - (intOf v18).toNat)
          case atStart => exact ⟨1, none, 0, Nat.le_refl _, by have := HEP.out; omega, rfl, rfl, World.ownsRow_nil _ _ _ _, (fun y hy => by simp at hy), Below.refl _ _⟩
          case round =>
            obtain ⟨j, ar, cr, hj1, hj, rfl, rfl, hown, hk2, hbel⟩ := hrel
            have HOWN := hidden hown
            have HK2 := hidden hk2
            have HBEL := hidden hbel
            clear hown hk2 hbel
            by_cases hin : j < els.length
            · obtain ⟨y, hely⟩ : ∃ y, els[j]? = some y := ⟨_, List.getElem?_eq_getElem hin⟩
              have hry' : re[j - 1]? = some y := by
                have q := hely
                rw [HRE.out] at q
                rcases j with _ | j
                · omega
                · simpa using q
              have hfa := flat_at els j y hely
              have z0 : wr.cell? ⟨gw, j * 2, none⟩ = some (.int .u8 y.1) := by
                have q := owns_cell HLS.out.1 _ _ hfa.1
                rw [HBEL.out.cell (p := ⟨gw, j * 2, none⟩) (World.block_lt_of_cell? w9 _ q)]
                exact q
              have z1 : wr.cell? ⟨gw, j * 2 + 1, none⟩ = some y.2.1 := by
                have q := owns_cell HLS.out.1 _ _ hfa.2
                rw [HBEL.out.cell (p := ⟨gw, j * 2 + 1, none⟩) (World.block_lt_of_cell? w9 _ q)]
                exact q
              have hmem : y ∈ els := List.mem_of_getElem? hely
              obtain ⟨⟨ay, cy, hvy⟩, hry⟩ := HLS.out.2 y hmem
              rw [hvy] at z1
              have HY := hidden hry'
              have HVY := hidden hvy
              clear hely hfa hmem hry hvy hry'
              by_cases hkk : y.1 = 2
              · rw [hkk] at z0
                have HKK := hidden hkk
                clear hkk
                go_wp2_with (at_builtin; refine wpList_append_own _ rfl (.tmp 106) (.tmp 112) 37 rfl w9.heap.size 28 i2 (.slice none 0 0) 1 24 Tryz.underlying37 hi2 hy0 hy1 hy2 rfl (by decide) (.slice ar (j - 1) cr) (j - 1) ((re.take (j - 1)).map (·.2.1)) rfl (HOWN.out.alloc _) ⟨wr.heap.size, 0, none⟩ 1 1 [.slice ay y.2.2.length cy] rfl rfl (new_one wr _ 28) (by simp [Value.oneCell']) (by unfold maxLen; omega) (by omega) (by have := HBEL.out.size; simp; omega) ?_; intro v5 w5' ho5 hg5 _; have HO5 := hidden ho5; have HB5 := hidden (HBEL.out.trans (((Below.refl _ wr).alloc (Nat.le_refl _) (.cells #[.slice ay y.2.2.length cy] 28)).mono HBEL.out.size |>.trans (grown_below hg5 (HOWN.out.alloc _) (by have := HBEL.out.size; simp; omega)))); obtain ⟨a5, c5, rfl⟩ := owns_formG ho5; clear ho5 hg5)
                have hjj : j - 1 + 1 = j + 1 - 1 := by omega
                have htk : re.take (j + 1 - 1) = re.take (j - 1) ++ [y] := by
                  rw [← hjj, List.take_add_one, HY.out]
                  rfl
                refine ⟨⟨j + 1, a5, c5, by omega, by omega, by simp, rfl, ?_, ?_, HB5.out⟩, by simp [intOf]; omega⟩
                · rw [htk, List.map_append]
                  have q := HO5.out
                  rw [← HVY.out, show j - 1 + 1 = j by omega] at q
                  exact q
                · intro u hu
                  rw [htk] at hu
                  rcases List.mem_append.1 hu with hu | hu
                  · exact HK2.out u hu
                  · simp at hu
                    rw [hu]
                    exact HKK.out
              · have HX : Hid (S.find = .error 62) := HBAD.out (by
                  rw [HGD.out, Bool.eq_false_iff]
                  intro hall
                  rw [List.all_eq_true] at hall
                  have := hall y (List.mem_of_getElem? HY.out)
                  exact hkk (of_decide_eq_true this))
                clear HBAD HOKF
                go_wp2_with fail
                refine bodyPost_ret (results_tmp4 rfl _ _ _) rfl ?_
                exact HERR.out 62 _ HX.out (by decide) (Lat.trans _ _ _ HL9.out HBEL.out)
            · have hje : j = els.length := by omega
              have htk : re.take (j - 1) = re := List.take_of_length_le (by have := HEP.out; omega)
              rw [htk] at HOWN HK2
              have hrl : j - 1 = re.length := by have := HEP.out; omega
              have HX : Hid (S.find = .ok ⟨live, hdL, stL, re.map (·.2.2), fz⟩) := HOKF.out (by
                rw [HGD.out, List.all_eq_true]
                intro u hu
                exact decide_eq_true (HK2.out u hu))
              clear HBAD HOKF HGD htk
              rw [hrl] at HOWN ⊢
              clear hrl hje
              have HLr := hidden (Lat.trans _ _ _ HL9.out HBEL.out)
              have HSZL : Hid (S.size live = (mL : Int)) := by
                obtain ⟨x, hx⟩ : ∃ x, S.L[live]? = some x := ⟨_, List.getElem?_eq_getElem (by omega)⟩
                have q := HROW.out.1
                have q2 : S.file live = x.b := by unfold St.file; rw [hx]
                rw [cells8_length, q2] at q
                show _ = _
                unfold St.size
                rw [if_pos (by omega), Int.toNat_natCast, hx]
                simp only
                omega
              have HCK : Hid ((S.cutRest live fz).1 = 0 → (S.cutRest live fz).2.falls = S.falls) := cutRest_ok
              have HCBAD : Hid ((S.cutRest live fz).1 ≠ 0 → S.opens = (.error (S.cutRest live fz).1, (S.cutRest live fz).2)) := fun he => opens_bad HX.out he
              have HCGOOD : Hid ((S.cutRest live fz).1 = 0 → S.opens = (.ok ⟨live, hdL, stL, re.map (·.2.2), fz⟩, (S.cutRest live fz).2)) := fun he => opens_good HX.out he
              have HCR : Hid (S.cutRest live fz = if (S.cutLive live fz).1 ≠ 0 then S.cutLive live fz else (S.cutLive live fz).2.cutOther live) := rfl
              have HCL : Hid (S.cutLive live fz = if (fz : Int) < S.size live then S.truncate live fz else (0, S)) := rfl
              have HCLK : Hid ((S.cutLive live fz).1 = 0 → (S.cutLive live fz).2.falls = S.falls) := cutLive_ok
              rw [HSZL.out] at HCL
              generalize S.cutRest live fz = cr at *
              generalize S.cutLive live fz = cl at *
              obtain ⟨ce, CS⟩ := cr
              obtain ⟨le, LSS⟩ := cl
              dsimp only at HCK HCBAD HCGOOD HCR HCLK
              have HNF : Hid (∀ i, w.heap.size ≤ i → ¬ F i) := fun i hi hF => by have := H.out.lt i hF; omega
              have HBLKr := hidden (HBLK9.out.later HBEL.out)
              have HSTr : Hid (RowE w.heap.size stL.length stL (.slice saL snL scL) wr) := by
                obtain ⟨a', c', e', ho'⟩ := HST9.out
                exact ⟨a', c', e', (Chg.of_below (F := fun _ => False) HBEL.out).owns ho' (fun _ _ h => h)⟩
              have HRXr : Hid (∀ y ∈ re, RowX w.heap.size wr y) := fun y hy => by
                obtain ⟨q1, q2⟩ := HLS.out.2 y (by rw [HRE.out]; exact List.mem_cons_of_mem _ hy)
                exact ⟨q1, (Chg.of_below (F := fun _ => False) HBEL.out).owns (owns_lower q2 HL68.out.size) (fun _ _ h => h)⟩
              have HOWr : Hid (wr.ownsRow w.heap.size 28 1 (.slice ar re.length cr) re.length (re.map (·.2.1))) := owns_baseG (owns_zero HOWN.out) (fun g hg => Nat.le_trans HL9.out.size (HOWN.out.lt g hg).1)
              have HFINAL : Hid (∀ (wz wy : World) (FZ : Nat → Prop) (lp : Nat) (C : St), S.opens = (.ok ⟨live, hdL, stL, re.map (·.2.2), fz⟩, C) → C.falls = S.falls → Dk 82 97 wz p FZ C → Chg F wr wz → New wr F FZ → Lat wz wy → Blk wy lp 91 [.pointer (some ⟨p, 0, none⟩), .int .i64 (S.falls : Int), .int .i64 (live : Int), .int .u64 (hdL.g : Int), .int .i64 (hdL.cap : Int), .int .i64 (hdL.slots : Int), .slice saL snL scL] → wz.heap.size ≤ lp → R (.returned (.tuple #[.pointer (some ⟨lp, 0, none⟩), .slice saL snL scL, .slice ar re.length cr, .int .i64 0])) wy) := by
                intro wz wy FZ lp C hgo hfz hdz hcz hnz hly hlg hlp
                have hcy : Chg F wr wy := hcz.trans (Chg.of_below hly) (fun _ _ h => h)
                have hap : ∀ g, w.heap.size ≤ g → g < wr.heap.size → ¬ FZ g := fun g h1 h2 k => by
                  rcases hnz g k with f | f
                  · exact HNF.out g h1 f
                  · omega
                refine HR.out _ _ ⟨FZ, by rw [hgo]; exact hdz.lat hly, (Chg.of_below HLr.out).trans hcy (fun _ _ h => h), hnz.up HLr.out.size, .inr ⟨⟨live, hdL, stL, re.map (·.2.2), fz⟩, lp, re, .slice saL snL scL, .slice ar re.length cr, by rw [hgo], by rw [hgo]; exact hfz, hlg, ?_, ?_, rfl, ?_, ?_, ?_, ?_, rfl⟩⟩
                · have := HLr.out.size
                  have := hcz.size
                  omega
                · obtain ⟨a', c', e', ho'⟩ := HSTr.out
                  exact ⟨a', c', e', hcy.owns ho' (fun g hg k => HNF.out g (ho'.lt g hg).1 k)⟩
                · exact fun y hy => (HRXr.out y hy).chg hcy (fun g hg k => HNF.out g ((HRXr.out y hy).2.lt g hg).1 k)
                · exact hcy.owns HOWr.out (fun g hg k => HNF.out g (HOWr.out.lt g hg).1 k)
                · exact fun y hy g hg => hap g ((HRXr.out y hy).2.lt g hg).1 ((HRXr.out y hy).2.lt g hg).2
                · intro g hg
                  obtain ⟨a', c', e', ho'⟩ := HSTr.out
                  exact hap g (ho'.lt g hg).1 (ho'.lt g hg).2
              have HEF : Hid (∀ (wz : World) (FZ : Nat → Prop) (er : Int) (C : St), S.opens = (.error er, C) → er ≠ 0 → Dk 82 97 wz p FZ C → Chg F wr wz → New wr F FZ → R (.returned (.tuple #[.pointer none, .slice none 0 0, .slice none 0 0, .int .i64 er])) wz) := fun wz FZ er C hgo hne hdz hcz hnz =>
                HR.out _ _ ⟨FZ, by rw [hgo]; exact hdz, (Chg.of_below HLr.out).trans hcz (fun _ _ h => h), hnz.up HLr.out.size, .inl ⟨er, by rw [hgo], hne, rfl⟩⟩
              have hw1 : IntKind.i64.wrap (1 - (live : Int)) = 1 - (live : Int) := wrapI _ (by omega) (by omega)
              go_upto_if 117 with fail
              generalize hbo : decide (fz < mL) = bo
              have HBO := hidden hbo
              clear hbo
              go_cut [19] from 118 to 121 (fun s19 wx => s19 = .int .i64 le ∧ Dks 82 97 wr wx p F LSS)
              case first =>
                cases bo with
                | true =>
                  have hlt : fz < mL := of_decide_eq_true HBO.out
                  rw [if_pos (by omega)] at HCL
                  go_wp2_with fail
                  refine (truncateR p F S wr live fz (H.out.lat HLr.out) HF.out (by omega)).mono ?_
                  rintro e wx ⟨rfl, hdx⟩
                  rw [← HCL.out] at hdx ⊢
                  have HDX := hidden hdx
                  clear hdx
                  dsimp only
                  go_wp2_with fail
                  go_meet
                  case rel => exact ⟨rfl, HDX.out⟩
                | false =>
                  have hlt : ¬ fz < mL := of_decide_eq_false HBO.out
                  rw [if_neg (by omega)] at HCL
                  have q := HCL.out
                  simp only [Prod.mk.injEq] at q
                  obtain ⟨rfl, rfl⟩ := q
                  go_wp2_with fail
                  go_meet
                  case rel => exact ⟨rfl, Dks.same (H.out.lat HLr.out)⟩
              case rest =>
                obtain ⟨rfl, hdx⟩ := hcut
                rename World => wx
                obtain ⟨FX, k1, k2, k3⟩ := hdx
                have HK1 := hidden k1
                have HK2 := hidden k2
                have HK3 := hidden k3
                clear k1 k2 k3
                by_cases hle : le = 0
                · subst hle
                  rw [if_neg (by simp)] at HCR
                  have HLF := hidden (HCLK.out rfl)
                  clear HCLK
                  go_wp2_with fail
                  refine (sizeR p FX LSS wx (1 - (live : Int)) HK1.out).mono ?_
                  rintro e wx2 ⟨rfl, rfl⟩
                  have HOT : Hid (LSS.cutOther live = if 0 < LSS.size (1 - live : Int) then LSS.truncate (1 - live : Int) 0 else (0, LSS)) := rfl
                  obtain ⟨z2, hz2⟩ : ∃ z2, LSS.size (1 - (live : Int)) = z2 := ⟨_, rfl⟩
                  rw [hz2] at HOT ⊢
                  clear hz2
                  by_cases hz0 : 0 < z2
                  · rw [if_pos hz0] at HOT
                    go_wp2_with fail
                    refine (truncateR p FX LSS wx2 (1 - (live : Int)) 0 HK1.out (by rw [HLF.out]; exact HF.out) (by omega)).mono ?_
                    rintro e wz ⟨rfl, hdz⟩
                    rw [← HOT.out, ← HCR.out] at hdz ⊢
                    obtain ⟨FZ, m1', m2', m3'⟩ := Dks.trans HK2.out HK3.out hdz
                    have HDZ := hidden m1'
                    have HCZ := hidden m2'
                    have HNZ := hidden m3'
                    clear hdz m1' m2' m3'
                    dsimp only
                    by_cases hce : ce = 0
                    · subst hce
                      have HGO := hidden (HCGOOD.out rfl)
                      have HFZZ := hidden (HCK.out rfl)
                      clear HCGOOD HCBAD HCK
                      have HBZ := hidden (HCZ.out.blk HBLKr.out (HNF.out _ (by have := HBB.out; have := HL5.out.size; omega)))
                      have y2 : wz.cell? ⟨bb + 1, 3, none⟩ = some (.slice saL snL scL) := HBZ.out.cell 3
                      go_wp2_with fail
                      refine ropen_r35 p (bb + 1) S.falls live hdL.g hdL.cap hdL.slots snL scL re.length cr saL ar wz _ _ (by rfl) (by rfl) (by rfl) (by rfl) (by rfl) (fun w1 hL => ?_) (fun w1 hL => HBZ.out.later hL) (fun w1 hL => (HBZ.out.later hL).cell 3) ?_
                      · obtain ⟨_, _, _, _, _, _, _, _, _, q2, _⟩ := (HDZ.out.lat hL).head
                        rw [HFZZ.out] at q2
                        exact q2
                      · intros
                        rename_i wy hLy hN
                        obtain ⟨⟨lp, e2, hlp, hlg⟩, e3, e4, e5⟩ := hN
                        subst e2
                        subst e3
                        subst e4
                        subst e5
                        simp only [Act.put, List.setIfInBounds_toArray, List.set_cons_succ, List.set_cons_zero]
                        have HLY := hidden hLy
                        have HLG := hidden hlg
                        have HLP := hidden hlp
                        clear hLy hlg hlp
                        go_wp2_with fail
                        refine bodyPost_ret (results_tmp4 rfl _ _ _) rfl ?_
                        exact HFINAL.out wz wy FZ lp CS HGO.out HFZZ.out HDZ.out HCZ.out HNZ.out HLY.out HLG.out HLP.out
                    · have HBA := hidden (HCBAD.out hce)
                      clear HCGOOD HCBAD HCK
                      go_wp2_with fail
                      refine bodyPost_ret (results_tmp4 rfl _ _ _) rfl ?_
                      exact HEF.out wz FZ ce CS HBA.out hce HDZ.out HCZ.out HNZ.out
                  · rw [if_neg hz0] at HOT
                    rw [HOT.out] at HCR
                    have q := HCR.out
                    simp only [Prod.mk.injEq] at q
                    obtain ⟨rfl, rfl⟩ := q
                    have HGO := hidden (HCGOOD.out rfl)
                    have HFZZ := hidden (HCK.out rfl)
                    clear HCGOOD HCBAD HCK
                    have HBZ := hidden (HK2.out.blk HBLKr.out (HNF.out _ (by have := HBB.out; have := HL5.out.size; omega)))
                    have y2 : wx2.cell? ⟨bb + 1, 3, none⟩ = some (.slice saL snL scL) := HBZ.out.cell 3
                    go_wp2_with fail
                    refine ropen_r35 p (bb + 1) S.falls live hdL.g hdL.cap hdL.slots snL scL re.length cr saL ar wx2 _ _ (by rfl) (by rfl) (by rfl) (by rfl) (by rfl) (fun w1 hL => ?_) (fun w1 hL => HBZ.out.later hL) (fun w1 hL => (HBZ.out.later hL).cell 3) ?_
                    · obtain ⟨_, _, _, _, _, _, _, _, _, q2, _⟩ := (HK1.out.lat hL).head
                      rw [HFZZ.out] at q2
                      exact q2
                    · intros
                      rename_i wy hLy hN
                      obtain ⟨⟨lp, e2, hlp, hlg⟩, e3, e4, e5⟩ := hN
                      subst e2
                      subst e3
                      subst e4
                      subst e5
                      simp only [Act.put, List.setIfInBounds_toArray, List.set_cons_succ, List.set_cons_zero]
                      have HLY := hidden hLy
                      have HLG := hidden hlg
                      have HLP := hidden hlp
                      clear hLy hlg hlp
                      go_wp2_with fail
                      refine bodyPost_ret (results_tmp4 rfl _ _ _) rfl ?_
                      exact HFINAL.out wx2 wy FX lp CS HGO.out HFZZ.out HK1.out HK2.out HK3.out HLY.out HLG.out HLP.out
                · rw [if_pos hle] at HCR
                  have q := HCR.out
                  simp only [Prod.mk.injEq] at q
                  obtain ⟨rfl, rfl⟩ := q
                  have HBA := hidden (HCBAD.out hle)
                  clear HCGOOD HCBAD HCK HCLK
                  go_wp2_with fail
                  refine bodyPost_ret (results_tmp4 rfl _ _ _) rfl ?_
                  exact HEF.out wx FX ce CS HBA.out hle HK1.out HK2.out HK3.out

end Go.Proofs.YtnfjhdedcnbdbaaGreat
