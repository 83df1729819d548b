/-
  Copy: the program's.
-/
import Derived.Test.YtgmcfejmhlglkaaCpS
namespace Go.Proofs.Ytgmcfejmhlglkaa
open Go.RowKit
set_option linter.unusedVariables false
set_option linter.unusedSimpArgs false

/-- Files of which the first ones have rows of their own. -/
def CI (w0 w : World) (rs rs' : List (Value × Fl)) (i : Nat) : Prop :=
  rs'.length = rs.length ∧ (∀ (k : Nat) (r : Value × Fl), rs[k]? = some r → ∃ v, rs'[k]? = some (v, r.2) ∧ (i ≤ k → v = r.1) ∧ (k < i → FR w (v, r.2) ∧ ∀ b, v.ownBlock = some b → w0.heap.size ≤ b)) ∧
  ∀ (j k : Nat) (r s : Value × Fl) (b : Nat), j < i → k < i → rs'[j]? = some r → rs'[k]? = some s → r.1.ownBlock = some b → s.1.ownBlock = some b → j = k
theorem CI.zero (w0 w : World) (rs : List (Value × Fl)) : CI w0 w rs rs 0 := ⟨rfl, fun k r hr => ⟨r.1, hr, fun _ => rfl, fun h => absurd h (by omega)⟩, fun j k r s b hj => absurd hj (by omega)⟩
theorem CI.step {w0 w w' : World} {rs rs' : List (Value × Fl)} {i g b : Nat} {r : Value × Fl} (h : CI w0 w rs rs' i) (hr : rs[i]? = some r) (hw0 : w0.heap.size ≤ w.heap.size) (hb : w.heap.size ≤ b) (hc : Chg (fun k => k = g) w w') (hg : Tg w g 82) (hF : FR w' (.slice (some ⟨b, 0, none⟩) r.2.b.length r.2.b.length, r.2)) :
    CI w0 w' rs (rs'.set i (.slice (some ⟨b, 0, none⟩) r.2.b.length r.2.b.length, r.2)) (i + 1) := by
  obtain ⟨h1, h2, h3⟩ := h
  have hil : i < rs'.length := by rw [h1]; exact (List.getElem?_eq_some_iff.1 hr).1
  refine ⟨by rw [List.length_set]; exact h1, fun k r2 hk => ?_, fun j k x y c hj hk hx hy hc1 hc2 => ?_⟩
  · by_cases hik : i = k
    · subst hik
      rw [hr] at hk
      obtain rfl := Option.some.inj hk
      refine ⟨_, by rw [List.getElem?_set, if_pos rfl, if_pos hil], fun h => absurd h (by omega), fun _ => ⟨hF, fun c hc => ?_⟩⟩
      have e : b = c := Option.some.inj hc
      omega
    · obtain ⟨v, q1, q2, q3⟩ := h2 k r2 hk
      refine ⟨v, by rw [List.getElem?_set, if_neg hik]; exact q1, fun h => q2 (by omega), fun h => ?_⟩
      obtain ⟨f1, f2⟩ := q3 (by omega)
      refine ⟨f1.chg hc (fun c hcc e => ?_), f2⟩
      subst e
      exact absurd ((owns_tg f1.row _ hcc).one hg) (by decide)
  · rw [List.getElem?_set] at hx hy
    have old : ∀ (j : Nat) (x : Value × Fl), i ≠ j → j < i + 1 → rs'[j]? = some x → x.1.ownBlock = some c → c < w.heap.size := by
      intro j x hij hj hx hc1
      have hjl : j < rs.length := by rw [← h1]; exact (List.getElem?_eq_some_iff.1 hx).1
      obtain ⟨v, q1, _, q3⟩ := h2 j rs[j] (List.getElem?_eq_getElem hjl)
      rw [hx] at q1
      obtain rfl := Option.some.inj q1
      exact ((q3 (by omega)).1.row.lt c hc1).2
    by_cases hij : i = j
    · subst hij
      rw [if_pos rfl, if_pos hil] at hx
      obtain rfl := Option.some.inj hx
      by_cases hik : i = k
      · exact hik
      · rw [if_neg hik] at hy
        have e : b = c := Option.some.inj hc1
        have := old k y hik hk hy hc2
        omega
    · rw [if_neg hij] at hx
      by_cases hik : i = k
      · subst hik
        rw [if_pos rfl, if_pos hil] at hy
        obtain rfl := Option.some.inj hy
        have e : b = c := Option.some.inj hc2
        have := old j x hij hj hx hc1
        omega
      · rw [if_neg hik] at hy
        exact h3 j k x y c (by omega) (by omega) hx hy hc1 hc2
theorem CI.snd {w0 w : World} {rs rs' : List (Value × Fl)} {i : Nat} (h : CI w0 w rs rs' i) : rs'.map (·.2) = rs.map (·.2) := by
  apply List.ext_getElem?
  intro k
  rw [List.getElem?_map, List.getElem?_map]
  by_cases hk : k < rs.length
  · obtain ⟨v, q1, _⟩ := h.2.1 k rs[k] (List.getElem?_eq_getElem hk)
    rw [q1, List.getElem?_eq_getElem hk]
    rfl
  · rw [List.getElem?_eq_none (by omega : rs.length ≤ k), List.getElem?_eq_none (by have := h.1; omega)]
theorem CI.chg {w0 w w' : World} {rs rs' : List (Value × Fl)} {i : Nat} (h : CI w0 w rs rs' i) (hb : Below w.heap.size w w') : CI w0 w' rs rs' i := by
  refine ⟨h.1, fun k r hk => ?_, h.2.2⟩
  obtain ⟨v, q1, q2, q3⟩ := h.2.1 k r hk
  exact ⟨v, q1, q2, fun hki => ⟨(q3 hki).1.chg (Chg.of_below (F := fun _ => False) hb) (fun _ _ h => h), (q3 hki).2⟩⟩

set_option maxRecDepth 10000 in
set_option maxHeartbeats 2000000 in
theorem copyP (p : Nat) (F : Nat → Prop) (S : St) (w : World) (h : Dk 80 82 w p F S) : Calls Try.prog 36 #[.pointer (some ⟨p, 0, none⟩)] w fun e w' => ∃ q F', e = .returned (.pointer (some ⟨q, 0, none⟩)) ∧ Dk 80 82 w' q F' S ∧ (∀ i, F' i → w.heap.size ≤ i) ∧ Below w.heap.size w w' := by
  obtain ⟨fb, fc, rs, set, ops, kv, kl, h, hL, hfu, rfl⟩ := h
  obtain ⟨ka, kc, hkv⟩ := owns_form h.keep
  subst hkv
  obtain ⟨kn, hkn⟩ : ∃ kn, kl.length = kn := ⟨_, rfl⟩
  obtain ⟨n, hn⟩ : ∃ n, rs.length = n := ⟨_, rfl⟩
  have h8 := h.n8
  have h1 := h.n1
  have HH := hidden h
  have HL := hidden hL
  have HFU := hidden hfu
  have HN := hidden hn
  have HKN := hidden hkn
  rw [hn] at h8 h1
  have HB := hidden h.blk
  rw [hn, hkn] at HB
  have HK : Hid (kn ≤ 1099511627776 ∨ True) := .inr trivial
  have HP54 : Hid (∀ w1, Lat w w1 → Calls Try.prog 54 #[.slice (some ⟨fb, 0, none⟩) n fc] w1 fun e w2 => e = .returned (.slice (some ⟨w1.heap.size, 0, none⟩) n n) ∧ Blk w2 w1.heap.size 82 (fcells rs) ∧ Below w1.heap.size w1 w2) := fun w1 hl => by
    have := copiedF p fb fc rs S.on S.falls set ops _ kl w1 (h.chg (Chg.of_below (F := fun _ => False) hl) (fun _ _ h => h))
    rw [hn] at this
    exact this
  have hknb : kn ≤ 8 ∨ True := .inr trivial
  clear h hL hfu hn hkn
  go_enter Try.func36, Try.ntmps36
  go_wp2_with fail
  refine copy_r1 p fb n fc S.on set (S.falls : Int) (ops : Int) ka kn kc (fcells rs) _ _ _ (by rfl) (by rfl) (fun w1 hl => (HB.out.later hl).cell 0) (fun w1 hl => (HB.out.later hl).cell 1) (fun w1 hl => (HB.out.later hl).cell 2) (fun w1 hl => (HB.out.later hl).range 3 3) HP54.out ?_
  intros
  rename World => w5
  rename (∃ g q, _) => hex
  rename Lat w w5 => hL5
  obtain ⟨g, q, hg0, hq0, rfl, hBg, hBq⟩ := hex
  have HBg := hidden hBg
  have HBq := hidden hBq
  have HL5 := hidden hL5
  have hqc := hBq.cell 0
  simp only [List.getElem?_cons_zero] at hqc
  clear hBg hBq hL5
  simp only [Act.put, List.setIfInBounds_toArray, List.set_cons_succ, List.set_cons_zero]
  go_wp2_with fail
  go_loopw [29] (fun iv wr => ∃ (i : Nat) (rs' : List (Value × Fl)), i ≤ n ∧ iv = .int .i64 (i : Int) ∧ CI w wr rs rs' i ∧ Blk wr g 82 (fcells rs') ∧ Blk wr q 80 [.slice (some ⟨g, 0, none⟩) n n, .bool S.on, .int .i64 (S.falls : Int), .bool set, .int .i64 (ops : Int), .slice ka kn kc] ∧ Below w.heap.size w wr) (fun iv _ => n - (intOf iv).toNat)
  case atStart => exact ⟨0, rs, Nat.zero_le _, rfl, CI.zero _ _ _, HBg.out, HBq.out, HL5.out⟩
  case round =>
    rename World => wr
    obtain ⟨i, rs', hi, rfl, hC, hG, hQ, hb⟩ := hrel
    have HC := hidden hC
    have HG := hidden hG
    have HQ := hidden hQ
    have Hb := hidden hb
    clear hC hG hQ hb hqc HBg HBq HL5
    by_cases hin : i < n
    · obtain ⟨r, hr⟩ : ∃ r, rs[i]? = some r := ⟨_, List.getElem?_eq_getElem (by have := HN.out; omega)⟩
      have hR := HH.out.row i r hr
      obtain ⟨ad, c, hv⟩ := owns_form hR.row
      have HR := hidden hr
      have HRR := hidden hR
      have HV := hidden hv
      have htop := hR.top
      obtain ⟨m, hm⟩ : ∃ m, r.2.b.length = m := ⟨_, rfl⟩
      have HM := hidden hm
      rw [hm] at htop
      have HDW : Hid (∀ w1, Lat wr w1 → DR 80 82 w1 p fb fc rs S.on S.falls set ops (.slice ka kl.length kc) kl) := fun w1 hl => HH.out.chg (Chg.of_below (F := fun _ => False) (Hb.out.trans (hl.mono Hb.out.size))) (fun _ _ h => h)
      have hcr : ∀ w1, Lat wr w1 → w1.cell? ⟨fb, i * 2, none⟩ = some (.slice ad m c) := fun w1 hl => by
        have := owns_cell (HDW.out w1 hl).files _ _ (fcells_row rs i r HR.out)
        rw [HV.out, HM.out] at this
        exact this
      have HCR := hidden hcr
      have hsl : ∀ w1, Lat wr w1 → Sl w1 ad m r.2.b := fun w1 hl => by
        have := ((HDW.out w1 hl).row i r HR.out).row
        rw [HV.out, HM.out] at this
        exact sl_of_owns this HRR.out.byte
      have HSL := hidden hsl
      have HRS : Hid (rs'[i]? = some (r.1, r.2)) := by
        obtain ⟨v, q1, q2, _⟩ := HC.out.2.1 i r hr
        rw [q2 (Nat.le_refl _)] at q1
        exact q1
      have HGC : Hid (∀ w1, Lat wr w1 → w1.cell? ⟨g, i * 2, none⟩ = some (.slice ad m c)) := fun w1 hl => by
        rw [(HG.out.later hl).cell, fcells_row rs' i _ HRS.out]
        show some r.1 = _
        rw [HV.out, HM.out]
      clear hr hR hv hm hcr hsl
      go_wp2_with fail
      refine copy_r5 p q g fb n fc i m c ad r.2.b _ _ _ (by rfl) (by rfl) (by rfl) (by rfl) hin (by omega) h8 (fun w1 hl => (HQ.out.later hl).cell 0) (fun w1 hl => by have := (HDW.out w1 hl).blk.cell 0; rw [HN.out] at this; exact this) HCR.out (fun w1 hl => copied8 ad m c r.2.b w1 (HSL.out w1 hl) (by omega)) (.slice ad m c) HGC.out (fun w1 hl => (HG.out.later hl).frozen _) ?_
      intros
      rename World => w6
      rename Nat => b
      rename Lat wr w6 => hL6
      rename wr.heap.size ≤ b => hb6
      rename w6.ownsRow _ _ _ _ _ _ => ho6
      have hG6 := HG.out.later hL6
      have hgb : g ≠ b := by
        rintro rfl
        exact absurd ((owns_tg ho6 g rfl).one hG6.tg) (by decide)
      have hBset := hG6.set (i * 2) (.slice (some ⟨b, 0, none⟩) m m)
      have e : (fcells rs').set (i * 2) (.slice (some ⟨b, 0, none⟩) m m) = fcells (rs'.set i (.slice (some ⟨b, 0, none⟩) m m, r.2)) := (fcells_set_row rs' i (r.1, r.2) HRS.out _ r.2.b).symm
      rw [e] at hBset
      have hC7 : Chg (fun k => k = g) wr (w6.setCell ⟨g, i * 2, none⟩ (.slice (some ⟨b, 0, none⟩) m m)) := (Chg.of_below (F := fun k => k = g) hL6).trans (Chg.set ⟨g, i * 2, none⟩ _ w6) (fun _ _ h => h)
      have hFR : FR (w6.setCell ⟨g, i * 2, none⟩ (.slice (some ⟨b, 0, none⟩) m m)) (.slice (some ⟨b, 0, none⟩) r.2.b.length r.2.b.length, r.2) := by
        refine ⟨?_, HRR.out.byte, HRR.out.le, HRR.out.top⟩
        rw [HM.out]
        exact (Chg.set ⟨g, i * 2, none⟩ _ w6).owns ho6 (fun k hk e => hgb (by have e2 : b = k := Option.some.inj hk; have e3 : k = g := e; omega))
      have hCI := HC.out.step HR.out Hb.out.size hb6 hC7 HG.out.tg hFR
      rw [HM.out] at hCI
      have hQ7 : Blk (w6.setCell ⟨g, i * 2, none⟩ (.slice (some ⟨b, 0, none⟩) m m)) q 80 _ := hC7.blk HQ.out (fun e => by
        subst e
        exact absurd (HQ.out.tg.one HG.out.tg) (by decide))
      have hb7 : Below w.heap.size w (w6.setCell ⟨g, i * 2, none⟩ (.slice (some ⟨b, 0, none⟩) m m)) := Hb.out.trans ⟨hC7.os, hC7.tape, hC7.output, hC7.size, fun k hk => hC7.block k (Nat.lt_of_lt_of_le hk Hb.out.size) (by omega)⟩
      have H1 := hidden hCI
      have H2 := hidden hBset
      have H3 := hidden hQ7
      have H4 := hidden hb7
      clear hCI hBset hQ7 hb7 hFR hC7 hG6 ho6 hL6
      simp only [Act.put, List.setIfInBounds_toArray, List.set_cons_succ, List.set_cons_zero]
      go_wp2_with fail
      refine ⟨⟨i + 1, _, by omega, by first | rfl | simp, H1.out, H2.out, H3.out, H4.out⟩, ?_⟩
      simp [intOf]
      omega
    · have hie : i = n := by omega
      subst hie
      have HDr : Hid (DR 80 82 wr p fb fc rs S.on S.falls set ops (.slice ka kl.length kc) kl) := HH.out.chg (Chg.of_below (F := fun _ => False) Hb.out) (fun _ _ h => h)
      have c5 : wr.cell? ⟨p, 5, none⟩ = some (.slice ka kn kc) := by have := HDr.out.blk.cell 5; rw [HKN.out] at this; exact this
      have hsn : Sn wr ka kn kl := by have := sn_of_owns HDr.out.keep HDr.out.kint; rw [HKN.out] at this; exact this
      have hkb : kn ≤ 1099511627776 := by rw [← HKN.out]; exact HH.out.klen
      have HSN := hidden hsn
      clear hsn
      go_wp2_with fail
      refine (copied64 ka kn kc kl wr HSN.out hkb).mono ?_
      rintro e w8 ⟨rfl, ho8, hb8⟩
      have hQ8 := HQ.out.later hb8
      have d5 := hQ8.cell 5
      simp only [List.getElem?_cons_succ, List.getElem?_cons_zero] at d5
      have f5 := hQ8.frozen 5
      have HO8 := hidden ho8
      have HB8 := hidden hb8
      have HQ8 := hidden hQ8
      clear ho8 hb8 hQ8
      go_wp2_with fail
      go_ret
      have hC9 := Chg.set ⟨q, 5, none⟩ (.slice (some ⟨wr.heap.size, 0, none⟩) kn kn) w8
      have hBq9 := HQ8.out.set 5 (.slice (some ⟨wr.heap.size, 0, none⟩) kn kn)
      simp only [List.set_cons_succ, List.set_cons_zero] at hBq9
      have hqw : q ≠ wr.heap.size := by have := HQ.out.lt; omega
      have hGg := hC9.blk (HG.out.later HB8.out) (fun e => by
        have e2 : g = q := e
        subst e2
        exact absurd (HQ.out.tg.one HG.out.tg) (by decide))
      have hrl : rs'.length = i := by rw [HC.out.1]; exact HN.out
      have hCI9 := HC.out.chg HB8.out
      have hbel : Below w.heap.size w (w8.setCell ⟨q, 5, none⟩ (.slice (some ⟨wr.heap.size, 0, none⟩) kn kn)) := (Hb.out.trans (HB8.out.mono Hb.out.size)).trans ⟨hC9.os, hC9.tape, hC9.output, hC9.size, fun k hk => hC9.block k (by have := Hb.out.size; have := HB8.out.size; omega) (fun e => by have e2 : k = q := e; omega)⟩
      have hrow : ∀ (k : Nat) (r : Value × Fl), rs'[k]? = some r → FR (w8.setCell ⟨q, 5, none⟩ (.slice (some ⟨wr.heap.size, 0, none⟩) kn kn)) r ∧ (∀ b, r.1.ownBlock = some b → w.heap.size ≤ b) ∧ k < i := by
        intro k r hk
        have hkl : k < i := by rw [← hrl]; exact (List.getElem?_eq_some_iff.1 hk).1
        obtain ⟨r0, hr0⟩ : ∃ r0, rs[k]? = some r0 := ⟨_, List.getElem?_eq_getElem (by have := HN.out; omega)⟩
        obtain ⟨v, q1, q2, q3⟩ := hCI9.2.1 k r0 hr0
        rw [hk] at q1
        obtain rfl := Option.some.inj q1
        obtain ⟨f1, f2⟩ := q3 hkl
        refine ⟨f1.chg hC9 (fun b hb e => ?_), f2, hkl⟩
        have e2 : b = q := e
        subst e2
        exact absurd ((owns_tg f1.row _ hb).one HQ8.out.tg) (by decide)
      refine ⟨q, FPd q g rs' (.slice (some ⟨wr.heap.size, 0, none⟩) kn kn), rfl, ⟨g, i, rs', set, ops, .slice (some ⟨wr.heap.size, 0, none⟩) kn kn, kl, ⟨by rw [hrl]; exact hBq9, ?_, fun k r hk => (hrow k r hk).1, ?_, ?_, HH.out.kint, HH.out.opsb, by rw [hrl]; exact h8, by rw [hrl]; exact h1, HH.out.klen⟩, ?_, ?_, rfl⟩, ?_, hbel⟩
      · refine ⟨by rw [fcells_length], .inr ⟨g, i, (fcells rs').toArray, by rw [hrl], Nat.zero_le _, hGg, by rw [hrl]; exact Nat.le_refl _, by unfold maxLen; omega, by simp [fcells_length, hrl], ?_⟩⟩
        rw [List.take_of_length_le (by simp [fcells_length])]
      · intro j k r s b hj hk hb1 hb2
        exact HC.out.2.2 j k r s b (hrow j r hj).2.2 (hrow k s hk).2.2 hj hk hb1 hb2
      · rw [HKN.out]
        exact hC9.owns (owns_zero HO8.out) (fun b hb e => hqw (by have e1 : wr.heap.size = b := Option.some.inj hb; have e2 : b = q := e; omega))
      · rw [HL.out, HC.out.snd]
      · rw [HFU.out, HC.out.1]
      · rintro k (rfl | rfl | ⟨j, r, hj, hb⟩ | hb)
        · exact hq0
        · exact hg0
        · exact (hrow j r hj).2.1 k hb
        · have e : wr.heap.size = k := Option.some.inj hb
          have := Hb.out.size
          omega

end Go.Proofs.Ytgmcfejmhlglkaa
