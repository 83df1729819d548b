/-
  Words: of a repetition; Words.
-/
import Derived.Test.YtndegcgcbhcokaaPuU
namespace Go.Proofs.Ytndegcgcbhcokaa
open Go.RowKit
set_option linter.unusedVariables false
set_option linter.unusedSimpArgs false

set_option maxRecDepth 100000 in
set_option maxHeartbeats 8000000 in
theorem rep23 (a : Pt) (s : Nat) (ha : WC a) (F : Nat → Prop) (w : World) (u : Value) (hu : PtV F w a u) (hfine : a.fine) (hs : s = 42 ∨ s = 43 ∨ s = 63) (hcnt : a.cnt ≤ 64) :
    Calls Try.prog 23 #[.agg #[u, .int .u8 (s : Int)]] w (WdR w.heap.size none w (repW a.wds s)) := by
  obtain ⟨t, u', rfl⟩ := hu.form
  obtain ⟨W, hW⟩ : ∃ W, w.alloc (.cells #[.iface t u', .int .u8 (s : Int)] 76) = W := ⟨_, rfl⟩
  have hal : Below w.heap.size w W := by rw [← hW]; exact (Below.refl _ w).alloc (Nat.le_refl _) _
  have B1 : Blk W w.heap.size 76 [.iface t u', .int .u8 (s : Int)] := by rw [← hW]; exact Blk.new w 76 _
  have k15 := ha F W _ (PtV.keep (Chg.of_below (F := fun _ => False) hal) (fun _ _ h => h) a _ hu) hfine hcnt
  have HAL := hidden hal
  have HB1 := hidden B1
  have HW := hidden hW
  rw [← hW] at k15
  obtain ⟨A, hA⟩ : ∃ A, a.wds = A := ⟨_, rfl⟩
  rw [hA] at k15 ⊢
  obtain ⟨R0, hR0⟩ : ∃ R0, repW A s = R0 := ⟨_, rfl⟩
  have HR0 := hidden hR0
  rw [hR0]
  clear hal B1 hW hu hfine hcnt hA hR0
  go_enter Try.func23, Try.ntmps23
  go_upto_region 2 with (go_at_call 15; refine k15.mono ?_; rintro e w2 ⟨a2, m2, c2, ok2, rfl, hc2, hm2, hres⟩; rw [HW.out] at hc2 hres; clear k15)
  have hbl : Below W.heap.size W w2 := hc2.below (Nat.le_refl _) (fun i e => by cases e)
  have hbl2 : Below w.heap.size w w2 := HAL.out.trans (hbl.mono HAL.out.size)
  have hB2 := HB1.out.later hbl
  have e1 : w2.cell? ⟨w.heap.size, 1, none⟩ = some (.int .u8 (s : Int)) := hB2.cell 1
  have HWN : Hid (Chg (fun b => (none : Option Nat) = some b) w w2) := hidden (Chg.of_below hbl2)
  have HB2 := hidden hbl2
  have HWl : Hid (w.heap.size ≤ W.heap.size) := hidden HAL.out.size
  rcases hres with ⟨rfl, lr, rfl, hlr, hor, hmr⟩ | ⟨rfl, rfl, _⟩
  · have HOR := hidden (owns_base hor (b' := w.heap.size) (fun g hg => Nat.le_trans HWl.out (hor.lt g hg).1))
    have hmr2 : Moved w none (Value.slice a2 m2 c2).ownBlock := by
      rcases hmr with e | ⟨g, e, hg⟩
      · exact .inl e
      · exact .inr ⟨g, e, Nat.le_trans HWl.out hg⟩
    have HMR := hidden hmr2
    have HLR := hidden hlr
    -- together with the empty text
    have k33 : Hid (Calls Try.prog 33 #[.slice a2 m2 c2, .slice (some ⟨w2.heap.size, 0, none⟩) 1 1] (w2.alloc (.cells #[.string noText] 9)) (WdR w.heap.size none w (togF lr [noText]))) := hidden (by
      have hal2 : Below w2.heap.size w2 (w2.alloc (.cells #[.string noText] 9)) := (Below.refl _ w2).alloc (Nat.le_refl _) _
      have k := togetherP w.heap.size lr [noText] a2 (some ⟨w2.heap.size, 0, none⟩) m2 c2 1 1 (w2.alloc (.cells #[.string noText] 9)) (fun b => b = w2.heap.size) (HOR.out.alloc _) hm2 (by have := hal2.size; have := HB2.out.size; omega) (fun _ => ⟨w2.heap.size, 0, rfl, rfl, fun i x hx => by
        have := (Blk.new w2 9 [.string noText]).cell (0 + i)
        rw [this, Nat.zero_add]
        cases i with
        | zero => simp at hx; subst hx; rfl
        | succ i => simp at hx⟩) rfl (by omega) (fun b hb => by
          have hb' : b = w2.heap.size := hb
          subst hb'
          exact ⟨fun e => by have := owns_lt HOR.out _ e; omega, by simp⟩)
      refine k.mono ?_
      rintro e w' ⟨a', m', c', ok, rfl, hc, hm, h⟩
      have hcc : Chg (fun b => (none : Option Nat) = some b) w w' := by
        have d1 : Chg (fun b => (none : Option Nat) = some b) w (w2.alloc (.cells #[.string noText] 9)) := HWN.out.trans (Chg.of_below (F := fun _ => False) hal2) (fun _ _ h => h.elim)
        refine d1.trans hc (fun i hi e => ?_)
        have := (HOR.out.lt i e).1
        omega
      refine ⟨a', m', c', ok, rfl, hcc, hm, ?_⟩
      rcases h with ⟨rfl, lr', h1, h2, h3, h4⟩ | h
      · refine .inl ⟨rfl, lr', h1, h2, h3, ?_⟩
        rcases h4 with e | ⟨g, e, hg⟩
        · rw [e]; exact HMR.out
        · exact .inr ⟨g, e, by have := hal2.size; have := HB2.out.size; omega⟩
      · exact .inr h)
    have HSTAY : Hid (WdR w.heap.size none w (some lr) (.returned (.tuple #[.slice a2 m2 c2, .bool true])) w2) := hidden ⟨a2, m2, c2, true, rfl, HWN.out, hm2, .inl ⟨rfl, lr, rfl, HLR.out, HOR.out, HMR.out⟩⟩
    have HNONE : Hid (WdR w.heap.size none w none (.returned (.tuple #[.slice none 0 0, .bool false])) w2) := hidden ⟨none, 0, 0, false, rfl, HWN.out, by omega, .inr ⟨rfl, rfl, rfl⟩⟩
    have hshape : (letters lr = false ∧ m2 = 0) ∨ (∃ x g, letters lr = !x.toList.isEmpty ∧ m2 = 1 ∧ a2 = some ⟨g, 0, none⟩ ∧ w2.cell? ⟨g, 0, none⟩ = some (.string x)) ∨ (letters lr = true ∧ 1 < m2) := by
      cases lr with
      | nil => exact .inl ⟨rfl, by rw [← hlr]; rfl⟩
      | cons x l =>
        cases l with
        | nil =>
          refine .inr (.inl ?_)
          rcases HOR.out.2 with ⟨_, e⟩ | ⟨g, cap, cur, e0, _⟩
          · rw [e] at hlr; simp at hlr
          · injection e0 with e0 _ _
            subst e0
            have := HOR.out.cells (g := g) (by simp [Value.ownBlock]) _ _ (sV_get (l := [x]) (i := 0) (x := x) (by simp))
            rw [Addr.add_lit, Nat.zero_add] at this
            exact ⟨x, g, by simp [letters], by rw [← hlr]; rfl, rfl, this⟩
        | cons y l => exact .inr (.inr ⟨by simp [letters], by rw [← hlr]; simp⟩)
    clear hor hmr hmr2 hlr hc2 hbl hbl2 hB2
    obtain ⟨L, hL⟩ : ∃ L, letters lr = L := ⟨_, rfl⟩
    rw [hL] at hshape
    have HREP : Hid (repW (some lr) s = if L = true ∧ s ≠ 63 then none else if s = 43 then some lr else togF lr [noText]) := hidden (by rw [repW, hL])
    clear hL
    rcases hshape with ⟨rfl, h0⟩ | ⟨x, g, h1, h2, rfl, hx⟩ | ⟨rfl, h2⟩
    · have h0z : ¬ (1 : Int) < (m2 : Int) := by omega
      have h0y : ((m2 : Int) == 1) = false := by simp; omega
      have h0x : ¬ (m2 : Int) = 1 := by omega
      clear h0
      rcases hs with rfl | rfl | rfl
      · have HE : Hid (R0 = togF lr [noText]) := hidden (by rw [← HR0.out, HREP.out]; simp)
        have k := k33.out
        clear k33 HSTAY HNONE HREP
        go_wp2_with (go_at_call 33; refine k.mono ?_; rintro e w3 ⟨a3, m3, c3, ok3, rfl, h3⟩; have H3 := hidden h3; clear k h3)
        go_ret2
        rw [HE.out]
        exact ⟨a3, m3, c3, ok3, rfl, H3.out⟩
      · have HE : Hid (R0 = some lr) := hidden (by rw [← HR0.out, HREP.out]; simp)
        clear k33 HNONE HREP
        go_wp2
        go_ret2
        rw [HE.out]
        exact HSTAY.out
      · have HE : Hid (R0 = togF lr [noText]) := hidden (by rw [← HR0.out, HREP.out]; simp)
        have k := k33.out
        clear k33 HSTAY HNONE HREP
        go_wp2_with (go_at_call 33; refine k.mono ?_; rintro e w3 ⟨a3, m3, c3, ok3, rfl, h3⟩; have H3 := hidden h3; clear k h3)
        go_ret2
        rw [HE.out]
        exact ⟨a3, m3, c3, ok3, rfl, H3.out⟩
    · subst h2
      cases hxe : x.toList.isEmpty with
      | true =>
        rw [hxe] at h1
        rcases hs with rfl | rfl | rfl
        · have HE : Hid (R0 = togF lr [noText]) := hidden (by rw [← HR0.out, HREP.out, h1]; simp)
          have k := k33.out
          clear k33 HSTAY HNONE HREP h1
          go_wp2_with (go_at_call 33; refine k.mono ?_; rintro e w3 ⟨a3, m3, c3, ok3, rfl, h3⟩; have H3 := hidden h3; clear k h3)
          go_ret2
          rw [HE.out]
          exact ⟨a3, m3, c3, ok3, rfl, H3.out⟩
        · have HE : Hid (R0 = some lr) := hidden (by rw [← HR0.out, HREP.out, h1]; simp)
          clear k33 HNONE HREP h1
          go_wp2
          go_ret2
          rw [HE.out]
          exact HSTAY.out
        · have HE : Hid (R0 = togF lr [noText]) := hidden (by rw [← HR0.out, HREP.out]; simp)
          have k := k33.out
          clear k33 HSTAY HNONE HREP h1
          go_wp2_with (go_at_call 33; refine k.mono ?_; rintro e w3 ⟨a3, m3, c3, ok3, rfl, h3⟩; have H3 := hidden h3; clear k h3)
          go_ret2
          rw [HE.out]
          exact ⟨a3, m3, c3, ok3, rfl, H3.out⟩
      | false =>
        rw [hxe] at h1
        rcases hs with rfl | rfl | rfl
        · have HE : Hid (R0 = none) := hidden (by rw [← HR0.out, HREP.out, h1]; simp)
          clear k33 HSTAY HREP h1
          go_wp2
          go_ret2
          rw [HE.out]
          exact HNONE.out
        · have HE : Hid (R0 = none) := hidden (by rw [← HR0.out, HREP.out, h1]; simp)
          clear k33 HSTAY HREP h1
          go_wp2
          go_ret2
          rw [HE.out]
          exact HNONE.out
        · have HE : Hid (R0 = togF lr [noText]) := hidden (by rw [← HR0.out, HREP.out]; simp)
          have k := k33.out
          clear k33 HSTAY HNONE HREP h1
          go_wp2_with (go_at_call 33; refine k.mono ?_; rintro e w3 ⟨a3, m3, c3, ok3, rfl, h3⟩; have H3 := hidden h3; clear k h3)
          go_ret2
          rw [HE.out]
          exact ⟨a3, m3, c3, ok3, rfl, H3.out⟩
    · have h0z : (1 : Int) < (m2 : Int) := by omega
      clear h2
      rcases hs with rfl | rfl | rfl
      · have HE : Hid (R0 = none) := hidden (by rw [← HR0.out, HREP.out]; simp)
        clear k33 HSTAY HREP
        go_wp2
        go_ret2
        rw [HE.out]
        exact HNONE.out
      · have HE : Hid (R0 = none) := hidden (by rw [← HR0.out, HREP.out]; simp)
        clear k33 HSTAY HREP
        go_wp2
        go_ret2
        rw [HE.out]
        exact HNONE.out
      · have HE : Hid (R0 = togF lr [noText]) := hidden (by rw [← HR0.out, HREP.out]; simp)
        have k := k33.out
        clear k33 HSTAY HNONE HREP
        go_wp2_with (go_at_call 33; refine k.mono ?_; rintro e w3 ⟨a3, m3, c3, ok3, rfl, h3⟩; have H3 := hidden h3; clear k h3)
        go_ret2
        rw [HE.out]
        exact ⟨a3, m3, c3, ok3, rfl, H3.out⟩
  · have HNONE : Hid (WdR w.heap.size none w none (.returned (.tuple #[.slice none 0 0, .bool false])) w2) := hidden ⟨none, 0, 0, false, rfl, HWN.out, by omega, .inr ⟨rfl, rfl, rfl⟩⟩
    have HE : Hid (R0 = none) := hidden HR0.out.symm
    clear hc2 hbl hbl2 hB2
    go_wp2
    go_ret2
    rw [HE.out]
    exact HNONE.out

set_option maxRecDepth 100000 in
set_option maxHeartbeats 8000000 in
theorem words_rep (a : Pt) (s : Nat) (ha : WC a) : WC (.rep a s) := by
  intro F w v hv hfine hcnt
  simp only [PtV] at hv
  obtain ⟨u, rfl, hu⟩ := hv
  simp only [Pt.cnt] at hcnt
  simp only [Pt.fine] at hfine
  rw [Pt.wds]
  obtain ⟨t, u', rfl⟩ := hu.form
  have hal : Below w.heap.size w (w.alloc (.cells #[.iface t u', .int .u8 (s : Int)] 76)) := (Below.refl _ w).alloc (Nat.le_refl _) _
  have k23 := (rep23 a s ha F (w.alloc (.cells #[.iface t u', .int .u8 (s : Int)] 76)) _ (PtV.keep (Chg.of_below (F := fun _ => False) hal) (fun _ _ h => h) a _ hu) hfine.1 hfine.2 hcnt).mono (fun e w' h => h.up hal)
  have k1 := fun w => at76_45 (.agg #[.iface t u', .int .u8 (s : Int)]) w
  have k2 := fun w => at76_64 (.agg #[.iface t u', .int .u8 (s : Int)]) w
  have k3 := fun w => at76_74 (.agg #[.iface t u', .int .u8 (s : Int)]) w
  have k4 := fun w => at76 (.agg #[.iface t u', .int .u8 (s : Int)]) w
  obtain ⟨R, hR⟩ : ∃ R, repW a.wds s = R := ⟨_, rfl⟩
  rw [hR] at k23 ⊢
  clear hu hfine hcnt ha hR hal
  go_enter Try.func15, Try.ntmps15
  go_wp2_with (go_at_call 23; refine k23.mono ?_; rintro e w3 ⟨a3, m3, c3, ok3, rfl, h3⟩; have H3 := hidden h3; clear k23 h3)
  go_ret2
  exact ⟨a3, m3, c3, ok3, rfl, H3.out⟩

mutual
/-- WORDSOF TELLS A PART'S WORDS. -/
theorem wordsP : ∀ p : Pt, WC p
  | .chr c => words_chr c
  | .any => words_any
  | .cls neg l => words_cls neg l
  | .grp l => words_grp l (words_rows l (fun r hr => words_row r (wordsRows l r hr)))
  | .rep a s => words_rep a s (wordsP a)
theorem wordsRow : ∀ (r : List Pt) (p : Pt), p ∈ r → WC p
  | [], p, h => by cases h
  | q :: t, p, h => by
    rcases List.mem_cons.1 h with e | h
    · rw [e]; exact wordsP q
    · exact wordsRow t p h
theorem wordsRows : ∀ (l : List (List Pt)) (r : List Pt), r ∈ l → ∀ p ∈ r, WC p
  | [], r, h => by cases h
  | q :: t, r, h => by
    rcases List.mem_cons.1 h with e | h
    · rw [e]; exact wordsRow q
    · exact wordsRows t r h
end

set_option maxRecDepth 100000 in
set_option maxHeartbeats 8000000 in
/-- WORDS. -/
theorem wordsTP (F : Nat → Prop) (w : World) (p : Nat) (l : List (List Pt)) (hP : PaR F w p l) : Calls Try.prog 9 #[.pointer (some ⟨p, 0, none⟩)] w (WdR w.heap.size none w (rowsW l [])) := by
  obtain ⟨ad, c, b, off, sa, sc, vs, h⟩ := hP
  have k15 := words_rows l (fun r hr => words_row r (wordsRows l r hr)) F w ad c b off h.at' h.rows h.fine.1 h.cnt h.fine.2.2
  have c0 := h.blk.cell 0
  obtain ⟨n, hn⟩ : ∃ n, l.length = n := ⟨_, rfl⟩
  rw [hn] at k15 c0
  have c0 : w.cell? ⟨p, 0, none⟩ = some (.slice ad n c) := c0
  obtain ⟨R, hR⟩ : ∃ R, rowsW l [] = R := ⟨_, rfl⟩
  rw [hR] at k15 ⊢
  clear h hn hR
  go_enter Try.func9, Try.ntmps9
  go_wp2_with (go_at_call 15; refine k15.mono ?_; rintro e w3 ⟨a3, m3, c3, ok3, rfl, h3⟩; have H3 := hidden h3; clear k15 h3)
  go_ret2
  exact ⟨a3, m3, c3, ok3, rfl, H3.out⟩

end Go.Proofs.Ytndegcgcbhcokaa
