/-
  Words: put.
-/
import Derived.Test.YtndegcgcbhcokaaDoorPuQ
namespace Go.Proofs.YtndegcgcbhcokaaDoor
open Go.RowKit
set_option linter.unusedVariables false
set_option linter.unusedSimpArgs false

set_option maxRecDepth 100000 in
set_option maxHeartbeats 8000000 in
theorem putP (base : Nat) (l : Wl) (ad : Option Addr) (n c : Nat) (x : ByteArray) (w : World) (hown : w.ownsRow base 9 1 (.slice ad n c) n (sV l)) (hn : n ≤ 1000) (hbase : base ≤ w.heap.size) :
    Calls Tryd.prog 67 #[.slice ad n c, .string x] w fun e w' => ∃ a' m' c', e = .returned (.slice a' m' c') ∧ (putF l x).length = m' ∧ w'.ownsRow base 9 1 (.slice a' m' c') m' (sV (putF l x)) ∧ Chg (fun b => (Value.slice ad n c).ownBlock = some b) w w' ∧ Moved w (Value.slice ad n c).ownBlock (Value.slice a' m' c').ownBlock := by
  obtain ⟨i0, hi0, hz0, hz1, hz2⟩ := info_parts info9
  have HI := hidden hi0
  have hln : l.length = n := by have := hown.1; rw [sV_length] at this; omega
  have HLN := hidden hln
  have HOW := hidden hown
  obtain ⟨k, hk⟩ : ∃ k, putI l x l.length = k := ⟨_, rfl⟩
  have hkn := putI_le l x l.length
  rw [hk, hln] at hkn
  have HK : Hid (putI l x n = k) := hidden (by rw [← hln]; exact hk)
  have HPF : Hid (putF l x = if l[k]? = some x then l else l.take k ++ x :: l.drop k) := hidden (by unfold putF; rw [hk])
  clear hi0 hln hk
  go_enter Tryd.func67, Tryd.ntmps67
  go_wp2
  go_loopw [5] (fun s5 wx => ∃ i : Nat, s5 = .int .i64 (i : Int) ∧ i ≤ n ∧ wx = w ∧ Hid (putI l x i = k)) (fun s5 _ => (intOf s5).toNat)
  case atStart => exact ⟨n, rfl, by omega, rfl, HK⟩
  case round =>
    rename World => wr
    obtain ⟨i, rfl, hi, hwr, hput⟩ := hrel
    subst hwr
    rename World => w
    clear HK
    have CELL : Hid (∀ j, j < n → ∃ y g, ad = some ⟨g, 0, none⟩ ∧ l[j]? = some y ∧ w.cell? ⟨g, j, none⟩ = some (.string y)) := hidden (fun j hj => by
      have hj2 : l[j]? = some (l[j]'(by rw [HLN.out]; exact hj)) := by simp
      rcases HOW.out.2 with ⟨_, e1⟩ | ⟨g, cap, cur, e0, _⟩
      · omega
      · injection e0 with e0 _ _
        subst e0
        have := HOW.out.cells (g := g) (by simp [Value.ownBlock]) _ _ (sV_get hj2)
        rw [Addr.add_lit, Nat.zero_add] at this
        exact ⟨_, g, rfl, hj2, this⟩)
    have CX : Hid ((w.alloc (.cells #[.string x] 9)).cell? ⟨w.heap.size, 0, none⟩ = some (.string x)) := hidden ((Blk.new w 9 [.string x]).cell 0)
    have HBS := hidden hbase
    clear hown
    have hcase : (i = k ∧ ¬ (0 : Int) < (i : Int)) ∨ (i = k ∧ (0 : Int) < (i : Int) ∧ ∃ y g, ad = some ⟨g, 0, none⟩ ∧ w.cell? ⟨g, i - 1, none⟩ = some (.string y) ∧ Op.bytesLess y.toList x.toList = true) ∨ ((0 : Int) < (i : Int) ∧ putI l x (i - 1) = k ∧ ∃ y g, ad = some ⟨g, 0, none⟩ ∧ w.cell? ⟨g, i - 1, none⟩ = some (.string y) ∧ Op.bytesLess y.toList x.toList = false) := by
      have hp := hput.out
      cases i with
      | zero => rw [putI] at hp; exact .inl ⟨hp, by simp⟩
      | succ j =>
        obtain ⟨y, g, h1, h2, h3⟩ := CELL.out j (by omega)
        rw [putI, h2] at hp
        simp only at hp
        cases hb : Op.bytesLess y.toList x.toList with
        | true => rw [hb, if_pos rfl] at hp; exact .inr (.inl ⟨hp, by omega, y, g, h1, h3, hb⟩)
        | false => rw [hb, if_neg (by simp)] at hp; exact .inr (.inr ⟨by omega, hp, y, g, h1, h3, hb⟩)
    rcases hcase with ⟨hik, hiz⟩ | ⟨hik, hiz, y, g, rfl, hcy, hby⟩ | ⟨hiz, hpk, y, g, rfl, hcy, hby⟩
    rotate_left 2
    · have HPK := hidden hpk
      have hi1 : 1 ≤ i := by omega
      have his : ((i - 1 : Nat) : Int) = (i : Int) - 1 := by omega
      have hin : (i : Int) - 1 < (n : Int) := by omega
      have hin0 : (0 : Int) ≤ (i : Int) - 1 := by omega
      have htn : ((i : Int) - 1).toNat = i - 1 := by omega
      clear hput hpk
      go_wp2
      refine ⟨⟨i - 1, by rw [his], by omega, by first | rfl | trivial, HPK⟩, ?_⟩
      simp [intOf]
      omega
    all_goals
      subst hik
      have hi1 : 0 < i → 1 ≤ i := fun h => h
      have htn : ((i : Int) - 1).toNat = i - 1 := by omega
      have his : (i : Int) - 1 < (n : Int) := by omega
      by_cases hin : i < n
      · have hinz : (i : Int) < (n : Int) := by omega
        obtain ⟨y2, g2, hade, hy2, hcell2⟩ := CELL.out i hin
        first | subst hade | (injection hade with hade; injection hade with hade _ _; subst hade)
        by_cases hyx : y2 = x
        · subst hyx
          have HPN : Hid (putF l y2 = l) := hidden (by rw [HPF.out, if_pos hy2])
          clear hput
          go_wp2
          go_ret
          exact ⟨_, n, c, rfl, by rw [HPN.out]; exact HLN.out, by rw [HPN.out]; exact HOW.out, Chg.refl _ _, .inl rfl⟩
        · have heq : (y2.toList == x.toList) = false := by
            rw [ByteArray.toList_eq, ByteArray.toList_eq]
            simp only [beq_eq_false_iff_ne, ne_eq]
            exact fun e => hyx (bts_inj e)
          have HPN : Hid (putF l x = l.take i ++ x :: l.drop i) := hidden (by rw [HPF.out, if_neg (by rw [hy2]; exact fun e => hyx (Option.some.inj e))])
          go_upto_region 7 with (refine wpList_push _ rfl (.tmp 34) (.tmp 36) 22 rfl 9 i0 (.string ⟨#[]⟩) 16 Tryd.underlying22 HI.out hz0 hz1 hz2 rfl base _ n (sV l) rfl (HOW.out.alloc _) ⟨w.heap.size, 0, none⟩ (.string x) rfl CX.out rfl (by unfold maxLen; omega) (by omega) (by have := HBS.out; simp; omega) ?_; intro g9 c9 w9 ho9 hp9; have O9 := hidden ho9; have C9 := hidden hp9.chg; clear ho9 hp9)
          have L9 := Lat.refl w9
          obtain ⟨hown9, hcc9⟩ : w9.ownsRow base 9 1 (.slice (some ⟨g9, 0, none⟩) (n + 1) c9) (n + 1) (sV l ++ [.string x]) ∧ n + 1 ≤ c9 := ⟨O9.out, by
            rcases O9.out.2 with ⟨e0, _⟩ | ⟨g', cap, cur, e0, _, _, h, _⟩
            · cases e0
            · injection e0 with _ _ e0; omega⟩
          have hcl9 : ∀ j v, (sV (l.drop i))[j]? = some v → w9.cell? ⟨g9, i + j, none⟩ = some v := fun j v hv => by
            have hv2 : (sV l ++ [.string x])[i + j]? = some v := by
              rw [List.getElem?_append_left (by have := (List.getElem?_eq_some_iff.1 hv).1; rw [sV_length] at this ⊢; rw [List.length_drop] at this; omega)]
              simpa [sV] using hv
            have := hown9.cells (g := g9) (by simp [Value.ownBlock]) _ _ hv2
            rw [Addr.add_lit, Nat.zero_add] at this
            exact this
          refine put_r7 base g9 c9 i n (sV l ++ [.string x]) (sV (l.drop i)) w9 _ _ rfl rfl rfl hi hcc9 hn (fun w1 h => owl hown9 h) (by rw [sV_length, List.length_drop, HLN.out]) (fun w1 h j v hv => (h.cell (p := ⟨g9, i + j, none⟩) (owns_lt hown9 g9 (by simp [Value.ownBlock]))).trans (hcl9 j v hv)) (sV_one _) ?_
          intro v38 v39 v40 v41 v42 v43 v44 v45 v46 w10 w11 h10 h11 hc11
          have x0 : ∃ u, w11.cell? ⟨g9, i, none⟩ = some u := by
            have hl := h11.1
            have hx : (splice (sV l ++ [Value.string x]) (i + 1) (sV (l.drop i)))[i]? = some ((splice (sV l ++ [Value.string x]) (i + 1) (sV (l.drop i)))[i]'(by omega)) := by simp
            have := h11.cells (g := g9) (by simp [Value.ownBlock]) _ _ hx
            rw [Addr.add_lit, Nat.zero_add] at this
            exact ⟨_, this⟩
          obtain ⟨u, hu⟩ := x0
          have hfz : w11.frozen? ⟨g9, i, none⟩ = false := h11.frozenAt i
          have hFIN : Hid ((w11.setCell ⟨g9, i, none⟩ (.string x)).ownsRow base 9 1 (.slice (some ⟨g9, 0, none⟩) (n + 1) c9) (n + 1) (sV (putF l x))) := hidden (by
            have := owns_setV h11 i (.string x)
            rw [put_row l x i (by rw [HLN.out]; exact hi)] at this
            rw [HPN.out]
            exact this)
          have hCH := hidden (hc11)
          have hL10 := hidden h10
          clear h11 hc11 h10 hcl9 hown9 L9 hput
          simp only [Act.put]
          go_wp2
          go_ret
          refine ⟨_, n + 1, c9, rfl, ?_, hFIN.out, ?_, C9.out.2⟩
          · rw [HPN.out]; simp [HLN.out]; omega
          · have d1 := C9.out.1
            have d2 := d1.trans (Chg.of_below (F := fun _ => False) hL10.out) (fun _ _ h => h.elim)
            have d3 := hCH.out.trans (Chg.set ⟨g9, i, none⟩ (.string x) w11) (fun _ _ h => h)
            refine d2.trans d3 (fun b hb e => ?_)
            have e' : b = g9 := e
            subst e'
            rcases C9.out.2 with e2 | ⟨g3, e2, hg3⟩
            · exact e2.symm
            · injection e2 with e2; omega
      · have hinz : ¬ (i : Int) < (n : Int) := by omega
        have hie : l[i]? = none := List.getElem?_eq_none (by rw [HLN.out]; omega)
        have HPN : Hid (putF l x = l.take i ++ x :: l.drop i) := hidden (by rw [HPF.out, if_neg (by rw [hie]; simp)])
        go_upto_region 7 with (refine wpList_push _ rfl (.tmp 34) (.tmp 36) 22 rfl 9 i0 (.string ⟨#[]⟩) 16 Tryd.underlying22 HI.out hz0 hz1 hz2 rfl base _ n (sV l) rfl (HOW.out.alloc _) ⟨w.heap.size, 0, none⟩ (.string x) rfl CX.out rfl (by unfold maxLen; omega) (by omega) (by have := HBS.out; simp; omega) ?_; intro g9 c9 w9 ho9 hp9; have O9 := hidden ho9; have C9 := hidden hp9.chg; clear ho9 hp9)
        have L9 := Lat.refl w9
        obtain ⟨hown9, hcc9⟩ : w9.ownsRow base 9 1 (.slice (some ⟨g9, 0, none⟩) (n + 1) c9) (n + 1) (sV l ++ [.string x]) ∧ n + 1 ≤ c9 := ⟨O9.out, by
          rcases O9.out.2 with ⟨e0, _⟩ | ⟨g', cap, cur, e0, _, _, h, _⟩
          · cases e0
          · injection e0 with _ _ e0; omega⟩
        have hcl9 : ∀ j v, (sV (l.drop i))[j]? = some v → w9.cell? ⟨g9, i + j, none⟩ = some v := fun j v hv => by
          have hv2 : (sV l ++ [.string x])[i + j]? = some v := by
            rw [List.getElem?_append_left (by have := (List.getElem?_eq_some_iff.1 hv).1; rw [sV_length] at this ⊢; rw [List.length_drop] at this; omega)]
            simpa [sV] using hv
          have := hown9.cells (g := g9) (by simp [Value.ownBlock]) _ _ hv2
          rw [Addr.add_lit, Nat.zero_add] at this
          exact this
        refine put_r7 base g9 c9 i n (sV l ++ [.string x]) (sV (l.drop i)) w9 _ _ rfl rfl rfl hi hcc9 hn (fun w1 h => owl hown9 h) (by rw [sV_length, List.length_drop, HLN.out]) (fun w1 h j v hv => (h.cell (p := ⟨g9, i + j, none⟩) (owns_lt hown9 g9 (by simp [Value.ownBlock]))).trans (hcl9 j v hv)) (sV_one _) ?_
        intro v38 v39 v40 v41 v42 v43 v44 v45 v46 w10 w11 h10 h11 hc11
        have x0 : ∃ u, w11.cell? ⟨g9, i, none⟩ = some u := by
          have hl := h11.1
          have hx : (splice (sV l ++ [Value.string x]) (i + 1) (sV (l.drop i)))[i]? = some ((splice (sV l ++ [Value.string x]) (i + 1) (sV (l.drop i)))[i]'(by omega)) := by simp
          have := h11.cells (g := g9) (by simp [Value.ownBlock]) _ _ hx
          rw [Addr.add_lit, Nat.zero_add] at this
          exact ⟨_, this⟩
        obtain ⟨u, hu⟩ := x0
        have hfz : w11.frozen? ⟨g9, i, none⟩ = false := h11.frozenAt i
        have hFIN : Hid ((w11.setCell ⟨g9, i, none⟩ (.string x)).ownsRow base 9 1 (.slice (some ⟨g9, 0, none⟩) (n + 1) c9) (n + 1) (sV (putF l x))) := hidden (by
          have := owns_setV h11 i (.string x)
          rw [put_row l x i (by rw [HLN.out]; exact hi)] at this
          rw [HPN.out]
          exact this)
        have hCH := hidden (hc11)
        have hL10 := hidden h10
        clear h11 hc11 h10 hcl9 hown9 L9 hput
        simp only [Act.put]
        go_wp2
        go_ret
        refine ⟨_, n + 1, c9, rfl, ?_, hFIN.out, ?_, C9.out.2⟩
        · rw [HPN.out]; simp [HLN.out]; omega
        · have d1 := C9.out.1
          have d2 := d1.trans (Chg.of_below (F := fun _ => False) hL10.out) (fun _ _ h => h.elim)
          have d3 := hCH.out.trans (Chg.set ⟨g9, i, none⟩ (.string x) w11) (fun _ _ h => h)
          refine d2.trans d3 (fun b hb e => ?_)
          have e' : b = g9 := e
          subst e'
          rcases C9.out.2 with e2 | ⟨g3, e2, hg3⟩
          · exact e2.symm
          · injection e2 with e2; omega

end Go.Proofs.YtndegcgcbhcokaaDoor
