/-
  Package wire: parts, written.
-/
import Derived.Test.YtalmpmhnkilalaaGreatDoorRqA
namespace Go.Proofs.YtalmpmhnkilalaaGreatDoor
open Go.RowKit
set_option linter.unusedVariables false

/-- Parts in memory. -/
def PartsM (w : World) (a off bx n : Nat) (f : Nat → FV) (pf tf : Nat → FuncId) : Prop :=
  ∀ i, i < n → w.cell? ⟨a, off + i * 3, none⟩ = some (.bool (isZ (f i))) ∧ w.cell? ⟨a, off + i * 3 + 1, none⟩ = some (.func (.func (pf i)) #[] #[.pointer (some ⟨bx, 0, none⟩)]) ∧ w.cell? ⟨a, off + i * 3 + 2, none⟩ = some (.func (.func (tf i)) #[] #[.pointer (some ⟨bx, 0, none⟩)])
theorem zerosF_snoc (f : Nat → FV) (used : List Nat) : ∀ (l : List Nat) (i : Nat) (s : Ws), zerosF f used (l ++ [i]) s = (zerosF f used l s).must (isZ (f i) || decide (i ∈ used))
  | [], i, s => rfl
  | j :: r, i, s => by
    show zerosF f used (r ++ [i]) _ = _
    rw [zerosF_snoc f used r i]
    rfl
theorem putsF_snoc (f : Nat → FV) (l : List Nat) (i : Nat) (s : Ws) : putsF f (l ++ [i]) s = putV (f i) (putsF f l s) := by
  unfold putsF
  rw [List.foldl_append]
  rfl

/-- A whole variable written: the world becomes a letter. -/
theorem wpList_store_let {P : Program} {w : World} {ops : Array Oper} {rest : List Oper} {o : Oper} {a : Act} {Q : Exit → Act → World → Prop} (hg : o.guard = none) (ty : TypeId) (x y : Operand) (ho : o.op = .store ty x y) (hd : o.dst = none) (b : Nat) {t : TypeId} {l l0 : List Value} (hB : Blk w b t l0)
    (hx : a.eval x = .pointer (some ⟨b, 0, none⟩)) (hy : a.eval y = .agg l.toArray) (hl : l.length = l0.length) (hi : (P.info? ty).map (·.size) = some l.length) (hone : ∀ v ∈ l, v.oneCell' = true)
    (h : ∀ w3, Blk w3 b t l → Chg (fun i => i = b) w w3 → w3.heap.size = w.heap.size → wpList P ops Q rest a w3) : wpList P ops Q (o :: rest) a w :=
  wpList_store_blk hg ty x y ho hd b hB hx hy hl hi hone (h _ (blk_stored hB hl) (Chg.sets b l 0 w) (size_setCells b l 0 w))
def z139 : List Value := [.bool false, .nilFunc, .nilFunc]
theorem info139z : (Tryz.prog.info? 139).map (fun i => i.zero.map (·.cells)) = some (some z139.toArray) := by kernel_rfl
theorem size139 : (Tryz.prog.info? 139).map (·.size) = some 3 := by kernel_rfl

set_option maxHeartbeats 4000000 in
set_option maxRecDepth 8000 in
theorem wpartsP (n : Nat) (pf tf : Nat → FuncId) (f : Nat → FV) (bx a off : Nat) (used : List Nat) (uad : Option Addr) (uN uc : Nat) (p : Nat) (rb : Option Nat) (s : Ws) (w : World)
    (hcf : ∀ i, i < n → ∀ a w, (callFunc (pf i) a).run Tryz.prog w = .ok (.enter (pf i) a) w) (h : Wt w p rb s) (hP : ∀ wx, Chg (fpt p rb) w wx → PartsM wx a off bx n f pf tf) (hU : ∀ wx, Chg (fpt p rb) w wx → In wx uad used)
    (hUl : used.length = uN) (hu : ∀ i ∈ used, i < n) (hn : n ≤ 100) (hu9 : uN ≤ 100)
    (hc : ∀ i ∈ used, ∀ s1 rb1 wx, Wt wx p rb1 s1 → Chg (fpt p rb) w wx → Moved w rb rb1 → Calls Tryz.prog (pf i) #[.pointer (some ⟨p, 0, none⟩), .pointer (some ⟨bx, 0, none⟩)] wx (WQ wx p rb1 (putV (f i) s1))) :
    Calls Tryz.prog 58 #[.pointer (some ⟨p, 0, none⟩), .slice (some ⟨a, off, none⟩) n n, .slice uad uN uc] w (WQ w p rb (putsF f used (zerosF f used (List.range n) s))) := by
  have HW := hidden h
  have HP := hidden hP
  have HU := hidden hU
  have HUL := hidden hUl
  have HUN := hidden hu
  have HC := hidden hc
  have HCF := hidden hcf
  clear h hP hU hUl hu hc hcf
  have H1 : Hid (∃ rb1, Wt w p rb1 (zerosF f used (List.range 0) s) ∧ Chg (fpt p rb) w w ∧ Moved w rb rb1) := hidden ⟨rb, HW.out, Chg.refl _ _, .inl rfl⟩
  go_enter Tryz.func58, Tryz.ntmps58
  go_wp2_with fail
  go_loopw [6, 7, 12] (fun v6 v7 v12 wx => ∃ i : Nat, v12 = .int .i64 (i : Int) ∧ i ≤ n ∧ Hid (∃ rb1, Wt wx p rb1 (zerosF f used (List.range i) s) ∧ Chg (fpt p rb) w wx ∧ Moved w rb rb1)) (fun _ _ v12 _ => n - (intOf v12).toNat)
  case atStart => exact ⟨0, rfl, by omega, H1⟩
  case round =>
    obtain ⟨i, rfl, hi, hI⟩ := hrel
    clear H1
    by_cases hin : i < n
    · obtain ⟨rb2, hW2, hC2, hM2⟩ := hI.out
      obtain ⟨c0, c1, c2⟩ := HP.out wr hC2 i hin
      obtain ⟨z, hz⟩ : ∃ z, isZ (f i) = z := ⟨_, rfl⟩
      rw [hz] at c0
      have HW2 := hidden hW2
      have HC2 := hidden hC2
      have HM4 := hidden hM2
      have HS : Hid (zerosF f used (List.range (i + 1)) s = (zerosF f used (List.range i) s).must (z || decide (i ∈ used))) := hidden (by rw [List.range_succ, zerosF_snoc, hz])
      clear hW2 hC2 hM2 hz hI
      cases z with
      | true =>
        go_wp2_with (first
          | (refine wpList_alloc_blk rfl 139 rfl 7 rfl z139 info139z ?_; intro w2 B2 bl2 hz2; have HB2 := hidden B2; have HL2 := hidden bl2; clear B2 bl2 hz2)
          | (refine wpList_store_let rfl 139 (.tmp 7) (.tmp 16) rfl rfl wr.heap.size (l := [.bool true, .func (.func (pf i)) #[] #[.pointer (some ⟨bx, 0, none⟩)], .func (.func (tf i)) #[] #[.pointer (some ⟨bx, 0, none⟩)]]) HB2.out rfl rfl rfl size139 (by intro v hv; simp at hv; rcases hv with rfl | rfl | rfl <;> rfl) ?_; intro w3 B3 cg3 hz3; have c3 := B3.cell 0; simp only [List.getElem?_cons_zero] at c3; have bw : Below wr.heap.size wr w3 := HL2.out.trans (cg3.below HL2.out.size (fun i e => by omega)); have HW4 := hidden (HW2.out.later bw); have HC4 := hidden (HC2.out.trans (Chg.of_below (F := fpt p rb2) bw) (fun i hi hf => fpt_moved HM4.out i hi hf)); clear B3 cg3 hz3 bw HB2 HL2))
        refine (mustW p rb2 _ true w3 HW4.out).mono ?_
        rintro e w5 hQ
        have HQ := hidden (hQ.pre HC4.out HM4.out)
        obtain ⟨rfl, hQ⟩ := hQ
        clear hQ c0 c1 c2 c3
        go_wp2_with fail
        refine ⟨⟨i + 1, by first | rfl | simp, by omega, hidden ?_⟩, ?_⟩
        · rw [HS.out, Bool.true_or]
          exact HQ.out.2
        · show n - ((i : Int) + 1).toNat < n - (i : Int).toNat
          omega
      | false =>
        go_wp2_with (first
          | (refine wpList_alloc_blk rfl 139 rfl 7 rfl z139 info139z ?_; intro w2 B2 bl2 hz2; have HB2 := hidden B2; have HL2 := hidden bl2; clear B2 bl2 hz2)
          | (refine wpList_store_let rfl 139 (.tmp 7) (.tmp 16) rfl rfl wr.heap.size (l := [.bool false, .func (.func (pf i)) #[] #[.pointer (some ⟨bx, 0, none⟩)], .func (.func (tf i)) #[] #[.pointer (some ⟨bx, 0, none⟩)]]) HB2.out rfl rfl rfl size139 (by intro v hv; simp at hv; rcases hv with rfl | rfl | rfl <;> rfl) ?_; intro w3 B3 cg3 hz3; have c3 := B3.cell 0; simp only [List.getElem?_cons_zero] at c3; have bw : Below wr.heap.size wr w3 := HL2.out.trans (cg3.below HL2.out.size (fun i e => by omega)); have HW4 := hidden (HW2.out.later bw); have HC4 := hidden (HC2.out.trans (Chg.of_below (F := fpt p rb2) bw) (fun i hi hf => fpt_moved HM4.out i hi hf)); clear B3 cg3 hz3 bw HB2 HL2))
        refine (containsP uad uN uc used i w3 HUL.out (by omega) (HU.out _ HC4.out)).mono ?_
        rintro e w5 ⟨rfl, rfl⟩
        go_wp2_with fail
        refine (mustW p rb2 _ (decide (i ∈ used)) _ HW4.out).mono ?_
        rintro e w6 hQ
        have HQ := hidden (hQ.pre HC4.out HM4.out)
        obtain ⟨rfl, hQ⟩ := hQ
        clear hQ c0 c1 c2 c3
        go_wp2_with fail
        refine ⟨⟨i + 1, by first | rfl | simp, by omega, hidden ?_⟩, ?_⟩
        · rw [HS.out, Bool.false_or]
          exact HQ.out.2
        · show n - ((i : Int) + 1).toNat < n - (i : Int).toNat
          omega
    · obtain rfl : i = n := by omega
      obtain ⟨s1, hs1⟩ : ∃ s1, zerosF f used (List.range i) s = s1 := ⟨_, rfl⟩
      have HE : Hid (putsF f used (zerosF f used (List.range i) s) = putsF f used s1) := hidden (by rw [hs1])
      rw [hs1] at hI
      have H2 : Hid (∃ rb1, Wt wr p rb1 (putsF f (used.take 0) s1) ∧ Chg (fpt p rb) w wr ∧ Moved w rb rb1) := hidden hI.out
      clear hI hs1
      go_wp2_with fail
      go_loopw [9, 29] (fun v9 v29 wx => ∃ j : Nat, v29 = .int .i64 (j : Int) ∧ j ≤ uN ∧ Hid (∃ rb1, Wt wx p rb1 (putsF f (used.take j) s1) ∧ Chg (fpt p rb) w wx ∧ Moved w rb rb1)) (fun _ v29 _ => uN - (intOf v29).toNat)
      case atStart => exact ⟨0, rfl, by omega, H2⟩
      case round =>
        obtain ⟨j, rfl, hj, hJ⟩ := hrel
        clear H2
        by_cases hjn : j < uN
        · obtain ⟨rb2, hW2, hC2, hM2⟩ := hJ.out
          obtain ⟨x, hx⟩ : ∃ x, used[j]? = some x := ⟨used[j]'(by have := HUL.out; omega), by simp⟩
          have hxm : (used.map (fun (n : Nat) => [Value.int .i64 (n : Int)]))[j]? = some [.int .i64 (x : Int)] := by rw [List.getElem?_map, hx]; rfl
          obtain ⟨bb, of2, rfl, hbb, hcell⟩ := HU.out _ hC2 (by intro h0; rw [h0] at hxm; simp at hxm)
          have cu := hcell j _ hxm 0 _ rfl
          rw [Nat.add_zero, Nat.mul_one] at cu
          have hxin := List.mem_of_getElem? hx
          have hxn := HUN.out x hxin
          obtain ⟨c0, c1, c2⟩ := HP.out _ hC2 x hxn
          have hcf := HCF.out x hxn
          have HT : Hid (putsF f (used.take (j + 1)) s1 = putV (f x) (putsF f (used.take j) s1)) := hidden (by rw [List.take_add_one, hx]; exact putsF_snoc f _ x s1)
          have HCX := hidden (HC.out x hxin _ rb2 _ hW2 hC2 hM2)
          have HC4 := hidden hC2
          have HM4 := hidden hM2
          clear hcell hxm hx hbb hxin hW2 hC2 hM2 hJ
          go_wp2_with fail
          refine HCX.out.mono ?_
          rintro e w5 hQ
          have HQ := hidden (hQ.pre HC4.out HM4.out)
          obtain ⟨rfl, hQ⟩ := hQ
          clear hQ c0 c1 c2 cu hcf
          go_wp2_with fail
          refine ⟨⟨j + 1, by first | rfl | simp, by omega, hidden ?_⟩, ?_⟩
          · rw [HT.out]
            exact HQ.out.2
          · show uN - ((j : Int) + 1).toNat < uN - (j : Int).toNat
            omega
        · have hT := hidden hJ.out
          clear hJ
          go_wp2_with fail
          go_end0
          have h9 := hT.out
          rw [List.take_of_length_le (by have := HUL.out; omega)] at h9
          rw [HE.out]
          exact ⟨rfl, h9⟩

end Go.Proofs.YtalmpmhnkilalaaGreatDoor
