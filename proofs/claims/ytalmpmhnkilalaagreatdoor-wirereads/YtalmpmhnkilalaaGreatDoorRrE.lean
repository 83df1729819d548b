import Derived.Test.YtalmpmhnkilalaaGreatDoorRrC
import Derived.Test.YtalmpmhnkilalaaGreatDoorRwA
/-
  Package wire's reader: takeEach. By genrrc19.py.
-/
namespace Go.Proofs.YtalmpmhnkilalaaGreatDoor
open Go.RowKit
set_option linter.unusedVariables false

theorem infoR : (Tryz.prog.info? 59).map (fun i => (i.zero.map (·.cells.size), i.size, i.bytes)) = some (some 2, 2, 32) := by kernel_rfl
set_option maxRecDepth 8000 in
set_option maxHeartbeats 4000000 in
theorem takeEachR {β : Type} (f : FuncId) (fa : Value) (one : Rdr β) (pr : Ror → β) (VM : Nat → Ror → World → Prop) (p K : Nat) (st : Option (List Int)) (most : Nat) (w : World)
    (hcf : ∀ a w, (callFunc f a).run Tryz.prog w = .ok (.enter f a) w) (h : Rt w p K st) (hm : most ≤ 18446744073709551615)
    (hlt : ∀ b y t, Byte b → b.length ≤ 1048576 → one b = some (y, t) → t.length < b.length)
    (hmB : ∀ B B' x w, B ≤ B' → VM B' x w → VM B x w)
    (hst : ∀ B x wa wb F, VM B x wa → Chg F wa wb → (∀ i, F i → Ty wa i 86 ∨ Ty wa i 59) → VM B x wb)
    (hc : ∀ b1 wx, Rt wx p K (some b1) → Chg (fpr p) w wx → Calls Tryz.prog f #[fa] wx (RQ wx p K (one b1) (fun y v w' => ∃ x, pr x = y ∧ v = .agg #[.slice x.la x.ln x.lc, .int .u64 (x.n : Int)] ∧ VM wx.heap.size x w') (fun v => ∃ x : Ror, v = .agg #[.slice x.la x.ln x.lc, .int .u64 (x.n : Int)]))) :
    Calls Tryz.prog 168 #[.pointer (some ⟨p, 0, none⟩), .int .u64 (most : Int), .func (.func f) #[fa] #[]] w (RQ w p K (st.bind (rEach most one)) (Lst 59 2 Ror.cells pr VM w.heap.size) (fun v => v = .slice none 0 0)) := by
  obtain ⟨i0, z0, hi0, hz0, hz1, hz2, hz3⟩ := info_z infoR
  have HN := hidden (numberR p K st most w h hm)
  rw [bind_each]
  have HLT := hidden hlt
  have HMB := hidden hmB
  have HST := hidden hst
  have HC := hidden hc
  have hpw := h.lt
  have hkw := h.klt
  clear h hlt hmB hst hc
  cases ho : st.bind (rNum most) with
  | none =>
    rw [ho] at HN
    clear ho
    go_enter Tryz.func168, Tryz.ntmps168
    go_wp2_with fail
    refine HN.out.mono ?_
    rintro e w1 ⟨v, rfl, hQ⟩
    obtain rfl := hQ.no rfl
    have HQ := hidden hQ
    clear hQ
    go_wp2_with fail
    refine wp_loop_rounds 1 ?_
    rw [rounds_succ]
    go_wp2_with fail
    go_ret
    exact ⟨_, rfl, HQ.out.rt, HQ.out.chg, fun x t h => (by cases h), fun _ => rfl⟩
  | some q =>
    obtain ⟨N, b0⟩ := q
    have hN := rNum_le ho
    rw [ho] at HN
    clear ho
    have HG : Hid ((some (N, b0)).bind (fun q => rRep one q.1 q.2) = rRep one N b0) := hidden rfl
    rw [HG.out]
    clear HG
    go_enter Tryz.func168, Tryz.ntmps168
    go_wp2_with fail
    refine HN.out.mono ?_
    rintro e w1 ⟨v, rfl, hQ⟩
    obtain rfl := hQ.yes _ _ rfl
    have HB0 := hidden hQ.rt.byte
    have H1 : Hid (∃ (xs : List Ror) (b : List Int) (ad : Option Addr) (c : Nat), Value.slice none 0 0 = .slice ad xs.length c ∧ w1.ownsRow w.heap.size 59 2 (.slice none 0 0) xs.length (xs.flatMap Ror.cells) ∧ (∀ x ∈ xs, VM w.heap.size x w1) ∧ Rt w1 p K (some b) ∧ Chg (fpr p) w w1 ∧ TI one N b0 0 (xs.map pr) b) :=
      hidden ⟨[], b0, none, 0, rfl, World.ownsRow_nil _ _ _ _, fun x hx => (by cases hx), hQ.rt, hQ.chg, TI.start one N b0⟩
    clear hQ
    go_wp2_with fail
    go_loopw [7, 8, 12] (fun v7 v8 v12 wx => ∃ i : Nat, v12 = .int .u64 (i : Int) ∧ i ≤ N ∧ Hid (∃ (xs : List Ror) (b : List Int) (ad : Option Addr) (c : Nat), v7 = .slice ad xs.length c ∧ wx.ownsRow w.heap.size 59 2 v7 xs.length (xs.flatMap Ror.cells) ∧ (∀ x ∈ xs, VM w.heap.size x wx) ∧ Rt wx p K (some b) ∧ Chg (fpr p) w wx ∧ TI one N b0 i (xs.map pr) b)) (fun _ _ v12 _ => N - (intOf v12).toNat)
    case atStart => exact ⟨0, rfl, by omega, H1⟩
    case round =>
      obtain ⟨i, rfl, hi, hI⟩ := hrel
      obtain ⟨xs, b, ad, c, hv7, hown, hVM, hRt, hC, hT⟩ := hI.out
      have hxl : xs.length = i := by have := hT.len; simpa using this
      rw [hxl] at hv7 hown
      subst hv7
      have HOW := hidden hown
      have HVM := hidden hVM
      have HRT := hidden hRt
      have HCC := hidden hC
      have HT := hidden hT
      have HXL := hidden hxl
      clear hI H1 hown hVM hRt hC hT hxl
      by_cases hin : i < N
      · have hin' : (i : Int) < (N : Int) := by omega
        cases hob : one b with
        | none =>
          have HNO := hidden (HT.out.bad hin hob)
          have HCA := HC.out b wr HRT.out HCC.out
          rw [hob] at HCA
          clear hob
          replace HCA := hidden HCA
          go_wp2_with fail
          refine HCA.out.mono ?_
          rintro e w2 ⟨v, rfl, hQ⟩
          obtain ⟨x, rfl⟩ := hQ.no rfl
          have bw : Below w2.heap.size w2 (w2.alloc (.cells #[.slice x.la x.ln x.lc, .int .u64 (x.n : Int)] 59)) := (Below.refl _ _).alloc (Nat.le_refl _) _
          have cf : (w2.alloc (.cells #[.slice x.la x.ln x.lc, .int .u64 (x.n : Int)] 59)).cell? ⟨p, 1, none⟩ = some (.bool true) := (hQ.rt.later bw).flag
          have HQ := hidden hQ
          have HBW := hidden bw
          clear hQ bw
          go_wp2_with fail
          go_ret
          rw [HNO.out]
          exact ⟨_, rfl, HQ.out.rt.later HBW.out, (HCC.out.trans HQ.out.chg (fun i _ hi => hi)).trans (Chg.of_below (F := fpr p) HBW.out) (fun i _ hi => hi), fun x t h => (by cases h), fun _ => rfl⟩
        | some q =>
          obtain ⟨y, t⟩ := q
          have hlen := HLT.out b y t HRT.out.byte.1 HRT.out.byte.2 hob
          have HNO := hidden (HT.out.step hin hob hlen)
          have HCA := HC.out b wr HRT.out HCC.out
          rw [hob] at HCA
          clear hob hlen
          replace HCA := hidden HCA
          go_wp2_with fail
          refine HCA.out.mono ?_
          rintro e w2 ⟨v, rfl, hQ⟩
          obtain ⟨x, hpx, rfl, hvx⟩ := hQ.yes _ _ rfl
          have hs1 := HCC.out.size
          have hs2 := hQ.chg.size
          have HOW2 := hidden (hQ.chg.owns HOW.out (fun g hg e => by have h1 := (HOW.out.lt g hg).1; unfold fpr at e; omega))
          have HVM2 : Hid (∀ x ∈ xs, VM w.heap.size x w2) := hidden (fun x hx => HST.out _ x wr w2 (fpr p) (HVM.out x hx) hQ.chg (fun i hi => by obtain ⟨u, v, hB⟩ := HRT.out.blk; unfold fpr at hi; subst hi; exact .inl (ty_blk hB)))
          have HVX := hidden (HMB.out w.heap.size wr.heap.size x w2 hs1 hvx)
          have HPX := hidden hpx
          have HC2 := hidden (HCC.out.trans hQ.chg (fun i _ hi => hi))
          have HR2 := hidden hQ.rt
          have bw : Below w2.heap.size w2 (w2.alloc (.cells #[.slice x.la x.ln x.lc, .int .u64 (x.n : Int)] 59)) := (Below.refl _ _).alloc (Nat.le_refl _) _
          have cf : (w2.alloc (.cells #[.slice x.la x.ln x.lc, .int .u64 (x.n : Int)] 59)).cell? ⟨p, 1, none⟩ = some (.bool false) := (hQ.rt.later bw).flag
          clear bw
          have hroom := HNO.out.room
          have hb0 := HB0.out.2
          clear hQ hvx hpx HCA
          go_wp2_with (first
            | (at_builtin; refine wpList_pushN _ rfl _ _ 54 rfl 59 i0 z0 2 32 Tryz.underlying54 hi0 hz0 hz1 hz2 hz3 (by decide) w.heap.size (.slice ad i c) i (xs.flatMap Ror.cells) rfl (by exact (HOW2.out.alloc _).alloc _) ⟨w2.heap.size + 1, 0, none⟩ [.slice x.la x.ln x.lc, .int .u64 (x.n : Int)] rfl rfl (by intro j u hu; have h9 := (Blk.new (w2.alloc (.cells #[.slice x.la x.ln x.lc, .int .u64 (x.n : Int)] 59)) 59 [.slice x.la x.ln x.lc, .int .u64 (x.n : Int)]).cell (0 + j); rw [World.size_alloc] at h9; rw [Addr.add_lit, h9, Nat.zero_add]; exact hu) (by intro u hu; simp at hu; rcases hu with rfl | rfl <;> rfl) (by unfold maxLen; omega) (by omega) (by simp; omega) ?_; intro g' c' w' ho' hp'; have HO' := hidden ho'; have HP' := hidden hp'; clear ho' hp'))
          have hI2 : Hid (∃ (xs2 : List Ror) (b : List Int) (ad : Option Addr) (c : Nat), Value.slice (some ⟨g', 0, none⟩) (i + 1) c' = .slice ad xs2.length c ∧ w'.ownsRow w.heap.size 59 2 (.slice (some ⟨g', 0, none⟩) (i + 1) c') xs2.length (xs2.flatMap Ror.cells) ∧ (∀ x ∈ xs2, VM w.heap.size x w') ∧ Rt w' p K (some b) ∧ Chg (fpr p) w w' ∧ TI one N b0 (i + 1) (xs2.map pr) b) := by
            have hw2 : Chg (fun i_1 => Value.ownBlock (.slice ad i c) = some i_1) w2 w' := by exact ((Chg.alloc (fun i_1 => Value.ownBlock (.slice ad i c) = some i_1) w2 (.cells #[.slice x.la x.ln x.lc, .int .u64 (x.n : Int)] 59)).trans HP'.out.chg.1 (fun _ _ e => e))
            have hfp : ∀ j, Value.ownBlock (.slice ad i c) = some j → w.heap.size ≤ j := fun j hj => (HOW2.out.lt j hj).1
            refine hidden ⟨xs ++ [x], t, _, _, by rw [List.length_append, HXL.out]; rfl, ?_, fun y hy => ?_, HR2.out.chg hw2 (fun e => by have := hfp p e; omega) (fun e => by have := hfp K e; omega), HC2.out.trans hw2 (fun j hj e => absurd (hfp j e) (by omega)), ?_⟩
            · rw [List.length_append, HXL.out, List.flatMap_append]
              simpa [Ror.cells] using HO'.out
            · refine HST.out _ y w2 w' _ ?_ hw2 (fun j hj => .inr (ty_owns HOW2.out hj))
              rcases List.mem_append.1 hy with hy | hy
              · exact HVM2.out y hy
              · rw [List.mem_singleton] at hy
                subst hy
                exact HVX.out
            · rw [List.map_append]
              show TI one N b0 (i + 1) (xs.map pr ++ [pr x]) t
              rw [HPX.out]
              exact HNO.out
          clear HO' HP'
          go_wp2_with fail
          refine ⟨⟨i + 1, by first | rfl | simp, by omega, hI2⟩, ?_⟩
          show N - ((i : Int) + 1).toNat < N - (i : Int).toNat
          omega
      · obtain rfl : i = N := by omega
        go_wp2_with fail
        go_ret
        rw [HT.out.done]
        refine ⟨_, rfl, HRT.out, HCC.out, fun l t h => ?_, fun h => (by cases h)⟩
        injection h with h
        injection h with h1 h2
        subst h1
        refine ⟨xs, rfl, ⟨ad, c, by rw [HXL.out]; rfl⟩, ?_, HVM.out⟩
        rw [HXL.out]
        exact HOW.out

theorem infoT : (Tryz.prog.info? 9).map (fun i => (i.zero.map (·.cells.size), i.size, i.bytes)) = some (some 1, 1, 16) := by kernel_rfl
set_option maxRecDepth 8000 in
set_option maxHeartbeats 4000000 in
theorem takeEachT {β : Type} (f : FuncId) (fa : Value) (one : Rdr β) (pr : Te → β) (VM : Nat → Te → World → Prop) (p K : Nat) (st : Option (List Int)) (most : Nat) (w : World)
    (hcf : ∀ a w, (callFunc f a).run Tryz.prog w = .ok (.enter f a) w) (h : Rt w p K st) (hm : most ≤ 18446744073709551615)
    (hlt : ∀ b y t, Byte b → b.length ≤ 1048576 → one b = some (y, t) → t.length < b.length)
    (hmB : ∀ B B' x w, B ≤ B' → VM B' x w → VM B x w)
    (hst : ∀ B x wa wb F, VM B x wa → Chg F wa wb → (∀ i, F i → Ty wa i 86 ∨ Ty wa i 9) → VM B x wb)
    (hc : ∀ b1 wx, Rt wx p K (some b1) → Chg (fpr p) w wx → Calls Tryz.prog f #[fa] wx (RQ wx p K (one b1) (fun y v w' => ∃ x, pr x = y ∧ v = .string x.t ∧ VM wx.heap.size x w') (fun v => ∃ x : Te, v = .string x.t))) :
    Calls Tryz.prog 171 #[.pointer (some ⟨p, 0, none⟩), .int .u64 (most : Int), .func (.func f) #[fa] #[]] w (RQ w p K (st.bind (rEach most one)) (Lst 9 1 Te.cells pr VM w.heap.size) (fun v => v = .slice none 0 0)) := by
  obtain ⟨i0, z0, hi0, hz0, hz1, hz2, hz3⟩ := info_z infoT
  have HN := hidden (numberR p K st most w h hm)
  rw [bind_each]
  have HLT := hidden hlt
  have HMB := hidden hmB
  have HST := hidden hst
  have HC := hidden hc
  have hpw := h.lt
  have hkw := h.klt
  clear h hlt hmB hst hc
  cases ho : st.bind (rNum most) with
  | none =>
    rw [ho] at HN
    clear ho
    go_enter Tryz.func171, Tryz.ntmps171
    go_wp2_with fail
    refine HN.out.mono ?_
    rintro e w1 ⟨v, rfl, hQ⟩
    obtain rfl := hQ.no rfl
    have HQ := hidden hQ
    clear hQ
    go_wp2_with fail
    refine wp_loop_rounds 1 ?_
    rw [rounds_succ]
    go_wp2_with fail
    go_ret
    exact ⟨_, rfl, HQ.out.rt, HQ.out.chg, fun x t h => (by cases h), fun _ => rfl⟩
  | some q =>
    obtain ⟨N, b0⟩ := q
    have hN := rNum_le ho
    rw [ho] at HN
    clear ho
    have HG : Hid ((some (N, b0)).bind (fun q => rRep one q.1 q.2) = rRep one N b0) := hidden rfl
    rw [HG.out]
    clear HG
    go_enter Tryz.func171, Tryz.ntmps171
    go_wp2_with fail
    refine HN.out.mono ?_
    rintro e w1 ⟨v, rfl, hQ⟩
    obtain rfl := hQ.yes _ _ rfl
    have HB0 := hidden hQ.rt.byte
    have H1 : Hid (∃ (xs : List Te) (b : List Int) (ad : Option Addr) (c : Nat), Value.slice none 0 0 = .slice ad xs.length c ∧ w1.ownsRow w.heap.size 9 1 (.slice none 0 0) xs.length (xs.flatMap Te.cells) ∧ (∀ x ∈ xs, VM w.heap.size x w1) ∧ Rt w1 p K (some b) ∧ Chg (fpr p) w w1 ∧ TI one N b0 0 (xs.map pr) b) :=
      hidden ⟨[], b0, none, 0, rfl, World.ownsRow_nil _ _ _ _, fun x hx => (by cases hx), hQ.rt, hQ.chg, TI.start one N b0⟩
    clear hQ
    go_wp2_with fail
    go_loopw [7, 8, 12] (fun v7 v8 v12 wx => ∃ i : Nat, v12 = .int .u64 (i : Int) ∧ i ≤ N ∧ Hid (∃ (xs : List Te) (b : List Int) (ad : Option Addr) (c : Nat), v7 = .slice ad xs.length c ∧ wx.ownsRow w.heap.size 9 1 v7 xs.length (xs.flatMap Te.cells) ∧ (∀ x ∈ xs, VM w.heap.size x wx) ∧ Rt wx p K (some b) ∧ Chg (fpr p) w wx ∧ TI one N b0 i (xs.map pr) b)) (fun _ _ v12 _ => N - (intOf v12).toNat)
    case atStart => exact ⟨0, rfl, by omega, H1⟩
    case round =>
      obtain ⟨i, rfl, hi, hI⟩ := hrel
      obtain ⟨xs, b, ad, c, hv7, hown, hVM, hRt, hC, hT⟩ := hI.out
      have hxl : xs.length = i := by have := hT.len; simpa using this
      rw [hxl] at hv7 hown
      subst hv7
      have HOW := hidden hown
      have HVM := hidden hVM
      have HRT := hidden hRt
      have HCC := hidden hC
      have HT := hidden hT
      have HXL := hidden hxl
      clear hI H1 hown hVM hRt hC hT hxl
      by_cases hin : i < N
      · have hin' : (i : Int) < (N : Int) := by omega
        cases hob : one b with
        | none =>
          have HNO := hidden (HT.out.bad hin hob)
          have HCA := HC.out b wr HRT.out HCC.out
          rw [hob] at HCA
          clear hob
          replace HCA := hidden HCA
          go_wp2_with fail
          refine HCA.out.mono ?_
          rintro e w2 ⟨v, rfl, hQ⟩
          obtain ⟨x, rfl⟩ := hQ.no rfl
          have bw : Below w2.heap.size w2 (w2.alloc (.cells #[.string x.t] 9)) := (Below.refl _ _).alloc (Nat.le_refl _) _
          have cf : w2.cell? ⟨p, 1, none⟩ = some (.bool true) := hQ.rt.flag
          have HQ := hidden hQ
          have HBW := hidden bw
          clear hQ bw
          go_wp2_with fail
          go_ret
          rw [HNO.out]
          exact ⟨_, rfl, HQ.out.rt, HCC.out.trans HQ.out.chg (fun i _ hi => hi), fun x t h => (by cases h), fun _ => rfl⟩
        | some q =>
          obtain ⟨y, t⟩ := q
          have hlen := HLT.out b y t HRT.out.byte.1 HRT.out.byte.2 hob
          have HNO := hidden (HT.out.step hin hob hlen)
          have HCA := HC.out b wr HRT.out HCC.out
          rw [hob] at HCA
          clear hob hlen
          replace HCA := hidden HCA
          go_wp2_with fail
          refine HCA.out.mono ?_
          rintro e w2 ⟨v, rfl, hQ⟩
          obtain ⟨x, hpx, rfl, hvx⟩ := hQ.yes _ _ rfl
          have hs1 := HCC.out.size
          have hs2 := hQ.chg.size
          have HOW2 := hidden (hQ.chg.owns HOW.out (fun g hg e => by have h1 := (HOW.out.lt g hg).1; unfold fpr at e; omega))
          have HVM2 : Hid (∀ x ∈ xs, VM w.heap.size x w2) := hidden (fun x hx => HST.out _ x wr w2 (fpr p) (HVM.out x hx) hQ.chg (fun i hi => by obtain ⟨u, v, hB⟩ := HRT.out.blk; unfold fpr at hi; subst hi; exact .inl (ty_blk hB)))
          have HVX := hidden (HMB.out w.heap.size wr.heap.size x w2 hs1 hvx)
          have HPX := hidden hpx
          have HC2 := hidden (HCC.out.trans hQ.chg (fun i _ hi => hi))
          have HR2 := hidden hQ.rt
          have cf : w2.cell? ⟨p, 1, none⟩ = some (.bool false) := hQ.rt.flag
          have hroom := HNO.out.room
          have hb0 := HB0.out.2
          clear hQ hvx hpx HCA
          go_wp2_with (first
            | (at_builtin; refine wpList_pushN _ rfl _ _ 55 rfl 9 i0 z0 1 16 Tryz.underlying55 hi0 hz0 hz1 hz2 hz3 (by decide) w.heap.size (.slice ad i c) i (xs.flatMap Te.cells) rfl (by exact HOW2.out.alloc _) ⟨w2.heap.size, 0, none⟩ [.string x.t] rfl rfl (by intro j u hu; have h9 := (Blk.new w2 9 [.string x.t]).cell (0 + j); rw [Addr.add_lit, h9, Nat.zero_add]; exact hu) (by intro u hu; simp at hu; subst hu; rfl) (by unfold maxLen; omega) (by omega) (by simp; omega) ?_; intro g' c' w' ho' hp'; have HO' := hidden ho'; have HP' := hidden hp'; clear ho' hp'))
          have hI2 : Hid (∃ (xs2 : List Te) (b : List Int) (ad : Option Addr) (c : Nat), Value.slice (some ⟨g', 0, none⟩) (i + 1) c' = .slice ad xs2.length c ∧ w'.ownsRow w.heap.size 9 1 (.slice (some ⟨g', 0, none⟩) (i + 1) c') xs2.length (xs2.flatMap Te.cells) ∧ (∀ x ∈ xs2, VM w.heap.size x w') ∧ Rt w' p K (some b) ∧ Chg (fpr p) w w' ∧ TI one N b0 (i + 1) (xs2.map pr) b) := by
            have hw2 : Chg (fun i_1 => Value.ownBlock (.slice ad i c) = some i_1) w2 w' := by exact HP'.out.chg.1
            have hfp : ∀ j, Value.ownBlock (.slice ad i c) = some j → w.heap.size ≤ j := fun j hj => (HOW2.out.lt j hj).1
            refine hidden ⟨xs ++ [x], t, _, _, by rw [List.length_append, HXL.out]; rfl, ?_, fun y hy => ?_, HR2.out.chg hw2 (fun e => by have := hfp p e; omega) (fun e => by have := hfp K e; omega), HC2.out.trans hw2 (fun j hj e => absurd (hfp j e) (by omega)), ?_⟩
            · rw [List.length_append, HXL.out, List.flatMap_append]
              simpa [Te.cells] using HO'.out
            · refine HST.out _ y w2 w' _ ?_ hw2 (fun j hj => .inr (ty_owns HOW2.out hj))
              rcases List.mem_append.1 hy with hy | hy
              · exact HVM2.out y hy
              · rw [List.mem_singleton] at hy
                subst hy
                exact HVX.out
            · rw [List.map_append]
              show TI one N b0 (i + 1) (xs.map pr ++ [pr x]) t
              rw [HPX.out]
              exact HNO.out
          clear HO' HP'
          go_wp2_with fail
          refine ⟨⟨i + 1, by first | rfl | simp, by omega, hI2⟩, ?_⟩
          show N - ((i : Int) + 1).toNat < N - (i : Int).toNat
          omega
      · obtain rfl : i = N := by omega
        go_wp2_with fail
        go_ret
        rw [HT.out.done]
        refine ⟨_, rfl, HRT.out, HCC.out, fun l t h => ?_, fun h => (by cases h)⟩
        injection h with h
        injection h with h1 h2
        subst h1
        refine ⟨xs, rfl, ⟨ad, c, by rw [HXL.out]; rfl⟩, ?_, HVM.out⟩
        rw [HXL.out]
        exact HOW.out

end Go.Proofs.YtalmpmhnkilalaaGreatDoor

/-
  Package wire, purely: the writer's calls, and what they write.
-/
namespace Go.Proofs.YtalmpmhnkilalaaGreatDoor
open Go.RowKit
set_option linter.unusedVariables false

/-- What a call of the writer does: it writes e, if that may be. -/
structure Wrt (f : Ws → Ws) (ok : Prop) (e : List Int) : Prop where
  most : ∀ s, (f s).most = s.most
  wrong : ∀ s, s.wrong = true → (f s).wrong = true
  over : ∀ s, s.over = true → (f s).over = true
  bad : ∀ s, s.wrong = false → ((f s).wrong = false ↔ ok)
  fit : ∀ s, s.wrong = false → ok → s.over = false → s.out.length + e.length ≤ s.most → f s = { s with out := s.out ++ e }
  big : ∀ s, s.wrong = false → ok → s.out.length ≤ s.most → s.most < s.out.length + e.length → (f s).over = true

theorem Wrt.comp {f g : Ws → Ws} {ok ok' : Prop} {e e' : List Int} (h : Wrt f ok e) (k : Wrt g ok' e') : Wrt (fun s => g (f s)) (ok ∧ ok') (e ++ e') := by
  constructor
  · intro s; rw [k.most, h.most]
  · intro s hs; exact k.wrong _ (h.wrong s hs)
  · intro s hs; exact k.over _ (h.over s hs)
  · intro s hs
    cases hw : (f s).wrong with
    | true =>
      constructor
      · intro h2
        rw [k.wrong _ hw] at h2
        cases h2
      · rintro ⟨h2, _⟩
        rw [(h.bad s hs).2 h2] at hw
        cases hw
    | false =>
      have h1 := (h.bad s hs).1 hw
      rw [k.bad _ hw]
      exact ⟨fun h2 => ⟨h1, h2⟩, fun h2 => h2.2⟩
  · rintro s hs ⟨h1, h2⟩ ho hl
    simp only [List.length_append] at hl
    show g (f s) = _
    rw [h.fit s hs h1 ho (by omega)]
    rw [k.fit { s with out := s.out ++ e } hs h2 ho (by simp only [List.length_append]; omega)]
    simp only [List.append_assoc]
  · rintro s hs ⟨h1, h2⟩ hi hl
    simp only [List.length_append] at hl
    by_cases ho : s.over = true
    · exact k.over _ (h.over s ho)
    · have ho : s.over = false := by simpa using ho
      by_cases hf : s.out.length + e.length ≤ s.most
      · rw [h.fit s hs h1 ho hf]
        exact k.big _ hs h2 (by simpa using hf) (by simp only [List.length_append]; omega)
      · exact k.over _ (h.big s hs h1 hi (by omega))
theorem Wrt.congr {f g : Ws → Ws} {ok ok' : Prop} {e e' : List Int} (h : Wrt f ok e) (hf : f = g) (ho : ok ↔ ok') (he : ok → e = e') : Wrt g ok' e' := by
  subst hf
  have hok : ok = ok' := propext ho
  subst hok
  exact ⟨h.most, h.wrong, h.over, h.bad, fun s h1 h2 h3 h4 => by rw [h.fit s h1 h2 h3 (by rw [he h2]; exact h4), he h2], fun s h1 h2 h3 h4 => h.big s h1 h2 h3 (by rw [he h2]; exact h4)⟩
theorem wrt_id : Wrt id True [] := by
  refine ⟨fun s => rfl, fun s h => h, fun s h => h, fun s h => ⟨fun _ => trivial, fun _ => h⟩, fun s _ _ _ _ => ?_, fun s _ _ hi hl => ?_⟩
  · simp
  · simp at hl
    omega
theorem wrt_must (b : Bool) : Wrt (fun s => s.must b) (b = true) [] := by
  refine ⟨fun s => rfl, fun s h => ?_, fun s h => h, fun s h => ?_, fun s h1 h2 _ _ => ?_, fun s _ _ hi hl => ?_⟩
  · simp [Ws.must, h]
  · simp [Ws.must, h]
  · simp [Ws.must, h2]
  · simp at hl
    omega
theorem wrt_put (e : List Int) : Wrt (fun s => s.put e) True e := by
  refine ⟨put_most (b := e), fun s h => ?_, fun s h => ?_, fun s h => ⟨fun _ => trivial, fun _ => ?_⟩, fun s h1 h2 h3 h4 => ?_, fun s _ _ hi hl => ?_⟩
  · show (s.put e).wrong = true
    unfold Ws.put
    split <;> exact h
  · show (s.put e).over = true
    unfold Ws.put
    rw [if_pos (by simp [h])]
  · show (s.put e).wrong = false
    unfold Ws.put
    split <;> exact h
  · show s.put e = _
    unfold Ws.put
    rw [if_neg]
    simp only [Bool.or_eq_true, decide_eq_true_eq, not_or]
    exact ⟨by simp [h3], by omega⟩
  · show (s.put e).over = true
    unfold Ws.put
    rw [if_pos]
    simp only [Bool.or_eq_true, decide_eq_true_eq]
    right
    omega
theorem wrt_lim (d : ByteArray) (most : Nat) : Wrt (fun s => s.limited d most) (d.size ≤ most) (encT d) := by
  by_cases h : most < d.size
  · have e : (fun s : Ws => s.limited d most) = fun s => { s with wrong := true } := by funext s; exact if_pos h
    rw [e]
    exact ⟨fun s => rfl, fun s _ => rfl, fun s h => h, fun s _ => ⟨fun h2 => (by cases h2), fun h2 => (by omega)⟩, fun s _ h2 => (by omega), fun s _ h2 => (by omega)⟩
  · have e : (fun s : Ws => s.limited d most) = fun s => s.put (encT d) := by funext s; exact if_neg h
    rw [e]
    exact (wrt_put _).congr rfl ⟨fun _ => by omega, fun _ => trivial⟩ (fun _ => rfl)
theorem wrt_smp (l : List Sm) : Wrt (fun s => s.samples l) True (encSs l) := by
  have hp := wrt_put (encSs l)
  refine ⟨fun s => samples_most s l, fun s h => ?_, fun s h => ?_, fun s h => ⟨fun _ => trivial, fun _ => ?_⟩, fun s h1 h2 h3 h4 => ?_, fun s h1 h2 hi hl => ?_⟩
  · show (s.samples l).wrong = true
    unfold Ws.samples
    split
    · exact h
    · split
      · exact hp.wrong s h
      · exact h
  · show (s.samples l).over = true
    unfold Ws.samples
    rw [if_pos h]
    exact h
  · show (s.samples l).wrong = false
    unfold Ws.samples
    split
    · exact h
    · split
      · exact (hp.bad s h).2 trivial
      · exact h
  · show s.samples l = _
    unfold Ws.samples
    have hle : (encC l).length ≤ s.most - s.out.length := by
      unfold encSs at h4
      rw [List.length_append] at h4
      omega
    rw [if_neg (by simp [h3]), if_pos hle]
    exact hp.fit s h1 trivial h3 h4
  · show (s.samples l).over = true
    unfold Ws.samples
    split
    · assumption
    · split
      · exact hp.big s h1 trivial hi hl
      · rfl
theorem wrt_eachS {α : Type} {step : Ws → α → Ws} {ok : α → Prop} {en : α → List Int} : ∀ (l : List α), (∀ x ∈ l, Wrt (fun s => step s x) (ok x) (en x)) → Wrt (eachS step l) (∀ x ∈ l, ok x) (l.flatMap en)
  | [], h => wrt_id.congr (by funext s; rfl) ⟨fun _ => by simp, fun _ => trivial⟩ (fun _ => rfl)
  | x :: r, h => by
    have ih := wrt_eachS r (fun y hy => h y (by simp [hy]))
    have hx := h x (by simp)
    have h1 : Wrt (fun s => if s.wrong then s else step s x) (ok x) (en x) := by
      refine ⟨fun s => ?_, fun s hs => ?_, fun s hs => ?_, fun s hs => ?_, fun s hs => ?_, fun s hs => ?_⟩
      · show (if s.wrong then s else step s x).most = s.most
        split
        · rfl
        · exact hx.most s
      · show (if s.wrong then s else step s x).wrong = true
        rw [if_pos hs]
        exact hs
      · show (if s.wrong then s else step s x).over = true
        split
        · exact hs
        · exact hx.over s hs
      · show (if s.wrong then s else step s x).wrong = false ↔ _
        rw [if_neg (by simp [hs])]
        exact hx.bad s hs
      · show _ → _ → _ → (if s.wrong then s else step s x) = _
        rw [if_neg (by simp [hs])]
        exact hx.fit s hs
      · show _ → _ → _ → (if s.wrong then s else step s x).over = _
        rw [if_neg (by simp [hs])]
        exact hx.big s hs
    refine (h1.comp ih).congr (by funext s; rfl) ?_ (fun _ => by rw [List.flatMap_cons])
    simp
theorem wrt_each {α : Type} {step : Ws → α → Ws} {ok : α → Prop} {en : α → List Int} (most : Nat) (l : List α) (h : ∀ x ∈ l, Wrt (fun s => step s x) (ok x) (en x)) : Wrt (fun s => s.each most step l) (l.length ≤ most ∧ ∀ x ∈ l, ok x) (encE en l) := by
  have h1 := ((wrt_must (decide (l.length ≤ most))).comp (wrt_put (Q.enc l.length))).comp (wrt_eachS l h)
  refine h1.congr (by funext s; rfl) (by simp) (fun _ => ?_)
  unfold encE
  simp

/-! ### lists -/
def okL (x : La) : Prop := x.n.size ≤ 64 ∧ x.v.size ≤ 64
def enL (x : La) : List Int := encT x.n ++ encT x.v
theorem wrt_label (x : La) : Wrt (fun s => stepL s x) (okL x) (enL x) :=
  ((wrt_lim x.n 64).comp (wrt_lim x.v 64)).congr (by funext s; rfl) Iff.rfl (fun _ => rfl)
def okLs (l : List La) : Prop := l.length ≤ 16 ∧ ∀ x ∈ l, okL x
def enLs (l : List La) : List Int := encE enL l
theorem wrt_labels (l : List La) : Wrt (fun s => s.each 16 stepL l) (okLs l) (enLs l) := wrt_each 16 l (fun x _ => wrt_label x)
def rLab : Rdr La := rMap (fun p => La.mk p.1 p.2) (rPair (rTxt 64) (rTxt 64))
theorem cod_lab : Cod rLab okL enL :=
  ((cod_txt 64 (by omega)).pair (cod_txt 64 (by omega))).map _ _ _ (fun y hy => ⟨(y.n, y.v), hy, rfl, rfl⟩) (fun x hx => ⟨hx, rfl⟩)
def rLabs : Rdr (List La) := rEach 16 rLab
theorem cod_labs : Cod rLabs okLs enLs := cod_each cod_lab 16 (by omega)

def okM (x : Ma) : Prop := (x.n.size ≤ 64 ∧ (1 ≤ x.op ∧ x.op ≤ 4)) ∧ x.t.size ≤ 64
def enM (x : Ma) : List Int := (encT x.n ++ [x.op]) ++ encT x.t
theorem wrt_mat (x : Ma) : Wrt (fun s => s.matcher x) (okM x) (enM x) := by
  refine ((((wrt_lim x.n 64).comp (wrt_must (isOpB x.op))).comp (wrt_put [u8 x.op])).comp (wrt_lim x.t 64)).congr (by funext s; rfl) ?_ ?_
  · unfold okM isOpB
    simp
  · rintro ⟨⟨⟨_, h⟩, _⟩, _⟩
    unfold isOpB at h
    simp at h
    unfold enM u8
    rw [Int.emod_eq_of_lt (by omega) (by omega)]
    simp
def rMat : Rdr Ma := rMap (fun p => Ma.mk p.1.1 p.1.2 p.2) (rPair (rPair (rTxt 64) (rIf isOpB rOct)) (rTxt 64))
theorem cod_mat : Cod rMat okM enM := by
  refine (((cod_txt 64 (by omega)).pair (cod_oct.if isOpB)).pair (cod_txt 64 (by omega))).map _ _ _ (fun y hy => ⟨((y.n, y.op), y.t), ?_, rfl, rfl⟩) (fun x hx => ⟨?_, rfl⟩)
  · obtain ⟨⟨h1, h2⟩, h3⟩ := hy
    refine ⟨⟨h1, ⟨by show 0 ≤ y.op; omega, by show y.op ≤ 255; omega⟩, ?_⟩, h3⟩
    unfold isOpB
    simp only
    simp
    exact h2
  · obtain ⟨⟨h1, h2, h4⟩, h3⟩ := hx
    unfold isOpB at h4
    simp at h4
    exact ⟨⟨h1, h4⟩, h3⟩
def okMs (l : List Ma) : Prop := l.length ≤ 8 ∧ ∀ x ∈ l, okM x
def enMs (l : List Ma) : List Int := encE enM l
theorem wrt_mats (l : List Ma) : Wrt (fun s => s.each 8 Ws.matcher l) (okMs l) (enMs l) := wrt_each 8 l (fun x _ => wrt_mat x)
def rMats : Rdr (List Ma) := rEach 8 rMat
theorem cod_mats : Cod rMats okMs enMs := cod_each cod_mat 8 (by omega)

/-- A series, purely. -/
abbrev Se := List La × List Sm
def okE (x : Se) : Prop := okLs x.1 ∧ OkSs x.2
def enE (x : Se) : List Int := enLs x.1 ++ encSs x.2
def stepE' (s : Ws) (x : Se) : Ws := (s.each 16 stepL x.1).samples x.2
theorem wrt_ser (x : Se) : Wrt (fun s => stepE' s x) (okLs x.1) (enE x) := ((wrt_labels x.1).comp (wrt_smp x.2)).congr (by funext s; rfl) (by simp) (fun _ => rfl)
def rSer : Rdr Se := rPair rLabs rSmp
theorem cod_ser : Cod rSer okE enE := cod_labs.pair cod_smp
def U64 : Nat := 18446744073709551615
def okEs (l : List Se) : Prop := l.length ≤ U64 ∧ ∀ x ∈ l, okE x
def enEs (l : List Se) : List Int := encE enE l
theorem wrt_sers (l : List Se) : Wrt (fun s => s.each U64 stepE' l) (l.length ≤ U64 ∧ ∀ x ∈ l, okLs x.1) (enEs l) := wrt_each U64 l (fun x _ => wrt_ser x)
def rSers : Rdr (List Se) := rEach U64 rSer
theorem cod_sers : Cod rSers okEs enEs := cod_each cod_ser U64 (by unfold U64; omega)
/-- What a write's series hold, purely. -/
def areS (l : List Se) : Bool := l.all (fun x => decide (x.2.length ≠ 0)) && decide (1 ≤ l.length ∧ l.length ≤ 64 ∧ (l.map (fun x => x.2.length)).sum ≤ 256)
def Ws.writes' (s : Ws) (l : List Se) : Ws := if areS l then s.each U64 stepE' l else { s with wrong := true }
theorem wrt_writes (l : List Se) : Wrt (fun s => s.writes' l) ((l.length ≤ U64 ∧ ∀ x ∈ l, okLs x.1) ∧ areS l = true) (enEs l) := by
  cases ha : areS l with
  | true => exact (wrt_sers l).congr (by funext s; unfold Ws.writes'; rw [ha]; rfl) (by simp) (fun _ => rfl)
  | false =>
    have e : (fun s : Ws => s.writes' l) = fun s => { s with wrong := true } := by funext s; unfold Ws.writes'; rw [ha]; rfl
    rw [e]
    exact ⟨fun s => rfl, fun s _ => rfl, fun s h => h, fun s _ => ⟨fun h2 => (by cases h2), fun h2 => (by cases h2.2)⟩, fun s _ h2 => (by cases h2.2), fun s _ h2 => (by cases h2.2)⟩
def rWrs : Rdr (List Se) := rIf areS rSers
theorem cod_wrs : Cod rWrs (fun l => okEs l ∧ areS l = true) enEs := cod_sers.if areS

/-- A row, purely. -/
abbrev Rx := List La × Nat
def okR (x : Rx) : Prop := okLs x.1 ∧ x.2 ≤ U64
def enR (x : Rx) : List Int := enLs x.1 ++ Q.enc x.2
def stepR' (s : Ws) (x : Rx) : Ws := (((s.each 16 stepL x.1).must (decide (x.2 ≤ U64))).put (Q.enc x.2))
theorem wrt_row (x : Rx) : Wrt (fun s => stepR' s x) (okR x) (enR x) :=
  (((wrt_labels x.1).comp (wrt_must (decide (x.2 ≤ U64)))).comp (wrt_put (Q.enc x.2))).congr (by funext s; rfl) (by unfold okR; simp) (fun _ => by unfold enR; simp)
def rRow : Rdr Rx := rPair rLabs (rNum U64)
theorem cod_row : Cod rRow okR enR := cod_labs.pair (cod_num U64 (by unfold U64; omega))
def okRs (l : List Rx) : Prop := l.length ≤ U64 ∧ ∀ x ∈ l, okR x
def enRs (l : List Rx) : List Int := encE enR l
theorem wrt_rows (l : List Rx) : Wrt (fun s => s.each U64 stepR' l) (okRs l) (enRs l) := wrt_each U64 l (fun x _ => wrt_row x)
def rRows : Rdr (List Rx) := rEach U64 rRow
theorem cod_rows : Cod rRows okRs enRs := cod_each cod_row U64 (by unfold U64; omega)
def okTs (l : List ByteArray) : Prop := l.length ≤ U64 ∧ ∀ x ∈ l, x.size ≤ 64
def enTs (l : List ByteArray) : List Int := encE encT l
theorem wrt_txts (l : List ByteArray) : Wrt (fun s => s.each U64 (fun s x => s.limited x 64) l) (okTs l) (enTs l) := wrt_each U64 l (fun x _ => wrt_lim x 64)
def rTxts : Rdr (List ByteArray) := rEach U64 (rTxt 64)
theorem cod_txts : Cod rTxts okTs enTs := cod_each (cod_txt 64 (by omega)) U64 (by unfold U64; omega)

end Go.Proofs.YtalmpmhnkilalaaGreatDoor
