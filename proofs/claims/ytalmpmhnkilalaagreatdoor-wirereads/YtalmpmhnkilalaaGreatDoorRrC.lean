import Derived.Test.YtalmpmhnkilalaaGreatDoorRrA
/-
  Package wire's reader: takeEach. By genrrc19.py.
-/
namespace Go.Proofs.YtalmpmhnkilalaaGreatDoor
open Go.RowKit
set_option linter.unusedVariables false

/-- A block's cells are of this type. -/
def Ty (w : World) (i : Nat) (t : TypeId) : Prop := ∃ C fz, w.heap[i]? = some (.cells C t fz)
theorem ty_blk {w : World} {i : Nat} {t : TypeId} {l : List Value} (h : Blk w i t l) : Ty w i t := ⟨_, _, h⟩
theorem ty_owns {w : World} {B : Nat} {e : TypeId} {k : Nat} {v : Value} {n : Nat} {xs : List Value} (h : w.ownsRow B e k v n xs) {g : Nat} (hg : v.ownBlock = some g) : Ty w g e := by
  rcases h.2 with ⟨rfl, _⟩ | ⟨g', cap, cur, rfl, _, hh, _⟩
  · cases hg
  · cases hg
    exact ⟨_, _, hh⟩
theorem Ty.ne {w : World} {i : Nat} {s t : TypeId} (h : Ty w i s) (k : Ty w i t) : s = t := by
  obtain ⟨_, _, h⟩ := h
  obtain ⟨_, _, k⟩ := k
  rw [h] at k
  injection k with k
  injection k
theorem info_z {e : TypeId} {k b : Nat} (h : (Tryz.prog.info? e).map (fun i => (i.zero.map (·.cells.size), i.size, i.bytes)) = some (some k, k, b)) : ∃ i z, Tryz.prog.info? e = some i ∧ i.zero = some z ∧ i.size = k ∧ i.bytes = b ∧ z.cells.size = k := by
  cases hq : Tryz.prog.info? e with
  | none => rw [hq] at h; cases h
  | some i =>
    rw [hq] at h
    simp only [Option.map_some, Option.some.injEq, Prod.mk.injEq] at h
    cases hz : i.zero with
    | none => rw [hz] at h; cases h.1
    | some z =>
      rw [hz] at h
      simp at h
      exact ⟨i, z, rfl, hz, h.2.1, h.2.2, h.1⟩
/-- A list that was read: a row of its own, and what its elements lead to. -/
def Lst {α β : Type} (e k : Nat) (cells : α → List Value) (pr : α → β) (VM : Nat → α → World → Prop) (B : Nat) (l : List β) (v : Value) (w : World) : Prop :=
  ∃ xs : List α, xs.map pr = l ∧ (∃ ad c, v = .slice ad xs.length c) ∧ w.ownsRow B e k v xs.length (xs.flatMap cells) ∧ ∀ x ∈ xs, VM B x w
theorem rRep_snoc {α : Type} {r : Rdr α} : ∀ (n : Nat) (b : List Int), rRep r (n + 1) b = (r b).bind (fun q => (rRep r n q.2).map (fun p => (q.1 :: p.1, p.2))) := fun n b => rfl
theorem bind_each {α : Type} (most : Nat) (r : Rdr α) (st : Option (List Int)) : st.bind (rEach most r) = (st.bind (rNum most)).bind (fun q => rRep r q.1 q.2) := by cases st <;> rfl
/-- What a round of takeEach holds, purely. -/
structure TI {β : Type} (one : Rdr β) (N : Nat) (b0 : List Int) (i : Nat) (l : List β) (b : List Int) : Prop where
  len : l.length = i
  le : i ≤ N
  room : i + b.length ≤ b0.length
  eq : rRep one N b0 = (rRep one (N - i) b).map (fun q => (l ++ q.1, q.2))
theorem TI.start {β : Type} (one : Rdr β) (N : Nat) (b0 : List Int) : TI one N b0 0 [] b0 := by
  refine ⟨rfl, by omega, by omega, ?_⟩
  rw [Nat.sub_zero]
  cases rRep one N b0 <;> rfl
theorem TI.step {β : Type} {one : Rdr β} {N : Nat} {b0 : List Int} {i : Nat} {l : List β} {b : List Int} (h : TI one N b0 i l b) (hi : i < N) {y : β} {t : List Int} (ho : one b = some (y, t)) (hlt : t.length < b.length) : TI one N b0 (i + 1) (l ++ [y]) t := by
  refine ⟨by simp [h.len], by omega, by have := h.room; omega, ?_⟩
  rw [h.eq, show N - i = (N - (i + 1)) + 1 by omega, rRep_snoc, ho]
  show ((rRep one (N - (i + 1)) t).map _).map _ = _
  rw [Option.map_map]
  congr 1
  funext q
  simp
theorem TI.bad {β : Type} {one : Rdr β} {N : Nat} {b0 : List Int} {i : Nat} {l : List β} {b : List Int} (h : TI one N b0 i l b) (hi : i < N) (ho : one b = none) : rRep one N b0 = none := by
  rw [h.eq, show N - i = (N - (i + 1)) + 1 by omega, rRep_snoc, ho]
  rfl
theorem TI.done {β : Type} {one : Rdr β} {N : Nat} {b0 : List Int} {l : List β} {b : List Int} (h : TI one N b0 N l b) : rRep one N b0 = some (l, b) := by
  rw [h.eq, Nat.sub_self]
  show some _ = _
  simp

theorem infoL : (Tryz.prog.info? 47).map (fun i => (i.zero.map (·.cells.size), i.size, i.bytes)) = some (some 2, 2, 32) := by kernel_rfl
set_option maxRecDepth 8000 in
set_option maxHeartbeats 4000000 in
theorem takeEachL {β : Type} (f : FuncId) (fa : Value) (one : Rdr β) (pr : La → β) (VM : Nat → La → World → Prop) (p K : Nat) (st : Option (List Int)) (most : Nat) (w : World)
    (hcf : ∀ a w, (callFunc f a).run Tryz.prog w = .ok (.enter f a) w) (h : Rt w p K st) (hm : most ≤ 18446744073709551615)
    (hlt : ∀ b y t, Byte b → b.length ≤ 1048576 → one b = some (y, t) → t.length < b.length)
    (hmB : ∀ B B' x w, B ≤ B' → VM B' x w → VM B x w)
    (hst : ∀ B x wa wb F, VM B x wa → Chg F wa wb → (∀ i, F i → Ty wa i 86 ∨ Ty wa i 47) → VM B x wb)
    (hc : ∀ b1 wx, Rt wx p K (some b1) → Chg (fpr p) w wx → Calls Tryz.prog f #[fa] wx (RQ wx p K (one b1) (fun y v w' => ∃ x, pr x = y ∧ v = .agg #[.string x.n, .string x.v] ∧ VM wx.heap.size x w') (fun v => ∃ x : La, v = .agg #[.string x.n, .string x.v]))) :
    Calls Tryz.prog 194 #[.pointer (some ⟨p, 0, none⟩), .int .u64 (most : Int), .func (.func f) #[fa] #[]] w (RQ w p K (st.bind (rEach most one)) (Lst 47 2 La.cells pr VM w.heap.size) (fun v => v = .slice none 0 0)) := by
  obtain ⟨i0, z0, hi0, hz0, hz1, hz2, hz3⟩ := info_z infoL
  have HN := hidden (numberR p K st most w h hm)
  rw [bind_each]
  have HLT := hidden hlt
  have HMB := hidden hmB
  have HST := hidden hst
  have HC := hidden hc
  have hpw := h.lt
  have hkw := h.klt
  clear h hlt hmB hst hc
  cases ho : st.bind (rNum most) with
  | none =>
    rw [ho] at HN
    clear ho
    go_enter Tryz.func194, Tryz.ntmps194
    go_wp2_with fail
    refine HN.out.mono ?_
    rintro e w1 ⟨v, rfl, hQ⟩
    obtain rfl := hQ.no rfl
    have HQ := hidden hQ
    clear hQ
    go_wp2_with fail
    refine wp_loop_rounds 1 ?_
    rw [rounds_succ]
    go_wp2_with fail
    go_ret
    exact ⟨_, rfl, HQ.out.rt, HQ.out.chg, fun x t h => (by cases h), fun _ => rfl⟩
  | some q =>
    obtain ⟨N, b0⟩ := q
    have hN := rNum_le ho
    rw [ho] at HN
    clear ho
    have HG : Hid ((some (N, b0)).bind (fun q => rRep one q.1 q.2) = rRep one N b0) := hidden rfl
    rw [HG.out]
    clear HG
    go_enter Tryz.func194, Tryz.ntmps194
    go_wp2_with fail
    refine HN.out.mono ?_
    rintro e w1 ⟨v, rfl, hQ⟩
    obtain rfl := hQ.yes _ _ rfl
    have HB0 := hidden hQ.rt.byte
    have H1 : Hid (∃ (xs : List La) (b : List Int) (ad : Option Addr) (c : Nat), Value.slice none 0 0 = .slice ad xs.length c ∧ w1.ownsRow w.heap.size 47 2 (.slice none 0 0) xs.length (xs.flatMap La.cells) ∧ (∀ x ∈ xs, VM w.heap.size x w1) ∧ Rt w1 p K (some b) ∧ Chg (fpr p) w w1 ∧ TI one N b0 0 (xs.map pr) b) :=
      hidden ⟨[], b0, none, 0, rfl, World.ownsRow_nil _ _ _ _, fun x hx => (by cases hx), hQ.rt, hQ.chg, TI.start one N b0⟩
    clear hQ
    go_wp2_with fail
    go_loopw [7, 8, 12] (fun v7 v8 v12 wx => ∃ i : Nat, v12 = .int .u64 (i : Int) ∧ i ≤ N ∧ Hid (∃ (xs : List La) (b : List Int) (ad : Option Addr) (c : Nat), v7 = .slice ad xs.length c ∧ wx.ownsRow w.heap.size 47 2 v7 xs.length (xs.flatMap La.cells) ∧ (∀ x ∈ xs, VM w.heap.size x wx) ∧ Rt wx p K (some b) ∧ Chg (fpr p) w wx ∧ TI one N b0 i (xs.map pr) b)) (fun _ _ v12 _ => N - (intOf v12).toNat)
    case atStart => exact ⟨0, rfl, by omega, H1⟩
    case round =>
      obtain ⟨i, rfl, hi, hI⟩ := hrel
      obtain ⟨xs, b, ad, c, hv7, hown, hVM, hRt, hC, hT⟩ := hI.out
      have hxl : xs.length = i := by have := hT.len; simpa using this
      rw [hxl] at hv7 hown
      subst hv7
      have HOW := hidden hown
      have HVM := hidden hVM
      have HRT := hidden hRt
      have HCC := hidden hC
      have HT := hidden hT
      have HXL := hidden hxl
      clear hI H1 hown hVM hRt hC hT hxl
      by_cases hin : i < N
      · have hin' : (i : Int) < (N : Int) := by omega
        cases hob : one b with
        | none =>
          have HNO := hidden (HT.out.bad hin hob)
          have HCA := HC.out b wr HRT.out HCC.out
          rw [hob] at HCA
          clear hob
          replace HCA := hidden HCA
          go_wp2_with fail
          refine HCA.out.mono ?_
          rintro e w2 ⟨v, rfl, hQ⟩
          obtain ⟨x, rfl⟩ := hQ.no rfl
          have bw : Below w2.heap.size w2 (w2.alloc (.cells #[.string x.n, .string x.v] 47)) := (Below.refl _ _).alloc (Nat.le_refl _) _
          have cf : (w2.alloc (.cells #[.string x.n, .string x.v] 47)).cell? ⟨p, 1, none⟩ = some (.bool true) := (hQ.rt.later bw).flag
          have HQ := hidden hQ
          have HBW := hidden bw
          clear hQ bw
          go_wp2_with fail
          go_ret
          rw [HNO.out]
          exact ⟨_, rfl, HQ.out.rt.later HBW.out, (HCC.out.trans HQ.out.chg (fun i _ hi => hi)).trans (Chg.of_below (F := fpr p) HBW.out) (fun i _ hi => hi), fun x t h => (by cases h), fun _ => rfl⟩
        | some q =>
          obtain ⟨y, t⟩ := q
          have hlen := HLT.out b y t HRT.out.byte.1 HRT.out.byte.2 hob
          have HNO := hidden (HT.out.step hin hob hlen)
          have HCA := HC.out b wr HRT.out HCC.out
          rw [hob] at HCA
          clear hob hlen
          replace HCA := hidden HCA
          go_wp2_with fail
          refine HCA.out.mono ?_
          rintro e w2 ⟨v, rfl, hQ⟩
          obtain ⟨x, hpx, rfl, hvx⟩ := hQ.yes _ _ rfl
          have hs1 := HCC.out.size
          have hs2 := hQ.chg.size
          have HOW2 := hidden (hQ.chg.owns HOW.out (fun g hg e => by have h1 := (HOW.out.lt g hg).1; unfold fpr at e; omega))
          have HVM2 : Hid (∀ x ∈ xs, VM w.heap.size x w2) := hidden (fun x hx => HST.out _ x wr w2 (fpr p) (HVM.out x hx) hQ.chg (fun i hi => by obtain ⟨u, v, hB⟩ := HRT.out.blk; unfold fpr at hi; subst hi; exact .inl (ty_blk hB)))
          have HVX := hidden (HMB.out w.heap.size wr.heap.size x w2 hs1 hvx)
          have HPX := hidden hpx
          have HC2 := hidden (HCC.out.trans hQ.chg (fun i _ hi => hi))
          have HR2 := hidden hQ.rt
          have bw : Below w2.heap.size w2 (w2.alloc (.cells #[.string x.n, .string x.v] 47)) := (Below.refl _ _).alloc (Nat.le_refl _) _
          have cf : (w2.alloc (.cells #[.string x.n, .string x.v] 47)).cell? ⟨p, 1, none⟩ = some (.bool false) := (hQ.rt.later bw).flag
          clear bw
          have hroom := HNO.out.room
          have hb0 := HB0.out.2
          clear hQ hvx hpx HCA
          go_wp2_with (first
            | (at_builtin; refine wpList_pushN _ rfl _ _ 42 rfl 47 i0 z0 2 32 Tryz.underlying42 hi0 hz0 hz1 hz2 hz3 (by decide) w.heap.size (.slice ad i c) i (xs.flatMap La.cells) rfl (by exact (HOW2.out.alloc _).alloc _) ⟨w2.heap.size + 1, 0, none⟩ [.string x.n, .string x.v] rfl rfl (by intro j u hu; have h9 := (Blk.new (w2.alloc (.cells #[.string x.n, .string x.v] 47)) 47 [.string x.n, .string x.v]).cell (0 + j); rw [World.size_alloc] at h9; rw [Addr.add_lit, h9, Nat.zero_add]; exact hu) (by intro u hu; simp at hu; rcases hu with rfl | rfl <;> rfl) (by unfold maxLen; omega) (by omega) (by simp; omega) ?_; intro g' c' w' ho' hp'; have HO' := hidden ho'; have HP' := hidden hp'; clear ho' hp'))
          have hI2 : Hid (∃ (xs2 : List La) (b : List Int) (ad : Option Addr) (c : Nat), Value.slice (some ⟨g', 0, none⟩) (i + 1) c' = .slice ad xs2.length c ∧ w'.ownsRow w.heap.size 47 2 (.slice (some ⟨g', 0, none⟩) (i + 1) c') xs2.length (xs2.flatMap La.cells) ∧ (∀ x ∈ xs2, VM w.heap.size x w') ∧ Rt w' p K (some b) ∧ Chg (fpr p) w w' ∧ TI one N b0 (i + 1) (xs2.map pr) b) := by
            have hw2 : Chg (fun i_1 => Value.ownBlock (.slice ad i c) = some i_1) w2 w' := by exact ((Chg.alloc (fun i_1 => Value.ownBlock (.slice ad i c) = some i_1) w2 (.cells #[.string x.n, .string x.v] 47)).trans HP'.out.chg.1 (fun _ _ e => e))
            have hfp : ∀ j, Value.ownBlock (.slice ad i c) = some j → w.heap.size ≤ j := fun j hj => (HOW2.out.lt j hj).1
            refine hidden ⟨xs ++ [x], t, _, _, by rw [List.length_append, HXL.out]; rfl, ?_, fun y hy => ?_, HR2.out.chg hw2 (fun e => by have := hfp p e; omega) (fun e => by have := hfp K e; omega), HC2.out.trans hw2 (fun j hj e => absurd (hfp j e) (by omega)), ?_⟩
            · rw [List.length_append, HXL.out, List.flatMap_append]
              simpa [La.cells] using HO'.out
            · refine HST.out _ y w2 w' _ ?_ hw2 (fun j hj => .inr (ty_owns HOW2.out hj))
              rcases List.mem_append.1 hy with hy | hy
              · exact HVM2.out y hy
              · rw [List.mem_singleton] at hy
                subst hy
                exact HVX.out
            · rw [List.map_append]
              show TI one N b0 (i + 1) (xs.map pr ++ [pr x]) t
              rw [HPX.out]
              exact HNO.out
          clear HO' HP'
          go_wp2_with fail
          refine ⟨⟨i + 1, by first | rfl | simp, by omega, hI2⟩, ?_⟩
          show N - ((i : Int) + 1).toNat < N - (i : Int).toNat
          omega
      · obtain rfl : i = N := by omega
        go_wp2_with fail
        go_ret
        rw [HT.out.done]
        refine ⟨_, rfl, HRT.out, HCC.out, fun l t h => ?_, fun h => (by cases h)⟩
        injection h with h
        injection h with h1 h2
        subst h1
        refine ⟨xs, rfl, ⟨ad, c, by rw [HXL.out]; rfl⟩, ?_, HVM.out⟩
        rw [HXL.out]
        exact HOW.out

end Go.Proofs.YtalmpmhnkilalaaGreatDoor

/-
  Package wire's reader: takeEach. By genrrc19.py.
-/
namespace Go.Proofs.YtalmpmhnkilalaaGreatDoor
open Go.RowKit
set_option linter.unusedVariables false

theorem infoM : (Tryz.prog.info? 52).map (fun i => (i.zero.map (·.cells.size), i.size, i.bytes)) = some (some 3, 3, 40) := by kernel_rfl
set_option maxRecDepth 8000 in
set_option maxHeartbeats 4000000 in
theorem takeEachM {β : Type} (f : FuncId) (fa : Value) (one : Rdr β) (pr : Ma → β) (VM : Nat → Ma → World → Prop) (p K : Nat) (st : Option (List Int)) (most : Nat) (w : World)
    (hcf : ∀ a w, (callFunc f a).run Tryz.prog w = .ok (.enter f a) w) (h : Rt w p K st) (hm : most ≤ 18446744073709551615)
    (hlt : ∀ b y t, Byte b → b.length ≤ 1048576 → one b = some (y, t) → t.length < b.length)
    (hmB : ∀ B B' x w, B ≤ B' → VM B' x w → VM B x w)
    (hst : ∀ B x wa wb F, VM B x wa → Chg F wa wb → (∀ i, F i → Ty wa i 86 ∨ Ty wa i 52) → VM B x wb)
    (hc : ∀ b1 wx, Rt wx p K (some b1) → Chg (fpr p) w wx → Calls Tryz.prog f #[fa] wx (RQ wx p K (one b1) (fun y v w' => ∃ x, pr x = y ∧ v = .agg #[.string x.n, .int .i64 x.op, .string x.t] ∧ VM wx.heap.size x w') (fun v => ∃ x : Ma, v = .agg #[.string x.n, .int .i64 x.op, .string x.t]))) :
    Calls Tryz.prog 155 #[.pointer (some ⟨p, 0, none⟩), .int .u64 (most : Int), .func (.func f) #[fa] #[]] w (RQ w p K (st.bind (rEach most one)) (Lst 52 3 Ma.cells pr VM w.heap.size) (fun v => v = .slice none 0 0)) := by
  obtain ⟨i0, z0, hi0, hz0, hz1, hz2, hz3⟩ := info_z infoM
  have HN := hidden (numberR p K st most w h hm)
  rw [bind_each]
  have HLT := hidden hlt
  have HMB := hidden hmB
  have HST := hidden hst
  have HC := hidden hc
  have hpw := h.lt
  have hkw := h.klt
  clear h hlt hmB hst hc
  cases ho : st.bind (rNum most) with
  | none =>
    rw [ho] at HN
    clear ho
    go_enter Tryz.func155, Tryz.ntmps155
    go_wp2_with fail
    refine HN.out.mono ?_
    rintro e w1 ⟨v, rfl, hQ⟩
    obtain rfl := hQ.no rfl
    have HQ := hidden hQ
    clear hQ
    go_wp2_with fail
    refine wp_loop_rounds 1 ?_
    rw [rounds_succ]
    go_wp2_with fail
    go_ret
    exact ⟨_, rfl, HQ.out.rt, HQ.out.chg, fun x t h => (by cases h), fun _ => rfl⟩
  | some q =>
    obtain ⟨N, b0⟩ := q
    have hN := rNum_le ho
    rw [ho] at HN
    clear ho
    have HG : Hid ((some (N, b0)).bind (fun q => rRep one q.1 q.2) = rRep one N b0) := hidden rfl
    rw [HG.out]
    clear HG
    go_enter Tryz.func155, Tryz.ntmps155
    go_wp2_with fail
    refine HN.out.mono ?_
    rintro e w1 ⟨v, rfl, hQ⟩
    obtain rfl := hQ.yes _ _ rfl
    have HB0 := hidden hQ.rt.byte
    have H1 : Hid (∃ (xs : List Ma) (b : List Int) (ad : Option Addr) (c : Nat), Value.slice none 0 0 = .slice ad xs.length c ∧ w1.ownsRow w.heap.size 52 3 (.slice none 0 0) xs.length (xs.flatMap Ma.cells) ∧ (∀ x ∈ xs, VM w.heap.size x w1) ∧ Rt w1 p K (some b) ∧ Chg (fpr p) w w1 ∧ TI one N b0 0 (xs.map pr) b) :=
      hidden ⟨[], b0, none, 0, rfl, World.ownsRow_nil _ _ _ _, fun x hx => (by cases hx), hQ.rt, hQ.chg, TI.start one N b0⟩
    clear hQ
    go_wp2_with fail
    go_loopw [7, 8, 12] (fun v7 v8 v12 wx => ∃ i : Nat, v12 = .int .u64 (i : Int) ∧ i ≤ N ∧ Hid (∃ (xs : List Ma) (b : List Int) (ad : Option Addr) (c : Nat), v7 = .slice ad xs.length c ∧ wx.ownsRow w.heap.size 52 3 v7 xs.length (xs.flatMap Ma.cells) ∧ (∀ x ∈ xs, VM w.heap.size x wx) ∧ Rt wx p K (some b) ∧ Chg (fpr p) w wx ∧ TI one N b0 i (xs.map pr) b)) (fun _ _ v12 _ => N - (intOf v12).toNat)
    case atStart => exact ⟨0, rfl, by omega, H1⟩
    case round =>
      obtain ⟨i, rfl, hi, hI⟩ := hrel
      obtain ⟨xs, b, ad, c, hv7, hown, hVM, hRt, hC, hT⟩ := hI.out
      have hxl : xs.length = i := by have := hT.len; simpa using this
      rw [hxl] at hv7 hown
      subst hv7
      have HOW := hidden hown
      have HVM := hidden hVM
      have HRT := hidden hRt
      have HCC := hidden hC
      have HT := hidden hT
      have HXL := hidden hxl
      clear hI H1 hown hVM hRt hC hT hxl
      by_cases hin : i < N
      · have hin' : (i : Int) < (N : Int) := by omega
        cases hob : one b with
        | none =>
          have HNO := hidden (HT.out.bad hin hob)
          have HCA := HC.out b wr HRT.out HCC.out
          rw [hob] at HCA
          clear hob
          replace HCA := hidden HCA
          go_wp2_with fail
          refine HCA.out.mono ?_
          rintro e w2 ⟨v, rfl, hQ⟩
          obtain ⟨x, rfl⟩ := hQ.no rfl
          have bw : Below w2.heap.size w2 (w2.alloc (.cells #[.string x.n, .int .i64 x.op, .string x.t] 52)) := (Below.refl _ _).alloc (Nat.le_refl _) _
          have cf : (w2.alloc (.cells #[.string x.n, .int .i64 x.op, .string x.t] 52)).cell? ⟨p, 1, none⟩ = some (.bool true) := (hQ.rt.later bw).flag
          have HQ := hidden hQ
          have HBW := hidden bw
          clear hQ bw
          go_wp2_with fail
          go_ret
          rw [HNO.out]
          exact ⟨_, rfl, HQ.out.rt.later HBW.out, (HCC.out.trans HQ.out.chg (fun i _ hi => hi)).trans (Chg.of_below (F := fpr p) HBW.out) (fun i _ hi => hi), fun x t h => (by cases h), fun _ => rfl⟩
        | some q =>
          obtain ⟨y, t⟩ := q
          have hlen := HLT.out b y t HRT.out.byte.1 HRT.out.byte.2 hob
          have HNO := hidden (HT.out.step hin hob hlen)
          have HCA := HC.out b wr HRT.out HCC.out
          rw [hob] at HCA
          clear hob hlen
          replace HCA := hidden HCA
          go_wp2_with fail
          refine HCA.out.mono ?_
          rintro e w2 ⟨v, rfl, hQ⟩
          obtain ⟨x, hpx, rfl, hvx⟩ := hQ.yes _ _ rfl
          have hs1 := HCC.out.size
          have hs2 := hQ.chg.size
          have HOW2 := hidden (hQ.chg.owns HOW.out (fun g hg e => by have h1 := (HOW.out.lt g hg).1; unfold fpr at e; omega))
          have HVM2 : Hid (∀ x ∈ xs, VM w.heap.size x w2) := hidden (fun x hx => HST.out _ x wr w2 (fpr p) (HVM.out x hx) hQ.chg (fun i hi => by obtain ⟨u, v, hB⟩ := HRT.out.blk; unfold fpr at hi; subst hi; exact .inl (ty_blk hB)))
          have HVX := hidden (HMB.out w.heap.size wr.heap.size x w2 hs1 hvx)
          have HPX := hidden hpx
          have HC2 := hidden (HCC.out.trans hQ.chg (fun i _ hi => hi))
          have HR2 := hidden hQ.rt
          have bw : Below w2.heap.size w2 (w2.alloc (.cells #[.string x.n, .int .i64 x.op, .string x.t] 52)) := (Below.refl _ _).alloc (Nat.le_refl _) _
          have cf : (w2.alloc (.cells #[.string x.n, .int .i64 x.op, .string x.t] 52)).cell? ⟨p, 1, none⟩ = some (.bool false) := (hQ.rt.later bw).flag
          clear bw
          have hroom := HNO.out.room
          have hb0 := HB0.out.2
          clear hQ hvx hpx HCA
          go_wp2_with (first
            | (at_builtin; refine wpList_pushN _ rfl _ _ 24 rfl 52 i0 z0 3 40 Tryz.underlying24 hi0 hz0 hz1 hz2 hz3 (by decide) w.heap.size (.slice ad i c) i (xs.flatMap Ma.cells) rfl (by exact (HOW2.out.alloc _).alloc _) ⟨w2.heap.size + 1, 0, none⟩ [.string x.n, .int .i64 x.op, .string x.t] rfl rfl (by intro j u hu; have h9 := (Blk.new (w2.alloc (.cells #[.string x.n, .int .i64 x.op, .string x.t] 52)) 52 [.string x.n, .int .i64 x.op, .string x.t]).cell (0 + j); rw [World.size_alloc] at h9; rw [Addr.add_lit, h9, Nat.zero_add]; exact hu) (by intro u hu; simp at hu; rcases hu with rfl | rfl | rfl <;> rfl) (by unfold maxLen; omega) (by omega) (by simp; omega) ?_; intro g' c' w' ho' hp'; have HO' := hidden ho'; have HP' := hidden hp'; clear ho' hp'))
          have hI2 : Hid (∃ (xs2 : List Ma) (b : List Int) (ad : Option Addr) (c : Nat), Value.slice (some ⟨g', 0, none⟩) (i + 1) c' = .slice ad xs2.length c ∧ w'.ownsRow w.heap.size 52 3 (.slice (some ⟨g', 0, none⟩) (i + 1) c') xs2.length (xs2.flatMap Ma.cells) ∧ (∀ x ∈ xs2, VM w.heap.size x w') ∧ Rt w' p K (some b) ∧ Chg (fpr p) w w' ∧ TI one N b0 (i + 1) (xs2.map pr) b) := by
            have hw2 : Chg (fun i_1 => Value.ownBlock (.slice ad i c) = some i_1) w2 w' := by exact ((Chg.alloc (fun i_1 => Value.ownBlock (.slice ad i c) = some i_1) w2 (.cells #[.string x.n, .int .i64 x.op, .string x.t] 52)).trans HP'.out.chg.1 (fun _ _ e => e))
            have hfp : ∀ j, Value.ownBlock (.slice ad i c) = some j → w.heap.size ≤ j := fun j hj => (HOW2.out.lt j hj).1
            refine hidden ⟨xs ++ [x], t, _, _, by rw [List.length_append, HXL.out]; rfl, ?_, fun y hy => ?_, HR2.out.chg hw2 (fun e => by have := hfp p e; omega) (fun e => by have := hfp K e; omega), HC2.out.trans hw2 (fun j hj e => absurd (hfp j e) (by omega)), ?_⟩
            · rw [List.length_append, HXL.out, List.flatMap_append]
              simpa [Ma.cells] using HO'.out
            · refine HST.out _ y w2 w' _ ?_ hw2 (fun j hj => .inr (ty_owns HOW2.out hj))
              rcases List.mem_append.1 hy with hy | hy
              · exact HVM2.out y hy
              · rw [List.mem_singleton] at hy
                subst hy
                exact HVX.out
            · rw [List.map_append]
              show TI one N b0 (i + 1) (xs.map pr ++ [pr x]) t
              rw [HPX.out]
              exact HNO.out
          clear HO' HP'
          go_wp2_with fail
          refine ⟨⟨i + 1, by first | rfl | simp, by omega, hI2⟩, ?_⟩
          show N - ((i : Int) + 1).toNat < N - (i : Int).toNat
          omega
      · obtain rfl : i = N := by omega
        go_wp2_with fail
        go_ret
        rw [HT.out.done]
        refine ⟨_, rfl, HRT.out, HCC.out, fun l t h => ?_, fun h => (by cases h)⟩
        injection h with h
        injection h with h1 h2
        subst h1
        refine ⟨xs, rfl, ⟨ad, c, by rw [HXL.out]; rfl⟩, ?_, HVM.out⟩
        rw [HXL.out]
        exact HOW.out

theorem infoE : (Tryz.prog.info? 45).map (fun i => (i.zero.map (·.cells.size), i.size, i.bytes)) = some (some 2, 2, 48) := by kernel_rfl
set_option maxRecDepth 8000 in
set_option maxHeartbeats 4000000 in
theorem takeEachE {β : Type} (f : FuncId) (fa : Value) (one : Rdr β) (pr : Ser → β) (VM : Nat → Ser → World → Prop) (p K : Nat) (st : Option (List Int)) (most : Nat) (w : World)
    (hcf : ∀ a w, (callFunc f a).run Tryz.prog w = .ok (.enter f a) w) (h : Rt w p K st) (hm : most ≤ 18446744073709551615)
    (hlt : ∀ b y t, Byte b → b.length ≤ 1048576 → one b = some (y, t) → t.length < b.length)
    (hmB : ∀ B B' x w, B ≤ B' → VM B' x w → VM B x w)
    (hst : ∀ B x wa wb F, VM B x wa → Chg F wa wb → (∀ i, F i → Ty wa i 86 ∨ Ty wa i 45) → VM B x wb)
    (hc : ∀ b1 wx, Rt wx p K (some b1) → Chg (fpr p) w wx → Calls Tryz.prog f #[fa] wx (RQ wx p K (one b1) (fun y v w' => ∃ x, pr x = y ∧ v = .agg #[.slice x.la x.ln x.lc, .slice x.sa x.sn x.sc] ∧ VM wx.heap.size x w') (fun v => ∃ x : Ser, v = .agg #[.slice x.la x.ln x.lc, .slice x.sa x.sn x.sc]))) :
    Calls Tryz.prog 164 #[.pointer (some ⟨p, 0, none⟩), .int .u64 (most : Int), .func (.func f) #[fa] #[]] w (RQ w p K (st.bind (rEach most one)) (Lst 45 2 Ser.cells pr VM w.heap.size) (fun v => v = .slice none 0 0)) := by
  obtain ⟨i0, z0, hi0, hz0, hz1, hz2, hz3⟩ := info_z infoE
  have HN := hidden (numberR p K st most w h hm)
  rw [bind_each]
  have HLT := hidden hlt
  have HMB := hidden hmB
  have HST := hidden hst
  have HC := hidden hc
  have hpw := h.lt
  have hkw := h.klt
  clear h hlt hmB hst hc
  cases ho : st.bind (rNum most) with
  | none =>
    rw [ho] at HN
    clear ho
    go_enter Tryz.func164, Tryz.ntmps164
    go_wp2_with fail
    refine HN.out.mono ?_
    rintro e w1 ⟨v, rfl, hQ⟩
    obtain rfl := hQ.no rfl
    have HQ := hidden hQ
    clear hQ
    go_wp2_with fail
    refine wp_loop_rounds 1 ?_
    rw [rounds_succ]
    go_wp2_with fail
    go_ret
    exact ⟨_, rfl, HQ.out.rt, HQ.out.chg, fun x t h => (by cases h), fun _ => rfl⟩
  | some q =>
    obtain ⟨N, b0⟩ := q
    have hN := rNum_le ho
    rw [ho] at HN
    clear ho
    have HG : Hid ((some (N, b0)).bind (fun q => rRep one q.1 q.2) = rRep one N b0) := hidden rfl
    rw [HG.out]
    clear HG
    go_enter Tryz.func164, Tryz.ntmps164
    go_wp2_with fail
    refine HN.out.mono ?_
    rintro e w1 ⟨v, rfl, hQ⟩
    obtain rfl := hQ.yes _ _ rfl
    have HB0 := hidden hQ.rt.byte
    have H1 : Hid (∃ (xs : List Ser) (b : List Int) (ad : Option Addr) (c : Nat), Value.slice none 0 0 = .slice ad xs.length c ∧ w1.ownsRow w.heap.size 45 2 (.slice none 0 0) xs.length (xs.flatMap Ser.cells) ∧ (∀ x ∈ xs, VM w.heap.size x w1) ∧ Rt w1 p K (some b) ∧ Chg (fpr p) w w1 ∧ TI one N b0 0 (xs.map pr) b) :=
      hidden ⟨[], b0, none, 0, rfl, World.ownsRow_nil _ _ _ _, fun x hx => (by cases hx), hQ.rt, hQ.chg, TI.start one N b0⟩
    clear hQ
    go_wp2_with fail
    go_loopw [7, 8, 12] (fun v7 v8 v12 wx => ∃ i : Nat, v12 = .int .u64 (i : Int) ∧ i ≤ N ∧ Hid (∃ (xs : List Ser) (b : List Int) (ad : Option Addr) (c : Nat), v7 = .slice ad xs.length c ∧ wx.ownsRow w.heap.size 45 2 v7 xs.length (xs.flatMap Ser.cells) ∧ (∀ x ∈ xs, VM w.heap.size x wx) ∧ Rt wx p K (some b) ∧ Chg (fpr p) w wx ∧ TI one N b0 i (xs.map pr) b)) (fun _ _ v12 _ => N - (intOf v12).toNat)
    case atStart => exact ⟨0, rfl, by omega, H1⟩
    case round =>
      obtain ⟨i, rfl, hi, hI⟩ := hrel
      obtain ⟨xs, b, ad, c, hv7, hown, hVM, hRt, hC, hT⟩ := hI.out
      have hxl : xs.length = i := by have := hT.len; simpa using this
      rw [hxl] at hv7 hown
      subst hv7
      have HOW := hidden hown
      have HVM := hidden hVM
      have HRT := hidden hRt
      have HCC := hidden hC
      have HT := hidden hT
      have HXL := hidden hxl
      clear hI H1 hown hVM hRt hC hT hxl
      by_cases hin : i < N
      · have hin' : (i : Int) < (N : Int) := by omega
        cases hob : one b with
        | none =>
          have HNO := hidden (HT.out.bad hin hob)
          have HCA := HC.out b wr HRT.out HCC.out
          rw [hob] at HCA
          clear hob
          replace HCA := hidden HCA
          go_wp2_with fail
          refine HCA.out.mono ?_
          rintro e w2 ⟨v, rfl, hQ⟩
          obtain ⟨x, rfl⟩ := hQ.no rfl
          have bw : Below w2.heap.size w2 (w2.alloc (.cells #[.slice x.la x.ln x.lc, .slice x.sa x.sn x.sc] 45)) := (Below.refl _ _).alloc (Nat.le_refl _) _
          have cf : (w2.alloc (.cells #[.slice x.la x.ln x.lc, .slice x.sa x.sn x.sc] 45)).cell? ⟨p, 1, none⟩ = some (.bool true) := (hQ.rt.later bw).flag
          have HQ := hidden hQ
          have HBW := hidden bw
          clear hQ bw
          go_wp2_with fail
          go_ret
          rw [HNO.out]
          exact ⟨_, rfl, HQ.out.rt.later HBW.out, (HCC.out.trans HQ.out.chg (fun i _ hi => hi)).trans (Chg.of_below (F := fpr p) HBW.out) (fun i _ hi => hi), fun x t h => (by cases h), fun _ => rfl⟩
        | some q =>
          obtain ⟨y, t⟩ := q
          have hlen := HLT.out b y t HRT.out.byte.1 HRT.out.byte.2 hob
          have HNO := hidden (HT.out.step hin hob hlen)
          have HCA := HC.out b wr HRT.out HCC.out
          rw [hob] at HCA
          clear hob hlen
          replace HCA := hidden HCA
          go_wp2_with fail
          refine HCA.out.mono ?_
          rintro e w2 ⟨v, rfl, hQ⟩
          obtain ⟨x, hpx, rfl, hvx⟩ := hQ.yes _ _ rfl
          have hs1 := HCC.out.size
          have hs2 := hQ.chg.size
          have HOW2 := hidden (hQ.chg.owns HOW.out (fun g hg e => by have h1 := (HOW.out.lt g hg).1; unfold fpr at e; omega))
          have HVM2 : Hid (∀ x ∈ xs, VM w.heap.size x w2) := hidden (fun x hx => HST.out _ x wr w2 (fpr p) (HVM.out x hx) hQ.chg (fun i hi => by obtain ⟨u, v, hB⟩ := HRT.out.blk; unfold fpr at hi; subst hi; exact .inl (ty_blk hB)))
          have HVX := hidden (HMB.out w.heap.size wr.heap.size x w2 hs1 hvx)
          have HPX := hidden hpx
          have HC2 := hidden (HCC.out.trans hQ.chg (fun i _ hi => hi))
          have HR2 := hidden hQ.rt
          have bw : Below w2.heap.size w2 (w2.alloc (.cells #[.slice x.la x.ln x.lc, .slice x.sa x.sn x.sc] 45)) := (Below.refl _ _).alloc (Nat.le_refl _) _
          have cf : (w2.alloc (.cells #[.slice x.la x.ln x.lc, .slice x.sa x.sn x.sc] 45)).cell? ⟨p, 1, none⟩ = some (.bool false) := (hQ.rt.later bw).flag
          clear bw
          have hroom := HNO.out.room
          have hb0 := HB0.out.2
          clear hQ hvx hpx HCA
          go_wp2_with (first
            | (at_builtin; refine wpList_pushN _ rfl _ _ 23 rfl 45 i0 z0 2 48 Tryz.underlying23 hi0 hz0 hz1 hz2 hz3 (by decide) w.heap.size (.slice ad i c) i (xs.flatMap Ser.cells) rfl (by exact (HOW2.out.alloc _).alloc _) ⟨w2.heap.size + 1, 0, none⟩ [.slice x.la x.ln x.lc, .slice x.sa x.sn x.sc] rfl rfl (by intro j u hu; have h9 := (Blk.new (w2.alloc (.cells #[.slice x.la x.ln x.lc, .slice x.sa x.sn x.sc] 45)) 45 [.slice x.la x.ln x.lc, .slice x.sa x.sn x.sc]).cell (0 + j); rw [World.size_alloc] at h9; rw [Addr.add_lit, h9, Nat.zero_add]; exact hu) (by intro u hu; simp at hu; rcases hu with rfl | rfl <;> rfl) (by unfold maxLen; omega) (by omega) (by simp; omega) ?_; intro g' c' w' ho' hp'; have HO' := hidden ho'; have HP' := hidden hp'; clear ho' hp'))
          have hI2 : Hid (∃ (xs2 : List Ser) (b : List Int) (ad : Option Addr) (c : Nat), Value.slice (some ⟨g', 0, none⟩) (i + 1) c' = .slice ad xs2.length c ∧ w'.ownsRow w.heap.size 45 2 (.slice (some ⟨g', 0, none⟩) (i + 1) c') xs2.length (xs2.flatMap Ser.cells) ∧ (∀ x ∈ xs2, VM w.heap.size x w') ∧ Rt w' p K (some b) ∧ Chg (fpr p) w w' ∧ TI one N b0 (i + 1) (xs2.map pr) b) := by
            have hw2 : Chg (fun i_1 => Value.ownBlock (.slice ad i c) = some i_1) w2 w' := by exact ((Chg.alloc (fun i_1 => Value.ownBlock (.slice ad i c) = some i_1) w2 (.cells #[.slice x.la x.ln x.lc, .slice x.sa x.sn x.sc] 45)).trans HP'.out.chg.1 (fun _ _ e => e))
            have hfp : ∀ j, Value.ownBlock (.slice ad i c) = some j → w.heap.size ≤ j := fun j hj => (HOW2.out.lt j hj).1
            refine hidden ⟨xs ++ [x], t, _, _, by rw [List.length_append, HXL.out]; rfl, ?_, fun y hy => ?_, HR2.out.chg hw2 (fun e => by have := hfp p e; omega) (fun e => by have := hfp K e; omega), HC2.out.trans hw2 (fun j hj e => absurd (hfp j e) (by omega)), ?_⟩
            · rw [List.length_append, HXL.out, List.flatMap_append]
              simpa [Ser.cells] using HO'.out
            · refine HST.out _ y w2 w' _ ?_ hw2 (fun j hj => .inr (ty_owns HOW2.out hj))
              rcases List.mem_append.1 hy with hy | hy
              · exact HVM2.out y hy
              · rw [List.mem_singleton] at hy
                subst hy
                exact HVX.out
            · rw [List.map_append]
              show TI one N b0 (i + 1) (xs.map pr ++ [pr x]) t
              rw [HPX.out]
              exact HNO.out
          clear HO' HP'
          go_wp2_with fail
          refine ⟨⟨i + 1, by first | rfl | simp, by omega, hI2⟩, ?_⟩
          show N - ((i : Int) + 1).toNat < N - (i : Int).toNat
          omega
      · obtain rfl : i = N := by omega
        go_wp2_with fail
        go_ret
        rw [HT.out.done]
        refine ⟨_, rfl, HRT.out, HCC.out, fun l t h => ?_, fun h => (by cases h)⟩
        injection h with h
        injection h with h1 h2
        subst h1
        refine ⟨xs, rfl, ⟨ad, c, by rw [HXL.out]; rfl⟩, ?_, HVM.out⟩
        rw [HXL.out]
        exact HOW.out

end Go.Proofs.YtalmpmhnkilalaaGreatDoor
