import Derived.Test.YtalmpmhnkilalaaGreatDoorWwC
import Derived.Test.YtalmpmhnkilalaaGreatDoorChS
/-
  Package wire's writer: putEach, purely, and over labels.
-/
namespace Go.Proofs.YtalmpmhnkilalaaGreatDoor
open Go.RowKit
set_option linter.unusedVariables false

/-- Each of them by one, up to what may not be. -/
def eachS {α : Type} (step : Ws → α → Ws) (l : List α) (s : Ws) : Ws := l.foldl (fun s x => if s.wrong then s else step s x) s
theorem eachS_stuck {α : Type} (step : Ws → α → Ws) : ∀ (l : List α) (s : Ws), s.wrong = true → eachS step l s = s
  | [], s, _ => rfl
  | x :: r, s, h => by
    show eachS step r (if s.wrong then s else step s x) = s
    rw [if_pos h]
    exact eachS_stuck step r s h
theorem eachS_snoc {α : Type} (step : Ws → α → Ws) (l : List α) (x : α) (s : Ws) (h : (eachS step l s).wrong = false) : eachS step (l ++ [x]) s = step (eachS step l s) x := by
  unfold eachS at *
  rw [List.foldl_append]
  show (if _ then _ else _) = _
  rw [if_neg (by rw [h]; simp)]
theorem eachS_stop {α : Type} (step : Ws → α → Ws) (l : List α) (i : Nat) (s : Ws) (h : (eachS step (l.take i) s).wrong = true) : eachS step l s = eachS step (l.take i) s := by
  have e := eachS_stuck step (l.drop i) _ h
  rw [← e]
  unfold eachS
  rw [← List.foldl_append, List.take_append_drop]
/-- putEach, purely. -/
def Ws.each {α : Type} (s : Ws) (most : Nat) (step : Ws → α → Ws) (l : List α) : Ws := eachS step l ((s.must (decide (l.length ≤ most))).put (Q.enc l.length))

/-- A list in memory, of elements of so many cells. -/
def Es (w : World) (ad : Option Addr) (k : Nat) (L : List (List Value)) : Prop :=
  L ≠ [] → ∃ b off, ad = some ⟨b, off, none⟩ ∧ b < w.heap.size ∧ ∀ i x, L[i]? = some x → ∀ j v, x[j]? = some v → w.cell? ⟨b, off + i * k + j, none⟩ = some v
theorem Es.chg {w w' : World} {F : Nat → Prop} {ad : Option Addr} {k : Nat} {L : List (List Value)} (h : Es w ad k L) (hc : Chg F w w') (hF : ∀ a, ad = some a → L ≠ [] → ¬ F a.block) : Es w' ad k L := by
  intro h0
  obtain ⟨b, off, e, hlt, hl⟩ := h h0
  refine ⟨b, off, e, Nat.lt_of_lt_of_le hlt hc.size, fun i x hx j v hv => ?_⟩
  rw [World.cell?_of_block (hc.block b hlt (hF _ e h0))]
  exact hl i x hx j v hv

structure La where
  n : ByteArray
  v : ByteArray
def La.cells (x : La) : List Value := [.string x.n, .string x.v]
def stepL (s : Ws) (x : La) : Ws := s.label x.n x.v

set_option maxHeartbeats 2000000 in
set_option maxRecDepth 4000 in
theorem eachLP (f : FuncId) (fa : Value) (step : Ws → La → Ws) (p : Nat) (rb : Option Nat) (s : Ws) (ad : Option Addr) (N c most : Nat) (l : List La) (w : World) (hcf : ∀ a w, (callFunc f a).run Tryz.prog w = .ok (.enter f a) w) (h : Wt w p rb s)
    (hN : l.length = N) (hN9 : N ≤ 9223372036854775807) (hm : most ≤ 18446744073709551615) (hS : ∀ wx, Chg (fpt p rb) w wx → Es wx ad 2 (l.map La.cells))
    (hc : ∀ x ∈ l, ∀ s1 rb1 wx, Wt wx p rb1 s1 → Chg (fpt p rb) w wx → Moved w rb rb1 → Calls Tryz.prog f #[fa, .agg #[.string x.n, .string x.v]] wx (WQ wx p rb1 (step s1 x))) :
    Calls Tryz.prog 189 #[.pointer (some ⟨p, 0, none⟩), .slice ad N c, .int .u64 most, .func (.func f) #[fa] #[]] w (WQ w p rb (s.each most step l)) := by
  have HN := hidden hN
  have HW := hidden h
  have HS := hidden hS
  have HC := hidden hc
  clear hN h hS hc
  go_enter Tryz.func189, Tryz.ntmps189
  go_wp2_with fail
  refine (numberW p rb s N most w HW.out (by omega) hm).mono ?_
  rintro e w1 ⟨rfl, rb1, hW1, hC1, hM1⟩
  obtain ⟨s0, hs0⟩ : ∃ s0, (s.must (decide (N ≤ most))).put (Q.enc N) = s0 := ⟨_, rfl⟩
  rw [hs0] at hW1
  have H1 := hidden (show ∃ rb1, Wt w1 p rb1 (eachS step (l.take 0) s0) ∧ Chg (fpt p rb) w w1 ∧ Moved w rb rb1 from ⟨rb1, hW1, hC1, hM1⟩)
  have HE := hidden (show s.each most step l = eachS step l s0 by unfold Ws.each; rw [HN.out, hs0])
  clear hW1 hC1 hM1 hs0
  go_wp2_with fail
  go_loopw [9, 18] (fun v9 v18 wx => ∃ i : Nat, v18 = .int .i64 (i : Int) ∧ i ≤ N ∧ Hid (∃ rb1, Wt wx p rb1 (eachS step (l.take i) s0) ∧ Chg (fpt p rb) w wx ∧ Moved w rb rb1)) (fun _ v18 _ => N - (intOf v18).toNat)
  case atStart => exact ⟨0, rfl, by omega, H1⟩
  case round =>
    obtain ⟨i, rfl, hi, hI⟩ := hrel
    clear H1
    by_cases hin : i < N
    · obtain ⟨x, hx⟩ : ∃ x, l[i]? = some x := ⟨l[i]'(by have := HN.out; omega), by simp⟩
      obtain ⟨rb2, hW2, hC2, hM2⟩ := hI.out
      have hxm : (l.map La.cells)[i]? = some [.string x.n, .string x.v] := by rw [List.getElem?_map, hx]; rfl
      obtain ⟨bb, off, rfl, hbb, hcell⟩ := HS.out _ hC2 (by intro h0; rw [h0] at hxm; simp at hxm)
      have c0 := hcell i _ hxm 0 _ rfl
      have c1 := hcell i _ hxm 1 _ rfl
      rw [Nat.add_zero] at c0
      have htk : l.take (i + 1) = l.take i ++ [x] := by rw [List.take_add_one, hx]; rfl
      have HX := hidden (And.intro (List.mem_of_getElem? hx) htk)
      have hW3 := hW2
      obtain ⟨v3, hW3⟩ := hW3
      have c3 : (wr.alloc (.cells #[.string x.n, .string x.v] 47)).cell? ⟨p, 3, none⟩ = some (.bool (eachS step (l.take i) s0).wrong) := (hW3.blk.alloc _).cell 3
      have bw : Below wr.heap.size wr (wr.alloc (.cells #[.string x.n, .string x.v] 47)) := (Below.refl _ _).alloc (Nat.le_refl _) _
      have HW4 := hidden (hW2.later bw)
      have HC4 := hidden (hC2.trans (Chg.of_below (F := fpt p rb2) bw) (fun i hi hf => fpt_moved hM2 i hi hf))
      have HM4 := hidden hM2
      clear hcell hx htk hbb hxm hW2 hW3 hC2 hM2 bw
      cases hwr : (eachS step (l.take i) s0).wrong with
      | true =>
        rw [hwr] at c3
        have HR := hidden hwr
        clear hwr
        go_wp2_with fail
        first | go_ret | go_end0
        refine ⟨rfl, rb2, ?_, HC4.out, HM4.out⟩
        rw [HE.out, eachS_stop step l i s0 HR.out]
        exact HW4.out
      | false =>
        rw [hwr] at c3
        have HR := hidden hwr
        clear hwr
        go_wp2_with fail
        refine (HC.out x HX.out.1 _ rb2 _ HW4.out HC4.out HM4.out).mono ?_
        rintro e w5 hQ
        have HQ := hidden (hQ.pre HC4.out HM4.out)
        obtain ⟨rfl, hQ⟩ := hQ
        clear hQ c0 c1 c3
        go_wp2_with fail
        refine ⟨⟨i + 1, by first | rfl | simp, by omega, hidden ?_⟩, ?_⟩
        · rw [HX.out.2, eachS_snoc step _ x s0 HR.out]
          exact HQ.out.2
        · show N - ((i : Int) + 1).toNat < N - (i : Int).toNat
          omega
    · have hiN : i = N := by omega
      have hT := hidden hI.out
      clear hI
      go_wp2_with fail
      go_end0
      have h9 := hT.out
      rw [List.take_of_length_le (by have := HN.out; omega)] at h9
      rw [HE.out]
      exact ⟨rfl, h9⟩

end Go.Proofs.YtalmpmhnkilalaaGreatDoor

/-
  Package wire's writer: putEach over matchers, series, rows and texts. By genww18.py from WwE.
-/
namespace Go.Proofs.YtalmpmhnkilalaaGreatDoor
open Go.RowKit
set_option linter.unusedVariables false

structure Ma where
  n : ByteArray
  op : Int
  t : ByteArray
def Ma.cells (x : Ma) : List Value := [.string x.n, .int .i64 x.op, .string x.t]
/-- A series and where its lists lie. -/
structure Ser where
  la : Option Addr
  ln : Nat
  lc : Nat
  L : List La
  sa : Option Addr
  sn : Nat
  sc : Nat
  S : List Sm
def Ser.cells (x : Ser) : List Value := [.slice x.la x.ln x.lc, .slice x.sa x.sn x.sc]
/-- A row and where its labels lie. -/
structure Ror where
  la : Option Addr
  ln : Nat
  lc : Nat
  L : List La
  n : Nat
def Ror.cells (x : Ror) : List Value := [.slice x.la x.ln x.lc, .int .u64 (x.n : Int)]
structure Te where
  t : ByteArray
def Te.cells (x : Te) : List Value := [.string x.t]

set_option maxHeartbeats 2000000 in
set_option maxRecDepth 4000 in
theorem eachMP (f : FuncId) (fa : Value) (step : Ws → Ma → Ws) (p : Nat) (rb : Option Nat) (s : Ws) (ad : Option Addr) (N c most : Nat) (l : List Ma) (w : World) (hcf : ∀ a w, (callFunc f a).run Tryz.prog w = .ok (.enter f a) w) (h : Wt w p rb s)
    (hN : l.length = N) (hN9 : N ≤ 9223372036854775807) (hm : most ≤ 18446744073709551615) (hS : ∀ wx, Chg (fpt p rb) w wx → Es wx ad 3 (l.map Ma.cells))
    (hc : ∀ x ∈ l, ∀ s1 rb1 wx, Wt wx p rb1 s1 → Chg (fpt p rb) w wx → Moved w rb rb1 → Calls Tryz.prog f #[fa, .agg #[.string x.n, .int .i64 x.op, .string x.t]] wx (WQ wx p rb1 (step s1 x))) :
    Calls Tryz.prog 153 #[.pointer (some ⟨p, 0, none⟩), .slice ad N c, .int .u64 most, .func (.func f) #[fa] #[]] w (WQ w p rb (s.each most step l)) := by
  have HN := hidden hN
  have HW := hidden h
  have HS := hidden hS
  have HC := hidden hc
  clear hN h hS hc
  go_enter Tryz.func153, Tryz.ntmps153
  go_wp2_with fail
  refine (numberW p rb s N most w HW.out (by omega) hm).mono ?_
  rintro e w1 ⟨rfl, rb1, hW1, hC1, hM1⟩
  obtain ⟨s0, hs0⟩ : ∃ s0, (s.must (decide (N ≤ most))).put (Q.enc N) = s0 := ⟨_, rfl⟩
  rw [hs0] at hW1
  have H1 := hidden (show ∃ rb1, Wt w1 p rb1 (eachS step (l.take 0) s0) ∧ Chg (fpt p rb) w w1 ∧ Moved w rb rb1 from ⟨rb1, hW1, hC1, hM1⟩)
  have HE := hidden (show s.each most step l = eachS step l s0 by unfold Ws.each; rw [HN.out, hs0])
  clear hW1 hC1 hM1 hs0
  go_wp2_with fail
  go_loopw [9, 18] (fun v9 v18 wx => ∃ i : Nat, v18 = .int .i64 (i : Int) ∧ i ≤ N ∧ Hid (∃ rb1, Wt wx p rb1 (eachS step (l.take i) s0) ∧ Chg (fpt p rb) w wx ∧ Moved w rb rb1)) (fun _ v18 _ => N - (intOf v18).toNat)
  case atStart => exact ⟨0, rfl, by omega, H1⟩
  case round =>
    obtain ⟨i, rfl, hi, hI⟩ := hrel
    clear H1
    by_cases hin : i < N
    · obtain ⟨x, hx⟩ : ∃ x, l[i]? = some x := ⟨l[i]'(by have := HN.out; omega), by simp⟩
      obtain ⟨rb2, hW2, hC2, hM2⟩ := hI.out
      have hxm : (l.map Ma.cells)[i]? = some [.string x.n, .int .i64 x.op, .string x.t] := by rw [List.getElem?_map, hx]; rfl
      obtain ⟨bb, off, rfl, hbb, hcell⟩ := HS.out _ hC2 (by intro h0; rw [h0] at hxm; simp at hxm)
      have c0 := hcell i _ hxm 0 _ rfl
      have c1 := hcell i _ hxm 1 _ rfl
      have c2 := hcell i _ hxm 2 _ rfl
      rw [Nat.add_zero] at c0
      have htk : l.take (i + 1) = l.take i ++ [x] := by rw [List.take_add_one, hx]; rfl
      have HX := hidden (And.intro (List.mem_of_getElem? hx) htk)
      have hW3 := hW2
      obtain ⟨v3, hW3⟩ := hW3
      have c3 : (wr.alloc (.cells #[.string x.n, .int .i64 x.op, .string x.t] 52)).cell? ⟨p, 3, none⟩ = some (.bool (eachS step (l.take i) s0).wrong) := (hW3.blk.alloc _).cell 3
      have bw : Below wr.heap.size wr (wr.alloc (.cells #[.string x.n, .int .i64 x.op, .string x.t] 52)) := (Below.refl _ _).alloc (Nat.le_refl _) _
      have HW4 := hidden (hW2.later bw)
      have HC4 := hidden (hC2.trans (Chg.of_below (F := fpt p rb2) bw) (fun i hi hf => fpt_moved hM2 i hi hf))
      have HM4 := hidden hM2
      clear hcell hx htk hbb hxm hW2 hW3 hC2 hM2 bw
      cases hwr : (eachS step (l.take i) s0).wrong with
      | true =>
        rw [hwr] at c3
        have HR := hidden hwr
        clear hwr
        go_wp2_with fail
        first | go_ret | go_end0
        refine ⟨rfl, rb2, ?_, HC4.out, HM4.out⟩
        rw [HE.out, eachS_stop step l i s0 HR.out]
        exact HW4.out
      | false =>
        rw [hwr] at c3
        have HR := hidden hwr
        clear hwr
        go_wp2_with fail
        refine (HC.out x HX.out.1 _ rb2 _ HW4.out HC4.out HM4.out).mono ?_
        rintro e w5 hQ
        have HQ := hidden (hQ.pre HC4.out HM4.out)
        obtain ⟨rfl, hQ⟩ := hQ
        clear hQ c0 c1 c2 c3
        go_wp2_with fail
        refine ⟨⟨i + 1, by first | rfl | simp, by omega, hidden ?_⟩, ?_⟩
        · rw [HX.out.2, eachS_snoc step _ x s0 HR.out]
          exact HQ.out.2
        · show N - ((i : Int) + 1).toNat < N - (i : Int).toNat
          omega
    · have hiN : i = N := by omega
      have hT := hidden hI.out
      clear hI
      go_wp2_with fail
      go_end0
      have h9 := hT.out
      rw [List.take_of_length_le (by have := HN.out; omega)] at h9
      rw [HE.out]
      exact ⟨rfl, h9⟩

set_option maxHeartbeats 2000000 in
set_option maxRecDepth 4000 in
theorem eachEP (f : FuncId) (fa : Value) (step : Ws → Ser → Ws) (p : Nat) (rb : Option Nat) (s : Ws) (ad : Option Addr) (N c most : Nat) (l : List Ser) (w : World) (hcf : ∀ a w, (callFunc f a).run Tryz.prog w = .ok (.enter f a) w) (h : Wt w p rb s)
    (hN : l.length = N) (hN9 : N ≤ 9223372036854775807) (hm : most ≤ 18446744073709551615) (hS : ∀ wx, Chg (fpt p rb) w wx → Es wx ad 2 (l.map Ser.cells))
    (hc : ∀ x ∈ l, ∀ s1 rb1 wx, Wt wx p rb1 s1 → Chg (fpt p rb) w wx → Moved w rb rb1 → Calls Tryz.prog f #[fa, .agg #[.slice x.la x.ln x.lc, .slice x.sa x.sn x.sc]] wx (WQ wx p rb1 (step s1 x))) :
    Calls Tryz.prog 162 #[.pointer (some ⟨p, 0, none⟩), .slice ad N c, .int .u64 most, .func (.func f) #[fa] #[]] w (WQ w p rb (s.each most step l)) := by
  have HN := hidden hN
  have HW := hidden h
  have HS := hidden hS
  have HC := hidden hc
  clear hN h hS hc
  go_enter Tryz.func162, Tryz.ntmps162
  go_wp2_with fail
  refine (numberW p rb s N most w HW.out (by omega) hm).mono ?_
  rintro e w1 ⟨rfl, rb1, hW1, hC1, hM1⟩
  obtain ⟨s0, hs0⟩ : ∃ s0, (s.must (decide (N ≤ most))).put (Q.enc N) = s0 := ⟨_, rfl⟩
  rw [hs0] at hW1
  have H1 := hidden (show ∃ rb1, Wt w1 p rb1 (eachS step (l.take 0) s0) ∧ Chg (fpt p rb) w w1 ∧ Moved w rb rb1 from ⟨rb1, hW1, hC1, hM1⟩)
  have HE := hidden (show s.each most step l = eachS step l s0 by unfold Ws.each; rw [HN.out, hs0])
  clear hW1 hC1 hM1 hs0
  go_wp2_with fail
  go_loopw [9, 18] (fun v9 v18 wx => ∃ i : Nat, v18 = .int .i64 (i : Int) ∧ i ≤ N ∧ Hid (∃ rb1, Wt wx p rb1 (eachS step (l.take i) s0) ∧ Chg (fpt p rb) w wx ∧ Moved w rb rb1)) (fun _ v18 _ => N - (intOf v18).toNat)
  case atStart => exact ⟨0, rfl, by omega, H1⟩
  case round =>
    obtain ⟨i, rfl, hi, hI⟩ := hrel
    clear H1
    by_cases hin : i < N
    · obtain ⟨x, hx⟩ : ∃ x, l[i]? = some x := ⟨l[i]'(by have := HN.out; omega), by simp⟩
      obtain ⟨rb2, hW2, hC2, hM2⟩ := hI.out
      have hxm : (l.map Ser.cells)[i]? = some [.slice x.la x.ln x.lc, .slice x.sa x.sn x.sc] := by rw [List.getElem?_map, hx]; rfl
      obtain ⟨bb, off, rfl, hbb, hcell⟩ := HS.out _ hC2 (by intro h0; rw [h0] at hxm; simp at hxm)
      have c0 := hcell i _ hxm 0 _ rfl
      have c1 := hcell i _ hxm 1 _ rfl
      rw [Nat.add_zero] at c0
      have htk : l.take (i + 1) = l.take i ++ [x] := by rw [List.take_add_one, hx]; rfl
      have HX := hidden (And.intro (List.mem_of_getElem? hx) htk)
      have hW3 := hW2
      obtain ⟨v3, hW3⟩ := hW3
      have c3 : (wr.alloc (.cells #[.slice x.la x.ln x.lc, .slice x.sa x.sn x.sc] 45)).cell? ⟨p, 3, none⟩ = some (.bool (eachS step (l.take i) s0).wrong) := (hW3.blk.alloc _).cell 3
      have bw : Below wr.heap.size wr (wr.alloc (.cells #[.slice x.la x.ln x.lc, .slice x.sa x.sn x.sc] 45)) := (Below.refl _ _).alloc (Nat.le_refl _) _
      have HW4 := hidden (hW2.later bw)
      have HC4 := hidden (hC2.trans (Chg.of_below (F := fpt p rb2) bw) (fun i hi hf => fpt_moved hM2 i hi hf))
      have HM4 := hidden hM2
      clear hcell hx htk hbb hxm hW2 hW3 hC2 hM2 bw
      cases hwr : (eachS step (l.take i) s0).wrong with
      | true =>
        rw [hwr] at c3
        have HR := hidden hwr
        clear hwr
        go_wp2_with fail
        first | go_ret | go_end0
        refine ⟨rfl, rb2, ?_, HC4.out, HM4.out⟩
        rw [HE.out, eachS_stop step l i s0 HR.out]
        exact HW4.out
      | false =>
        rw [hwr] at c3
        have HR := hidden hwr
        clear hwr
        go_wp2_with fail
        refine (HC.out x HX.out.1 _ rb2 _ HW4.out HC4.out HM4.out).mono ?_
        rintro e w5 hQ
        have HQ := hidden (hQ.pre HC4.out HM4.out)
        obtain ⟨rfl, hQ⟩ := hQ
        clear hQ c0 c1 c3
        go_wp2_with fail
        refine ⟨⟨i + 1, by first | rfl | simp, by omega, hidden ?_⟩, ?_⟩
        · rw [HX.out.2, eachS_snoc step _ x s0 HR.out]
          exact HQ.out.2
        · show N - ((i : Int) + 1).toNat < N - (i : Int).toNat
          omega
    · have hiN : i = N := by omega
      have hT := hidden hI.out
      clear hI
      go_wp2_with fail
      go_end0
      have h9 := hT.out
      rw [List.take_of_length_le (by have := HN.out; omega)] at h9
      rw [HE.out]
      exact ⟨rfl, h9⟩

set_option maxHeartbeats 2000000 in
set_option maxRecDepth 4000 in
theorem eachRP (f : FuncId) (fa : Value) (step : Ws → Ror → Ws) (p : Nat) (rb : Option Nat) (s : Ws) (ad : Option Addr) (N c most : Nat) (l : List Ror) (w : World) (hcf : ∀ a w, (callFunc f a).run Tryz.prog w = .ok (.enter f a) w) (h : Wt w p rb s)
    (hN : l.length = N) (hN9 : N ≤ 9223372036854775807) (hm : most ≤ 18446744073709551615) (hS : ∀ wx, Chg (fpt p rb) w wx → Es wx ad 2 (l.map Ror.cells))
    (hc : ∀ x ∈ l, ∀ s1 rb1 wx, Wt wx p rb1 s1 → Chg (fpt p rb) w wx → Moved w rb rb1 → Calls Tryz.prog f #[fa, .agg #[.slice x.la x.ln x.lc, .int .u64 (x.n : Int)]] wx (WQ wx p rb1 (step s1 x))) :
    Calls Tryz.prog 166 #[.pointer (some ⟨p, 0, none⟩), .slice ad N c, .int .u64 most, .func (.func f) #[fa] #[]] w (WQ w p rb (s.each most step l)) := by
  have HN := hidden hN
  have HW := hidden h
  have HS := hidden hS
  have HC := hidden hc
  clear hN h hS hc
  go_enter Tryz.func166, Tryz.ntmps166
  go_wp2_with fail
  refine (numberW p rb s N most w HW.out (by omega) hm).mono ?_
  rintro e w1 ⟨rfl, rb1, hW1, hC1, hM1⟩
  obtain ⟨s0, hs0⟩ : ∃ s0, (s.must (decide (N ≤ most))).put (Q.enc N) = s0 := ⟨_, rfl⟩
  rw [hs0] at hW1
  have H1 := hidden (show ∃ rb1, Wt w1 p rb1 (eachS step (l.take 0) s0) ∧ Chg (fpt p rb) w w1 ∧ Moved w rb rb1 from ⟨rb1, hW1, hC1, hM1⟩)
  have HE := hidden (show s.each most step l = eachS step l s0 by unfold Ws.each; rw [HN.out, hs0])
  clear hW1 hC1 hM1 hs0
  go_wp2_with fail
  go_loopw [9, 18] (fun v9 v18 wx => ∃ i : Nat, v18 = .int .i64 (i : Int) ∧ i ≤ N ∧ Hid (∃ rb1, Wt wx p rb1 (eachS step (l.take i) s0) ∧ Chg (fpt p rb) w wx ∧ Moved w rb rb1)) (fun _ v18 _ => N - (intOf v18).toNat)
  case atStart => exact ⟨0, rfl, by omega, H1⟩
  case round =>
    obtain ⟨i, rfl, hi, hI⟩ := hrel
    clear H1
    by_cases hin : i < N
    · obtain ⟨x, hx⟩ : ∃ x, l[i]? = some x := ⟨l[i]'(by have := HN.out; omega), by simp⟩
      obtain ⟨rb2, hW2, hC2, hM2⟩ := hI.out
      have hxm : (l.map Ror.cells)[i]? = some [.slice x.la x.ln x.lc, .int .u64 (x.n : Int)] := by rw [List.getElem?_map, hx]; rfl
      obtain ⟨bb, off, rfl, hbb, hcell⟩ := HS.out _ hC2 (by intro h0; rw [h0] at hxm; simp at hxm)
      have c0 := hcell i _ hxm 0 _ rfl
      have c1 := hcell i _ hxm 1 _ rfl
      rw [Nat.add_zero] at c0
      have htk : l.take (i + 1) = l.take i ++ [x] := by rw [List.take_add_one, hx]; rfl
      have HX := hidden (And.intro (List.mem_of_getElem? hx) htk)
      have hW3 := hW2
      obtain ⟨v3, hW3⟩ := hW3
      have c3 : (wr.alloc (.cells #[.slice x.la x.ln x.lc, .int .u64 (x.n : Int)] 59)).cell? ⟨p, 3, none⟩ = some (.bool (eachS step (l.take i) s0).wrong) := (hW3.blk.alloc _).cell 3
      have bw : Below wr.heap.size wr (wr.alloc (.cells #[.slice x.la x.ln x.lc, .int .u64 (x.n : Int)] 59)) := (Below.refl _ _).alloc (Nat.le_refl _) _
      have HW4 := hidden (hW2.later bw)
      have HC4 := hidden (hC2.trans (Chg.of_below (F := fpt p rb2) bw) (fun i hi hf => fpt_moved hM2 i hi hf))
      have HM4 := hidden hM2
      clear hcell hx htk hbb hxm hW2 hW3 hC2 hM2 bw
      cases hwr : (eachS step (l.take i) s0).wrong with
      | true =>
        rw [hwr] at c3
        have HR := hidden hwr
        clear hwr
        go_wp2_with fail
        first | go_ret | go_end0
        refine ⟨rfl, rb2, ?_, HC4.out, HM4.out⟩
        rw [HE.out, eachS_stop step l i s0 HR.out]
        exact HW4.out
      | false =>
        rw [hwr] at c3
        have HR := hidden hwr
        clear hwr
        go_wp2_with fail
        refine (HC.out x HX.out.1 _ rb2 _ HW4.out HC4.out HM4.out).mono ?_
        rintro e w5 hQ
        have HQ := hidden (hQ.pre HC4.out HM4.out)
        obtain ⟨rfl, hQ⟩ := hQ
        clear hQ c0 c1 c3
        go_wp2_with fail
        refine ⟨⟨i + 1, by first | rfl | simp, by omega, hidden ?_⟩, ?_⟩
        · rw [HX.out.2, eachS_snoc step _ x s0 HR.out]
          exact HQ.out.2
        · show N - ((i : Int) + 1).toNat < N - (i : Int).toNat
          omega
    · have hiN : i = N := by omega
      have hT := hidden hI.out
      clear hI
      go_wp2_with fail
      go_end0
      have h9 := hT.out
      rw [List.take_of_length_le (by have := HN.out; omega)] at h9
      rw [HE.out]
      exact ⟨rfl, h9⟩

set_option maxHeartbeats 2000000 in
set_option maxRecDepth 4000 in
theorem eachTP (f : FuncId) (fa : Value) (step : Ws → Te → Ws) (p : Nat) (rb : Option Nat) (s : Ws) (ad : Option Addr) (N c most : Nat) (l : List Te) (w : World) (hcf : ∀ a w, (callFunc f a).run Tryz.prog w = .ok (.enter f a) w) (h : Wt w p rb s)
    (hN : l.length = N) (hN9 : N ≤ 9223372036854775807) (hm : most ≤ 18446744073709551615) (hS : ∀ wx, Chg (fpt p rb) w wx → Es wx ad 1 (l.map Te.cells))
    (hc : ∀ x ∈ l, ∀ s1 rb1 wx, Wt wx p rb1 s1 → Chg (fpt p rb) w wx → Moved w rb rb1 → Calls Tryz.prog f #[fa, .string x.t] wx (WQ wx p rb1 (step s1 x))) :
    Calls Tryz.prog 170 #[.pointer (some ⟨p, 0, none⟩), .slice ad N c, .int .u64 most, .func (.func f) #[fa] #[]] w (WQ w p rb (s.each most step l)) := by
  have HN := hidden hN
  have HW := hidden h
  have HS := hidden hS
  have HC := hidden hc
  clear hN h hS hc
  go_enter Tryz.func170, Tryz.ntmps170
  go_wp2_with fail
  refine (numberW p rb s N most w HW.out (by omega) hm).mono ?_
  rintro e w1 ⟨rfl, rb1, hW1, hC1, hM1⟩
  obtain ⟨s0, hs0⟩ : ∃ s0, (s.must (decide (N ≤ most))).put (Q.enc N) = s0 := ⟨_, rfl⟩
  rw [hs0] at hW1
  have H1 := hidden (show ∃ rb1, Wt w1 p rb1 (eachS step (l.take 0) s0) ∧ Chg (fpt p rb) w w1 ∧ Moved w rb rb1 from ⟨rb1, hW1, hC1, hM1⟩)
  have HE := hidden (show s.each most step l = eachS step l s0 by unfold Ws.each; rw [HN.out, hs0])
  clear hW1 hC1 hM1 hs0
  go_wp2_with fail
  go_loopw [9, 18] (fun v9 v18 wx => ∃ i : Nat, v18 = .int .i64 (i : Int) ∧ i ≤ N ∧ Hid (∃ rb1, Wt wx p rb1 (eachS step (l.take i) s0) ∧ Chg (fpt p rb) w wx ∧ Moved w rb rb1)) (fun _ v18 _ => N - (intOf v18).toNat)
  case atStart => exact ⟨0, rfl, by omega, H1⟩
  case round =>
    obtain ⟨i, rfl, hi, hI⟩ := hrel
    clear H1
    by_cases hin : i < N
    · obtain ⟨x, hx⟩ : ∃ x, l[i]? = some x := ⟨l[i]'(by have := HN.out; omega), by simp⟩
      obtain ⟨rb2, hW2, hC2, hM2⟩ := hI.out
      have hxm : (l.map Te.cells)[i]? = some [.string x.t] := by rw [List.getElem?_map, hx]; rfl
      obtain ⟨bb, off, rfl, hbb, hcell⟩ := HS.out _ hC2 (by intro h0; rw [h0] at hxm; simp at hxm)
      have c0 := hcell i _ hxm 0 _ rfl
      rw [Nat.add_zero, Nat.mul_one] at c0
      have htk : l.take (i + 1) = l.take i ++ [x] := by rw [List.take_add_one, hx]; rfl
      have HX := hidden (And.intro (List.mem_of_getElem? hx) htk)
      have hW3 := hW2
      obtain ⟨v3, hW3⟩ := hW3
      have c3 : wr.cell? ⟨p, 3, none⟩ = some (.bool (eachS step (l.take i) s0).wrong) := hW3.blk.cell 3
      have bw : Below wr.heap.size wr wr := (Below.refl _ _)
      have HW4 := hidden (hW2.later bw)
      have HC4 := hidden (hC2.trans (Chg.of_below (F := fpt p rb2) bw) (fun i hi hf => fpt_moved hM2 i hi hf))
      have HM4 := hidden hM2
      clear hcell hx htk hbb hxm hW2 hW3 hC2 hM2 bw
      cases hwr : (eachS step (l.take i) s0).wrong with
      | true =>
        rw [hwr] at c3
        have HR := hidden hwr
        clear hwr
        go_wp2_with fail
        first | go_ret | go_end0
        refine ⟨rfl, rb2, ?_, HC4.out, HM4.out⟩
        rw [HE.out, eachS_stop step l i s0 HR.out]
        exact HW4.out
      | false =>
        rw [hwr] at c3
        have HR := hidden hwr
        clear hwr
        go_wp2_with fail
        refine (HC.out x HX.out.1 _ rb2 _ HW4.out HC4.out HM4.out).mono ?_
        rintro e w5 hQ
        have HQ := hidden (hQ.pre HC4.out HM4.out)
        obtain ⟨rfl, hQ⟩ := hQ
        clear hQ c0 c3
        go_wp2_with fail
        refine ⟨⟨i + 1, by first | rfl | simp, by omega, hidden ?_⟩, ?_⟩
        · rw [HX.out.2, eachS_snoc step _ x s0 HR.out]
          exact HQ.out.2
        · show N - ((i : Int) + 1).toNat < N - (i : Int).toNat
          omega
    · have hiN : i = N := by omega
      have hT := hidden hI.out
      clear hI
      go_wp2_with fail
      go_end0
      have h9 := hT.out
      rw [List.take_of_length_le (by have := HN.out; omega)] at h9
      rw [HE.out]
      exact ⟨rfl, h9⟩

end Go.Proofs.YtalmpmhnkilalaaGreatDoor

/-
  Package wire's writer: labels, matchers, rows, texts.
-/
namespace Go.Proofs.YtalmpmhnkilalaaGreatDoor
open Go.RowKit
set_option linter.unusedVariables false

/-- What lies still while the writer writes. -/
theorem keep_on {w w1 : World} {p : Nat} {rb rb1 : Option Nat} {Q : World → Prop} (h : ∀ wx, Chg (fpt p rb) w wx → Q wx) (hC : Chg (fpt p rb) w w1) (hM : Moved w rb rb1) : ∀ wx, Chg (fpt p rb1) w1 wx → Q wx :=
  fun wx hx => h wx (hC.trans hx (fun i hi hf => fpt_moved hM i hi hf))

theorem labelsW (p : Nat) (rb : Option Nat) (s : Ws) (ad : Option Addr) (N c : Nat) (l : List La) (w : World) (h : Wt w p rb s) (hN : l.length = N) (hN9 : N ≤ 9223372036854775807) (hS : ∀ wx, Chg (fpt p rb) w wx → Es wx ad 2 (l.map La.cells)) :
    Calls Tryz.prog 183 #[.pointer (some ⟨p, 0, none⟩), .slice ad N c] w (WQ w p rb (s.each 16 stepL l)) := by
  have HW := hidden h
  have HN := hidden hN
  have HS := hidden hS
  clear h hN hS
  go_enter Tryz.func183, Tryz.ntmps183
  go_wp2_with fail
  refine (eachLP 190 (.pointer (some ⟨p, 0, none⟩)) stepL p rb s ad N c 16 l w (fun a w => by kernel_rfl) HW.out HN.out hN9 (by omega) HS.out (fun x _ s1 rb1 wx h1 _ _ => labelW p rb1 s1 x.n x.v wx h1)).mono ?_
  rintro e w3 hQ
  have HQ := hidden hQ
  obtain ⟨rfl, hQ⟩ := hQ
  clear hQ
  go_wp2_with fail
  go_end0
  exact HQ.out

def isOpB (op : Int) : Bool := decide (1 ≤ op ∧ op ≤ 4)
theorem isOpP (op : Int) (w : World) (h0 : -9223372036854775808 ≤ op) (h1 : op ≤ 9223372036854775807) : Calls Tryz.prog 179 #[.int .i64 op] w fun e w' => e = .returned (.bool (isOpB op)) ∧ Below w.heap.size w w' := by
  unfold isOpB
  by_cases a : 1 ≤ op
  · by_cases b : op ≤ 4
    · rw [decide_eq_true (And.intro a b)]
      go_enter Tryz.func179, Tryz.ntmps179
      go_wp2_with fail
      first | (go_region; skip) | skip
      go_wp2_with fail
      go_ret
      exact ⟨by first | rfl | simp, by first | exact Below.refl _ _ | exact (Below.refl _ _).drew | exact below_drewN (Below.refl _ _) _⟩
    · rw [decide_eq_false (fun h => b h.2)]
      go_enter Tryz.func179, Tryz.ntmps179
      go_wp2_with fail
      first | (go_region; skip) | skip
      go_wp2_with fail
      go_ret
      exact ⟨by first | rfl | simp, by first | exact Below.refl _ _ | exact (Below.refl _ _).drew | exact below_drewN (Below.refl _ _) _⟩
  · rw [decide_eq_false (fun h => a h.1)]
    go_enter Tryz.func179, Tryz.ntmps179
    go_wp2_with fail
    first | (go_region; skip) | skip
    go_wp2_with fail
    go_ret
    exact ⟨by first | rfl | simp, by first | exact Below.refl _ _ | exact (Below.refl _ _).drew | exact below_drewN (Below.refl _ _) _⟩

def u8 (n : Int) : Int := n % 256
/-- A matcher: its name, its operator, its text. -/
def Ws.matcher (s : Ws) (x : Ma) : Ws := ((((s.limited x.n 64).must (isOpB x.op)).put [u8 x.op]).limited x.t 64)
theorem matcherW (p : Nat) (rb : Option Nat) (s : Ws) (x : Ma) (w : World) (h : Wt w p rb s) (h0 : -9223372036854775808 ≤ x.op) (h1 : x.op ≤ 9223372036854775807) :
    Calls Tryz.prog 154 #[.pointer (some ⟨p, 0, none⟩), .agg #[.string x.n, .int .i64 x.op, .string x.t]] w (WQ w p rb (s.matcher x)) := by
  have HW := hidden h
  clear h
  go_enter Tryz.func154, Tryz.ntmps154
  go_wp2_with (refine wpList_box_blk rfl 52 (.tmp 1) rfl [.string x.n, .int .i64 x.op, .string x.t] rfl ?_; intro w2 B2 bl2 hz2; have HL2 := hidden bl2; have HB2 := hidden B2; have c2 := B2.cell 0; simp at c2; have HW2 := hidden (HW.out.later bl2); clear B2 bl2 hz2)
  refine (textW p rb s x.n w2 HW2.out).mono ?_
  rintro e w3 ⟨rfl, rb1, hW1, hC1, hM1⟩
  have HW1 := hidden hW1
  have HC1 := hidden hC1
  have HM1 := hidden hM1
  have HB3 := hidden (HW.out.apart (Nat.le_refl _) HB2.out hC1)
  have c3 := HB3.out.cell 1
  simp at c3
  clear hW1 hC1 hM1 c2
  go_wp2_with fail
  refine (isOpP x.op w3 h0 h1).mono ?_
  rintro e w4 ⟨rfl, b4⟩
  have HW4 := hidden (HW1.out.later b4)
  have HB4 := hidden (HB3.out.later b4)
  have HC4 := hidden (HC1.out.trans (Chg.of_below (F := fpt p rb1) b4) (fun i hi hf => fpt_moved HM1.out i hi hf))
  clear b4 c3
  go_wp2_with fail
  refine (mustW p rb1 _ (isOpB x.op) w4 HW4.out).mono ?_
  rintro e w5 ⟨rfl, rb2, hW2, hC2, hM2⟩
  have HC5 := hidden (HC4.out.trans hC2 (fun i hi hf => fpt_moved HM1.out i hi hf))
  have HM5 := hidden (HM1.out.trans hM2 HC4.out.size)
  have HB5 := hidden (HW.out.apart (Nat.le_refl _) HB2.out HC5.out)
  have HW5 := hidden hW2
  have c5 := HB5.out.cell 1
  simp at c5
  clear hW2 hC2 hM2
  go_wp2_with fail
  change Calls Tryz.prog 57 #[.pointer (some ⟨p, 0, none⟩), .int .u8 (u8 x.op)] w5 _
  refine (octetW p rb2 _ (u8 x.op) w5 HW5.out (by unfold u8; omega) (by unfold u8; omega)).mono ?_
  rintro e w6 ⟨rfl, rb3, hW3, hC3, hM3⟩
  have HC6 := hidden (HC5.out.trans hC3 (fun i hi hf => fpt_moved HM5.out i hi hf))
  have HM6 := hidden (HM5.out.trans hM3 HC5.out.size)
  have HB6 := hidden (HW.out.apart (Nat.le_refl _) HB2.out HC6.out)
  have HW6 := hidden hW3
  have c6 := HB6.out.cell 2
  simp at c6
  clear hW3 hC3 hM3 c5
  go_wp2_with fail
  refine (textW p rb3 _ x.t w6 HW6.out).mono ?_
  rintro e w7 hQ
  have HQ := hidden ((hQ.pre HC6.out HM6.out).later HL2.out)
  obtain ⟨rfl, hQ⟩ := hQ
  clear hQ
  go_wp2_with fail
  go_end0
  exact HQ.out

theorem matchersW (p : Nat) (rb : Option Nat) (s : Ws) (ad : Option Addr) (N c : Nat) (l : List Ma) (w : World) (h : Wt w p rb s) (hN : l.length = N) (hN9 : N ≤ 9223372036854775807) (hS : ∀ wx, Chg (fpt p rb) w wx → Es wx ad 3 (l.map Ma.cells)) (hO : ∀ x ∈ l, -9223372036854775808 ≤ x.op ∧ x.op ≤ 9223372036854775807) :
    Calls Tryz.prog 101 #[.pointer (some ⟨p, 0, none⟩), .slice ad N c] w (WQ w p rb (s.each 8 Ws.matcher l)) := by
  have HW := hidden h
  have HN := hidden hN
  have HS := hidden hS
  have HO := hidden hO
  clear h hN hS hO
  go_enter Tryz.func101, Tryz.ntmps101
  go_wp2_with fail
  refine (eachMP 154 (.pointer (some ⟨p, 0, none⟩)) Ws.matcher p rb s ad N c 8 l w (fun a w => by kernel_rfl) HW.out HN.out hN9 (by omega) HS.out (fun x hx s1 rb1 wx h1 _ _ => matcherW p rb1 s1 x wx h1 (HO.out x hx).1 (HO.out x hx).2)).mono ?_
  rintro e w3 hQ
  have HQ := hidden hQ
  obtain ⟨rfl, hQ⟩ := hQ
  clear hQ
  go_wp2_with fail
  go_end0
  exact HQ.out
def stepT (s : Ws) (x : Te) : Ws := s.limited x.t 64
theorem textsW (p : Nat) (rb : Option Nat) (s : Ws) (ad : Option Addr) (N c : Nat) (l : List Te) (w : World) (h : Wt w p rb s) (hN : l.length = N) (hN9 : N ≤ 9223372036854775807) (hS : ∀ wx, Chg (fpt p rb) w wx → Es wx ad 1 (l.map Te.cells)) :
    Calls Tryz.prog 143 #[.pointer (some ⟨p, 0, none⟩), .slice ad N c] w (WQ w p rb (s.each 18446744073709551615 stepT l)) := by
  have HW := hidden h
  have HN := hidden hN
  have HS := hidden hS
  clear h hN hS
  go_enter Tryz.func143, Tryz.ntmps143
  go_wp2_with fail
  refine (eachTP 89 (.pointer (some ⟨p, 0, none⟩)) stepT p rb s ad N c 18446744073709551615 l w (fun a w => by kernel_rfl) HW.out HN.out hN9 (by omega) HS.out (fun x _ s1 rb1 wx h1 _ _ => textW p rb1 s1 x.t wx h1)).mono ?_
  rintro e w3 hQ
  have HQ := hidden hQ
  obtain ⟨rfl, hQ⟩ := hQ
  clear hQ
  go_wp2_with fail
  go_end0
  exact HQ.out

/-- A row: its labels, its number. -/
def stepR (s : Ws) (x : Ror) : Ws := (((s.each 16 stepL x.L).must (decide (x.n ≤ 18446744073709551615))).put (Q.enc x.n))
/-- A row's labels in memory. -/
def RorM (w : World) (x : Ror) : Prop := Es w x.la 2 (x.L.map La.cells) ∧ x.L.length = x.ln ∧ x.ln ≤ 9223372036854775807 ∧ x.n ≤ 18446744073709551615
theorem rowW (p : Nat) (rb : Option Nat) (s : Ws) (x : Ror) (w : World) (h : Wt w p rb s) (hS : ∀ wx, Chg (fpt p rb) w wx → RorM wx x) :
    Calls Tryz.prog 167 #[.pointer (some ⟨p, 0, none⟩), .agg #[.slice x.la x.ln x.lc, .int .u64 (x.n : Int)]] w (WQ w p rb (stepR s x)) := by
  have HW := hidden h
  have HS := hidden hS
  clear h hS
  go_enter Tryz.func167, Tryz.ntmps167
  go_wp2_with (refine wpList_box_blk rfl 59 (.tmp 1) rfl [.slice x.la x.ln x.lc, .int .u64 (x.n : Int)] rfl ?_; intro w2 B2 bl2 hz2; have HL2 := hidden bl2; have HB2 := hidden B2; have c2 := B2.cell 0; simp at c2; have HW2 := hidden (HW.out.later bl2); clear B2 bl2 hz2)
  have hR := HS.out w (Chg.refl _ _)
  refine (labelsW p rb s x.la x.ln x.lc x.L w2 HW2.out hR.2.1 hR.2.2.1 (keep_on (Q := fun wx => Es wx x.la 2 (x.L.map La.cells)) (fun wx hx => (HS.out wx hx).1) (Chg.of_below HL2.out) (.inl rfl))).mono ?_
  rintro e w3 ⟨rfl, rb1, hW1, hC1, hM1⟩
  have HW1 := hidden hW1
  have HC1 := hidden hC1
  have HM1 := hidden hM1
  have c3 := (HW.out.apart (Nat.le_refl _) HB2.out hC1).cell 1
  simp at c3
  have hn := hR.2.2.2
  clear hW1 hC1 hM1 c2 hR
  go_wp2_with fail
  refine (numberW p rb1 _ x.n 18446744073709551615 w3 HW1.out hn (by omega)).mono ?_
  rintro e w4 hQ
  have HQ := hidden ((hQ.pre HC1.out HM1.out).later HL2.out)
  obtain ⟨rfl, hQ⟩ := hQ
  clear hQ
  go_wp2_with fail
  go_end0
  exact HQ.out

theorem rowsW (p : Nat) (rb : Option Nat) (s : Ws) (ad : Option Addr) (N c : Nat) (l : List Ror) (w : World) (h : Wt w p rb s) (hN : l.length = N) (hN9 : N ≤ 9223372036854775807) (hS : ∀ wx, Chg (fpt p rb) w wx → Es wx ad 2 (l.map Ror.cells)) (hR : ∀ x ∈ l, ∀ wx, Chg (fpt p rb) w wx → RorM wx x) :
    Calls Tryz.prog 135 #[.pointer (some ⟨p, 0, none⟩), .slice ad N c] w (WQ w p rb (s.each 18446744073709551615 stepR l)) := by
  have HW := hidden h
  have HN := hidden hN
  have HS := hidden hS
  have HR := hidden hR
  clear h hN hS hR
  go_enter Tryz.func135, Tryz.ntmps135
  go_wp2_with fail
  refine (eachRP 167 (.pointer (some ⟨p, 0, none⟩)) stepR p rb s ad N c 18446744073709551615 l w (fun a w => by kernel_rfl) HW.out HN.out hN9 (by omega) HS.out (fun x hx s1 rb1 wx h1 hC hM => rowW p rb1 s1 x wx h1 (keep_on (HR.out x hx) hC hM))).mono ?_
  rintro e w3 hQ
  have HQ := hidden hQ
  obtain ⟨rfl, hQ⟩ := hQ
  clear hQ
  go_wp2_with fail
  go_end0
  exact HQ.out

end Go.Proofs.YtalmpmhnkilalaaGreatDoor

/-
  Package wire's writer: areWrites.
-/
namespace Go.Proofs.YtalmpmhnkilalaaGreatDoor
open Go.RowKit
set_option linter.unusedVariables false

def sumW (l : List Ser) : Nat := (l.map (·.sn)).sum
/-- What a write's series hold. -/
def areW (l : List Ser) : Bool := l.all (fun x => decide (x.sn ≠ 0)) && decide (1 ≤ l.length ∧ l.length ≤ 64 ∧ sumW l ≤ 256)
theorem sumW_snoc (l : List Ser) (x : Ser) : sumW (l ++ [x]) = sumW l + x.sn := by simp [sumW]
theorem sumW_le (l : List Ser) (h : ∀ x ∈ l, x.sn ≤ 281474976710656) : sumW l ≤ l.length * 281474976710656 := by
  induction l with
  | nil => simp [sumW]
  | cons x r ih =>
    have h1 := h x (by simp)
    have h2 := ih (fun y hy => h y (by simp [hy]))
    have e : sumW (x :: r) = x.sn + sumW r := by simp [sumW]
    rw [e, List.length_cons]
    omega

set_option maxHeartbeats 2000000 in
set_option maxRecDepth 4000 in
theorem areWritesP (ad : Option Addr) (N c : Nat) (l : List Ser) (w : World) (hN : l.length = N) (hN9 : N ≤ 9223372036854775807) (hE : Es w ad 2 (l.map Ser.cells)) (hsn : ∀ x ∈ l, x.sn ≤ 281474976710656) :
    Calls Tryz.prog 152 #[.slice ad N c] w fun e w' => e = .returned (.bool (areW l)) ∧ Below w.heap.size w w' := by
  have HN := hidden hN
  have HE := hidden hE
  have HSN := hidden hsn
  clear hN hE hsn
  go_enter Tryz.func152, Tryz.ntmps152
  go_wp2_with fail
  go_loopw [2, 3, 5, 8] (fun v2 v3 v5 v8 wx => ∃ i : Nat, ∃ z : Int, v8 = .int .i64 (i : Int) ∧ v3 = .int .i64 z ∧ i ≤ N ∧ Hid (Below w.heap.size w wx ∧ (l.take i).all (fun x => decide (x.sn ≠ 0)) = true ∧ (i ≤ 64 → z = (sumW (l.take i) : Int)))) (fun _ _ _ v8 _ => N - (intOf v8).toNat)
  case atStart => exact ⟨0, 0, rfl, rfl, by omega, hidden ⟨Below.refl _ _, by simp, fun _ => by simp [sumW]⟩⟩
  case round =>
    obtain ⟨i, z, rfl, rfl, hi, hI⟩ := hrel
    by_cases hin : i < N
    · obtain ⟨x, hx⟩ : ∃ x, l[i]? = some x := ⟨l[i]'(by have := HN.out; omega), by simp⟩
      have hxm : (l.map Ser.cells)[i]? = some [.slice x.la x.ln x.lc, .slice x.sa x.sn x.sc] := by rw [List.getElem?_map, hx]; rfl
      obtain ⟨bb, off, rfl, hbb, hcell⟩ := (HE.out.chg (Chg.of_below (F := fun _ => False) hI.out.1) (fun _ _ _ e => e)) (by intro h0; rw [h0] at hxm; simp at hxm)
      have c0 := hcell i _ hxm 0 _ rfl
      have c1 := hcell i _ hxm 1 _ rfl
      rw [Nat.add_zero] at c0
      have htk : l.take (i + 1) = l.take i ++ [x] := by rw [List.take_add_one, hx]; rfl
      have hsx := HSN.out x (List.mem_of_getElem? hx)
      have HX := hidden (And.intro (List.mem_of_getElem? hx) htk)
      obtain ⟨k, hk⟩ : ∃ k, x.sn = k := ⟨_, rfl⟩
      rw [hk] at c1 hsx
      clear hcell hx htk hbb hxm
      by_cases h0 : k = 0
      · subst h0
        go_wp2_with fail
        go_ret
        refine ⟨?_, ?_⟩
        · have : areW l = false := by
            unfold areW
            have : l.all (fun x => decide (x.sn ≠ 0)) = false := by
              rw [List.all_eq_false]
              exact ⟨x, HX.out.1, by simp [hk]⟩
            rw [this]
            rfl
          rw [this]
          rfl
        · exact hI.out.1.trans (((Below.refl _ _).alloc (Nat.le_refl _) _).mono hI.out.1.size)
      · have hk0 : ¬ (k : Int) = 0 := by omega
        by_cases h64 : i < 64
        · have hz := hI.out.2.2 (by omega)
          have hle := sumW_le (l.take i) (fun y hy => HSN.out y (List.mem_of_mem_take hy))
          have hl : (l.take i).length ≤ 64 := by rw [List.length_take]; omega
          have hz1 : 0 ≤ z := by omega
          have hz2 : z ≤ 18014398509481984 := by rw [hz]; have := Nat.mul_le_mul_right 281474976710656 hl; omega
          have HZ := hidden hz
          clear hz hle hl
          go_wp2_with fail
          refine ⟨⟨i + 1, z + k, by first | rfl | simp, by first | rfl | simp, by omega, hidden ⟨hI.out.1.trans (((Below.refl _ _).alloc (Nat.le_refl _) _).mono hI.out.1.size), ?_, fun _ => ?_⟩⟩, ?_⟩
          · rw [HX.out.2, List.all_append, hI.out.2.1]
            simp [hk, h0]
          · rw [HX.out.2, sumW_snoc, HZ.out, hk]
            push_cast
            rfl
          · show N - ((i : Int) + 1).toNat < N - (i : Int).toNat
            omega
        · go_wp2_with fail
          refine ⟨⟨i + 1, _, by first | rfl | simp, rfl, by omega, hidden ⟨hI.out.1.trans (((Below.refl _ _).alloc (Nat.le_refl _) _).mono hI.out.1.size), ?_, fun _ => by omega⟩⟩, ?_⟩
          · rw [HX.out.2, List.all_append, hI.out.2.1]
            simp [hk, h0]
          · show N - ((i : Int) + 1).toNat < N - (i : Int).toNat
            omega
    · have hiN : i = N := by omega
      have hT : Hid (Below w.heap.size w wr ∧ l.all (fun x => decide (x.sn ≠ 0)) = true ∧ (N ≤ 64 → z = (sumW l : Int))) := hidden (by have h9 := hI.out; rw [List.take_of_length_le (by have := HN.out; omega)] at h9; rw [← hiN]; exact h9)
      have hA : areW l = decide (1 ≤ N ∧ N ≤ 64 ∧ sumW l ≤ 256) := by unfold areW; rw [hT.out.2.1, HN.out, Bool.true_and]
      have HA := hidden hA
      clear hI hA
      by_cases a1 : 1 ≤ N
      · by_cases a2 : N ≤ 64
        · have hz := hT.out.2.2 a2
          by_cases a3 : z ≤ 256
          · have HD := hidden (decide_eq_true (show 1 ≤ N ∧ N ≤ 64 ∧ sumW l ≤ 256 from ⟨a1, a2, by omega⟩))
            clear hz
            go_wp2_with fail
            go_ret
            exact ⟨by rw [HA.out, HD.out]; first | rfl | simp, hT.out.1⟩
          · have HD := hidden (decide_eq_false (show ¬ (1 ≤ N ∧ N ≤ 64 ∧ sumW l ≤ 256) from fun h => a3 (by omega)))
            clear hz
            go_wp2_with fail
            go_ret
            exact ⟨by rw [HA.out, HD.out]; first | rfl | simp, hT.out.1⟩
        · have HD := hidden (decide_eq_false (show ¬ (1 ≤ N ∧ N ≤ 64 ∧ sumW l ≤ 256) from fun h => a2 h.2.1))
          go_wp2_with fail
          go_ret
          exact ⟨by rw [HA.out, HD.out]; first | rfl | simp, hT.out.1⟩
      · have HD := hidden (decide_eq_false (show ¬ (1 ≤ N ∧ N ≤ 64 ∧ sumW l ≤ 256) from fun h => a1 h.1))
        go_wp2_with fail
        go_ret
        exact ⟨by rw [HA.out, HD.out]; first | rfl | simp, hT.out.1⟩

end Go.Proofs.YtalmpmhnkilalaaGreatDoor
