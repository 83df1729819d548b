import Derived.Test.YtalmpmhnkilalaaGreatDoorWwC
import Derived.Test.YtalmpmhnkilalaaGreatDoorChS
/-
  Package wire's writer: putEach, purely, and over labels.
-/
namespace Go.Proofs.YtalmpmhnkilalaaGreatDoor
open Go.RowKit
set_option linter.unusedVariables false

/-- Each of them by one, up to what may not be. -/
def eachS {α : Type} (step : Ws → α → Ws) (l : List α) (s : Ws) : Ws := l.foldl (fun s x => if s.wrong then s else step s x) s
theorem eachS_stuck {α : Type} (step : Ws → α → Ws) : ∀ (l : List α) (s : Ws), s.wrong = true → eachS step l s = s
  | [], s, _ => rfl
  | x :: r, s, h => by
    show eachS step r (if s.wrong then s else step s x) = s
    rw [if_pos h]
    exact eachS_stuck step r s h
theorem eachS_snoc {α : Type} (step : Ws → α → Ws) (l : List α) (x : α) (s : Ws) (h : (eachS step l s).wrong = false) : eachS step (l ++ [x]) s = step (eachS step l s) x := by
  unfold eachS at *
  rw [List.foldl_append]
  show (if _ then _ else _) = _
  rw [if_neg (by rw [h]; simp)]
theorem eachS_stop {α : Type} (step : Ws → α → Ws) (l : List α) (i : Nat) (s : Ws) (h : (eachS step (l.take i) s).wrong = true) : eachS step l s = eachS step (l.take i) s := by
  have e := eachS_stuck step (l.drop i) _ h
  rw [← e]
  unfold eachS
  rw [← List.foldl_append, List.take_append_drop]
/-- putEach, purely. -/
def Ws.each {α : Type} (s : Ws) (most : Nat) (step : Ws → α → Ws) (l : List α) : Ws := eachS step l ((s.must (decide (l.length ≤ most))).put (Q.enc l.length))

/-- A list in memory, of elements of so many cells. -/
def Es (w : World) (ad : Option Addr) (k : Nat) (L : List (List Value)) : Prop :=
  L ≠ [] → ∃ b off, ad = some ⟨b, off, none⟩ ∧ b < w.heap.size ∧ ∀ i x, L[i]? = some x → ∀ j v, x[j]? = some v → w.cell? ⟨b, off + i * k + j, none⟩ = some v
theorem Es.chg {w w' : World} {F : Nat → Prop} {ad : Option Addr} {k : Nat} {L : List (List Value)} (h : Es w ad k L) (hc : Chg F w w') (hF : ∀ a, ad = some a → L ≠ [] → ¬ F a.block) : Es w' ad k L := by
  intro h0
  obtain ⟨b, off, e, hlt, hl⟩ := h h0
  refine ⟨b, off, e, Nat.lt_of_lt_of_le hlt hc.size, fun i x hx j v hv => ?_⟩
  rw [World.cell?_of_block (hc.block b hlt (hF _ e h0))]
  exact hl i x hx j v hv

structure La where
  n : ByteArray
  v : ByteArray
def La.cells (x : La) : List Value := [.string x.n, .string x.v]
def stepL (s : Ws) (x : La) : Ws := s.label x.n x.v

set_option maxHeartbeats 2000000 in
set_option maxRecDepth 4000 in
theorem eachLP (f : FuncId) (fa : Value) (step : Ws → La → Ws) (p : Nat) (rb : Option Nat) (s : Ws) (ad : Option Addr) (N c most : Nat) (l : List La) (w : World) (hcf : ∀ a w, (callFunc f a).run Tryz.prog w = .ok (.enter f a) w) (h : Wt w p rb s)
    (hN : l.length = N) (hN9 : N ≤ 9223372036854775807) (hm : most ≤ 18446744073709551615) (hS : ∀ wx, Chg (fpt p rb) w wx → Es wx ad 2 (l.map La.cells))
    (hc : ∀ x ∈ l, ∀ s1 rb1 wx, Wt wx p rb1 s1 → Chg (fpt p rb) w wx → Moved w rb rb1 → Calls Tryz.prog f #[fa, .agg #[.string x.n, .string x.v]] wx (WQ wx p rb1 (step s1 x))) :
    Calls Tryz.prog 189 #[.pointer (some ⟨p, 0, none⟩), .slice ad N c, .int .u64 most, .func (.func f) #[fa] #[]] w (WQ w p rb (s.each most step l)) := by
  have HN := hidden hN
  have HW := hidden h
  have HS := hidden hS
  have HC := hidden hc
  clear hN h hS hc
  go_enter Tryz.func189, Tryz.ntmps189
  go_wp2_with fail
  refine (numberW p rb s N most w HW.out (by omega) hm).mono ?_
  rintro e w1 ⟨rfl, rb1, hW1, hC1, hM1⟩
  obtain ⟨s0, hs0⟩ : ∃ s0, (s.must (decide (N ≤ most))).put (Q.enc N) = s0 := ⟨_, rfl⟩
  rw [hs0] at hW1
  have H1 := hidden (show ∃ rb1, Wt w1 p rb1 (eachS step (l.take 0) s0) ∧ Chg (fpt p rb) w w1 ∧ Moved w rb rb1 from ⟨rb1, hW1, hC1, hM1⟩)
  have HE := hidden (show s.each most step l = eachS step l s0 by unfold Ws.each; rw [HN.out, hs0])
  clear hW1 hC1 hM1 hs0
  go_wp2_with fail
  go_loopw [9, 18] (fun v9 v18 wx => ∃ i : Nat, v18 = .int .i64 (i : Int) ∧ i ≤ N ∧ Hid (∃ rb1, Wt wx p rb1 (eachS step (l.take i) s0) ∧ Chg (fpt p rb) w wx ∧ Moved w rb rb1)) (fun _ v18 _ => N - (intOf v18).toNat)
  case atStart => exact ⟨0, rfl, by omega, H1⟩
  case round =>
    obtain ⟨i, rfl, hi, hI⟩ := hrel
    clear H1
    by_cases hin : i < N
    · obtain ⟨x, hx⟩ : ∃ x, l[i]? = some x := ⟨l[i]'(by have := HN.out; omega), by simp⟩
      obtain ⟨rb2, hW2, hC2, hM2⟩ := hI.out
      have hxm : (l.map La.cells)[i]? = some [.string x.n, .string x.v] := by rw [List.getElem?_map, hx]; rfl
      obtain ⟨bb, off, rfl, hbb, hcell⟩ := HS.out _ hC2 (by intro h0; rw [h0] at hxm; simp at hxm)
      have c0 := hcell i _ hxm 0 _ rfl
      have c1 := hcell i _ hxm 1 _ rfl
      rw [Nat.add_zero] at c0
      have htk : l.take (i + 1) = l.take i ++ [x] := by rw [List.take_add_one, hx]; rfl
      have HX := hidden (And.intro (List.mem_of_getElem? hx) htk)
      have hW3 := hW2
      obtain ⟨v3, hW3⟩ := hW3
      have c3 : (wr.alloc (.cells #[.string x.n, .string x.v] 47)).cell? ⟨p, 3, none⟩ = some (.bool (eachS step (l.take i) s0).wrong) := (hW3.blk.alloc _).cell 3
      have bw : Below wr.heap.size wr (wr.alloc (.cells #[.string x.n, .string x.v] 47)) := (Below.refl _ _).alloc (Nat.le_refl _) _
      have HW4 := hidden (hW2.later bw)
      have HC4 := hidden (hC2.trans (Chg.of_below (F := fpt p rb2) bw) (fun i hi hf => fpt_moved hM2 i hi hf))
      have HM4 := hidden hM2
      clear hcell hx htk hbb hxm hW2 hW3 hC2 hM2 bw
      cases hwr : (eachS step (l.take i) s0).wrong with
      | true =>
        rw [hwr] at c3
        have HR := hidden hwr
        clear hwr
        go_wp2_with fail
        first | go_ret | go_end0
        refine ⟨rfl, rb2, ?_, HC4.out, HM4.out⟩
        rw [HE.out, eachS_stop step l i s0 HR.out]
        exact HW4.out
      | false =>
        rw [hwr] at c3
        have HR := hidden hwr
        clear hwr
        go_wp2_with fail
        refine (HC.out x HX.out.1 _ rb2 _ HW4.out HC4.out HM4.out).mono ?_
        rintro e w5 hQ
        have HQ := hidden (hQ.pre HC4.out HM4.out)
        obtain ⟨rfl, hQ⟩ := hQ
        clear hQ c0 c1 c3
        go_wp2_with fail
        refine ⟨⟨i + 1, by first | rfl | simp, by omega, hidden ?_⟩, ?_⟩
        · rw [HX.out.2, eachS_snoc step _ x s0 HR.out]
          exact HQ.out.2
        · show N - ((i : Int) + 1).toNat < N - (i : Int).toNat
          omega
    · have hiN : i = N := by omega
      have hT := hidden hI.out
      clear hI
      go_wp2_with fail
      go_end0
      have h9 := hT.out
      rw [List.take_of_length_le (by have := HN.out; omega)] at h9
      rw [HE.out]
      exact ⟨rfl, h9⟩

end Go.Proofs.YtalmpmhnkilalaaGreatDoor

/-
  Package wire's writer: putEach over matchers, series, rows and texts. By genww18.py from WwE.
-/
namespace Go.Proofs.YtalmpmhnkilalaaGreatDoor
open Go.RowKit
set_option linter.unusedVariables false

structure Ma where
  n : ByteArray
  op : Int
  t : ByteArray
def Ma.cells (x : Ma) : List Value := [.string x.n, .int .i64 x.op, .string x.t]
/-- A series and where its lists lie. -/
structure Ser where
  la : Option Addr
  ln : Nat
  lc : Nat
  L : List La
  sa : Option Addr
  sn : Nat
  sc : Nat
  S : List Sm
def Ser.cells (x : Ser) : List Value := [.slice x.la x.ln x.lc, .slice x.sa x.sn x.sc]
/-- A row and where its labels lie. -/
structure Ror where
  la : Option Addr
  ln : Nat
  lc : Nat
  L : List La
  n : Nat
def Ror.cells (x : Ror) : List Value := [.slice x.la x.ln x.lc, .int .u64 (x.n : Int)]
structure Te where
  t : ByteArray
def Te.cells (x : Te) : List Value := [.string x.t]

set_option maxHeartbeats 2000000 in
set_option maxRecDepth 4000 in
theorem eachMP (f : FuncId) (fa : Value) (step : Ws → Ma → Ws) (p : Nat) (rb : Option Nat) (s : Ws) (ad : Option Addr) (N c most : Nat) (l : List Ma) (w : World) (hcf : ∀ a w, (callFunc f a).run Tryz.prog w = .ok (.enter f a) w) (h : Wt w p rb s)
    (hN : l.length = N) (hN9 : N ≤ 9223372036854775807) (hm : most ≤ 18446744073709551615) (hS : ∀ wx, Chg (fpt p rb) w wx → Es wx ad 3 (l.map Ma.cells))
    (hc : ∀ x ∈ l, ∀ s1 rb1 wx, Wt wx p rb1 s1 → Chg (fpt p rb) w wx → Moved w rb rb1 → Calls Tryz.prog f #[fa, .agg #[.string x.n, .int .i64 x.op, .string x.t]] wx (WQ wx p rb1 (step s1 x))) :
    Calls Tryz.prog 153 #[.pointer (some ⟨p, 0, none⟩), .slice ad N c, .int .u64 most, .func (.func f) #[fa] #[]] w (WQ w p rb (s.each most step l)) := by
  have HN := hidden hN
  have HW := hidden h
  have HS := hidden hS
  have HC := hidden hc
  clear hN h hS hc
  go_enter Tryz.func153, Tryz.ntmps153
  go_wp2_with fail
  refine (numberW p rb s N most w HW.out (by omega) hm).mono ?_
  rintro e w1 ⟨rfl, rb1, hW1, hC1, hM1⟩
  obtain ⟨s0, hs0⟩ : ∃ s0, (s.must (decide (N ≤ most))).put (Q.enc N) = s0 := ⟨_, rfl⟩
  rw [hs0] at hW1
  have H1 := hidden (show ∃ rb1, Wt w1 p rb1 (eachS step (l.take 0) s0) ∧ Chg (fpt p rb) w w1 ∧ Moved w rb rb1 from ⟨rb1, hW1, hC1, hM1⟩)
  have HE := hidden (show s.each most step l = eachS step l s0 by unfold Ws.each; rw [HN.out, hs0])
  clear hW1 hC1 hM1 hs0
  go_wp2_with fail
  go_loopw [9, 18] (fun v9 v18 wx => ∃ i : Nat, v18 = .int .i64 (i : Int) ∧ i ≤ N ∧ Hid (∃ rb1, Wt wx p rb1 (eachS step (l.take i) s0) ∧ Chg (fpt p rb) w wx ∧ Moved w rb rb1)) (fun _ v18 _ => N - (intOf v18).toNat)
  case atStart => exact ⟨0, rfl, by omega, H1⟩
  case round =>
    obtain ⟨i, rfl, hi, hI⟩ := hrel
    clear H1
    by_cases hin : i < N
    · obtain ⟨x, hx⟩ : ∃ x, l[i]? = some x := ⟨l[i]'(by have := HN.out; omega), by simp⟩
      obtain ⟨rb2, hW2, hC2, hM2⟩ := hI.out
      have hxm : (l.map Ma.cells)[i]? = some [.string x.n, .int .i64 x.op, .string x.t] := by rw [List.getElem?_map, hx]; rfl
      obtain ⟨bb, off, rfl, hbb, hcell⟩ := HS.out _ hC2 (by intro h0; rw [h0] at hxm; simp at hxm)
      have c0 := hcell i _ hxm 0 _ rfl
      have c1 := hcell i _ hxm 1 _ rfl
      have c2 := hcell i _ hxm 2 _ rfl
      rw [Nat.add_zero] at c0
      have htk : l.take (i + 1) = l.take i ++ [x] := by rw [List.take_add_one, hx]; rfl
      have HX := hidden (And.intro (List.mem_of_getElem? hx) htk)
      have hW3 := hW2
      obtain ⟨v3, hW3⟩ := hW3
      have c3 : (wr.alloc (.cells #[.string x.n, .int .i64 x.op, .string x.t] 52)).cell? ⟨p, 3, none⟩ = some (.bool (eachS step (l.take i) s0).wrong) := (hW3.blk.alloc _).cell 3
      have bw : Below wr.heap.size wr (wr.alloc (.cells #[.string x.n, .int .i64 x.op, .string x.t] 52)) := (Below.refl _ _).alloc (Nat.le_refl _) _
      have HW4 := hidden (hW2.later bw)
      have HC4 := hidden (hC2.trans (Chg.of_below (F := fpt p rb2) bw) (fun i hi hf => fpt_moved hM2 i hi hf))
      have HM4 := hidden hM2
      clear hcell hx htk hbb hxm hW2 hW3 hC2 hM2 bw
      cases hwr : (eachS step (l.take i) s0).wrong with
      | true =>
        rw [hwr] at c3
        have HR := hidden hwr
        clear hwr
        go_wp2_with fail
        first | go_ret | go_end0
        refine ⟨rfl, rb2, ?_, HC4.out, HM4.out⟩
        rw [HE.out, eachS_stop step l i s0 HR.out]
        exact HW4.out
      | false =>
        rw [hwr] at c3
        have HR := hidden hwr
        clear hwr
        go_wp2_with fail
        refine (HC.out x HX.out.1 _ rb2 _ HW4.out HC4.out HM4.out).mono ?_
        rintro e w5 hQ
        have HQ := hidden (hQ.pre HC4.out HM4.out)
        obtain ⟨rfl, hQ⟩ := hQ
        clear hQ c0 c1 c2 c3
        go_wp2_with fail
        refine ⟨⟨i + 1, by first | rfl | simp, by omega, hidden ?_⟩, ?_⟩
        · rw [HX.out.2, eachS_snoc step _ x s0 HR.out]
          exact HQ.out.2
        · show N - ((i : Int) + 1).toNat < N - (i : Int).toNat
          omega
    · have hiN : i = N := by omega
      have hT := hidden hI.out
      clear hI
      go_wp2_with fail
      go_end0
      have h9 := hT.out
      rw [List.take_of_length_le (by have := HN.out; omega)] at h9
      rw [HE.out]
      exact ⟨rfl, h9⟩

set_option maxHeartbeats 2000000 in
set_option maxRecDepth 4000 in
theorem eachEP (f : FuncId) (fa : Value) (step : Ws → Ser → Ws) (p : Nat) (rb : Option Nat) (s : Ws) (ad : Option Addr) (N c most : Nat) (l : List Ser) (w : World) (hcf : ∀ a w, (callFunc f a).run Tryz.prog w = .ok (.enter f a) w) (h : Wt w p rb s)
    (hN : l.length = N) (hN9 : N ≤ 9223372036854775807) (hm : most ≤ 18446744073709551615) (hS : ∀ wx, Chg (fpt p rb) w wx → Es wx ad 2 (l.map Ser.cells))
    (hc : ∀ x ∈ l, ∀ s1 rb1 wx, Wt wx p rb1 s1 → Chg (fpt p rb) w wx → Moved w rb rb1 → Calls Tryz.prog f #[fa, .agg #[.slice x.la x.ln x.lc, .slice x.sa x.sn x.sc]] wx (WQ wx p rb1 (step s1 x))) :
    Calls Tryz.prog 162 #[.pointer (some ⟨p, 0, none⟩), .slice ad N c, .int .u64 most, .func (.func f) #[fa] #[]] w (WQ w p rb (s.each most step l)) := by
  have HN := hidden hN
  have HW := hidden h
  have HS := hidden hS
  have HC := hidden hc
  clear hN h hS hc
  go_enter Tryz.func162, Tryz.ntmps162
  go_wp2_with fail
  refine (numberW p rb s N most w HW.out (by omega) hm).mono ?_
  rintro e w1 ⟨rfl, rb1, hW1, hC1, hM1⟩
  obtain ⟨s0, hs0⟩ : ∃ s0, (s.must (decide (N ≤ most))).put (Q.enc N) = s0 := ⟨_, rfl⟩
  rw [hs0] at hW1
  have H1 := hidden (show ∃ rb1, Wt w1 p rb1 (eachS step (l.take 0) s0) ∧ Chg (fpt p rb) w w1 ∧ Moved w rb rb1 from ⟨rb1, hW1, hC1, hM1⟩)
  have HE := hidden (show s.each most step l = eachS step l s0 by unfold Ws.each; rw [HN.out, hs0])
  clear hW1 hC1 hM1 hs0
  go_wp2_with fail
  go_loopw [9, 18] (fun v9 v18 wx => ∃ i : Nat, v18 = .int .i64 (i : Int) ∧ i ≤ N ∧ Hid (∃ rb1, Wt wx p rb1 (eachS step (l.take i) s0) ∧ Chg (fpt p rb) w wx ∧ Moved w rb rb1)) (fun _ v18 _ => N - (intOf v18).toNat)
  case atStart => exact ⟨0, rfl, by omega, H1⟩
  case round =>
    obtain ⟨i, rfl, hi, hI⟩ := hrel
    clear H1
    by_cases hin : i < N
    · obtain ⟨x, hx⟩ : ∃ x, l[i]? = some x := ⟨l[i]'(by have := HN.out; omega), by simp⟩
      obtain ⟨rb2, hW2, hC2, hM2⟩ := hI.out
      have hxm : (l.map Ser.cells)[i]? = some [.slice x.la x.ln x.lc, .slice x.sa x.sn x.sc] := by rw [List.getElem?_map, hx]; rfl
      obtain ⟨bb, off, rfl, hbb, hcell⟩ := HS.out _ hC2 (by intro h0; rw [h0] at hxm; simp at hxm)
      have c0 := hcell i _ hxm 0 _ rfl
      have c1 := hcell i _ hxm 1 _ rfl
      rw [Nat.add_zero] at c0
      have htk : l.take (i + 1) = l.take i ++ [x] := by rw [List.take_add_one, hx]; rfl
      have HX := hidden (And.intro (List.mem_of_getElem? hx) htk)
      have hW3 := hW2
      obtain ⟨v3, hW3⟩ := hW3
      have c3 : (wr.alloc (.cells #[.slice x.la x.ln x.lc, .slice x.sa x.sn x.sc] 45)).cell? ⟨p, 3, none⟩ = some (.bool (eachS step (l.take i) s0).wrong) := (hW3.blk.alloc _).cell 3
      have bw : Below wr.heap.size wr (wr.alloc (.cells #[.slice x.la x.ln x.lc, .slice x.sa x.sn x.sc] 45)) := (Below.refl _ _).alloc (Nat.le_refl _) _
      have HW4 := hidden (hW2.later bw)
      have HC4 := hidden (hC2.trans (Chg.of_below (F := fpt p rb2) bw) (fun i hi hf => fpt_moved hM2 i hi hf))
      have HM4 := hidden hM2
      clear hcell hx htk hbb hxm hW2 hW3 hC2 hM2 bw
      cases hwr : (eachS step (l.take i) s0).wrong with
      | true =>
        rw [hwr] at c3
        have HR := hidden hwr
        clear hwr
        go_wp2_with fail
        first | go_ret | go_end0
        refine ⟨rfl, rb2, ?_, HC4.out, HM4.out⟩
        rw [HE.out, eachS_stop step l i s0 HR.out]
        exact HW4.out
      | false =>
        rw [hwr] at c3
        have HR := hidden hwr
        clear hwr
        go_wp2_with fail
        refine (HC.out x HX.out.1 _ rb2 _ HW4.out HC4.out HM4.out).mono ?_
        rintro e w5 hQ
        have HQ := hidden (hQ.pre HC4.out HM4.out)
        obtain ⟨rfl, hQ⟩ := hQ
        clear hQ c0 c1 c3
        go_wp2_with fail
        refine ⟨⟨i + 1, by first | rfl | simp, by omega, hidden ?_⟩, ?_⟩
        · rw [HX.out.2, eachS_snoc step _ x s0 HR.out]
          exact HQ.out.2
        · show N - ((i : Int) + 1).toNat < N - (i : Int).toNat
          omega
    · have hiN : i = N := by omega
      have hT := hidden hI.out
      clear hI
      go_wp2_with fail
      go_end0
      have h9 := hT.out
      rw [List.take_of_length_le (by have := HN.out; omega)] at h9
      rw [HE.out]
      exact ⟨rfl, h9⟩

set_option maxHeartbeats 2000000 in
set_option maxRecDepth 4000 in
theorem eachRP (f : FuncId) (fa : Value) (step : Ws → Ror → Ws) (p : Nat) (rb : Option Nat) (s : Ws) (ad : Option Addr) (N c most : Nat) (l : List Ror) (w : World) (hcf : ∀ a w, (callFunc f a).run Tryz.prog w = .ok (.enter f a) w) (h : Wt w p rb s)
    (hN : l.length = N) (hN9 : N ≤ 9223372036854775807) (hm : most ≤ 18446744073709551615) (hS : ∀ wx, Chg (fpt p rb) w wx → Es wx ad 2 (l.map Ror.cells))
    (hc : ∀ x ∈ l, ∀ s1 rb1 wx, Wt wx p rb1 s1 → Chg (fpt p rb) w wx → Moved w rb rb1 → Calls Tryz.prog f #[fa, .agg #[.slice x.la x.ln x.lc, .int .u64 (x.n : Int)]] wx (WQ wx p rb1 (step s1 x))) :
    Calls Tryz.prog 166 #[.pointer (some ⟨p, 0, none⟩), .slice ad N c, .int .u64 most, .func (.func f) #[fa] #[]] w (WQ w p rb (s.each most step l)) := by
  have HN := hidden hN
  have HW := hidden h
  have HS := hidden hS
  have HC := hidden hc
  clear hN h hS hc
  go_enter Tryz.func166, Tryz.ntmps166
  go_wp2_with fail
  refine (numberW p rb s N most w HW.out (by omega) hm).mono ?_
  rintro e w1 ⟨rfl, rb1, hW1, hC1, hM1⟩
  obtain ⟨s0, hs0⟩ : ∃ s0, (s.must (decide (N ≤ most))).put (Q.enc N) = s0 := ⟨_, rfl⟩
  rw [hs0] at hW1
  have H1 := hidden (show ∃ rb1, Wt w1 p rb1 (eachS step (l.take 0) s0) ∧ Chg (fpt p rb) w w1 ∧ Moved w rb rb1 from ⟨rb1, hW1, hC1, hM1⟩)
  have HE := hidden (show s.each most step l = eachS step l s0 by unfold Ws.each; rw [HN.out, hs0])
  clear hW1 hC1 hM1 hs0
  go_wp2_with fail
  go_loopw [9, 18] (fun v9 v18 wx => ∃ i : Nat, v18 = .int .i64 (i : Int) ∧ i ≤ N ∧ Hid (∃ rb1, Wt wx p rb1 (eachS step (l.take i) s0) ∧ Chg (fpt p rb) w wx ∧ Moved w rb rb1)) (fun _ v18 _ => N - (intOf v18).toNat)
  case atStart => exact ⟨0, rfl, by omega, H1⟩
  case round =>
    obtain ⟨i, rfl, hi, hI⟩ := hrel
    clear H1
    by_cases hin : i < N
    · obtain ⟨x, hx⟩ : ∃ x, l[i]? = some x := ⟨l[i]'(by have := HN.out; omega), by simp⟩
      obtain ⟨rb2, hW2, hC2, hM2⟩ := hI.out
      have hxm : (l.map Ror.cells)[i]? = some [.slice x.la x.ln x.lc, .int .u64 (x.n : Int)] := by rw [List.getElem?_map, hx]; rfl
      obtain ⟨bb, off, rfl, hbb, hcell⟩ := HS.out _ hC2 (by intro h0; rw [h0] at hxm; simp at hxm)
      have c0 := hcell i _ hxm 0 _ rfl
      have c1 := hcell i _ hxm 1 _ rfl
      rw [Nat.add_zero] at c0
      have htk : l.take (i + 1) = l.take i ++ [x] := by rw [List.take_add_one, hx]; rfl
      have HX := hidden (And.intro (List.mem_of_getElem? hx) htk)
      have hW3 := hW2
      obtain ⟨v3, hW3⟩ := hW3
      have c3 : (wr.alloc (.cells #[.slice x.la x.ln x.lc, .int .u64 (x.n : Int)] 59)).cell? ⟨p, 3, none⟩ = some (.bool (eachS step (l.take i) s0).wrong) := (hW3.blk.alloc _).cell 3
      have bw : Below wr.heap.size wr (wr.alloc (.cells #[.slice x.la x.ln x.lc, .int .u64 (x.n : Int)] 59)) := (Below.refl _ _).alloc (Nat.le_refl _) _
      have HW4 := hidden (hW2.later bw)
      have HC4 := hidden (hC2.trans (Chg.of_below (F := fpt p rb2) bw) (fun i hi hf => fpt_moved hM2 i hi hf))
      have HM4 := hidden hM2
      clear hcell hx htk hbb hxm hW2 hW3 hC2 hM2 bw
      cases hwr : (eachS step (l.take i) s0).wrong with
      | true =>
        rw [hwr] at c3
        have HR := hidden hwr
        clear hwr
        go_wp2_with fail
        first | go_ret | go_end0
        refine ⟨rfl, rb2, ?_, HC4.out, HM4.out⟩
        rw [HE.out, eachS_stop step l i s0 HR.out]
        exact HW4.out
      | false =>
        rw [hwr] at c3
        have HR := hidden hwr
        clear hwr
        go_wp2_with fail
        refine (HC.out x HX.out.1 _ rb2 _ HW4.out HC4.out HM4.out).mono ?_
        rintro e w5 hQ
        have HQ := hidden (hQ.pre HC4.out HM4.out)
        obtain ⟨rfl, hQ⟩ := hQ
        clear hQ c0 c1 c3
        go_wp2_with fail
        refine ⟨⟨i + 1, by first | rfl | simp, by omega, hidden ?_⟩, ?_⟩
        · rw [HX.out.2, eachS_snoc step _ x s0 HR.out]
          exact HQ.out.2
        · show N - ((i : Int) + 1).toNat < N - (i : Int).toNat
          omega
    · have hiN : i = N := by omega
      have hT := hidden hI.out
      clear hI
      go_wp2_with fail
      go_end0
      have h9 := hT.out
      rw [List.take_of_length_le (by have := HN.out; omega)] at h9
      rw [HE.out]
      exact ⟨rfl, h9⟩

set_option maxHeartbeats 2000000 in
set_option maxRecDepth 4000 in
theorem eachTP (f : FuncId) (fa : Value) (step : Ws → Te → Ws) (p : Nat) (rb : Option Nat) (s : Ws) (ad : Option Addr) (N c most : Nat) (l : List Te) (w : World) (hcf : ∀ a w, (callFunc f a).run Tryz.prog w = .ok (.enter f a) w) (h : Wt w p rb s)
    (hN : l.length = N) (hN9 : N ≤ 9223372036854775807) (hm : most ≤ 18446744073709551615) (hS : ∀ wx, Chg (fpt p rb) w wx → Es wx ad 1 (l.map Te.cells))
    (hc : ∀ x ∈ l, ∀ s1 rb1 wx, Wt wx p rb1 s1 → Chg (fpt p rb) w wx → Moved w rb rb1 → Calls Tryz.prog f #[fa, .string x.t] wx (WQ wx p rb1 (step s1 x))) :
    Calls Tryz.prog 170 #[.pointer (some ⟨p, 0, none⟩), .slice ad N c, .int .u64 most, .func (.func f) #[fa] #[]] w (WQ w p rb (s.each most step l)) := by
  have HN := hidden hN
  have HW := hidden h
  have HS := hidden hS
  have HC := hidden hc
  clear hN h hS hc
  go_enter Tryz.func170, Tryz.ntmps170
  go_wp2_with fail
  refine (numberW p rb s N most w HW.out (by omega) hm).mono ?_
  rintro e w1 ⟨rfl, rb1, hW1, hC1, hM1⟩
  obtain ⟨s0, hs0⟩ : ∃ s0, (s.must (decide (N ≤ most))).put (Q.enc N) = s0 := ⟨_, rfl⟩
  rw [hs0] at hW1
  have H1 := hidden (show ∃ rb1, Wt w1 p rb1 (eachS step (l.take 0) s0) ∧ Chg (fpt p rb) w w1 ∧ Moved w rb rb1 from ⟨rb1, hW1, hC1, hM1⟩)
  have HE := hidden (show s.each most step l = eachS step l s0 by unfold Ws.each; rw [HN.out, hs0])
  clear hW1 hC1 hM1 hs0
  go_wp2_with fail
  go_loopw [9, 18] (fun v9 v18 wx => ∃ i : Nat, v18 = .int .i64 (i : Int) ∧ i ≤ N ∧ Hid (∃ rb1, Wt wx p rb1 (eachS step (l.take i) s0) ∧ Chg (fpt p rb) w wx ∧ Moved w rb rb1)) (fun _ v18 _ => N - (intOf v18).toNat)
  case atStart => exact ⟨0, rfl, by omega, H1⟩
  case round =>
    obtain ⟨i, rfl, hi, hI⟩ := hrel
    clear H1
    by_cases hin : i < N
    · obtain ⟨x, hx⟩ : ∃ x, l[i]? = some x := ⟨l[i]'(by have := HN.out; omega), by simp⟩
      obtain ⟨rb2, hW2, hC2, hM2⟩ := hI.out
      have hxm : (l.map Te.cells)[i]? = some [.string x.t] := by rw [List.getElem?_map, hx]; rfl
      obtain ⟨bb, off, rfl, hbb, hcell⟩ := HS.out _ hC2 (by intro h0; rw [h0] at hxm; simp at hxm)
      have c0 := hcell i _ hxm 0 _ rfl
      rw [Nat.add_zero, Nat.mul_one] at c0
      have htk : l.take (i + 1) = l.take i ++ [x] := by rw [List.take_add_one, hx]; rfl
      have HX := hidden (And.intro (List.mem_of_getElem? hx) htk)
      have hW3 := hW2
      obtain ⟨v3, hW3⟩ := hW3
      have c3 : wr.cell? ⟨p, 3, none⟩ = some (.bool (eachS step (l.take i) s0).wrong) := hW3.blk.cell 3
      have bw : Below wr.heap.size wr wr := (Below.refl _ _)
      have HW4 := hidden (hW2.later bw)
      have HC4 := hidden (hC2.trans (Chg.of_below (F := fpt p rb2) bw) (fun i hi hf => fpt_moved hM2 i hi hf))
      have HM4 := hidden hM2
      clear hcell hx htk hbb hxm hW2 hW3 hC2 hM2 bw
      cases hwr : (eachS step (l.take i) s0).wrong with
      | true =>
        rw [hwr] at c3
        have HR := hidden hwr
        clear hwr
        go_wp2_with fail
        first | go_ret | go_end0
        refine ⟨rfl, rb2, ?_, HC4.out, HM4.out⟩
        rw [HE.out, eachS_stop step l i s0 HR.out]
        exact HW4.out
      | false =>
        rw [hwr] at c3
        have HR := hidden hwr
        clear hwr
        go_wp2_with fail
        refine (HC.out x HX.out.1 _ rb2 _ HW4.out HC4.out HM4.out).mono ?_
        rintro e w5 hQ
        have HQ := hidden (hQ.pre HC4.out HM4.out)
        obtain ⟨rfl, hQ⟩ := hQ
        clear hQ c0 c3
        go_wp2_with fail
        refine ⟨⟨i + 1, by first | rfl | simp, by omega, hidden ?_⟩, ?_⟩
        · rw [HX.out.2, eachS_snoc step _ x s0 HR.out]
          exact HQ.out.2
        · show N - ((i : Int) + 1).toNat < N - (i : Int).toNat
          omega
    · have hiN : i = N := by omega
      have hT := hidden hI.out
      clear hI
      go_wp2_with fail
      go_end0
      have h9 := hT.out
      rw [List.take_of_length_le (by have := HN.out; omega)] at h9
      rw [HE.out]
      exact ⟨rfl, h9⟩

end Go.Proofs.YtalmpmhnkilalaaGreatDoor
