/-
  Words: lists of texts in memory; put.
-/
import Derived.Test.YtndegcgcbhcokaaDoorPuK
import Derived.Laws.CopyOwn
import Derived.Test.YtndegcgcbhcokaaDoorAnyW
namespace Go.Proofs.YtndegcgcbhcokaaDoor
open Go.RowKit
set_option linter.unusedVariables false
set_option linter.unusedSimpArgs false

theorem info9 : (Tryd.prog.info? 9).map (fun i => (i.zero, i.size, i.bytes)) = some (some (.string ⟨#[]⟩), 1, 16) := by kernel_rfl
theorem size9 : (Tryd.prog.info? 9).map (·.size) = some 1 := by kernel_rfl
abbrev Wl := List ByteArray
def sV (l : Wl) : List Value := l.map .string
theorem sV_length (l : Wl) : (sV l).length = l.length := by simp [sV]
theorem sV_one (l : Wl) : ∀ v ∈ sV l, v.oneCell' = true := by
  intro v hv
  obtain ⟨x, _, rfl⟩ := List.mem_map.1 hv
  rfl
theorem sV_get {l : Wl} {i : Nat} {x : ByteArray} (h : l[i]? = some x) : (sV l)[i]? = some (.string x) := by simp [sV, h]
theorem sV_append (a b : Wl) : sV (a ++ b) = sV a ++ sV b := by simp [sV]

/-- Where a word belongs. -/
def putI (l : Wl) (x : ByteArray) : Nat → Nat
  | 0 => 0
  | i + 1 => match l[i]? with
    | some y => if Op.bytesLess y.toList x.toList then i + 1 else putI l x i
    | none => i + 1
def putF (l : Wl) (x : ByteArray) : Wl := if l[putI l x l.length]? = some x then l else l.take (putI l x l.length) ++ x :: l.drop (putI l x l.length)
theorem putI_le (l : Wl) (x : ByteArray) : ∀ n, putI l x n ≤ n
  | 0 => by simp [putI]
  | n + 1 => by
    rw [putI]
    split
    · split
      · omega
      · have := putI_le l x n; omega
    · omega
theorem putF_len (l : Wl) (x : ByteArray) : (putF l x).length = l.length ∨ (putF l x).length = l.length + 1 := by
  unfold putF
  split
  · exact .inl rfl
  · right
    have := putI_le l x l.length
    simp
    omega

theorem splice_take {α : Type} (L : List α) (off m : Nat) (cs : List α) (h : off + cs.length ≤ m) (hL : off ≤ L.length) : (splice L off cs).take m = splice (L.take m) off cs := by
  unfold splice
  have hA : (L.take off ++ cs).length = off + cs.length := by simp; omega
  rw [← List.append_assoc, List.take_append, List.take_of_length_le (l := L.take off ++ cs) (by omega), hA, List.take_take, Nat.min_eq_left (by omega), List.drop_take, List.append_assoc]

/-- A copy within a row that is owned. -/
theorem wp_copy_owns {P : Program} {o : Oper} {a : Act} {w : World} {K : Act → World → Prop} {Q : Exit → Act → World → Prop} (hgd : o.guard = none) (d s : Operand) (dT sT : TypeId)
    (ho : o.op = .call { callee := .builtin .copy, args := #[d, s], argTypes := #[dT, sT] }) (elem : TypeId) (hu : P.underlying dT = some (.slice elem)) (hsz : (P.info? elem).map (·.size) = some 1)
    (dp sp : Option Addr) (dLen dCap sLen sCap : Nat) (hd : a.eval d = .slice dp dLen dCap) (hs : a.eval s = .slice sp sLen sCap)
    (base g off m cap : Nat) (xs : List Value) (hown : w.ownsRow base elem 1 (.slice (some ⟨g, 0, none⟩) m cap) m xs) (cs : List Value) (hn : cs.length = Nat.min sLen dLen)
    (hpos : 0 < cs.length → dp = some ⟨g, off, none⟩ ∧ ∃ ad, sp = some ad ∧ ∀ j v, cs[j]? = some v → w.cell? (ad.add j) = some v)
    (hfit : off + cs.length ≤ m) (h1 : ∀ v ∈ cs, v.oneCell' = true)
    (h : ∀ w', w'.ownsRow base elem 1 (.slice (some ⟨g, 0, none⟩) m cap) m (splice xs off cs) → Chg (fun i => i = g) w w' → K (a.put o.dst (goInt cs.length)) w') :
    Oper.wp P o a w K Q := by
  by_cases h0 : cs.length = 0
  · obtain rfl : cs = [] := List.eq_nil_of_length_eq_zero h0
    have hrun := run_copy_none (P := P) w dT sT o.type elem dp sp dLen dCap sLen sCap hu hsz (by simpa using hn.symm)
    unfold Oper.wp
    simp [execOp, ho, resolve, invoke, builtin, hd, hs, hrun, Result.andThen]
    exact h w (by simpa [splice] using hown) (Chg.refl _ _)
  · obtain ⟨rfl, ad, rfl, hsrc⟩ := hpos (by omega)
    have hl := hown.1
    rcases hown.2 with ⟨h0, _⟩ | ⟨g', cap', cur, hv, hb, hh, hnc, hc, hcs, ht⟩
    · cases h0
    · simp only [Value.slice.injEq, Option.some.injEq, Addr.mk.injEq] at hv
      obtain ⟨⟨rfl, _⟩, _, rfl⟩ := hv
      have hfit2 : off + cs.length ≤ cur.size := by omega
      have hrun := run_copy_row (P := P) w dT sT o.type elem g off dLen dCap ad sLen sCap cur elem cs hu hsz hh hn hsrc hfit2 h1
      unfold Oper.wp
      simp [execOp, ho, resolve, invoke, builtin, hd, hs, hrun, Result.andThen]
      refine h _ ⟨?_, .inr ⟨g, cap, (splice cur.toList off cs).toArray, rfl, hb, ?_, hnc, hc, ?_, ?_⟩⟩ ⟨rfl, rfl, rfl, by simp [World.setRow], fun k hk hne => setRow_other w g k _ hne⟩
      · rw [length_splice _ _ _ (by omega)]; exact hl
      · simpa [splice] using setRow_heap w g _ _ elem _ hh
      · rw [List.size_toArray, length_splice _ _ _ (by simpa using hfit2)]; simpa using hcs
      · rw [splice_take _ _ _ _ (by omega) (by simp; omega), ht]

/-- A word laid in. -/
theorem put_row (l : Wl) (x : ByteArray) (k : Nat) (hk : k ≤ l.length) : (splice (sV l ++ [.string x]) (k + 1) (sV (l.drop k))).set k (.string x) = sV (l.take k ++ x :: l.drop k) := by
  have h1 : (sV l ++ [Value.string x]).take (k + 1) = ((sV l ++ [Value.string x]).take k) ++ [((sV l ++ [Value.string x])[k]'(by simp [sV]; omega))] := by rw [List.take_succ_eq_append_getElem]
  have h2 : (sV l ++ [Value.string x]).take k = sV (l.take k) := by rw [List.take_append_of_le_length (by rw [sV_length]; exact hk)]; simp [sV]
  have h3 : (sV l ++ [Value.string x]).drop (k + 1 + (sV (l.drop k)).length) = [] := by
    apply List.drop_of_length_le
    simp [sV_length]
    omega
  unfold splice
  rw [h3, h1, h2, List.append_nil, List.append_assoc, List.set_append_right _ _ (by simp [sV]; omega)]
  have h4 : k - (sV (l.take k)).length = 0 := by simp [sV]; omega
  rw [h4, sV_append]
  simp [sV]

set_option maxRecDepth 100000 in
theorem sl_at (g9 c9 i m : Nat) (h1 : i ≤ m) (h2 : m ≤ c9) : ∃ dp, (∀ w : World, (Instr.sliceAt 22 (.slice (some ⟨g9, 0, none⟩) m c9) (some (.int .i64 (i : Int))) none none).run Tryd.prog w = .ok (.slice dp (m - i) (c9 - i)) w) ∧ (i < c9 → dp = some ⟨g9, i, none⟩) := by
  have hz : (i : Int) ≤ (m : Int) := by omega
  by_cases hc : c9 = i
  · have hz2 : (c9 : Int) = i := by omega
    refine ⟨some ⟨g9, 0, none⟩, fun w => ?_, fun h => by omega⟩
    simp [go_sem, hz, hc, h1, h2]
  · refine ⟨some ⟨g9, i, none⟩, fun w => ?_, fun h => rfl⟩
    simp [go_sem, hz, hc, h1, h2]

set_option maxRecDepth 100000 in
set_option maxHeartbeats 2000000 in
theorem put_r7 (base g9 c9 i n : Nat) (xs cs : List Value) (w : World) (a0 : Act) (Q : Exit → Act → World → Prop) (hsz : a0.tmps.size = 51)
    (s0 : a0.tmps.getD 0 undef = .slice (some ⟨g9, 0, none⟩) (n + 1) c9) (s5 : a0.tmps.getD 5 undef = .int .i64 (i : Int)) (hi : i ≤ n) (hc : n + 1 ≤ c9) (hn : n ≤ 1000)
    (hown : ∀ w1, Lat w w1 → w1.ownsRow base 9 1 (.slice (some ⟨g9, 0, none⟩) (n + 1) c9) (n + 1) xs) (hcs : cs.length = n - i) (hcell : ∀ w1, Lat w w1 → ∀ j v, cs[j]? = some v → w1.cell? ⟨g9, i + j, none⟩ = some v) (hone : ∀ v ∈ cs, v.oneCell' = true)
    (hQ : ∀ (v38 v39 v40 v41 v42 v43 v44 v45 v46 : Value) (w1 w2 : World), Lat w w1 → w2.ownsRow base 9 1 (.slice (some ⟨g9, 0, none⟩) (n + 1) c9) (n + 1) (splice xs (i + 1) cs) → Chg (fun b => b = g9) w1 w2 → Q .normal (((((((((a0.put (some 38) v38).put (some 39) v39).put (some 40) v40).put (some 41) v41).put (some 42) v42).put (some 43) v43).put (some 44) v44).put (some 45) v45).put (some 45) v46) w2) :
    Code.wp Tryd.prog ((Tryd.f67.body.bind (findRegion 7)).getD .skip) Q a0 w := by
  obtain ⟨dp, hdp, hdp2⟩ := sl_at g9 c9 (i + 1) (n + 1) (by omega) hc
  obtain ⟨sp, hsp, hsp2⟩ := sl_at g9 c9 i (n + 1) (by omega) hc
  have e1 : ((i + 1 : Nat) : Int) = (i : Int) + 1 := by omega
  rw [e1] at hdp
  conv => arg 2; whnf
  refine wp_region_last 7 Lat (TV [.slice (some ⟨g9, 0, none⟩) (n + 1) c9, .int .i64 (i : Int), .int .i64 ((i : Int) + 1), .slice dp (n + 1 - (i + 1)) (c9 - (i + 1)), .slice (some ⟨g9, 0, none⟩) (n + 1) c9, .int .i64 (i : Int), .slice sp (n + 1 - i) (c9 - i)]) (by kernel_rfl) (by kernel_rfl) (by kernel_rfl) (by rw [hsz]; kernel_rfl) (by kernel_rfl) (by kernel_rfl) Lat.refl Lat.trans (TV.stable _) (Lat.draw w) ?hop ?hlast
  case hlast =>
    intro o a w1 ho hL hS hT
    obtain rfl := Option.some.inj ho
    have k41 : a.tmps.getD 41 undef = .slice dp (n + 1 - (i + 1)) (c9 - (i + 1)) := hT 3 _ (by decide) rfl _ rfl
    have k44 : a.tmps.getD 44 undef = .slice sp (n + 1 - i) (c9 - i) := hT 6 _ (by decide) rfl _ rfl
    refine wp_copy_owns rfl (.tmp 41) (.tmp 44) 22 22 rfl 9 Tryd.underlying22 size9 dp sp (n + 1 - (i + 1)) (c9 - (i + 1)) (n + 1 - i) (c9 - i) k41 k44 base g9 (i + 1) (n + 1) c9 xs (hown w1 hL) cs (by rw [hcs]; show _ = min _ _; omega) (fun h0 => ⟨hdp2 (by omega), ⟨g9, i, none⟩, hsp2 (by omega), fun j v hv => by rw [Addr.add_lit]; exact hcell w1 hL j v hv⟩) (by omega) hone ?_
    intro w2 ho2 hc2
    have he := same_puts hS
    have hQ2 := hQ (a.tmps.getD 38 undef) (a.tmps.getD 39 undef) (a.tmps.getD 40 undef) (a.tmps.getD 41 undef) (a.tmps.getD 42 undef) (a.tmps.getD 43 undef) (a.tmps.getD 44 undef) (a.tmps.getD 45 undef) (goInt cs.length) w1 w2 hL ho2 hc2
    rw [he]
    exact hQ2
  case hop =>
    intro j o hj hi
    rcases (show j = 0 ∨ j = 1 ∨ j = 2 ∨ j = 3 ∨ j = 4 ∨ j = 5 ∨ j = 6 by omega) with rfl | rfl | rfl | rfl | rfl | rfl | rfl
    · obtain rfl := Option.some.inj hi
      intro a w1 hL hS hD
      have e0 := (hS.slot 0 (by kernel_rfl)).trans s0
      exact step_yes rfl (ok_value Lat.refl _ (by simp [execOp, Act.eval, e0, go_sem]) (TV.mk rfl))
    · obtain rfl := Option.some.inj hi
      intro a w1 hL hS hD
      have e0 := (hS.slot 5 (by kernel_rfl)).trans s5
      exact step_yes rfl (ok_value Lat.refl _ (by simp [execOp, Act.eval, e0, go_sem]) (TV.mk rfl))
    · obtain rfl := Option.some.inj hi
      intro a w1 hL hS hD
      have d1 : a.tmps.getD 39 undef = .int .i64 (i : Int) := hD ⟨1, .data⟩ (by simp) rfl _ rfl _ rfl
      have hwr : IntKind.i64.wrap ((i : Int) + 1) = (i : Int) + 1 := by rw [IntKind.wrap_i64]; omega
      exact step_yes rfl (ok_value Lat.refl _ (by simp [execOp, Act.eval, d1, go_sem, hwr]) (TV.mk rfl))
    · obtain rfl := Option.some.inj hi
      intro a w1 hL hS hD
      have d0 : a.tmps.getD 38 undef = .slice (some ⟨g9, 0, none⟩) (n + 1) c9 := hD ⟨0, .data⟩ (by simp) rfl _ rfl _ rfl
      have d2 : a.tmps.getD 40 undef = .int .i64 ((i : Int) + 1) := hD ⟨2, .data⟩ (by simp) rfl _ rfl _ rfl
      have hd := hdp w1
      exact step_yes rfl (ok_value Lat.refl _ (by simp [execOp, Act.eval, d0, d2, hd, Result.andThen]) (TV.mk rfl))
    · obtain rfl := Option.some.inj hi
      intro a w1 hL hS hD
      have e0 := (hS.slot 0 (by kernel_rfl)).trans s0
      exact step_yes rfl (ok_value Lat.refl _ (by simp [execOp, Act.eval, e0, go_sem]) (TV.mk rfl))
    · obtain rfl := Option.some.inj hi
      intro a w1 hL hS hD
      have e0 := (hS.slot 5 (by kernel_rfl)).trans s5
      exact step_yes rfl (ok_value Lat.refl _ (by simp [execOp, Act.eval, e0, go_sem]) (TV.mk rfl))
    · obtain rfl := Option.some.inj hi
      intro a w1 hL hS hD
      have d0 : a.tmps.getD 42 undef = .slice (some ⟨g9, 0, none⟩) (n + 1) c9 := hD ⟨4, .data⟩ (by simp) rfl _ rfl _ rfl
      have d2 : a.tmps.getD 43 undef = .int .i64 (i : Int) := hD ⟨5, .data⟩ (by simp) rfl _ rfl _ rfl
      have hd := hsp w1
      exact step_yes rfl (ok_value Lat.refl _ (by simp [execOp, Act.eval, d0, d2, hd, Result.andThen]) (TV.mk rfl))

end Go.Proofs.YtndegcgcbhcokaaDoor
