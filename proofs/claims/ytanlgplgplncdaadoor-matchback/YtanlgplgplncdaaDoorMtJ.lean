import Derived.Test.YtanlgplgplncdaaDoorMtH
import Derived.Laws.StructEq
/-
  What matchers hold, reckoned; opposites; the statements' own examples, purely.
-/
namespace Go.Proofs.YtanlgplgplncdaaDoor
open Go.RowKit
set_option linter.unusedVariables false
set_option linter.unusedSimpArgs false

/-- What the machine takes, reckoned. -/
def takesF (E : Es) (M : List Sp) : Nat → Nat → Bool → List UInt8 → Bool
  | 0, _, _, _ => false
  | f + 1, op, en, L => if L = [] then en else match fp L with
    | none => false
    | some (c, k) => takesF E M f (stF E.last op c 0 M 0 false).1 (stF E.last op c 0 M 0 false).2 (L.drop k)
theorem takesF_iff (E : Es) (M : List Sp) : ∀ (f op : Nat) (en : Bool) (L : List UInt8), L.length < f → (takesF E M f op en L = true ↔ OpB E M op en L)
  | 0, op, en, L, h => by omega
  | f + 1, op, en, L, h => by
    rw [takesF]
    by_cases h0 : L = []
    · rw [if_pos h0, h0, opb_nil]
    · rw [if_neg h0]
      cases h1 : fp L with
      | none =>
        simp only [Bool.false_eq_true, false_iff]
        exact opb_none h0 h1
      | some ck =>
        obtain ⟨c, k⟩ := ck
        simp only
        have hk := fp_len h1
        rw [takesF_iff E M f _ _ (L.drop k) (by rw [List.length_drop]; omega), ← opb_step h1]
theorem means_takes (l : List (List Pt)) (L : List UInt8) : Means l L ↔ takesF (machL l).1 (machL l).2 (L.length + 1) (machL l).1.first (machL l).1.emp L = true := by
  rw [takesF_iff _ _ _ _ _ _ (by omega), opb_means]


def takB (s v : List UInt8) : Bool := takesF (machL (prsL s)).1 (machL (prsL s)).2 (v.length + 1) (machL (prsL s)).1.first (machL (prsL s)).1.emp v
def holdB (op : Int) (t v : List UInt8) : Bool := if op = 1 then decide (v = t) else if op = 2 then !decide (v = t) else if op = 3 then takB t v else !takB t v
theorem bts_eq_iff {a b : ByteArray} : a = b ↔ bts a = bts b := ⟨fun h => by rw [h], fun h => L.bts_inj h⟩
open Classical in
theorem hold_B (x : Mt) (v : ByteArray) : x.hold v = holdB x.op (bts x.t) (bts v) := by
  have e1 : ∀ {i : Decidable (v = x.t)}, @decide (v = x.t) i = decide (bts v = bts x.t) := fun {i} => by
    rw [Bool.eq_iff_iff, decide_eq_true_iff, decide_eq_true_iff]; exact bts_eq_iff
  have e2 : ∀ {i : Decidable (Means (prsL (bts x.t)) (bts v))}, @decide (Means (prsL (bts x.t)) (bts v)) i = takB (bts x.t) (bts v) := fun {i} => by
    rw [Bool.eq_iff_iff, decide_eq_true_iff]; exact means_takes _ _
  unfold Mt.hold holdB
  rw [e1, e2]
def holdsB (l : List Mt) (lb : List L.Lb) : Bool := l.all fun x => holdB x.op (bts x.t) (L.getL lb (bts x.n))
theorem holds_B (l : List Mt) (lb : List L.Lb) : holdsL l lb = holdsB l lb := by
  unfold holdsL holdsB
  congr 1
  funext x
  rw [hold_B, show bts (gotL lb x.n) = L.getL lb (bts x.n) from L.bts_oft _]

def cA : ByteArray := ⟨#[97]⟩
def cB : ByteArray := ⟨#[98]⟩
def cC : ByteArray := ⟨#[99]⟩
def hl : List Mt := [⟨⟨#[97]⟩, 1, ⟨#[120]⟩⟩, ⟨⟨#[97]⟩, 2, ⟨#[]⟩⟩, ⟨⟨#[99]⟩, 1, ⟨#[]⟩⟩, ⟨⟨#[98]⟩, 3, ⟨#[120, 124, 121]⟩⟩, ⟨⟨#[99]⟩, 3, ⟨#[122, 42]⟩⟩, ⟨⟨#[97]⟩, 4, ⟨#[121, 46, 42]⟩⟩]
def h2 : List Mt := [⟨⟨#[99]⟩, 2, ⟨#[]⟩⟩]
def h3 : List Mt := [⟨⟨#[49, 97]⟩, 1, ⟨#[120]⟩⟩]
def h4 : List Mt := [⟨⟨#[97]⟩, 3, ⟨#[40]⟩⟩]
def h5 : List Mt := [⟨⟨#[97]⟩, 1, ⟨#[120, 34]⟩⟩, ⟨⟨#[98]⟩, 4, ⟨#[91, 94, 121, 93]⟩⟩]
def lbx : List L.Lb := [⟨⟨#[97]⟩, ⟨#[120]⟩⟩, ⟨⟨#[98]⟩, ⟨#[121]⟩⟩]
def tx1 : ByteArray := ⟨#[32, 123, 32, 98, 32, 33, 126, 32, 34, 121, 42, 34, 44, 97, 61, 34, 34, 32, 125, 32]⟩
def tx2 : ByteArray := ⟨#[123, 97, 61, 32, 126, 34, 120, 34, 125]⟩
def h6 : List Mt := [⟨L.oft [98], 4, L.oft [121, 42]⟩, ⟨L.oft [97], 1, L.oft []⟩]
theorem nk1 : newOk hl = true := by kernel_rfl
theorem nk2 : newOk h2 = true := by kernel_rfl
theorem nk3 : newOk h3 = false := by kernel_rfl
theorem nk4 : newOk h4 = false := by kernel_rfl
theorem hk1 : holdsL hl lbx = true := by rw [holds_B]; kernel_rfl
theorem hk2 : holdsL h2 lbx = false := by rw [holds_B]; kernel_rfl
theorem hk3 : holdsL (hl ++ h2) lbx = false := by rw [holds_B]; kernel_rfl
theorem pk1 : printM h5 = [123, 97, 61, 34, 120, 92, 34, 34, 44, 32, 98, 33, 126, 34, 91, 94, 121, 93, 34, 125] := by kernel_rfl
theorem pp1 : parseM (bts tx1) = .inr h6 := by kernel_rfl
theorem pp2 : parseM (bts tx2) = .inl 4 := by kernel_rfl

/-! ### opposites -/
def opp (o : Int) : Int := if o = 1 then 2 else if o = 2 then 1 else if o = 3 then 4 else 3
theorem may_op {x : Mt} (h : x.may = true) : x.op = 1 ∨ x.op = 2 ∨ x.op = 3 ∨ x.op = 4 := by
  unfold Mt.may txtOk at h
  by_cases h1 : x.op = 1
  · exact .inl h1
  · by_cases h2 : x.op = 2
    · exact .inr (.inl h2)
    · by_cases h3 : x.op = 3
      · exact .inr (.inr (.inl h3))
      · by_cases h4 : x.op = 4
        · exact .inr (.inr (.inr h4))
        · rw [if_neg h1, if_neg h2, if_neg h3, if_neg h4] at h; cases h
theorem opp_may {x : Mt} (h : x.may = true) : Mt.may ⟨x.n, opp x.op, x.t⟩ = true := by
  have ho := may_op h
  obtain ⟨n, o, t⟩ := x
  rcases ho with ho | ho | ho | ho
  all_goals
    simp only at ho
    subst ho
    exact h
theorem opp_hold {x : Mt} (h : x.may = true) (v : ByteArray) : Mt.hold ⟨x.n, opp x.op, x.t⟩ v = !x.hold v := by
  have ho := may_op h
  rw [hold_B, hold_B]
  obtain ⟨n, o, t⟩ := x
  rcases ho with ho | ho | ho | ho
  all_goals
    simp only at ho
    subst ho
    simp [opp, holdB]
theorem newOk_may {l : List Mt} (h : newOk l = true) {x : Mt} (hx : x ∈ l) : x.may = true := by
  unfold newOk at h
  rw [Bool.and_eq_true] at h
  exact List.all_eq_true.1 h.2 x hx
theorem newOk_one {x : Mt} (h : x.may = true) : newOk [x] = true := by unfold newOk; simp [h]
theorem newOk_rev {l : List Mt} (h : newOk l = true) : newOk l.reverse = true := by
  unfold newOk at h ⊢
  rw [List.length_reverse, List.all_reverse]
  exact h
theorem holds_rev (l : List Mt) (lb : List L.Lb) : holdsL l.reverse lb = holdsL l lb := by unfold holdsL; rw [List.all_reverse]
theorem holds_app (l m : List Mt) (lb : List L.Lb) : holdsL (l ++ m) lb = (holdsL l lb && holdsL m lb) := by unfold holdsL; rw [List.all_append]
theorem holds_one (x : Mt) (lb : List L.Lb) : holdsL [x] lb = x.hold (gotL lb x.n) := by unfold holdsL; simp

/-! ### New, told which way -/
theorem newOkP (B : Nat) (ad : Option Addr) (c n : Nat) (l : List Mt) (w : World) (hn : l.length = n) (hL : Ms w ad l) (hlen : n ≤ 9223372036854775807) (hT : L.Tb B w) (hk : newOk l = true) : Calls Tryd.prog 7 #[.slice ad n c] w fun e w' => ∃ s F, e = .returned (.tuple #[.pointer (some ⟨s, 0, none⟩), .int .i64 0]) ∧ StR F w' s l ∧ Below w.heap.size w w' := by
  subst hn
  refine (newP B ad c l w hL hlen hT).mono ?_
  rintro e w' ⟨hb, ⟨-, s, F, rfl, hS, -⟩ | ⟨hf, -⟩⟩
  · exact ⟨s, F, rfl, hS, hb⟩
  · rw [hk] at hf; cases hf
theorem newNoP (B : Nat) (ad : Option Addr) (c n : Nat) (l : List Mt) (w : World) (hn : l.length = n) (hL : Ms w ad l) (hlen : n ≤ 9223372036854775807) (hT : L.Tb B w) (hk : newOk l = false) : Calls Tryd.prog 7 #[.slice ad n c] w fun e w' => e = .returned (.tuple #[.pointer none, .int .i64 90]) ∧ Below w.heap.size w w' := by
  subst hn
  refine (newP B ad c l w hL hlen hT).mono ?_
  rintro e w' ⟨hb, ⟨hf, -⟩ | ⟨-, rfl⟩⟩
  · rw [hk] at hf; cases hf
  · exact ⟨rfl, hb⟩
theorem ms_blk {w : World} {g : Nat} {l : List Mt} (h : Blk w g 31 (L.cM l)) (hz : ∀ x ∈ l, OkM x) : Ms w (some ⟨g, 0, none⟩) l := by
  refine ⟨hz, fun h0 => ⟨g, 0, rfl, h.lt, fun i x hx => ?_⟩⟩
  have hc := L.cM_get l i x hx
  rw [Nat.zero_add, h.cell, h.cell, h.cell]
  exact hc
theorem ls_blk {w : World} {g : Nat} {l : List L.Lb} (h : Blk w g 50 (l.flatMap fun x => [.string x.n, .string x.v])) (hz : ∀ x ∈ l, x.n.size ≤ 9223372036854775807 ∧ x.v.size ≤ 9223372036854775807) : L.Ls w (some ⟨g, 0, none⟩) l := by
  refine ⟨hz, fun h0 => ⟨g, 0, rfl, h.lt, fun i x hx => ?_⟩⟩
  rw [Nat.zero_add, h.cell, h.cell]
  clear h hz h0
  induction l generalizing i with
  | nil => simp at hx
  | cons y t ih =>
    cases i with
    | zero => simp at hx; subst hx; exact ⟨rfl, rfl⟩
    | succ i =>
      have := ih i (by simpa using hx)
      rw [show (i + 1) * 2 = i * 2 + 1 + 1 by omega, show i * 2 + 1 + 1 + 1 = (i * 2 + 1) + 1 + 1 by omega]
      simpa using this

set_option maxRecDepth 100000 in
set_option maxHeartbeats 2000000 in
theorem fewP (ad : Option Addr) (n c : Nat) (w : World) (hnc : n ≤ c) (hc : c ≤ 9223372036854775807) (hno : ad = none → n = 0 ∧ c = 0) : Calls Tryd.prog 6 #[.slice ad n c] w fun e w' => e = .returned (.slice ad (min n 30) c) ∧ w' = w := by
  by_cases h : 30 < n
  · have hz : (30 : Int) < (n : Int) := by omega
    have hz2 : (30 : Int) ≤ (c : Int) := by omega
    rw [show min n 30 = 30 by omega]
    cases ad with
    | none => obtain ⟨rfl, rfl⟩ := hno rfl; omega
    | some x =>
      go_enter Tryd.func6, Tryd.ntmps6
      go_wp2
      go_ret
      exact ⟨by first | rfl | simp, rfl⟩
  · have hz : ¬ (30 : Int) < (n : Int) := by omega
    rw [show min n 30 = n by omega]
    go_enter Tryd.func6, Tryd.ntmps6
    go_wp2
    go_ret
    exact ⟨by first | rfl | simp, rfl⟩

end Go.Proofs.YtanlgplgplncdaaDoor

/-
  The statements' own examples.
-/
namespace Go.Proofs.YtanlgplgplncdaaDoor
open Go.RowKit
set_option linter.unusedVariables false
set_option linter.unusedSimpArgs false

theorem ok_lit {l : List Mt} (h : l.all (fun x => decide (x.n.size ≤ 1000) && decide (x.t.size ≤ 1000) && decide (-1000 ≤ x.op) && decide (x.op ≤ 1000)) = true) : ∀ x ∈ l, OkM x := by
  intro x hx
  have := List.all_eq_true.1 h x hx
  simp only [Bool.and_eq_true, decide_eq_true_eq] at this
  exact ⟨by omega, by omega, by omega, by omega⟩
theorem ok1 : ∀ x ∈ hl, OkM x := ok_lit (by kernel_rfl)
theorem ok2 : ∀ x ∈ h2, OkM x := ok_lit (by kernel_rfl)
theorem ok3 : ∀ x ∈ h3, OkM x := ok_lit (by kernel_rfl)
theorem ok4 : ∀ x ∈ h4, OkM x := ok_lit (by kernel_rfl)
theorem ok5 : ∀ x ∈ h5, OkM x := ok_lit (by kernel_rfl)
theorem lb_ok : ∀ x ∈ lbx, x.n.size ≤ 9223372036854775807 ∧ x.v.size ≤ 9223372036854775807 := by
  intro x hx
  simp [lbx] at hx
  rcases hx with rfl | rfl <;> exact ⟨by show 1 ≤ _; omega, by show 1 ≤ _; omega⟩
theorem lb_ok2 : ∀ x ∈ lbx, x.v.size ≤ 140737488355328 := by
  intro x hx
  simp [lbx] at hx
  rcases hx with rfl | rfl <;> (show 1 ≤ _; omega)

set_option maxRecDepth 100000 in
set_option maxHeartbeats 8000000 in
theorem shownP (B : Nat) (w : World) (hT : L.Tb B w) : Calls Tryd.prog 5 #[] w fun e w' => e = .returned (.bool true) ∧ Below w.heap.size w w' := by
  have HT := hidden hT
  clear hT
  obtain ⟨W1, hW1⟩ : ∃ W1, w.alloc (.cells #[.string ⟨#[97]⟩, .string ⟨#[120]⟩, .string ⟨#[98]⟩, .string ⟨#[121]⟩] 50) = W1 := ⟨_, rfl⟩
  have BL1 : Hid (Below w.heap.size w W1) := hidden (by rw [← hW1]; exact (Below.refl _ _).alloc (Nat.le_refl _) _)
  have LB1 : Hid (L.Ls W1 (some ⟨w.heap.size, 0, none⟩) lbx) := hidden (ls_blk (by rw [← hW1]; exact Blk.new w 50 _) lb_ok)
  have hsz1 : W1.heap.size = w.heap.size + 1 := by rw [← hW1]; simp
  have HSZ1 := hidden hsz1
  obtain ⟨W2, hW2⟩ : ∃ W2, W1.alloc (.cells (L.cM hl).toArray 31) = W2 := ⟨_, rfl⟩
  have BL2 : Hid (Below w.heap.size w W2) := hidden (by rw [← hW2]; exact BL1.out.alloc BL1.out.size _)
  have BL12 : Hid (Below W1.heap.size W1 W2) := hidden (by rw [← hW2]; exact (Below.refl _ _).alloc (Nat.le_refl _) _)
  have MS2 : Hid (Ms W2 (some ⟨W1.heap.size, 0, none⟩) hl) := hidden (ms_blk (by rw [← hW2]; exact Blk.new W1 31 _) ok1)
  have HW1 := hidden hW1
  have HW2 : Hid (W1.alloc (.cells #[.string ⟨#[97]⟩, .int .i64 1, .string ⟨#[120]⟩, .string ⟨#[97]⟩, .int .i64 2, .string ⟨#[]⟩, .string ⟨#[99]⟩, .int .i64 1, .string ⟨#[]⟩, .string ⟨#[98]⟩, .int .i64 3, .string ⟨#[120, 124, 121]⟩, .string ⟨#[99]⟩, .int .i64 3, .string ⟨#[122, 42]⟩, .string ⟨#[97]⟩, .int .i64 4, .string ⟨#[121, 46, 42]⟩] 31) = W2) := hidden hW2
  clear hW1 hW2 hsz1
  rw [HSZ1.out] at MS2
  go_enter Tryd.func5, Tryd.ntmps5
  go_wp2_with fail
  rw [HW1.out, HW2.out]
  refine (newOkP B _ 6 6 hl W2 rfl MS2.out (by omega) (HT.out.later BL2.out) nk1).mono ?_
  rintro e w3 ⟨s1, F1, rfl, hS1, b3⟩
  have S1 := hidden hS1
  have BB3 : Hid (Below w.heap.size w w3) := hidden (BL2.out.trans (b3.mono BL2.out.size))
  have LB3 : Hid (L.Ls w3 (some ⟨w.heap.size, 0, none⟩) lbx) := hidden ((LB1.out.later BL12.out).later b3)
  clear hS1 b3 MS2 BL2 BL12 LB1 BL1 HW1 HW2 HSZ1
  have al4 : Below w3.heap.size w3 (w3.alloc (.cells (L.cM h2).toArray 31)) := (Below.refl _ _).alloc (Nat.le_refl _) _
  have MS4 : Hid (Ms (w3.alloc (.cells (L.cM h2).toArray 31)) (some ⟨w3.heap.size, 0, none⟩) h2) := hidden (ms_blk (Blk.new w3 31 _) ok2)
  have AL4 := hidden al4
  have BW4 : Hid (Below w.heap.size w (w3.alloc (.cells (L.cM h2).toArray 31))) := hidden (BB3.out.trans (al4.mono BB3.out.size))
  clear al4
  go_wp2_with fail
  refine (newOkP B _ 1 1 h2 _ rfl MS4.out (by omega) (HT.out.later BW4.out) nk2).mono ?_
  rintro e w4 ⟨s2, F2, rfl, hS2, b4⟩
  have S2 := hidden hS2
  have BN4 : Hid (Below w3.heap.size w3 w4) := hidden (AL4.out.trans (b4.mono AL4.out.size))
  clear hS2 b4
  have BB4 : Hid (Below w.heap.size w w4) := hidden (BB3.out.trans (BN4.out.mono BB3.out.size))
  have LB4 := hidden (LB3.out.later BN4.out)
  replace S1 := hidden (S1.out.later BN4.out)
  clear MS4 AL4 BW4 BN4 BB3 LB3
  have al5 : Below w4.heap.size w4 (w4.alloc (.cells (L.cM h3).toArray 31)) := (Below.refl _ _).alloc (Nat.le_refl _) _
  have MS5 : Hid (Ms (w4.alloc (.cells (L.cM h3).toArray 31)) (some ⟨w4.heap.size, 0, none⟩) h3) := hidden (ms_blk (Blk.new w4 31 _) ok3)
  have AL5 := hidden al5
  have BW5 : Hid (Below w.heap.size w (w4.alloc (.cells (L.cM h3).toArray 31))) := hidden (BB4.out.trans (al5.mono BB4.out.size))
  clear al5
  go_wp2_with fail
  refine (newNoP B _ 1 1 h3 _ rfl MS5.out (by omega) (HT.out.later BW5.out) nk3).mono ?_
  rintro e w5 ⟨rfl, b5⟩
  have BN5 : Hid (Below w4.heap.size w4 w5) := hidden (AL5.out.trans (b5.mono AL5.out.size))
  clear b5
  have BB5 : Hid (Below w.heap.size w w5) := hidden (BB4.out.trans (BN5.out.mono BB4.out.size))
  have LB5 := hidden (LB4.out.later BN5.out)
  replace S1 := hidden (S1.out.later BN5.out)
  replace S2 := hidden (S2.out.later BN5.out)
  clear MS5 AL5 BW5 BN5 BB4 LB4
  have al6 : Below w5.heap.size w5 (w5.alloc (.cells (L.cM h4).toArray 31)) := (Below.refl _ _).alloc (Nat.le_refl _) _
  have MS6 : Hid (Ms (w5.alloc (.cells (L.cM h4).toArray 31)) (some ⟨w5.heap.size, 0, none⟩) h4) := hidden (ms_blk (Blk.new w5 31 _) ok4)
  have AL6 := hidden al6
  have BW6 : Hid (Below w.heap.size w (w5.alloc (.cells (L.cM h4).toArray 31))) := hidden (BB5.out.trans (al6.mono BB5.out.size))
  clear al6
  go_wp2_with fail
  refine (newNoP B _ 1 1 h4 _ rfl MS6.out (by omega) (HT.out.later BW6.out) nk4).mono ?_
  rintro e w6 ⟨rfl, b6⟩
  have BN6 : Hid (Below w5.heap.size w5 w6) := hidden (AL6.out.trans (b6.mono AL6.out.size))
  clear b6
  have BB6 : Hid (Below w.heap.size w w6) := hidden (BB5.out.trans (BN6.out.mono BB5.out.size))
  have LB6 := hidden (LB5.out.later BN6.out)
  replace S1 := hidden (S1.out.later BN6.out)
  replace S2 := hidden (S2.out.later BN6.out)
  clear MS6 AL6 BW6 BN6 BB5 LB5
  have HK7 := hidden (holdsP F1 w6 s1 hl S1.out (by decide) (some ⟨w.heap.size, 0, none⟩) 2 lbx LB6.out (by decide) lb_ok2)
  rw [hk1] at HK7
  go_wp2_with fail
  refine HK7.out.mono ?_
  rintro e w7 ⟨rfl, b7⟩
  have BN7 := hidden b7
  have BB7 : Hid (Below w.heap.size w w7) := hidden (BB6.out.trans (b7.mono BB6.out.size))
  have LB7 := hidden (LB6.out.later b7)
  replace S1 := hidden (S1.out.later BN7.out)
  replace S2 := hidden (S2.out.later BN7.out)
  clear HK7 b7 BN7 BB6 LB6
  have HK8 := hidden (holdsP F2 w7 s2 h2 S2.out (by decide) (some ⟨w.heap.size, 0, none⟩) 2 lbx LB7.out (by decide) lb_ok2)
  rw [hk2] at HK8
  go_wp2_with fail
  refine HK8.out.mono ?_
  rintro e w8 ⟨rfl, b8⟩
  have BN8 := hidden b8
  have BB8 : Hid (Below w.heap.size w w8) := hidden (BB7.out.trans (b8.mono BB7.out.size))
  have LB8 := hidden (LB7.out.later b8)
  replace S1 := hidden (S1.out.later BN8.out)
  replace S2 := hidden (S2.out.later BN8.out)
  clear HK8 b8 BN8 BB7 LB7
  go_wp2_with fail
  refine (andP F1 F2 w8 s1 s2 hl h2 S1.out S2.out (by decide) (by decide)).mono ?_
  rintro e w9 ⟨u9, K9, rfl, hS9, -, b9⟩
  have S9 := hidden hS9
  have BB9 : Hid (Below w.heap.size w w9) := hidden (BB8.out.trans (b9.mono BB8.out.size))
  have LB9 := hidden (LB8.out.later b9)
  clear hS9 b9 S1 S2 BB8 LB8
  have HK10 := hidden (holdsP K9 w9 u9 (hl ++ h2) S9.out (by decide) (some ⟨w.heap.size, 0, none⟩) 2 lbx LB9.out (by decide) lb_ok2)
  rw [hk3] at HK10
  go_wp2_with fail
  refine HK10.out.mono ?_
  rintro e w10 ⟨rfl, b10⟩
  have BN10 := hidden b10
  have BB10 : Hid (Below w.heap.size w w10) := hidden (BB9.out.trans (b10.mono BB9.out.size))
  have LB10 := hidden (LB9.out.later b10)
  clear HK10 b10 BN10 BB9 LB9
  have al11 : Below w10.heap.size w10 (w10.alloc (.cells (L.cM h5).toArray 31)) := (Below.refl _ _).alloc (Nat.le_refl _) _
  have MS11 : Hid (Ms (w10.alloc (.cells (L.cM h5).toArray 31)) (some ⟨w10.heap.size, 0, none⟩) h5) := hidden (ms_blk (Blk.new w10 31 _) ok5)
  have BW11 : Hid (Below w.heap.size w (w10.alloc (.cells (L.cM h5).toArray 31))) := hidden (BB10.out.trans (al11.mono BB10.out.size))
  have PR11 := hidden (printMP B (some ⟨w10.heap.size, 0, none⟩) 2 h5 _ MS11.out (by decide) (HT.out.later BW11.out))
  rw [pk1, show L.oft [123, 97, 61, 34, 120, 92, 34, 34, 44, 32, 98, 33, 126, 34, 91, 94, 121, 93, 34, 125] = (⟨#[123, 97, 61, 34, 120, 92, 34, 34, 44, 32, 98, 33, 126, 34, 91, 94, 121, 93, 34, 125]⟩ : ByteArray) from rfl] at PR11
  clear al11 MS11 S9 BB10 LB10
  go_wp2_with fail
  refine PR11.out.mono ?_
  rintro e w11 ⟨rfl, b11⟩
  have BB11 : Hid (Below w.heap.size w w11) := hidden (BW11.out.trans (b11.mono BW11.out.size))
  clear b11 PR11 BW11
  have P12 := hidden (L.parseMP B tx1 w11 (by decide) (HT.out.later BB11.out))
  go_wp2_with fail
  refine P12.out.mono ?_
  rintro e w12 ⟨b12, ⟨l12, ad12, c12, hp12, rfl, o12, -, -⟩ | ⟨k12, g12, hp12, -⟩⟩
  · obtain rfl : h6 = l12 := Sum.inr.inj (pp1.symm.trans hp12)
    have BB12 : Hid (Below w.heap.size w w12) := hidden (BB11.out.trans (b12.mono BB11.out.size))
    have O12 := hidden o12
    clear hp12 b12 o12 P12 BB11
    have P13 := hidden (L.parseMP B tx2 w12 (by decide) (HT.out.later BB12.out))
    rw [show h6.length = 2 from rfl] at O12
    rw [show h6.length = 2 from rfl]
    go_wp2_with fail
    refine P13.out.mono ?_
    rintro e w13 ⟨b13, ⟨l13, ad13, c13, hp13, -⟩ | ⟨k13, g13, hp13, rfl, hB13⟩⟩
    · cases (pp2.symm.trans hp13)
    · obtain rfl : 4 = k13 := Sum.inl.inj (pp2.symm.trans hp13)
      have BB13 : Hid (Below w.heap.size w w13) := hidden (BB12.out.trans (b13.mono BB12.out.size))
      obtain ⟨g14, hg14⟩ : ∃ g, ad12 = some ⟨g, 0, none⟩ := by
        rcases O12.out.2 with ⟨e, h0⟩ | ⟨g, cap, cur, e, _⟩
        · omega
        · injection e with e; exact ⟨g, e⟩
      subst hg14
      have O13 := owl O12.out b13
      have d0 : w13.cell? ⟨g14, 3, none⟩ = some (.string ⟨#[97]⟩) := O13.cells (g := g14) rfl 3 _ rfl
      have d1 : w13.cell? ⟨g14, 4, none⟩ = some (.int .i64 1) := O13.cells (g := g14) rfl 4 _ rfl
      have d2 : w13.cell? ⟨g14, 5, none⟩ = some (.string ⟨#[]⟩) := O13.cells (g := g14) rfl 5 _ rfl
      have e0 : w13.cell? ⟨g13, 0, none⟩ = some (.int .i64 4) := hB13.cell 0
      have e1 : w13.cell? ⟨g13, 1, none⟩ = some (.int .i64 90) := hB13.cell 1
      clear O13 O12 hB13 b13 hp13 P13 BB12
      have hta : (Instr.typeAssert (.iface 44 (.pointer (some ⟨g13, 0, none⟩))) 38 44 true).run Tryd.prog w13 = .ok (.tuple #[.pointer (some ⟨g13, 0, none⟩), .bool true]) w13 := by rfl
      go_wp2
      go_ret
      exact ⟨by first | rfl | simp, BB13.out⟩
  · cases (pp1.symm.trans hp12)

end Go.Proofs.YtanlgplgplncdaaDoor
