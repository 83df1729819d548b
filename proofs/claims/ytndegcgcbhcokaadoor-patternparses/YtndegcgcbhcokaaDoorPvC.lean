import Derived.Test.YtndegcgcbhcokaaDoorPvB
import Derived.Test.YtndegcgcbhcokaaDoorQaL
import Derived.BigQuiet
import Derived.Test.YtndegcgcbhcokaaDoorPuV
/-
  Print; fault; what Match tells, reckoned.
-/
namespace Go.Proofs.YtndegcgcbhcokaaDoor
open Go.RowKit
set_option linter.unusedVariables false
set_option linter.unusedSimpArgs false

theorem bC_cells (L : List UInt8) : bC L = cells8 (L.map (fun b => (b.toNat : Int))) := by simp [bC, cells8]
theorem byteL (L : List UInt8) : Byte (L.map (fun b => (b.toNat : Int))) := by
  intro n hn
  obtain ⟨b, _, rfl⟩ := List.mem_map.1 hn
  have := b.toNat_lt
  exact ⟨by omega, by omega⟩
theorem bts_nums (L : List UInt8) : bts (strOfNums (L.map (fun b => (b.toNat : Int)))) = L := by
  simp [strOfNums, bts, List.map_map, Function.comp_def]

set_option maxRecDepth 100000 in
set_option maxHeartbeats 8000000 in
theorem printP (F : Nat → Prop) (w : World) (p : Nat) (l : List (List Pt)) (hP : PaR F w p l) (hlen : (rowsT l).length ≤ 7000000) :
    Calls Tryd.prog 11 #[.pointer (some ⟨p, 0, none⟩)] w fun e w' => ∃ s, e = .returned (.string s) ∧ bts s = rowsT l ∧ Below w.heap.size w w' := by
  obtain ⟨ad, c, b, off, sa, sc, vs, h⟩ := hP
  have k14 := pr_rows l (fun r hr => pr_row r (prRows l r hr)) F w ad c b off w.heap.size [] none 0 0 h.at' h.rows h.fine.1 h.fine.2.2 (World.ownsRow_nil _ _ _ _) (fun b hb => ⟨by simp [Value.ownBlock], h.lt b hb⟩) (by omega) (Nat.le_refl _)
  have c0 := h.blk.cell 0
  obtain ⟨n, hn⟩ : ∃ n, l.length = n := ⟨_, rfl⟩
  rw [hn] at k14 c0
  have c0 : w.cell? ⟨p, 0, none⟩ = some (.slice ad n c) := c0
  obtain ⟨R, hR⟩ : ∃ R, rowsT l = R := ⟨_, rfl⟩
  rw [hR, List.nil_append] at k14
  rw [hR]
  clear h hn hR hlen
  unfold PrR at k14
  go_enter Tryd.func11, Tryd.ntmps11
  go_wp2_with (go_at_call 24; refine k14.mono ?_; rintro e w3 ⟨a3, m3, c3, rfl, h1, h2, h3⟩; have hcv : (convert 79 9 (.slice a3 m3 c3)).run Tryd.prog w3 = .ok (.string (strOfNums (R.map (fun b => (b.toNat : Int))))) w3 := run_string_of 79 5 9 Tryd.underlying79 Tryd.underlying5 Tryd.underlying9 (sl_of_owns (by rw [← bC_cells]; exact h2) (byteL R)); have H3 := hidden h3; clear k14 h1 h2 h3)
  go_ret
  exact ⟨_, rfl, bts_nums R, H3.out.chg.below (Nat.le_refl _) (fun i e => by simp [Value.ownBlock] at e)⟩

set_option maxRecDepth 100000 in
theorem at39 (v : Value) (w : World) : (Instr.typeAssert (.iface 41 v) 26 41 true).run Tryd.prog w = .ok (.tuple #[v, .bool true]) w := by rfl
set_option maxRecDepth 100000 in
set_option maxHeartbeats 8000000 in
theorem faultP (g : Nat) (k : Nat) (w : World) (h : Blk w g 43 [.int .i64 (k : Int), .int .i64 80]) :
    Calls Tryd.prog 7 #[.iface 41 (.pointer (some ⟨g, 0, none⟩))] w fun e w' => e = .returned (.tuple #[.int .i64 (k : Int), .int .i64 80, .bool true]) ∧ Below w.heap.size w w' := by
  have e0 : w.cell? ⟨g, 0, none⟩ = some (.int .i64 (k : Int)) := h.cell 0
  have e1 : w.cell? ⟨g, 1, none⟩ = some (.int .i64 80) := h.cell 1
  have k1 := fun w => at39 (.pointer (some ⟨g, 0, none⟩)) w
  clear h
  go_enter Tryd.func7, Tryd.ntmps7
  go_wp2_with fail
  go_quiet (fail)
  go_wp2
  go_ret3
  exact ⟨rfl, below_drewN (Below.refl _ _) _⟩

/-- What the machine takes, reckoned. -/
def takesF (E : Es) (M : List Sp) : Nat → Nat → Bool → List UInt8 → Bool
  | 0, _, _, _ => false
  | f + 1, op, en, L => if L = [] then en else match fp L with
    | none => false
    | some (c, k) => takesF E M f (stF E.last op c 0 M 0 false).1 (stF E.last op c 0 M 0 false).2 (L.drop k)
theorem takesF_iff (E : Es) (M : List Sp) : ∀ (f op : Nat) (en : Bool) (L : List UInt8), L.length < f → (takesF E M f op en L = true ↔ OpB E M op en L)
  | 0, op, en, L, h => by omega
  | f + 1, op, en, L, h => by
    rw [takesF]
    by_cases h0 : L = []
    · rw [if_pos h0, h0, opb_nil]
    · rw [if_neg h0]
      cases h1 : fp L with
      | none =>
        simp only [Bool.false_eq_true, false_iff]
        exact opb_none h0 h1
      | some ck =>
        obtain ⟨c, k⟩ := ck
        simp only
        have hk := fp_len h1
        rw [takesF_iff E M f _ _ (L.drop k) (by rw [List.length_drop]; omega), ← opb_step h1]
theorem means_takes (l : List (List Pt)) (L : List UInt8) : Means l L ↔ takesF (machL l).1 (machL l).2 (L.length + 1) (machL l).1.first (machL l).1.emp L = true := by
  rw [takesF_iff _ _ _ _ _ _ (by omega), opb_means]

/-! ### the document's examples -/
def T1 : List (List Pt) := [[.grp [[.chr 120], [.chr 121]], .rep (.chr 122) 63]]
def T2 : List (List Pt) := [[.rep (.grp [[.rep (.grp [[.rep (.chr 97) 42]]) 42]]) 42, .chr 98]]
set_option maxRecDepth 100000
theorem prs1 : prs [40, 120, 124, 121, 41, 122, 63] = .ok T1 7 := by kernel_rfl
theorem prs2 : prs [40, 40, 97, 42, 41, 42, 41, 42, 98] = .ok T2 9 := by kernel_rfl
theorem prs3 : prs [91, 98, 45, 97, 93] = .bad 3 := by kernel_rfl
theorem wds1 : rowsW T1 [] = some [⟨#[120]⟩, ⟨#[120, 122]⟩, ⟨#[121]⟩, ⟨#[121, 122]⟩] := by kernel_rfl
theorem wds2 : rowsW T2 [] = none := by kernel_rfl
theorem txt1 : rowsT T1 = [40, 120, 124, 121, 41, 122, 63] := by kernel_rfl
theorem mt1 : takesF (machL T1).1 (machL T1).2 3 (machL T1).1.first (machL T1).1.emp [120, 122] = true := by kernel_rfl
theorem mt2 : takesF (machL T1).1 (machL T1).2 2 (machL T1).1.first (machL T1).1.emp [122] = false := by kernel_rfl
theorem mt3 : takesF (machL T2).1 (machL T2).2 4 (machL T2).1.first (machL T2).1.emp [97, 97, 98] = true := by kernel_rfl
theorem mt4 : takesF (machL T2).1 (machL T2).2 3 (machL T2).1.first (machL T2).1.emp [97, 97] = false := by kernel_rfl

end Go.Proofs.YtndegcgcbhcokaaDoor

/-
  The head of all statements: the document's examples.
-/
namespace Go.Proofs.YtndegcgcbhcokaaDoor
open Go.RowKit
set_option linter.unusedVariables false
set_option linter.unusedSimpArgs false

theorem parse_badB {s : ByteArray} {k : Nat} (h : prs (bts s) = .bad k) (w : World) : Calls Tryd.prog 5 #[.string s] w fun e w' => ∃ g, e = .returned (.tuple #[.pointer none, .iface 41 (.pointer (some ⟨g, 0, none⟩))]) ∧ Blk w' g 43 [.int .i64 (k : Int), .int .i64 80] ∧ Below w.heap.size w w' := by
  refine (parseP s w).mono ?_
  rintro e w' ⟨hb, ⟨p, F, l', ⟨b', h1⟩, rfl, h2, _⟩ | ⟨k', g, h1, rfl, h2, _⟩⟩
  · rw [h] at h1; cases h1
  · rw [h] at h1
    injection h1 with h1
    subst h1
    exact ⟨g, rfl, h2, hb⟩
theorem words_some {F : Nat → Prop} {w : World} {p : Nat} {l : List (List Pt)} {lr : Wl} (hP : PaR F w p l) (h : rowsW l [] = some lr) : Calls Tryd.prog 9 #[.pointer (some ⟨p, 0, none⟩)] w fun e w' => ∃ a' c', e = .returned (.tuple #[.slice a' lr.length c', .bool true]) ∧ w'.ownsRow w.heap.size 9 1 (.slice a' lr.length c') lr.length (sV lr) ∧ lr.length ≤ 16 ∧ Below w.heap.size w w' := by
  refine (wordsTP F w p l hP).mono ?_
  rintro e w' ⟨a', m', c', ok, rfl, hc, hm, ⟨rfl, lr', h1, h2, h3, _⟩ | ⟨rfl, h1, _⟩⟩
  · rw [h] at h1
    injection h1 with h1
    subst h1
    subst h2
    exact ⟨a', c', rfl, h3, hm, hc.below (Nat.le_refl _) (fun i e => by cases e)⟩
  · rw [h] at h1; cases h1
theorem words_none {F : Nat → Prop} {w : World} {p : Nat} {l : List (List Pt)} (hP : PaR F w p l) (h : rowsW l [] = none) : Calls Tryd.prog 9 #[.pointer (some ⟨p, 0, none⟩)] w fun e w' => ∃ a' m' c', e = .returned (.tuple #[.slice a' m' c', .bool false]) ∧ Below w.heap.size w w' := by
  refine (wordsTP F w p l hP).mono ?_
  rintro e w' ⟨a', m', c', ok, rfl, hc, hm, ⟨rfl, lr', h1, _⟩ | ⟨rfl, h1, _⟩⟩
  · rw [h] at h1; cases h1
  · exact ⟨a', m', c', rfl, hc.below (Nat.le_refl _) (fun i e => by cases e)⟩
theorem match_T {F : Nat → Prop} {w : World} {p : Nat} {l : List (List Pt)} (hP : PaR F w p l) (v : ByteArray) (L : List UInt8) (hv : bts v = L) (R : Bool) (f : Nat) (hf : L.length + 1 = f) (hn : f ≤ 100) (h : takesF (machL l).1 (machL l).2 f (machL l).1.first (machL l).1.emp L = R) :
    Calls Tryd.prog 10 #[.pointer (some ⟨p, 0, none⟩), .string v] w fun e w' => e = .returned (.bool R) ∧ Below w.heap.size w w' := by
  subst hv hf h
  refine matchP F w p l hP v ?_ _ (means_takes l (bts v)).symm
  rw [size_bts]
  omega

set_option maxRecDepth 100000 in
set_option maxHeartbeats 16000000 in
theorem shownP (w : World) : Calls Tryd.prog 4 #[] w fun e w' => e = .returned (.bool true) ∧ Below w.heap.size w w' := by
  have k1 := fun w => parse_ok (s := { data := #[40, 120, 124, 121, 41, 122, 63] }) prs1 w
  have k2 := fun w => parse_ok (s := { data := #[40, 40, 97, 42, 41, 42, 41, 42, 98] }) prs2 w
  have k3 := fun w => parse_badB (s := { data := #[91, 98, 45, 97, 93] }) prs3 w
  have HW1 : Hid (∀ F w p, PaR F w p T1 → Calls Tryd.prog 9 #[.pointer (some ⟨p, 0, none⟩)] w fun e w' => ∃ g c', e = .returned (.tuple #[.slice (some ⟨g, 0, none⟩) 4 c', .bool true]) ∧ w'.ownsRow w.heap.size 9 1 (.slice (some ⟨g, 0, none⟩) 4 c') 4 (sV [⟨#[120]⟩, ⟨#[120, 122]⟩, ⟨#[121]⟩, ⟨#[121, 122]⟩]) ∧ Below w.heap.size w w') := hidden (fun F w p h => by
    refine (words_some h wds1).mono ?_
    rintro e w' ⟨a', c', rfl, h1, _, h3⟩
    rcases h1.2 with ⟨_, e0⟩ | ⟨g, cap, cur, e0, _⟩
    · cases e0
    · injection e0 with e0 _ _
      subst e0
      exact ⟨g, c', rfl, h1, h3⟩)
  have HW2 : Hid (∀ F w p, PaR F w p T2 → Calls Tryd.prog 9 #[.pointer (some ⟨p, 0, none⟩)] w fun e w' => ∃ a' m' c', e = .returned (.tuple #[.slice a' m' c', .bool false]) ∧ Below w.heap.size w w') := hidden (fun F w p h => words_none h wds2)
  have HM1 : Hid (∀ F w p, PaR F w p T1 → Calls Tryd.prog 10 #[.pointer (some ⟨p, 0, none⟩), .string { data := #[120, 122] }] w fun e w' => e = .returned (.bool true) ∧ Below w.heap.size w w') := hidden (fun F w p h => match_T h _ [120, 122] rfl true 3 rfl (by omega) mt1)
  have HM2 : Hid (∀ F w p, PaR F w p T1 → Calls Tryd.prog 10 #[.pointer (some ⟨p, 0, none⟩), .string { data := #[122] }] w fun e w' => e = .returned (.bool false) ∧ Below w.heap.size w w') := hidden (fun F w p h => match_T h _ [122] rfl false 2 rfl (by omega) mt2)
  have HM3 : Hid (∀ F w p, PaR F w p T2 → Calls Tryd.prog 10 #[.pointer (some ⟨p, 0, none⟩), .string { data := #[97, 97, 98] }] w fun e w' => e = .returned (.bool true) ∧ Below w.heap.size w w') := hidden (fun F w p h => match_T h _ [97, 97, 98] rfl true 4 rfl (by omega) mt3)
  have HM4 : Hid (∀ F w p, PaR F w p T2 → Calls Tryd.prog 10 #[.pointer (some ⟨p, 0, none⟩), .string { data := #[97, 97] }] w fun e w' => e = .returned (.bool false) ∧ Below w.heap.size w w') := hidden (fun F w p h => match_T h _ [97, 97] rfl false 3 rfl (by omega) mt4)
  have HP1 : Hid (∀ F w p, PaR F w p T1 → Calls Tryd.prog 11 #[.pointer (some ⟨p, 0, none⟩)] w fun e w' => e = .returned (.string { data := #[40, 120, 124, 121, 41, 122, 63] }) ∧ Below w.heap.size w w') := hidden (fun F w p h => by
    refine (printP F w p T1 h (by rw [txt1]; simp)).mono ?_
    rintro e w' ⟨s, rfl, h1, h2⟩
    rw [txt1] at h1
    have hs : s = { data := #[40, 120, 124, 121, 41, 122, 63] } := bts_inj (by rw [h1]; rfl)
    rw [hs]
    exact ⟨rfl, h2⟩)
  have HCELL : Hid (∀ (w : World) (base g c : Nat), w.ownsRow base 9 1 (.slice (some ⟨g, 0, none⟩) 4 c) 4 (sV [⟨#[120]⟩, ⟨#[120, 122]⟩, ⟨#[121]⟩, ⟨#[121, 122]⟩]) → w.cell? ⟨g, 0, none⟩ = some (.string { data := #[120] }) ∧ w.cell? ⟨g, 1, none⟩ = some (.string { data := #[120, 122] }) ∧ w.cell? ⟨g, 2, none⟩ = some (.string { data := #[121] }) ∧ w.cell? ⟨g, 3, none⟩ = some (.string { data := #[121, 122] })) := hidden (fun w base g c h => by
    have key : ∀ j u, (sV [⟨#[120]⟩, ⟨#[120, 122]⟩, ⟨#[121]⟩, ⟨#[121, 122]⟩])[j]? = some u → w.cell? ⟨g, j, none⟩ = some u := fun j u hu => by
      have := h.cells (g := g) (by simp [Value.ownBlock]) j u hu
      rw [Addr.add_lit, Nat.zero_add] at this
      exact this
    exact ⟨key 0 _ rfl, key 1 _ rfl, key 2 _ rfl, key 3 _ rfl⟩)
  go_enter Tryd.func4, Tryd.ntmps4
  go_wp2_with (first
    | (go_at_call 5; refine (k1 _).mono ?_; rintro e w1 ⟨p1, F1, rfl, hp1, h1⟩; have P1 := hidden hp1; have H1 := hidden h1; clear k1 hp1 h1)
    | (go_at_call 5; refine (k2 _).mono ?_; rintro e w2 ⟨p2, F2, rfl, hp2, h2⟩; have P2 := hidden hp2; have H2 := hidden h2; clear k2 hp2 h2)
    | (go_at_call 5; refine (k3 _).mono ?_; rintro e w3 ⟨g3, rfl, hb3, h3⟩; have H3 := hidden h3; have kF := faultP g3 3 w3 hb3; clear k3 hb3 h3)
    | (go_at_call 7; refine kF.mono ?_; rintro e w4 ⟨rfl, h4⟩; have H24 := hidden (H3.out.trans (h4.mono H3.out.size)); have PA := hidden ((P1.out.later H2.out).later H24.out); have PB := hidden (P2.out.later H24.out); have kA := HW1.out _ _ _ PA.out; clear kF h4)
    | (go_at_call 9; refine kA.mono ?_; rintro e w5 ⟨g5, c5, rfl, hw5, h5⟩; have H5 := hidden h5; have O5 := hidden hw5; have kB := HW2.out _ _ _ (PB.out.later h5); clear kA h5 hw5)
    | (go_at_call 9; refine kB.mono ?_; rintro e w6 ⟨a6, m6, c6, rfl, h6⟩; have H46 := hidden (H5.out.trans (h6.mono H5.out.size)); obtain ⟨x0, x1, x2, x3⟩ := HCELL.out w6 _ _ _ (owl O5.out h6); have kC := HM1.out _ _ _ (PA.out.later H46.out); clear kB h6)
    | (go_at_call 10; refine kC.mono ?_; rintro e w7 ⟨rfl, h7⟩; have H47 := hidden (H46.out.trans (h7.mono H46.out.size)); have kD := HM2.out _ _ _ (PA.out.later H47.out); clear kC h7)
    | (go_at_call 10; refine kD.mono ?_; rintro e w8 ⟨rfl, h8⟩; have H48 := hidden (H47.out.trans (h8.mono H47.out.size)); have kE := HM3.out _ _ _ (PB.out.later H48.out); clear kD h8)
    | (go_at_call 10; refine kE.mono ?_; rintro e w9 ⟨rfl, h9⟩; have H49 := hidden (H48.out.trans (h9.mono H48.out.size)); have kG := HM4.out _ _ _ (PB.out.later H49.out); clear kE h9)
    | (go_at_call 10; refine kG.mono ?_; rintro e w10 ⟨rfl, h10⟩; have H410 := hidden (H49.out.trans (h10.mono H49.out.size)); have kH := HP1.out _ _ _ (PA.out.later H410.out); clear kG h10)
    | (go_at_call 11; refine kH.mono ?_; rintro e w11 ⟨rfl, h11⟩; have H411 := hidden (H410.out.trans (h11.mono H410.out.size)); clear kH h11))
  go_ret
  have q2 := H1.out.trans (H2.out.mono H1.out.size)
  have q4 := q2.trans (H24.out.mono q2.size)
  exact ⟨rfl, q4.trans (H411.out.mono q4.size)⟩

end Go.Proofs.YtndegcgcbhcokaaDoor

/-
  PatternBack: two lists of the same texts; the answers of Parse and Words that it wants.
-/
namespace Go.Proofs.YtndegcgcbhcokaaDoor
open Go.RowKit
set_option linter.unusedVariables false
set_option linter.unusedSimpArgs false

theorem Wr.later {F : Nat → Prop} {w w' : World} {ad : Option Addr} {l : Wl} (h : Wr F w ad l) (hb : Below w.heap.size w w') : Wr F w' ad l :=
  h.keep (Chg.of_below (F := fun _ => False) hb) (fun _ _ h => h)
theorem Wr.nil (F : Nat → Prop) (w : World) (ad : Option Addr) : Wr F w ad [] := fun h => absurd rfl h

set_option maxRecDepth 100000 in
set_option maxHeartbeats 8000000 in
theorem sameP {F G : Nat → Prop} (w : World) (ad bd : Option Addr) (n c d : Nat) (l : Wl) (ha : Wr F w ad l) (hb : Wr G w bd l) (hn : l.length = n) (hle : n ≤ 1000) :
    Calls Tryd.prog 20 #[.slice ad n c, .slice bd n d] w fun e w' => e = .returned (.bool true) ∧ Below w.heap.size w w' := by
  have HA := hidden ha
  have HB := hidden hb
  have HN := hidden hn
  clear ha hb hn
  go_enter Tryd.func20, Tryd.ntmps20
  go_wp2_with fail
  go_loopw [5] (fun s5 wx => ∃ i : Nat, s5 = .int .i64 (i : Int) ∧ i ≤ n ∧ Hid (Below w.heap.size w wx)) (fun s5 _ => n - (intOf s5).toNat)
  case atStart => exact ⟨0, rfl, by omega, hidden (Below.refl _ _)⟩
  case round =>
    rename World => wr
    obtain ⟨i, rfl, hi, hbel⟩ := hrel
    by_cases hlt : i < n
    · have hltz : (i : Int) < (n : Int) := by omega
      have hll : i < l.length := by have := HN.out; omega
      have hne : l ≠ [] := fun e => by rw [e] at hll; simp at hll
      obtain ⟨b1, o1, rfl, _, hc1⟩ := (HA.out.later hbel.out) hne
      obtain ⟨b2, o2, rfl, _, hc2⟩ := (HB.out.later hbel.out) hne
      obtain ⟨x, hx⟩ : ∃ x, l[i]? = some x := ⟨_, List.getElem?_eq_getElem hll⟩
      have k1 := hc1 i x hx
      have k2 := hc2 i x hx
      clear hc1 hc2 hx hll hne
      go_wp2_with fail
      go_quiet (fail)
      go_wp2
      refine ⟨⟨i + 1, by first | rfl | simp, by omega, hidden (below_drewN hbel.out _)⟩, ?_⟩
      simp [intOf]
      omega
    · have hltz : ¬ (i : Int) < (n : Int) := by omega
      go_wp2
      go_ret
      exact ⟨rfl, hbel.out⟩

theorem parse_badC {s : ByteArray} {k : Nat} (h : prs (bts s) = .bad k) (w : World) : Calls Tryd.prog 5 #[.string s] w fun e w' => ∃ g, e = .returned (.tuple #[.pointer none, .iface 41 (.pointer (some ⟨g, 0, none⟩))]) ∧ Blk w' g 43 [.int .i64 (k : Int), .int .i64 80] ∧ Below w.heap.size w w' ∧ k ≤ s.size := by
  refine (parseP s w).mono ?_
  rintro e w' ⟨hb, ⟨p, F, l', ⟨b', h1⟩, rfl, h2, _⟩ | ⟨k', g, h1, rfl, h2, h3⟩⟩
  · rw [h] at h1; cases h1
  · rw [h] at h1
    injection h1 with h1
    subst h1
    exact ⟨g, rfl, h2, hb, h3⟩
/-- Words, both ways in one: lr are the words, ok whether they are told. -/
theorem words_any2 {F : Nat → Prop} {w : World} {p : Nat} {l : List (List Pt)} {lr : Wl} {ok : Bool} (hP : PaR F w p l) (h : (ok = true ∧ rowsW l [] = some lr) ∨ (ok = false ∧ rowsW l [] = none ∧ lr = [])) :
    Calls Tryd.prog 9 #[.pointer (some ⟨p, 0, none⟩)] w fun e w' => ∃ a' c', e = .returned (.tuple #[.slice a' lr.length c', .bool ok]) ∧ Wr (fun _ => True) w' a' lr ∧ lr.length ≤ 16 ∧ Below w.heap.size w w' := by
  refine (wordsTP F w p l hP).mono ?_
  rintro e w' ⟨a', m', c', ok', rfl, hc, hm, h2⟩
  have hb := hc.below (Nat.le_refl _) (fun i e => by cases e)
  rcases h with ⟨rfl, h⟩ | ⟨rfl, h, rfl⟩
  · rcases h2 with ⟨rfl, lr', h1, h2, h3, _⟩ | ⟨rfl, h1, _⟩
    · rw [h] at h1
      injection h1 with h1
      subst h1
      subst h2
      exact ⟨a', c', rfl, (wr_owns h3).mono (fun _ _ => trivial), hm, hb⟩
    · rw [h] at h1; cases h1
  · rcases h2 with ⟨rfl, lr', h1, _⟩ | ⟨rfl, h1, h4, _, _⟩
    · rw [h] at h1; cases h1
    · rw [h4]
      exact ⟨a', c', rfl, Wr.nil _ _ _, by simp, hb⟩

end Go.Proofs.YtndegcgcbhcokaaDoor

/-
  Words, purely: they are just what is meant.
-/
namespace Go.Proofs.YtndegcgcbhcokaaDoor
open Go
set_option linter.unusedVariables false
set_option linter.unusedSimpArgs false

mutual
/-- Code points lie in their bounds. -/
def Pt.bd : Pt → Prop
  | .chr c => c ≤ 1114111
  | .any => True
  | .cls _ l => Bd l
  | .grp l => rowsBd l
  | .rep a _ => a.bd
def rowBd : List Pt → Prop
  | [] => True
  | p :: t => p.bd ∧ rowBd t
def rowsBd : List (List Pt) → Prop
  | [] => True
  | r :: t => rowBd r ∧ rowsBd t
end
mutual
theorem PtV.bd {F : Nat → Prop} {w : World} : ∀ (p : Pt) (v : Value), PtV F w p v → p.bd
  | .chr c, v, h => by simp only [PtV] at h; simp only [Pt.bd]; exact h.2
  | .any, v, h => by simp only [Pt.bd]
  | .cls neg l, v, h => by simp only [PtV] at h; simp only [Pt.bd]; obtain ⟨ad, c, e, h1, h2, h3⟩ := h; exact h2
  | .grp l, v, h => by simp only [PtV] at h; simp only [Pt.bd]; obtain ⟨ad, c, b, off, e, h1, h2⟩ := h; exact RowsV.bd l b off h2
  | .rep a s, v, h => by simp only [PtV] at h; simp only [Pt.bd]; obtain ⟨u, e, h1⟩ := h; exact PtV.bd a u h1
theorem RowV.bd {F : Nat → Prop} {w : World} : ∀ (l : List Pt) (b off : Nat), RowV F w l b off → rowBd l
  | [], b, off, h => by simp only [rowBd]
  | p :: t, b, off, h => by simp only [RowV] at h; simp only [rowBd]; obtain ⟨⟨v, _, h2⟩, h3⟩ := h; exact ⟨PtV.bd p v h2, RowV.bd t b (off + 1) h3⟩
theorem RowsV.bd {F : Nat → Prop} {w : World} : ∀ (l : List (List Pt)) (b off : Nat), RowsV F w l b off → rowsBd l
  | [], b, off, h => by simp only [rowsBd]
  | r :: t, b, off, h => by simp only [RowsV] at h; simp only [rowsBd]; obtain ⟨⟨ad, c, b', off', _, _, h3⟩, h4⟩ := h; exact ⟨RowV.bd r b' off' h3, RowsV.bd t b (off + 1) h4⟩
end

/-- Words that are just what P means. -/
structure Rp (w : Wl) (P : Tx → Prop) : Prop where
  val : ∀ x ∈ w, ∃ t, Rs (bts x) t ∧ P t
  all : ∀ t, (∀ c ∈ t, Vc c) → P t → ∃ x ∈ w, bts x = t.flatMap enc
theorem Rp.congr {w : Wl} {P Q : Tx → Prop} (h : Rp w P) (hPQ : ∀ t, P t ↔ Q t) : Rp w Q :=
  ⟨fun x hx => by obtain ⟨t, h1, h2⟩ := h.val x hx; exact ⟨t, h1, (hPQ t).1 h2⟩, fun t hv hq => h.all t hv ((hPQ t).2 hq)⟩
theorem bts_str (c : Nat) : bts (str c) = enc c := rfl
theorem hid_vc {c : Nat} (hc : c ≤ 1114111) (h : hidB c = false) : Vc c := by
  unfold hidB at h
  unfold Vc
  simp only [Bool.and_eq_false_imp, decide_eq_true_eq, decide_eq_false_iff_not] at h
  by_cases h1 : 55296 ≤ c
  · have := h h1; omega
  · omega
theorem vc_hid {c : Nat} (h : Vc c) : hidB c = false ∧ c ≤ 1114111 := by
  unfold hidB
  unfold Vc at h
  simp only [Bool.and_eq_false_imp, decide_eq_true_eq, decide_eq_false_iff_not]
  omega
theorem spC_mem : ∀ (k c : Nat) (out r : Wl), spC k c out = some r → ∀ y, y ∈ r ↔ y ∈ out ∨ ∃ d, c ≤ d ∧ d < c + k ∧ hidB d = false ∧ y = str d
  | 0, c, out, r, h, y => by
    rw [spC] at h; injection h with h; subst h
    exact ⟨.inl, fun h => h.elim id (fun ⟨d, h1, h2, _⟩ => by omega)⟩
  | k + 1, c, out, r, h, y => by
    rw [spC] at h
    split at h
    · rename_i hh
      rw [spC_mem k (c + 1) out r h y]
      constructor
      · rintro (h | ⟨d, h1, h2, h3⟩)
        · exact .inl h
        · exact .inr ⟨d, by omega, by omega, h3⟩
      · rintro (h | ⟨d, h1, h2, h3, h4⟩)
        · exact .inl h
        · refine .inr ⟨d, ?_, by omega, h3, h4⟩
          rcases Nat.lt_or_ge c d with hd | hd
          · omega
          · obtain rfl : d = c := by omega
            rw [hh] at h3; cases h3
    · rename_i hh
      split at h
      · cases h
      · rw [spC_mem k (c + 1) _ r h y]
        simp only [List.mem_append, List.mem_singleton]
        have hh2 : hidB c = false := by cases hb : hidB c <;> simp_all
        constructor
        · rintro ((h | h) | ⟨d, h1, h2, h3⟩)
          · exact .inl h
          · exact .inr ⟨c, Nat.le_refl _, by omega, hh2, h⟩
          · exact .inr ⟨d, by omega, by omega, h3⟩
        · rintro (h | ⟨d, h1, h2, h3, h4⟩)
          · exact .inl (.inl h)
          · rcases Nat.lt_or_ge c d with hd | hd
            · exact .inr ⟨d, by omega, by omega, h3, h4⟩
            · obtain rfl : d = c := by omega
              exact .inl (.inr h4)
theorem spF_mem : ∀ (l : Sn) (out r : Wl), spF l out = some r → ∀ y, y ∈ r ↔ y ∈ out ∨ ∃ d, inS l d = true ∧ hidB d = false ∧ y = str d
  | [], out, r, h, y => by
    rw [spF] at h; injection h with h; subst h
    exact ⟨.inl, fun h => h.elim id (fun ⟨d, h1, _⟩ => by simp [inS] at h1)⟩
  | s :: t, out, r, h, y => by
    rw [spF] at h
    cases h1 : spC (s.2 + 1 - s.1) s.1 out with
    | none => rw [h1] at h; cases h
    | some o =>
      rw [h1] at h
      rw [spF_mem t o r h y, spC_mem _ _ _ _ h1 y]
      have key : ∀ d, inS (s :: t) d = true ↔ (s.1 ≤ d ∧ d ≤ s.2) ∨ inS t d = true := fun d => by simp [inS]
      constructor
      · rintro ((h | ⟨d, h2, h3, h4⟩) | ⟨d, h2, h3⟩)
        · exact .inl h
        · exact .inr ⟨d, (key d).2 (.inl ⟨h2, by omega⟩), h4⟩
        · exact .inr ⟨d, (key d).2 (.inr h2), h3⟩
      · rintro (h | ⟨d, h2, h3⟩)
        · exact .inl (.inl h)
        · rcases (key d).1 h2 with ⟨h4, h5⟩ | h4
          · exact .inl (.inr ⟨d, h4, by omega, h3⟩)
          · exact .inr ⟨d, h4, h3⟩
theorem inS_bd {l : Sn} (h : Bd l) {d : Nat} (hd : inS l d = true) : d ≤ 1114111 := by
  unfold inS at hd
  obtain ⟨s, hs, h2⟩ := List.any_eq_true.1 hd
  simp only [Bool.and_eq_true, decide_eq_true_eq] at h2
  have := h s hs
  omega
theorem othS_bd : ∀ (l : Sn) (low : Nat), Bd l → Bd (othS low l)
  | [], low, h => by
    rw [othS]
    split
    · rename_i h1; intro x hx; rw [List.mem_singleton.1 hx]; exact ⟨h1, Nat.le_refl _⟩
    · intro x hx; cases hx
  | s :: t, low, h => by
    rw [othS]
    have hs := h s (by simp)
    have ih := othS_bd t (s.2 + 1) (fun x hx => h x (by simp [hx]))
    intro x hx
    rcases List.mem_append.1 hx with hx | hx
    · split at hx
      · rename_i h1
        rw [List.mem_singleton.1 hx]
        exact ⟨by show low ≤ _; omega, by show s.1 - 1 ≤ _; omega⟩
      · cases hx
    · exact ih x hx
theorem rp_leaf {l : Sn} (hb : Bd l) {w : Wl} (h : spF l [] = some w) : Rp w (fun t => ∃ x, t = [x] ∧ inS l x = true) := by
  refine ⟨fun x hx => ?_, ?_⟩
  · rcases (spF_mem l [] w h x).1 hx with hx | ⟨d, h1, h2, e⟩
    · cases hx
    · rw [e]
      refine ⟨[d], ⟨fun c hc => ?_, by rw [bts_str, List.flatMap_cons, List.flatMap_nil, List.append_nil]⟩, d, rfl, h1⟩
      rw [List.mem_singleton.1 hc]
      exact hid_vc (inS_bd hb h1) h2
  · rintro t hv ⟨x, rfl, hx⟩
    have hvx := vc_hid (hv x (by simp))
    exact ⟨str x, (spF_mem l [] w h _).2 (.inr ⟨x, hx, hvx.1, rfl⟩), by rw [bts_str, List.flatMap_cons, List.flatMap_nil, List.append_nil]⟩
theorem rp_tog {a b r : Wl} {P Q : Tx → Prop} (ha : Rp a P) (hb : Rp b Q) (h : togF a b = some r) : Rp r (fun t => P t ∨ Q t) := by
  refine ⟨fun x hx => ?_, fun t hv hp => ?_⟩
  · rcases (togF_mem _ _ _ h x).1 hx with hx | hx
    · obtain ⟨t, h1, h2⟩ := ha.val x hx; exact ⟨t, h1, .inl h2⟩
    · obtain ⟨t, h1, h2⟩ := hb.val x hx; exact ⟨t, h1, .inr h2⟩
  · rcases hp with hp | hp
    · obtain ⟨x, hx, e⟩ := ha.all t hv hp; exact ⟨x, (togF_mem _ _ _ h x).2 (.inl hx), e⟩
    · obtain ⟨x, hx, e⟩ := hb.all t hv hp; exact ⟨x, (togF_mem _ _ _ h x).2 (.inr hx), e⟩
theorem btsApp (a b : ByteArray) : bts (a ++ b) = bts a ++ bts b := by simp [bts]
theorem rp_ch {a b r : Wl} {P Q : Tx → Prop} (ha : Rp a P) (hb : Rp b Q) (h : chF [] a b = some r) : Rp r (Cat P Q) := by
  refine ⟨fun x hx => ?_, ?_⟩
  · rcases (chF_mem _ _ _ _ h x).1 hx with hx | ⟨u, hu, v, hv, rfl⟩
    · cases hx
    · obtain ⟨t, h1, h2⟩ := ha.val u hu
      obtain ⟨t', h3, h4⟩ := hb.val v hv
      refine ⟨t ++ t', ⟨fun c hc => ?_, by rw [btsApp, h1.2, h3.2, List.flatMap_append]⟩, t, t', rfl, h2, h4⟩
      rcases List.mem_append.1 hc with hc | hc
      · exact h1.1 c hc
      · exact h3.1 c hc
  · rintro t hv ⟨u, v, rfl, h1, h2⟩
    obtain ⟨x, hx, e⟩ := ha.all u (fun c hc => hv c (by simp [hc])) h1
    obtain ⟨y, hy, e'⟩ := hb.all v (fun c hc => hv c (by simp [hc])) h2
    exact ⟨x ++ y, (chF_mem _ _ _ _ h _).2 (.inr ⟨x, hx, y, hy, rfl⟩), by rw [btsApp, e, e', List.flatMap_append]⟩
theorem rp_nil {P : Tx → Prop} (h : ∀ t, (∀ c ∈ t, Vc c) → ¬ P t) : Rp [] P := ⟨(fun x hx => by cases hx), fun t hv hp => absurd hp (h t hv)⟩
theorem Rp.none {P : Tx → Prop} (h : Rp [] P) : ∀ t, (∀ c ∈ t, Vc c) → ¬ P t := fun t hv hp => by
  obtain ⟨x, hx, _⟩ := h.all t hv hp
  cases hx
theorem rp_empty : Rp [noText] (fun t => t = []) := by
  refine ⟨fun x hx => ?_, ?_⟩
  · rw [List.mem_singleton.1 hx]; exact ⟨[], Rs.nil, rfl⟩
  · rintro t hv rfl; exact ⟨noText, List.mem_singleton.2 rfl, rfl⟩
theorem flat_nil {t : Tx} (hv : ∀ c ∈ t, Vc c) (h : t.flatMap enc = []) : t = [] := rs_nil ⟨hv, h.symm⟩
theorem plus_vc {P : Tx → Prop} {t : Tx} (h : Plus P t) (hv : ∀ c ∈ t, Vc c) (hP : ∀ u, (∀ c ∈ u, Vc c) → P u → u = []) : t = [] ∧ P [] := by
  induction h with
  | one h => have e := hP _ hv h; subst e; exact ⟨rfl, h⟩
  | more h _ ih =>
    have e := hP _ (fun c hc => hv c (by simp [hc])) h
    subst e
    simp only [List.nil_append] at hv ⊢
    exact ⟨(ih hv).1, h⟩
theorem rp_rep {a r : Wl} {P : Tx → Prop} {s : Nat} (ha : Rp a P) (h : repW (some a) s = some r) : Rp r (fun v => (s ≠ 43 ∧ v = []) ∨ (s = 63 ∧ P v) ∨ (s ≠ 63 ∧ Plus P v)) := by
  unfold repW at h
  simp only at h
  by_cases h63 : s = 63
  · subst h63
    rw [if_neg (by simp), if_neg (by decide)] at h
    refine (rp_tog ha rp_empty h).congr (fun t => ?_)
    simp only [ne_eq, not_true, false_and, or_false, true_and]
    exact ⟨fun h => h.elim (fun h => .inr h) (fun h => .inl ⟨by decide, h⟩), fun h => h.elim (fun h => .inr h.2) (fun h => .inl h)⟩
  · by_cases hl : letters a = true
    · rw [if_pos ⟨hl, h63⟩] at h; cases h
    · rw [if_neg (fun x => hl x.1)] at h
      -- nothing but the empty text
      have hP : ∀ u, (∀ c ∈ u, Vc c) → P u → u = [] := fun u hv hu => by
        obtain ⟨x, hx, e⟩ := ha.all u hv hu
        refine flat_nil hv ?_
        rw [← e]
        cases a with
        | nil => cases hx
        | cons y l =>
          cases l with
          | nil =>
            obtain rfl := List.mem_singleton.1 hx
            have hem : x.toList.isEmpty = true := by
              cases hb : x.toList.isEmpty with
              | true => rfl
              | false => exact absurd (by simp [letters, hb]) hl
            rw [ByteArray.toList_eq] at hem
            exact List.isEmpty_iff.1 hem
          | cons z l => exact absurd (by simp [letters]) hl
      have hplus : ∀ t, (∀ c ∈ t, Vc c) → (Plus P t ↔ P t) := fun t hv => ⟨fun h => by obtain ⟨rfl, h2⟩ := plus_vc h hv hP; exact h2, fun h => .one h⟩
      by_cases h43 : s = 43
      · rw [if_pos h43] at h
        injection h with h
        subst h
        subst h43
        refine ⟨fun x hx => ?_, fun t hv hp => ?_⟩
        · obtain ⟨t, h1, h2⟩ := ha.val x hx
          exact ⟨t, h1, .inr (.inr ⟨by decide, .one h2⟩)⟩
        · rcases hp with hp | hp | hp
          · exact absurd rfl hp.1
          · exact absurd hp.1 (by decide)
          · exact ha.all t hv ((hplus t hv).1 hp.2)
      · rw [if_neg h43] at h
        have k := rp_tog ha rp_empty h
        refine ⟨fun x hx => ?_, fun t hv hp => ?_⟩
        · obtain ⟨t, h1, h2⟩ := k.val x hx
          rcases h2 with h2 | h2
          · exact ⟨t, h1, .inr (.inr ⟨h63, .one h2⟩)⟩
          · exact ⟨t, h1, .inl ⟨h43, h2⟩⟩
        · refine k.all t hv ?_
          rcases hp with hp | hp | hp
          · exact .inr hp.2
          · exact absurd hp.1 h63
          · exact .inl ((hplus t hv).1 hp.2)

mutual
/-- WORDS ARE JUST WHAT IS MEANT. -/
theorem Pt.wds_rp : ∀ (p : Pt) (w : Wl), p.bd → p.wds = some w → Rp w p.has
  | .chr c, w, hb, h => by
    rw [Pt.wds] at h
    exact (rp_leaf (fun x hx => by rw [List.mem_singleton.1 hx]; simp only [Pt.bd] at hb; exact ⟨hb, hb⟩) h).congr (fun t => by simp only [Pt.has])
  | .any, w, hb, h => by
    rw [Pt.wds] at h
    exact (rp_leaf (othS_bd [] 0 (fun x hx => by cases hx)) h).congr (fun t => by simp only [Pt.has])
  | .cls neg l, w, hb, h => by
    rw [Pt.wds] at h
    simp only [Pt.bd] at hb
    exact (rp_leaf (by split; exact othS_bd l 0 hb; exact hb) h).congr (fun t => by simp only [Pt.has])
  | .grp l, w, hb, h => by
    rw [Pt.wds] at h
    simp only [Pt.bd] at hb
    have := rowsW_rp l [] w (fun _ => False) hb (rp_nil (fun _ _ h => h)) h
    exact this.congr (fun t => by simp [Pt.has])
  | .rep a s, w, hb, h => by
    rw [Pt.wds] at h
    simp only [Pt.bd] at hb
    cases h1 : a.wds with
    | none => rw [h1] at h; cases h
    | some m =>
      rw [h1] at h
      exact (rp_rep (Pt.wds_rp a m hb h1) h).congr (fun t => by simp only [Pt.has])
theorem rowN_rp : ∀ (r : List Pt) (w : Wl), rowBd r → rowN r = some w → w = [] ∧ ∀ t, (∀ c ∈ t, Vc c) → ¬ rowHas r t
  | [], w, hb, h => by rw [rowN] at h; cases h
  | p :: t, w, hb, h => by
    rw [rowN] at h
    simp only [rowBd] at hb
    have key : (∀ u, (∀ c ∈ u, Vc c) → ¬ p.has u) ∨ (∀ u, (∀ c ∈ u, Vc c) → ¬ rowHas t u) → ∀ u, (∀ c ∈ u, Vc c) → ¬ rowHas (p :: t) u := fun hk u hv hu => by
      rw [rowHas] at hu
      obtain ⟨a, b, rfl, h1, h2⟩ := hu
      rcases hk with hk | hk
      · exact hk a (fun c hc => hv c (by simp [hc])) h1
      · exact hk b (fun c hc => hv c (by simp [hc])) h2
    split at h
    · rename_i h1
      injection h with h
      exact ⟨h.symm, key (.inl (Pt.wds_rp p [] hb.1 h1).none)⟩
    · obtain ⟨h1, h2⟩ := rowN_rp t w hb.2 h
      exact ⟨h1, key (.inr h2)⟩
theorem rowW_rp : ∀ (r : List Pt) (out w : Wl) (P : Tx → Prop), rowBd r → Rp out P → rowW r out = some w → Rp w (Cat P (rowHas r))
  | [], out, w, P, hb, ho, h => by
    rw [rowW] at h; injection h with h; subst h
    have e : rowHas [] = fun v => v = [] := by funext v; simp [rowHas]
    exact ho.congr (fun t => by rw [e, cat_nil])
  | p :: t, out, w, P, hb, ho, h => by
    rw [rowW] at h
    simp only [rowBd] at hb
    have none_of : (∀ u, (∀ c ∈ u, Vc c) → ¬ rowHas (p :: t) u) → Rp [] (Cat P (rowHas (p :: t))) := fun hk => rp_nil (fun u hv hu => by
      obtain ⟨a, b, rfl, _, h2⟩ := hu
      exact hk b (fun c hc => hv c (by simp [hc])) h2)
    have none_t : (∀ u, (∀ c ∈ u, Vc c) → ¬ rowHas t u) → ∀ u, (∀ c ∈ u, Vc c) → ¬ rowHas (p :: t) u := fun hk u hv hu => by
      rw [rowHas] at hu
      obtain ⟨a, b, rfl, _, h2⟩ := hu
      exact hk b (fun c hc => hv c (by simp [hc])) h2
    cases h1 : p.wds with
    | none =>
      rw [h1] at h
      simp only at h
      obtain ⟨rfl, h2⟩ := rowN_rp t w hb.2 h
      exact none_of (none_t h2)
    | some m =>
      rw [h1] at h
      have hm := Pt.wds_rp p m hb.1 h1
      cases m with
      | nil =>
        simp only at h
        injection h with h
        subst h
        exact none_of (fun u hv hu => by
          rw [rowHas] at hu
          obtain ⟨a, b, rfl, h2, _⟩ := hu
          exact hm.none a (fun c hc => hv c (by simp [hc])) h2)
      | cons y m =>
        simp only at h
        cases h2 : chF [] out (y :: m) with
        | none =>
          rw [h2] at h
          simp only at h
          obtain ⟨rfl, h3⟩ := rowN_rp t w hb.2 h
          exact none_of (none_t h3)
        | some o =>
          rw [h2] at h
          simp only at h
          have k := rowW_rp t o w _ hb.2 (rp_ch ho hm h2) h
          refine k.congr (fun u => ?_)
          rw [cat_assoc]
          have e : rowHas (p :: t) = Cat p.has (rowHas t) := by funext v; simp [rowHas]
          rw [e]
theorem rowsW_rp : ∀ (l : List (List Pt)) (out w : Wl) (P : Tx → Prop), rowsBd l → Rp out P → rowsW l out = some w → Rp w (fun t => P t ∨ rowsHas l t)
  | [], out, w, P, hb, ho, h => by
    rw [rowsW] at h; injection h with h; subst h
    exact ho.congr (fun t => by simp [rowsHas])
  | r :: t, out, w, P, hb, ho, h => by
    rw [rowsW] at h
    simp only [rowsBd] at hb
    cases h1 : rowW r [noText] with
    | none => rw [h1] at h; cases h
    | some m =>
      rw [h1] at h
      simp only at h
      have hm := (rowW_rp r [noText] m _ hb.1 rp_empty h1).congr (fun u => nil_cat (rowHas r) u)
      cases h2 : togF out m with
      | none => rw [h2] at h; cases h
      | some o =>
        rw [h2] at h
        simp only at h
        have k := rowsW_rp t o w _ hb.2 (rp_tog ho hm h2) h
        exact k.congr (fun u => by simp only [rowsHas, or_assoc])
end
theorem words_mean {l : List (List Pt)} {w : Wl} (hb : rowsBd l) (h : rowsW l [] = some w) (L : List UInt8) : Means l L ↔ ∃ x ∈ w, bts x = L := by
  have k := (rowsW_rp l [] w (fun _ => False) hb (rp_nil (fun _ _ h => h)) h).congr (Q := rowsHas l) (fun t => by simp)
  constructor
  · rintro ⟨t, h1, h2⟩
    obtain ⟨x, hx, e⟩ := k.all t h1.1 h2
    exact ⟨x, hx, by rw [e, h1.2]⟩
  · rintro ⟨x, hx, rfl⟩
    exact k.val x hx

end Go.Proofs.YtndegcgcbhcokaaDoor
