/-
  The head of all statements: the document's examples.
-/
import Derived.Test.YtndegcgcbhcokaaPvC
namespace Go.Proofs.Ytndegcgcbhcokaa
open Go.RowKit
set_option linter.unusedVariables false
set_option linter.unusedSimpArgs false

theorem parse_badB {s : ByteArray} {k : Nat} (h : prs (bts s) = .bad k) (w : World) : Calls Try.prog 6 #[.string s] w fun e w' => ∃ g, e = .returned (.tuple #[.pointer none, .iface 39 (.pointer (some ⟨g, 0, none⟩))]) ∧ Blk w' g 41 [.int .i64 (k : Int), .int .i64 80] ∧ Below w.heap.size w w' := by
  refine (parseP s w).mono ?_
  rintro e w' ⟨hb, ⟨p, F, l', ⟨b', h1⟩, rfl, h2, _⟩ | ⟨k', g, h1, rfl, h2, _⟩⟩
  · rw [h] at h1; cases h1
  · rw [h] at h1
    injection h1 with h1
    subst h1
    exact ⟨g, rfl, h2, hb⟩
theorem words_some {F : Nat → Prop} {w : World} {p : Nat} {l : List (List Pt)} {lr : Wl} (hP : PaR F w p l) (h : rowsW l [] = some lr) : Calls Try.prog 9 #[.pointer (some ⟨p, 0, none⟩)] w fun e w' => ∃ a' c', e = .returned (.tuple #[.slice a' lr.length c', .bool true]) ∧ w'.ownsRow w.heap.size 9 1 (.slice a' lr.length c') lr.length (sV lr) ∧ lr.length ≤ 16 ∧ Below w.heap.size w w' := by
  refine (wordsTP F w p l hP).mono ?_
  rintro e w' ⟨a', m', c', ok, rfl, hc, hm, ⟨rfl, lr', h1, h2, h3, _⟩ | ⟨rfl, h1, _⟩⟩
  · rw [h] at h1
    injection h1 with h1
    subst h1
    subst h2
    exact ⟨a', c', rfl, h3, hm, hc.below (Nat.le_refl _) (fun i e => by cases e)⟩
  · rw [h] at h1; cases h1
theorem words_none {F : Nat → Prop} {w : World} {p : Nat} {l : List (List Pt)} (hP : PaR F w p l) (h : rowsW l [] = none) : Calls Try.prog 9 #[.pointer (some ⟨p, 0, none⟩)] w fun e w' => ∃ a' m' c', e = .returned (.tuple #[.slice a' m' c', .bool false]) ∧ Below w.heap.size w w' := by
  refine (wordsTP F w p l hP).mono ?_
  rintro e w' ⟨a', m', c', ok, rfl, hc, hm, ⟨rfl, lr', h1, _⟩ | ⟨rfl, h1, _⟩⟩
  · rw [h] at h1; cases h1
  · exact ⟨a', m', c', rfl, hc.below (Nat.le_refl _) (fun i e => by cases e)⟩
theorem match_T {F : Nat → Prop} {w : World} {p : Nat} {l : List (List Pt)} (hP : PaR F w p l) (v : ByteArray) (L : List UInt8) (hv : bts v = L) (R : Bool) (f : Nat) (hf : L.length + 1 = f) (hn : f ≤ 100) (h : takesF (machL l).1 (machL l).2 f (machL l).1.first (machL l).1.emp L = R) :
    Calls Try.prog 11 #[.pointer (some ⟨p, 0, none⟩), .string v] w fun e w' => e = .returned (.bool R) ∧ Below w.heap.size w w' := by
  subst hv hf h
  refine matchP F w p l hP v ?_ _ (means_takes l (bts v)).symm
  rw [size_bts]
  omega

set_option maxRecDepth 100000 in
set_option maxHeartbeats 16000000 in
theorem shownP (w : World) : Calls Try.prog 5 #[] w fun e w' => e = .returned (.bool true) ∧ Below w.heap.size w w' := by
  have k1 := fun w => parse_ok (s := { data := #[40, 120, 124, 121, 41, 122, 63] }) prs1 w
  have k2 := fun w => parse_ok (s := { data := #[40, 40, 97, 42, 41, 42, 41, 42, 98] }) prs2 w
  have k3 := fun w => parse_badB (s := { data := #[91, 98, 45, 97, 93] }) prs3 w
  have HW1 : Hid (∀ F w p, PaR F w p T1 → Calls Try.prog 9 #[.pointer (some ⟨p, 0, none⟩)] w fun e w' => ∃ g c', e = .returned (.tuple #[.slice (some ⟨g, 0, none⟩) 4 c', .bool true]) ∧ w'.ownsRow w.heap.size 9 1 (.slice (some ⟨g, 0, none⟩) 4 c') 4 (sV [⟨#[120]⟩, ⟨#[120, 122]⟩, ⟨#[121]⟩, ⟨#[121, 122]⟩]) ∧ Below w.heap.size w w') := hidden (fun F w p h => by
    refine (words_some h wds1).mono ?_
    rintro e w' ⟨a', c', rfl, h1, _, h3⟩
    rcases h1.2 with ⟨_, e0⟩ | ⟨g, cap, cur, e0, _⟩
    · cases e0
    · injection e0 with e0 _ _
      subst e0
      exact ⟨g, c', rfl, h1, h3⟩)
  have HW2 : Hid (∀ F w p, PaR F w p T2 → Calls Try.prog 9 #[.pointer (some ⟨p, 0, none⟩)] w fun e w' => ∃ a' m' c', e = .returned (.tuple #[.slice a' m' c', .bool false]) ∧ Below w.heap.size w w') := hidden (fun F w p h => words_none h wds2)
  have HM1 : Hid (∀ F w p, PaR F w p T1 → Calls Try.prog 11 #[.pointer (some ⟨p, 0, none⟩), .string { data := #[120, 122] }] w fun e w' => e = .returned (.bool true) ∧ Below w.heap.size w w') := hidden (fun F w p h => match_T h _ [120, 122] rfl true 3 rfl (by omega) mt1)
  have HM2 : Hid (∀ F w p, PaR F w p T1 → Calls Try.prog 11 #[.pointer (some ⟨p, 0, none⟩), .string { data := #[122] }] w fun e w' => e = .returned (.bool false) ∧ Below w.heap.size w w') := hidden (fun F w p h => match_T h _ [122] rfl false 2 rfl (by omega) mt2)
  have HM3 : Hid (∀ F w p, PaR F w p T2 → Calls Try.prog 11 #[.pointer (some ⟨p, 0, none⟩), .string { data := #[97, 97, 98] }] w fun e w' => e = .returned (.bool true) ∧ Below w.heap.size w w') := hidden (fun F w p h => match_T h _ [97, 97, 98] rfl true 4 rfl (by omega) mt3)
  have HM4 : Hid (∀ F w p, PaR F w p T2 → Calls Try.prog 11 #[.pointer (some ⟨p, 0, none⟩), .string { data := #[97, 97] }] w fun e w' => e = .returned (.bool false) ∧ Below w.heap.size w w') := hidden (fun F w p h => match_T h _ [97, 97] rfl false 3 rfl (by omega) mt4)
  have HP1 : Hid (∀ F w p, PaR F w p T1 → Calls Try.prog 8 #[.pointer (some ⟨p, 0, none⟩)] w fun e w' => e = .returned (.string { data := #[40, 120, 124, 121, 41, 122, 63] }) ∧ Below w.heap.size w w') := hidden (fun F w p h => by
    refine (printP F w p T1 h (by rw [txt1]; simp)).mono ?_
    rintro e w' ⟨s, rfl, h1, h2⟩
    rw [txt1] at h1
    have hs : s = { data := #[40, 120, 124, 121, 41, 122, 63] } := bts_inj (by rw [h1]; rfl)
    rw [hs]
    exact ⟨rfl, h2⟩)
  have HCELL : Hid (∀ (w : World) (base g c : Nat), w.ownsRow base 9 1 (.slice (some ⟨g, 0, none⟩) 4 c) 4 (sV [⟨#[120]⟩, ⟨#[120, 122]⟩, ⟨#[121]⟩, ⟨#[121, 122]⟩]) → w.cell? ⟨g, 0, none⟩ = some (.string { data := #[120] }) ∧ w.cell? ⟨g, 1, none⟩ = some (.string { data := #[120, 122] }) ∧ w.cell? ⟨g, 2, none⟩ = some (.string { data := #[121] }) ∧ w.cell? ⟨g, 3, none⟩ = some (.string { data := #[121, 122] })) := hidden (fun w base g c h => by
    have key : ∀ j u, (sV [⟨#[120]⟩, ⟨#[120, 122]⟩, ⟨#[121]⟩, ⟨#[121, 122]⟩])[j]? = some u → w.cell? ⟨g, j, none⟩ = some u := fun j u hu => by
      have := h.cells (g := g) (by simp [Value.ownBlock]) j u hu
      rw [Addr.add_lit, Nat.zero_add] at this
      exact this
    exact ⟨key 0 _ rfl, key 1 _ rfl, key 2 _ rfl, key 3 _ rfl⟩)
  go_enter Try.func5, Try.ntmps5
  go_wp2_with (first
    | (go_at_call 6; refine (k1 _).mono ?_; rintro e w1 ⟨p1, F1, rfl, hp1, h1⟩; have P1 := hidden hp1; have H1 := hidden h1; clear k1 hp1 h1)
    | (go_at_call 6; refine (k2 _).mono ?_; rintro e w2 ⟨p2, F2, rfl, hp2, h2⟩; have P2 := hidden hp2; have H2 := hidden h2; clear k2 hp2 h2)
    | (go_at_call 6; refine (k3 _).mono ?_; rintro e w3 ⟨g3, rfl, hb3, h3⟩; have H3 := hidden h3; have kF := faultP g3 3 w3 hb3; clear k3 hb3 h3)
    | (go_at_call 7; refine kF.mono ?_; rintro e w4 ⟨rfl, h4⟩; have H24 := hidden (H3.out.trans (h4.mono H3.out.size)); have PA := hidden ((P1.out.later H2.out).later H24.out); have PB := hidden (P2.out.later H24.out); have kA := HW1.out _ _ _ PA.out; clear kF h4)
    | (go_at_call 9; refine kA.mono ?_; rintro e w5 ⟨g5, c5, rfl, hw5, h5⟩; have H5 := hidden h5; have O5 := hidden hw5; have kB := HW2.out _ _ _ (PB.out.later h5); clear kA h5 hw5)
    | (go_at_call 9; refine kB.mono ?_; rintro e w6 ⟨a6, m6, c6, rfl, h6⟩; have H46 := hidden (H5.out.trans (h6.mono H5.out.size)); obtain ⟨x0, x1, x2, x3⟩ := HCELL.out w6 _ _ _ (owl O5.out h6); have kC := HM1.out _ _ _ (PA.out.later H46.out); clear kB h6)
    | (go_at_call 11; refine kC.mono ?_; rintro e w7 ⟨rfl, h7⟩; have H47 := hidden (H46.out.trans (h7.mono H46.out.size)); have kD := HM2.out _ _ _ (PA.out.later H47.out); clear kC h7)
    | (go_at_call 11; refine kD.mono ?_; rintro e w8 ⟨rfl, h8⟩; have H48 := hidden (H47.out.trans (h8.mono H47.out.size)); have kE := HM3.out _ _ _ (PB.out.later H48.out); clear kD h8)
    | (go_at_call 11; refine kE.mono ?_; rintro e w9 ⟨rfl, h9⟩; have H49 := hidden (H48.out.trans (h9.mono H48.out.size)); have kG := HM4.out _ _ _ (PB.out.later H49.out); clear kE h9)
    | (go_at_call 11; refine kG.mono ?_; rintro e w10 ⟨rfl, h10⟩; have H410 := hidden (H49.out.trans (h10.mono H49.out.size)); have kH := HP1.out _ _ _ (PA.out.later H410.out); clear kG h10)
    | (go_at_call 8; refine kH.mono ?_; rintro e w11 ⟨rfl, h11⟩; have H411 := hidden (H410.out.trans (h11.mono H410.out.size)); clear kH h11))
  go_ret
  have q2 := H1.out.trans (H2.out.mono H1.out.size)
  have q4 := q2.trans (H24.out.mono q2.size)
  exact ⟨rfl, q4.trans (H411.out.mono q4.size)⟩

end Go.Proofs.Ytndegcgcbhcokaa
