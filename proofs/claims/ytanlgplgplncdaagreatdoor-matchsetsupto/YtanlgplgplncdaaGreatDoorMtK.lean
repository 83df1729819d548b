import Derived.Test.YtanlgplgplncdaaGreatDoorTxF
import Derived.Laws.StructEq
import Derived.Test.YtanlgplgplncdaaGreatDoorMbB
import Derived.Test.YtanlgplgplncdaaGreatDoorTxG
/-
  The statements' own examples.
-/
namespace Go.Proofs.YtanlgplgplncdaaGreatDoor
open Go.RowKit
set_option linter.unusedVariables false
set_option linter.unusedSimpArgs false

theorem ok_lit {l : List Mt} (h : l.all (fun x => decide (x.n.size ≤ 1000) && decide (x.t.size ≤ 1000) && decide (-1000 ≤ x.op) && decide (x.op ≤ 1000)) = true) : ∀ x ∈ l, OkM x := by
  intro x hx
  have := List.all_eq_true.1 h x hx
  simp only [Bool.and_eq_true, decide_eq_true_eq] at this
  exact ⟨by omega, by omega, by omega, by omega⟩
theorem ok1 : ∀ x ∈ hl, OkM x := ok_lit (by kernel_rfl)
theorem ok2 : ∀ x ∈ h2, OkM x := ok_lit (by kernel_rfl)
theorem ok3 : ∀ x ∈ h3, OkM x := ok_lit (by kernel_rfl)
theorem ok4 : ∀ x ∈ h4, OkM x := ok_lit (by kernel_rfl)
theorem ok5 : ∀ x ∈ h5, OkM x := ok_lit (by kernel_rfl)
theorem lb_ok : ∀ x ∈ lbx, x.n.size ≤ 9223372036854775807 ∧ x.v.size ≤ 9223372036854775807 := by
  intro x hx
  simp [lbx] at hx
  rcases hx with rfl | rfl <;> exact ⟨by show 1 ≤ _; omega, by show 1 ≤ _; omega⟩
theorem lb_ok2 : ∀ x ∈ lbx, x.v.size ≤ 140737488355328 := by
  intro x hx
  simp [lbx] at hx
  rcases hx with rfl | rfl <;> (show 1 ≤ _; omega)

set_option maxRecDepth 100000 in
set_option maxHeartbeats 8000000 in
theorem shownP (B : Nat) (w : World) (hT : L.Tb B w) : Calls Tryz.prog 5 #[] w fun e w' => e = .returned (.bool true) ∧ Below w.heap.size w w' := by
  have HT := hidden hT
  clear hT
  obtain ⟨W1, hW1⟩ : ∃ W1, w.alloc (.cells #[.string ⟨#[97]⟩, .string ⟨#[120]⟩, .string ⟨#[98]⟩, .string ⟨#[121]⟩] 56) = W1 := ⟨_, rfl⟩
  have BL1 : Hid (Below w.heap.size w W1) := hidden (by rw [← hW1]; exact (Below.refl _ _).alloc (Nat.le_refl _) _)
  have LB1 : Hid (L.Ls W1 (some ⟨w.heap.size, 0, none⟩) lbx) := hidden (ls_blk (by rw [← hW1]; exact Blk.new w 56 _) lb_ok)
  have hsz1 : W1.heap.size = w.heap.size + 1 := by rw [← hW1]; simp
  have HSZ1 := hidden hsz1
  obtain ⟨W2, hW2⟩ : ∃ W2, W1.alloc (.cells (L.cM hl).toArray 58) = W2 := ⟨_, rfl⟩
  have BL2 : Hid (Below w.heap.size w W2) := hidden (by rw [← hW2]; exact BL1.out.alloc BL1.out.size _)
  have BL12 : Hid (Below W1.heap.size W1 W2) := hidden (by rw [← hW2]; exact (Below.refl _ _).alloc (Nat.le_refl _) _)
  have MS2 : Hid (Ms W2 (some ⟨W1.heap.size, 0, none⟩) hl) := hidden (ms_blk (by rw [← hW2]; exact Blk.new W1 58 _) ok1)
  have HW1 := hidden hW1
  have HW2 : Hid (W1.alloc (.cells #[.string ⟨#[97]⟩, .int .i64 1, .string ⟨#[120]⟩, .string ⟨#[97]⟩, .int .i64 2, .string ⟨#[]⟩, .string ⟨#[99]⟩, .int .i64 1, .string ⟨#[]⟩, .string ⟨#[98]⟩, .int .i64 3, .string ⟨#[120, 124, 121]⟩, .string ⟨#[99]⟩, .int .i64 3, .string ⟨#[122, 42]⟩, .string ⟨#[97]⟩, .int .i64 4, .string ⟨#[121, 46, 42]⟩] 58) = W2) := hidden hW2
  clear hW1 hW2 hsz1
  rw [HSZ1.out] at MS2
  go_enter Tryz.func5, Tryz.ntmps5
  go_wp2_with fail
  rw [HW1.out, HW2.out]
  refine (newOkP B _ 6 6 hl W2 rfl MS2.out (by omega) (HT.out.later BL2.out) nk1).mono ?_
  rintro e w3 ⟨s1, F1, rfl, hS1, b3⟩
  have S1 := hidden hS1
  have BB3 : Hid (Below w.heap.size w w3) := hidden (BL2.out.trans (b3.mono BL2.out.size))
  have LB3 : Hid (L.Ls w3 (some ⟨w.heap.size, 0, none⟩) lbx) := hidden ((LB1.out.later BL12.out).later b3)
  clear hS1 b3 MS2 BL2 BL12 LB1 BL1 HW1 HW2 HSZ1
  have al4 : Below w3.heap.size w3 (w3.alloc (.cells (L.cM h2).toArray 58)) := (Below.refl _ _).alloc (Nat.le_refl _) _
  have MS4 : Hid (Ms (w3.alloc (.cells (L.cM h2).toArray 58)) (some ⟨w3.heap.size, 0, none⟩) h2) := hidden (ms_blk (Blk.new w3 58 _) ok2)
  have AL4 := hidden al4
  have BW4 : Hid (Below w.heap.size w (w3.alloc (.cells (L.cM h2).toArray 58))) := hidden (BB3.out.trans (al4.mono BB3.out.size))
  clear al4
  go_wp2_with fail
  refine (newOkP B _ 1 1 h2 _ rfl MS4.out (by omega) (HT.out.later BW4.out) nk2).mono ?_
  rintro e w4 ⟨s2, F2, rfl, hS2, b4⟩
  have S2 := hidden hS2
  have BN4 : Hid (Below w3.heap.size w3 w4) := hidden (AL4.out.trans (b4.mono AL4.out.size))
  clear hS2 b4
  have BB4 : Hid (Below w.heap.size w w4) := hidden (BB3.out.trans (BN4.out.mono BB3.out.size))
  have LB4 := hidden (LB3.out.later BN4.out)
  replace S1 := hidden (S1.out.later BN4.out)
  clear MS4 AL4 BW4 BN4 BB3 LB3
  have al5 : Below w4.heap.size w4 (w4.alloc (.cells (L.cM h3).toArray 58)) := (Below.refl _ _).alloc (Nat.le_refl _) _
  have MS5 : Hid (Ms (w4.alloc (.cells (L.cM h3).toArray 58)) (some ⟨w4.heap.size, 0, none⟩) h3) := hidden (ms_blk (Blk.new w4 58 _) ok3)
  have AL5 := hidden al5
  have BW5 : Hid (Below w.heap.size w (w4.alloc (.cells (L.cM h3).toArray 58))) := hidden (BB4.out.trans (al5.mono BB4.out.size))
  clear al5
  go_wp2_with fail
  refine (newNoP B _ 1 1 h3 _ rfl MS5.out (by omega) (HT.out.later BW5.out) nk3).mono ?_
  rintro e w5 ⟨rfl, b5⟩
  have BN5 : Hid (Below w4.heap.size w4 w5) := hidden (AL5.out.trans (b5.mono AL5.out.size))
  clear b5
  have BB5 : Hid (Below w.heap.size w w5) := hidden (BB4.out.trans (BN5.out.mono BB4.out.size))
  have LB5 := hidden (LB4.out.later BN5.out)
  replace S1 := hidden (S1.out.later BN5.out)
  replace S2 := hidden (S2.out.later BN5.out)
  clear MS5 AL5 BW5 BN5 BB4 LB4
  have al6 : Below w5.heap.size w5 (w5.alloc (.cells (L.cM h4).toArray 58)) := (Below.refl _ _).alloc (Nat.le_refl _) _
  have MS6 : Hid (Ms (w5.alloc (.cells (L.cM h4).toArray 58)) (some ⟨w5.heap.size, 0, none⟩) h4) := hidden (ms_blk (Blk.new w5 58 _) ok4)
  have AL6 := hidden al6
  have BW6 : Hid (Below w.heap.size w (w5.alloc (.cells (L.cM h4).toArray 58))) := hidden (BB5.out.trans (al6.mono BB5.out.size))
  clear al6
  go_wp2_with fail
  refine (newNoP B _ 1 1 h4 _ rfl MS6.out (by omega) (HT.out.later BW6.out) nk4).mono ?_
  rintro e w6 ⟨rfl, b6⟩
  have BN6 : Hid (Below w5.heap.size w5 w6) := hidden (AL6.out.trans (b6.mono AL6.out.size))
  clear b6
  have BB6 : Hid (Below w.heap.size w w6) := hidden (BB5.out.trans (BN6.out.mono BB5.out.size))
  have LB6 := hidden (LB5.out.later BN6.out)
  replace S1 := hidden (S1.out.later BN6.out)
  replace S2 := hidden (S2.out.later BN6.out)
  clear MS6 AL6 BW6 BN6 BB5 LB5
  have HK7 := hidden (holdsP F1 w6 s1 hl S1.out (by decide) (some ⟨w.heap.size, 0, none⟩) 2 lbx LB6.out (by decide) lb_ok2)
  rw [hk1] at HK7
  go_wp2_with fail
  refine HK7.out.mono ?_
  rintro e w7 ⟨rfl, b7⟩
  have BN7 := hidden b7
  have BB7 : Hid (Below w.heap.size w w7) := hidden (BB6.out.trans (b7.mono BB6.out.size))
  have LB7 := hidden (LB6.out.later b7)
  replace S1 := hidden (S1.out.later BN7.out)
  replace S2 := hidden (S2.out.later BN7.out)
  clear HK7 b7 BN7 BB6 LB6
  have HK8 := hidden (holdsP F2 w7 s2 h2 S2.out (by decide) (some ⟨w.heap.size, 0, none⟩) 2 lbx LB7.out (by decide) lb_ok2)
  rw [hk2] at HK8
  go_wp2_with fail
  refine HK8.out.mono ?_
  rintro e w8 ⟨rfl, b8⟩
  have BN8 := hidden b8
  have BB8 : Hid (Below w.heap.size w w8) := hidden (BB7.out.trans (b8.mono BB7.out.size))
  have LB8 := hidden (LB7.out.later b8)
  replace S1 := hidden (S1.out.later BN8.out)
  replace S2 := hidden (S2.out.later BN8.out)
  clear HK8 b8 BN8 BB7 LB7
  go_wp2_with fail
  refine (andP F1 F2 w8 s1 s2 hl h2 S1.out S2.out (by decide) (by decide)).mono ?_
  rintro e w9 ⟨u9, K9, rfl, hS9, -, b9⟩
  have S9 := hidden hS9
  have BB9 : Hid (Below w.heap.size w w9) := hidden (BB8.out.trans (b9.mono BB8.out.size))
  have LB9 := hidden (LB8.out.later b9)
  clear hS9 b9 S1 S2 BB8 LB8
  have HK10 := hidden (holdsP K9 w9 u9 (hl ++ h2) S9.out (by decide) (some ⟨w.heap.size, 0, none⟩) 2 lbx LB9.out (by decide) lb_ok2)
  rw [hk3] at HK10
  go_wp2_with fail
  refine HK10.out.mono ?_
  rintro e w10 ⟨rfl, b10⟩
  have BN10 := hidden b10
  have BB10 : Hid (Below w.heap.size w w10) := hidden (BB9.out.trans (b10.mono BB9.out.size))
  have LB10 := hidden (LB9.out.later b10)
  clear HK10 b10 BN10 BB9 LB9
  have al11 : Below w10.heap.size w10 (w10.alloc (.cells (L.cM h5).toArray 58)) := (Below.refl _ _).alloc (Nat.le_refl _) _
  have MS11 : Hid (Ms (w10.alloc (.cells (L.cM h5).toArray 58)) (some ⟨w10.heap.size, 0, none⟩) h5) := hidden (ms_blk (Blk.new w10 58 _) ok5)
  have BW11 : Hid (Below w.heap.size w (w10.alloc (.cells (L.cM h5).toArray 58))) := hidden (BB10.out.trans (al11.mono BB10.out.size))
  have PR11 := hidden (printMP B (some ⟨w10.heap.size, 0, none⟩) 2 h5 _ MS11.out (by decide) (HT.out.later BW11.out))
  rw [pk1, show L.oft [123, 97, 61, 34, 120, 92, 34, 34, 44, 32, 98, 33, 126, 34, 91, 94, 121, 93, 34, 125] = (⟨#[123, 97, 61, 34, 120, 92, 34, 34, 44, 32, 98, 33, 126, 34, 91, 94, 121, 93, 34, 125]⟩ : ByteArray) from rfl] at PR11
  clear al11 MS11 S9 BB10 LB10
  go_wp2_with fail
  refine PR11.out.mono ?_
  rintro e w11 ⟨rfl, b11⟩
  have BB11 : Hid (Below w.heap.size w w11) := hidden (BW11.out.trans (b11.mono BW11.out.size))
  clear b11 PR11 BW11
  have P12 := hidden (L.parseMP B tx1 w11 (by decide) (HT.out.later BB11.out))
  go_wp2_with fail
  refine P12.out.mono ?_
  rintro e w12 ⟨b12, ⟨l12, ad12, c12, hp12, rfl, o12, -, -⟩ | ⟨k12, g12, hp12, -⟩⟩
  · obtain rfl : h6 = l12 := Sum.inr.inj (pp1.symm.trans hp12)
    have BB12 : Hid (Below w.heap.size w w12) := hidden (BB11.out.trans (b12.mono BB11.out.size))
    have O12 := hidden o12
    clear hp12 b12 o12 P12 BB11
    have P13 := hidden (L.parseMP B tx2 w12 (by decide) (HT.out.later BB12.out))
    rw [show h6.length = 2 from rfl] at O12
    rw [show h6.length = 2 from rfl]
    go_wp2_with fail
    refine P13.out.mono ?_
    rintro e w13 ⟨b13, ⟨l13, ad13, c13, hp13, -⟩ | ⟨k13, g13, hp13, rfl, hB13⟩⟩
    · cases (pp2.symm.trans hp13)
    · obtain rfl : 4 = k13 := Sum.inl.inj (pp2.symm.trans hp13)
      have BB13 : Hid (Below w.heap.size w w13) := hidden (BB12.out.trans (b13.mono BB12.out.size))
      obtain ⟨g14, hg14⟩ : ∃ g, ad12 = some ⟨g, 0, none⟩ := by
        rcases O12.out.2 with ⟨e, h0⟩ | ⟨g, cap, cur, e, _⟩
        · omega
        · injection e with e; exact ⟨g, e⟩
      subst hg14
      have O13 := owl O12.out b13
      have d0 : w13.cell? ⟨g14, 3, none⟩ = some (.string ⟨#[97]⟩) := O13.cells (g := g14) rfl 3 _ rfl
      have d1 : w13.cell? ⟨g14, 4, none⟩ = some (.int .i64 1) := O13.cells (g := g14) rfl 4 _ rfl
      have d2 : w13.cell? ⟨g14, 5, none⟩ = some (.string ⟨#[]⟩) := O13.cells (g := g14) rfl 5 _ rfl
      have e0 : w13.cell? ⟨g13, 0, none⟩ = some (.int .i64 4) := hB13.cell 0
      have e1 : w13.cell? ⟨g13, 1, none⟩ = some (.int .i64 90) := hB13.cell 1
      clear O13 O12 hB13 b13 hp13 P13 BB12
      have hta : (Instr.typeAssert (.iface 50 (.pointer (some ⟨g13, 0, none⟩))) 44 50 true).run Tryz.prog w13 = .ok (.tuple #[.pointer (some ⟨g13, 0, none⟩), .bool true]) w13 := by rfl
      go_wp2
      go_ret
      exact ⟨by first | rfl | simp, BB13.out⟩
  · cases (pp1.symm.trans hp12)

end Go.Proofs.YtanlgplgplncdaaGreatDoor

/-
  MatchTexts: the walk.
-/
namespace Go.Proofs.YtanlgplgplncdaaGreatDoor
open Go.RowKit
set_option linter.unusedVariables false
set_option linter.unusedSimpArgs false

theorem ms_take {w : World} {ad : Option Addr} {l : List Mt} (h : Ms w ad l) (n : Nat) : Ms w ad (l.take n) := by
  refine ⟨fun x hx => h.sz x (List.mem_of_mem_take hx), fun h0 => ?_⟩
  obtain ⟨b, off, e, hb, hc⟩ := h.at' (fun e => h0 (by rw [e]; simp))
  refine ⟨b, off, e, hb, fun i x hx => hc i x ?_⟩
  rw [List.getElem?_take] at hx
  split at hx
  · exact hx
  · cases hx
set_option maxRecDepth 100000 in
theorem assert50 (g : Nat) (w : World) : (Instr.typeAssert (.iface 50 (.pointer (some ⟨g, 0, none⟩))) 44 50 true).run Tryz.prog w = .ok (.tuple #[.pointer (some ⟨g, 0, none⟩), .bool true]) w := by
  rfl

set_option maxRecDepth 100000 in
set_option maxHeartbeats 0 in
theorem texts_any (B : Nat) (w : World) (hT : L.Tb B w) (a0 : Option Addr) (n0 c0 : Nat) (l0 : List Mt) (hl0 : l0.length = n0) (hM0 : Ms w a0 l0) (hz0 : Tz l0) (hc0 : n0 ≤ c0) (hm0 : c0 ≤ 9223372036854775807) (hno0 : a0 = none → n0 = 0 ∧ c0 = 0) (s : ByteArray) (hs : s.size ≤ 140737488355328) :
    Calls Tryz.prog 4 #[.slice a0 n0 c0, .string s] w fun e w' => e = .returned (.bool true) ∧ Below w.heap.size w w' := by
  obtain ⟨n, hn⟩ : ∃ n, min n0 30 = n := ⟨_, rfl⟩
  obtain ⟨l, hl⟩ : ∃ l, l0.take n = l := ⟨_, rfl⟩
  have HL : Hid (Ms w a0 l) := hidden (by rw [← hl]; exact ms_take hM0 n)
  have HLN : Hid (l.length = n) := hidden (by rw [← hl, List.length_take]; omega)
  have HZ : Hid (Tz l) := hidden (fun x hx => hz0 x (by rw [← hl] at hx; exact List.mem_of_mem_take hx))
  have h30 : n ≤ 30 := by omega
  have HNO : Hid (a0 = none → n = 0 ∧ c0 = 0) := hidden (fun h => by have := hno0 h; omega)
  have kF : Hid (∀ wx, Calls Tryz.prog 7 #[.slice a0 n0 c0] wx fun e w' => e = .returned (.slice a0 n c0) ∧ w' = wx) := hidden (fun wx => by rw [← hn]; exact fewP a0 n0 c0 wx hc0 hm0 hno0)
  have k0 := shownP B w hT
  have HT := hidden hT
  clear hT hM0 hz0 hl0 hno0 hl hn hc0 hm0
  go_enter Tryz.func4, Tryz.ntmps4
  go_wp2_with (go_at_call 5; refine k0.mono ?_; rintro e w1 ⟨rfl, b1⟩; have B1 := hidden b1; clear k0 b1)
  have k1 := kF.out w1
  clear kF
  go_wp2_with (go_at_call 7; refine k1.mono ?_; rintro e w2 ⟨rfl, hw2⟩; obtain rfl := hw2.symm; clear k1 hw2)
  have k2 := lentP a0 n c0 l w1 (HL.out.later B1.out) HLN.out h30 HNO.out
  go_wp2_with (go_at_call 15; refine k2.mono ?_; rintro e w3 ⟨g, c1, rfl, ho3, b3⟩; have O3 := hidden ho3; have B3 := hidden b3; clear k2 ho3 b3)
  have B3w : Hid (Below w.heap.size w w3) := hidden (B1.out.trans (B3.out.mono B1.out.size))
  have HMx : Hid (Ms w3 (some ⟨g, 0, none⟩) l) := hidden (by
    have hM := L.ms_of_owns O3.out (fun x hx => by
      rcases List.mem_append.1 hx with h | h
      · exact HL.out.sz x h
      · simp at h; rw [h]; exact bhd_ok)
    have := ms_take hM n
    rw [← HLN.out, List.take_left] at this
    exact this)
  have k3 := printMP B (some ⟨g, 0, none⟩) c1 l w3 HMx.out (by rw [HLN.out]; omega) (HT.out.later B3w.out)
  rw [HLN.out] at k3
  go_wp2_with (go_at_call 16; refine k3.mono ?_; rintro e w4 ⟨rfl, b4⟩; have B4 := hidden b4; clear k3 b4)
  have B4w : Hid (Below w.heap.size w w4) := hidden (B3w.out.trans (B4.out.mono B3w.out.size))
  have hgw : Hid (w.heap.size ≤ g) := hidden (Nat.le_trans B1.out.size (O3.out.lt g (by simp [Value.ownBlock])).1)
  have k4 := stillP w1.heap.size g n c1 c0 a0 l w4 (owl O3.out B4.out) (HL.out.later B4w.out) HLN.out h30
  go_wp2_with (go_at_call 17; refine k4.mono ?_; rintro e w5 ⟨rfl, hc5⟩; have B5w : Hid (Below w.heap.size w w5) := hidden (B4w.out.trans (hc5.below B4w.out.size (fun i e => by have e' : i = g := e; rw [e']; exact hgw.out))); clear k4 hc5)
  clear O3 HMx B3 B4 B4w B3w B1
  have k5 := L.parseMP B s w5 hs (HT.out.later B5w.out)
  have k9 : Hid (∀ wx, Below w.heap.size w wx → Calls Tryz.prog 20 #[.slice a0 n c0] wx fun e w' => e = .returned (.string (L.oft (printM l))) ∧ Below wx.heap.size wx w') := hidden (fun wx hb => by
    have := rprintP B a0 c0 l wx (HL.out.later hb) (by rw [HLN.out]; omega) HZ.out (HT.out.later hb)
    rw [HLN.out] at this
    exact this)
  generalize L.oft (printM l) = PS at *
  go_wp2_with fail
  refine k5.mono ?_
  rintro e w6 ⟨b6, ⟨m, ad, cm, hp, rfl, ho6, hok, hm8⟩ | ⟨k, gf, hp, rfl, hbf⟩⟩
  · have B6 := hidden b6
    have B6w : Hid (Below w.heap.size w w6) := hidden (B5w.out.trans (b6.mono B5w.out.size))
    have HM6 := hidden (L.ms_of_owns ho6 hok)
    have HP := hidden hp
    have k6 := L.rparseP B s w6 hs (HT.out.later B6w.out)
    obtain ⟨mn, hmn⟩ : ∃ mn, m.length = mn := ⟨_, rfl⟩
    have HMN := hidden hmn
    rw [hmn] at hm8
    rw [hmn]
    clear b6 ho6 hok hp k5 hmn
    go_wp2_with fail
    refine k6.mono ?_
    rintro e w7 ⟨v, pp, kk, rfl, hPe, b7⟩
    rcases hPe with ⟨q, hq, _⟩ | ⟨m', hq, rfl, rfl, ho7, hok7⟩
    · have h1 : (Sum.inr m : Nat ⊕ List Mt) = Sum.inl q := HP.out.symm.trans hq
      cases h1
    have hmm : m = m' := by
      have h1 : (Sum.inr m : Nat ⊕ List Mt) = Sum.inr m' := HP.out.symm.trans hq
      injection h1
    subst hmm
    rw [HMN.out] at ho7
    have B7w : Hid (Below w.heap.size w w7) := hidden (B6w.out.trans (b7.mono B6w.out.size))
    have hM67 := HM6.out.later b7
    obtain ⟨ad7, c7, rfl, -⟩ : ∃ ad7 c7, v = .slice ad7 mn c7 ∧ True := by
      rcases ho7.2 with ⟨rfl, h0⟩ | ⟨g', cap, cur, rfl, _⟩
      · exact ⟨none, 0, by rw [h0], trivial⟩
      · exact ⟨_, _, rfl, trivial⟩
    have k7 := L.sameMP ad ad7 cm c7 m m w7 hM67 (L.ms_of_owns (by rw [← HMN.out] at ho7; exact ho7) hok7) (by rw [HMN.out]; omega) (by rw [HMN.out]; omega)
    rw [decide_eq_true rfl, HMN.out] at k7
    clear k6 hq ho7 hok7 hM67 b7 HM6
    go_wp2_with (first
      | (go_at_call 11; refine k7.mono ?_; rintro e w8 ⟨rfl, b8⟩; have B8w : Hid (Below w.heap.size w w8) := hidden (B7w.out.trans (b8.mono B7w.out.size)); have k10 := k9.out _ B8w.out; clear k7 b8)
      | (go_at_call 20; refine k10.mono ?_; rintro e w9 ⟨rfl, b9⟩; have B9w : Hid (Below w.heap.size w w9) := hidden (B8w.out.trans (b9.mono B8w.out.size)); clear k10 b9))
    go_ret
    exact ⟨by first | rfl | simp, B9w.out⟩
  · have B6w : Hid (Below w.heap.size w w6) := hidden (B5w.out.trans (b6.mono B5w.out.size))
    have HP := hidden hp
    have HBF := hidden hbf
    have k6 := L.rparseP B s w6 hs (HT.out.later B6w.out)
    clear b6 hp hbf k5
    go_wp2_with fail
    refine k6.mono ?_
    rintro e w7 ⟨v, pp, kk, rfl, hPe, b7⟩
    have hPe2 : ∃ q : Nat, parseM (L.bts s) = .inl q ∧ v = .slice none 0 0 ∧ pp = (q : Int) ∧ kk = 90 := by
      rcases hPe with h | ⟨m', hq, _⟩
      · exact h
      · have h1 : (Sum.inl k : Nat ⊕ List Mt) = Sum.inr m' := HP.out.symm.trans hq
        cases h1
    obtain ⟨q, hq, rfl, rfl, rfl⟩ := hPe2
    have hqk : k = q := by
      have h1 : (Sum.inl k : Nat ⊕ List Mt) = Sum.inl q := HP.out.symm.trans hq
      injection h1
    subst hqk
    have B7w : Hid (Below w.heap.size w w7) := hidden (B6w.out.trans (b7.mono B6w.out.size))
    have k7 := L.sameMP none none 0 0 [] [] w7 (Ms.nil _ _) (Ms.nil _ _) (by simp) (by simp)
    have k7' : Calls Tryz.prog 11 #[.slice none 0 0, .slice none 0 0] w7 fun e w' => e = .returned (.bool true) ∧ Below w7.heap.size w7 w' := k7
    have HBF7 := hidden (HBF.out.later b7)
    clear k6 hq b7 k7 HBF hPe
    go_wp2_with (first
      | (go_at_call 11; refine k7'.mono ?_; rintro e w8 ⟨rfl, b8⟩; have B8w : Hid (Below w.heap.size w w8) := hidden (B7w.out.trans (b8.mono B7w.out.size)); have HBF8 := hidden (HBF7.out.later b8); have k10 := k9.out _ B8w.out; clear k7' b8)
      | (go_at_call 20; refine k10.mono ?_; rintro e w9 ⟨rfl, b9⟩; have B9w : Hid (Below w.heap.size w w9) := hidden (B8w.out.trans (b9.mono B8w.out.size)); have d0 : w9.cell? ⟨gf, 0, none⟩ = some (.int .i64 ((k : Nat) : Int)) := (HBF8.out.later b9).cell 0; have d1 : w9.cell? ⟨gf, 1, none⟩ = some (.int .i64 90) := (HBF8.out.later b9).cell 1; have ha := assert50 gf w9; clear k10 b9))
    go_ret
    exact ⟨by first | rfl | simp, B9w.out⟩

end Go.Proofs.YtanlgplgplncdaaGreatDoor
