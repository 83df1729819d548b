import Derived.Test.YtgmdpbahcbhfjaaGreatDoorIxC
import Derived.Lib.BufferMore
set_option linter.unusedSimpArgs false
set_option linter.unusedVariables false
set_option maxHeartbeats 40000000
set_option maxRecDepth 100000
/-
  Package index: Clone of labels; New, newRoll.
-/
namespace Go.Proofs.YtgmdpbahcbhfjaaGreatDoor
open Go.RowKit

theorem ix_info_parts {P : Program} {ty : TypeId} {z : Option Value} {s b : Nat} (h : (P.info? ty).map (fun i => (i.zero, i.size, i.bytes)) = some (z, s, b)) : ∃ i, P.info? ty = some i ∧ i.zero = z ∧ i.size = s ∧ i.bytes = b := by
  cases e : P.info? ty with
  | none => rw [e] at h; cases h
  | some i =>
    rw [e] at h
    simp at h
    exact ⟨i, rfl, h.1, h.2.1, h.2.2⟩
theorem ix_info75 : ∃ i, Tryz.prog.info? 75 = some i ∧ i.zero = some (.agg #[.string em0, .string em0]) ∧ i.size = 2 ∧ i.bytes = 32 := ix_info_parts (show (Tryz.prog.info? 75).map (fun i => (i.zero, i.size, i.bytes)) = some (some (.agg #[.string em0, .string em0]), 2, 32) by kernel_rfl)
theorem owns_form2 {w : World} {base e s : Nat} {v : Value} {n : Nat} {xs : List Value} (h : w.ownsRow base e s v n xs) : ∃ ad c, v = .slice ad n c ∧ (ad = none → n = 0 ∧ c = 0) ∧ (∀ x, ad = some x → x.off = 0 ∧ x.spot = none) ∧ n ≤ c ∧ c ≤ maxLen := by
  rcases h.2 with ⟨rfl, rfl⟩ | ⟨g, cap, cur, rfl, _, _, h1, h2, _⟩
  · exact ⟨none, 0, rfl, fun _ => ⟨rfl, rfl⟩, (fun x e => by cases e), Nat.le_refl _, by unfold maxLen; omega⟩
  · exact ⟨_, cap, rfl, (fun e => by cases e), (fun x e => by cases e; exact ⟨rfl, rfl⟩), h1, h2⟩
set_option maxHeartbeats 2000000 in
set_option maxRecDepth 100000 in
theorem cloneLP (ad : Option Addr) (c : Nat) (l : List L.Lb) (w : World) (hL : L.Ls w ad l) (hno : ad = none → l = [] ∧ c = 0) (hlen : l.length ≤ 1000000) :
    Calls Tryz.prog 52 #[.slice ad l.length c] w fun e w' => ∃ v, e = .returned v ∧ w'.ownsRow w.heap.size 75 2 v l.length (cLb l) ∧ Below w.heap.size w w' := by
  obtain ⟨i0, hi0, hz0, hz1, hz2⟩ := ix_info75
  obtain ⟨n, hn⟩ : ∃ n, l.length = n := ⟨_, rfl⟩
  rw [hn] at hlen ⊢
  have HN := hidden hn
  have HL := hidden hL
  clear hn hL
  cases ad with
  | none =>
    obtain ⟨h1, rfl⟩ := hno rfl
    have HN0 : n = 0 := by rw [← HN.out, h1]; rfl
    subst HN0
    have H1 := hidden h1
    clear h1
    have hq := fun w => Lib.run_eql_slice_nil_nil (P := Tryz.prog) w (t := 36) 0 0 Tryz.underlying36
    go_enter Tryz.func52, Tryz.ntmps52
    go_wp2
    go_ret
    refine ⟨_, rfl, ?_, Below.refl _ _⟩
    exact World.ownsRow_nil _ _ _ _
  | some x =>
    have hq := fun w => Lib.run_eql_slice_some_nil (P := Tryz.prog) w (t := 36) x n c Tryz.underlying36
    go_enter Tryz.func52, Tryz.ntmps52
    go_wp2_with (refine wpList_append_own _ rfl _ _ 36 rfl w.heap.size 75 i0 (.agg #[.string em0, .string em0]) 2 32 Tryz.underlying36 hi0 hz0 hz1 hz2 rfl (by decide) _ 0 [] rfl ?c0 x n c (cLb l) rfl (by rw [cLb_len, HN.out]) (ls_cells (HL.out.later ((Below.refl _ _).alloc (Nat.le_refl _) _))) (cLb_one l) ?c3 ?c4 ?c5 ?_)
    case c0 => exact ⟨rfl, .inr ⟨w.heap.size, 0, #[], rfl, Nat.le_refl _, Blk.new w 75 [], Nat.le_refl _, by unfold maxLen; omega, rfl, rfl⟩⟩
    case c3 => unfold maxLen; omega
    case c4 => omega
    case c5 => simp
    intro v' w' ho hg hne
    have HB := hidden (((Below.refl w.heap.size w).alloc (Nat.le_refl _) (.cells #[] 75)).grown hg (by simp) (fun k hk => Nat.le_of_eq (Option.some.inj hk)))
    have HO := hidden ho
    obtain ⟨a', c', rfl, _⟩ := owns_form2 ho
    clear ho hg hne
    go_wp2
    go_ret
    exact ⟨_, rfl, by simpa using HO.out, HB.out⟩
theorem built84i (e r : Nat) : Tryz.prog.built 84 [(0, .map (some e)), (1, .map (some r))] = some #[.map (some e), .map (some r)] := by kernel_rfl
theorem built103i (e r : Nat) : Tryz.prog.built 103 [(1, .map (some e)), (2, .map (some r))] = some #[.slice none 0 0, .map (some e), .map (some r)] := by kernel_rfl
set_option maxRecDepth 100000 in
set_option maxHeartbeats 4000000 in
theorem newIxP (w : World) : Calls Tryz.prog 7 #[] w fun e w' => ∃ x eb rb, e = .returned (.pointer (some ⟨x, 0, none⟩)) ∧ Blk w' x 84 [.map (some eb), .map (some rb)] ∧ Ml Kx.val w' eb [] ∧ Ml Value.string w' rb [] ∧ Below w.heap.size w w' ∧ w.heap.size ≤ eb ∧ eb < rb ∧ rb < x := by
  have hmm := @run_makeMap Tryz.prog
  go_enter Tryz.func7, Tryz.ntmps7
  go_wp2_with (first
    | (refine wpList_build_to rfl 84 #[(0, .tmp 1), (1, .tmp 2)] rfl [(0, .map (some w.heap.size)), (1, .map (some (w.heap.size + 1)))] #[.map (some w.heap.size), .map (some (w.heap.size + 1))] rfl (built84i _ _) ?_)
    | (refine wpList_box_blk rfl 84 (.tmp 3) rfl [.map (some w.heap.size), .map (some (w.heap.size + 1))] rfl ?_; intro w2 B2 bl2 hz2))
  go_ret
  have hs1 : (w.alloc (.map #[] 0)).heap.size = w.heap.size + 1 := by simp
  have hs2 : ((w.alloc (.map #[] 0)).alloc (.map #[] 0)).heap.size = w.heap.size + 1 + 1 := by simp
  have b1 : Below w.heap.size w (w.alloc (.map #[] 0)) := (Below.refl _ _).alloc (Nat.le_refl _) _
  have b2 : Below (w.alloc (.map #[] 0)).heap.size (w.alloc (.map #[] 0)) ((w.alloc (.map #[] 0)).alloc (.map #[] 0)) := (Below.refl _ _).alloc (Nat.le_refl _) _
  have m1 := ((Ml.made Kx.val w).later b2).later bl2
  have m2 := (Ml.made Value.string (w.alloc (.map #[] 0))).later bl2
  rw [hs1] at m2
  rw [hs2] at B2
  exact ⟨_, w.heap.size, w.heap.size + 1, rfl, B2, m1, m2, (b1.trans (b2.mono b1.size)).trans (bl2.mono (by rw [hs2]; omega)), Nat.le_refl _, by omega, by omega⟩
theorem chg_sets (b : Nat) : ∀ (vs : List Value) (o : Nat) (w : World), Chg (fun i => i = b) w (w.setCells b o vs)
  | [], o, w => Chg.refl _ _
  | v :: r, o, w => (Chg.set ⟨b, o, none⟩ v w).trans (chg_sets b r (o + 1) _) (fun _ _ e => e)
theorem size103 : (Tryz.prog.info? 103).map (·.size) = some 3 := by kernel_rfl
theorem info103 : (Tryz.prog.info? 103).map (fun i => i.zero.map (·.cells)) = some (some #[.slice none 0 0, .map none, .map none]) := by kernel_rfl
set_option maxRecDepth 100000 in
set_option maxHeartbeats 4000000 in
theorem newRollP (w : World) : Calls Tryz.prog 68 #[] w fun e w' => ∃ nb vb, e = .returned (.agg #[.slice none 0 0, .map (some nb), .map (some vb)]) ∧ Ml St.val w' nb [] ∧ Ml Value.string w' vb [] ∧ Below w.heap.size w w' ∧ w.heap.size ≤ nb ∧ nb < vb := by
  have hmm := @run_makeMap Tryz.prog
  go_enter Tryz.func68, Tryz.ntmps68
  go_wp2_with (first
    | (refine wpList_alloc_blk rfl 103 rfl 0 rfl [.slice none 0 0, .map none, .map none] info103 ?_; intro w1 B1 bl1 hz1; have HB1 := hidden B1; have BL1 := hidden bl1; have HZ := hidden hz1; clear B1 bl1 hz1)
    | (refine wpList_build_to rfl 103 #[(1, .tmp 1), (2, .tmp 2)] rfl [(1, .map (some w1.heap.size)), (2, .map (some (w1.heap.size + 1)))] #[.slice none 0 0, .map (some w1.heap.size), .map (some (w1.heap.size + 1))] rfl (built103i _ _) ?_)
    | (refine wpList_store_blk rfl 103 (.tmp 0) (.tmp 3) rfl rfl w.heap.size (l := [.slice none 0 0, .map (some w1.heap.size), .map (some (w1.heap.size + 1))]) ((HB1.out.later ((Below.refl _ _).alloc (Nat.le_refl _) (.map #[] 0))).later ((Below.refl _ _).alloc (Nat.le_refl _) (.map #[] 0))) rfl rfl rfl (by rw [size103]; rfl) (by intro v hv; simp at hv; rcases hv with rfl | rfl | rfl <;> rfl) ?_))
  have hs1 : (w1.alloc (.map #[] 0)).heap.size = w1.heap.size + 1 := by simp
  have b1 : Below w1.heap.size w1 (w1.alloc (.map #[] 0)) := (Below.refl _ _).alloc (Nat.le_refl _) _
  have b2 : Below (w1.alloc (.map #[] 0)).heap.size (w1.alloc (.map #[] 0)) ((w1.alloc (.map #[] 0)).alloc (.map #[] 0)) := (Below.refl _ _).alloc (Nat.le_refl _) _
  have m1 := (Ml.made St.val w1).later b2
  have m2 := Ml.made Value.string (w1.alloc (.map #[] 0))
  rw [hs1] at m2
  have hz := HZ.out
  have hb := blk_stored (l := [.slice none 0 0, .map (some w1.heap.size), .map (some (w1.heap.size + 1))]) ((HB1.out.later b1).later b2) rfl
  generalize (w1.alloc (.map #[] 0)).alloc (.map #[] 0) = w3 at *
  have c3 : Chg (fun i => i = w.heap.size) w3 (w3.setCells w.heap.size 0 [.slice none 0 0, .map (some w1.heap.size), .map (some (w1.heap.size + 1))]) := by
    exact chg_sets _ _ _ _
  have bw := (BL1.out.trans ((b1.trans (b2.mono b1.size)).mono BL1.out.size))
  refine bodyPost_ret (results_cell_row rfl _ _ w.heap.size 103 _ (0, 0) _ rfl hb Tryz.underlying103 rfl (by rw [size103]; rfl)) rfl ?_
  exact ⟨_, _, rfl, m1.chg c3 (by omega), m2.chg c3 (by omega), bw.trans (c3.below bw.size (fun i hi => Nat.le_of_eq (show i = w.heap.size from hi).symm)), by omega, by omega⟩
end Go.Proofs.YtgmdpbahcbhfjaaGreatDoor
