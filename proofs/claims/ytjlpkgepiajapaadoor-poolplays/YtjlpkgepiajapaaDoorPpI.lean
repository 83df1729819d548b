/-
  The law's lists that came out: owned, numbers.
-/
import Derived.Test.YtjlpkgepiajapaaDoorPpG
namespace Go.Proofs.YtjlpkgepiajapaaDoor
open Go.RowKit
set_option linter.unusedVariables false
set_option linter.unusedSimpArgs false

def mkB (m : Nat) : Value := .int .u8 (m : Int)
def mkI (m : Nat) : Value := .int .i64 (-9 - (m : Int))
set_option maxHeartbeats 4000000 in
theorem ownedP (v base : Nat) (cs : List Value) (vb a : Value) (Lb xs : List Value) (w : World) (hB : Blk w v 33 cs) (hc : cs[6]? = some vb) (hO : w.ownsRow base 40 1 vb Lb.length Lb) (hb : base ≤ w.heap.size) (hR : Rw w 5 a xs) (hx : xs.length ≤ 65536) (hL : Lb.length < 60)
    (hne : ∀ g, a.ownBlock = some g → ¬ vb.ownBlock = some g) :
    Calls Tryd.prog 24 #[.pointer (some ⟨v, 0, none⟩), a] w fun e w' => e = .returned (.tuple #[]) ∧ ∃ vb', Blk w' v 33 (cs.set 6 vb') ∧ w'.ownsRow base 40 1 vb' (Lb.length + 1) (Lb ++ [a]) ∧ Rw w' 5 a (List.replicate xs.length (mkB Lb.length)) ∧ Chg (fun i => i = v ∨ a.ownBlock = some i ∨ vb.ownBlock = some i) w w' ∧ Moved w vb.ownBlock vb'.ownBlock := by
  obtain ⟨ad, c, rfl, hnz⟩ := hR.slice
  obtain ⟨bd, bc, rfl⟩ := owns_form hO
  obtain ⟨L, hLx⟩ : ∃ L, xs.length = L := ⟨_, rfl⟩
  obtain ⟨m, hm⟩ : ∃ m, Lb.length = m := ⟨_, rfl⟩
  rw [hLx] at hR hnz hx hne ⊢
  rw [hm] at hO hc hL hne ⊢
  have c6 : w.cell? ⟨v, 6, none⟩ = some (.slice bd m bc) := by rw [hB.cell]; exact hc
  have hwu : IntKind.u8.wrap (m : Int) = (m : Int) := by unfold IntKind.wrap; simp [IntKind.bits, IntKind.signed]; omega
  have hwu2 : mkB m = .int .u8 (m : Int) := rfl
  obtain ⟨i0, hi0, hz0, hz1, hz2⟩ : ∃ i0, Tryd.prog.info? 40 = some i0 ∧ i0.zero = some (.slice none 0 0) ∧ i0.size = 1 ∧ i0.bytes = 24 := info_parts (show (Tryd.prog.info? 40).map (fun i => (i.zero, i.size, i.bytes)) = some (some (.slice none 0 0), 1, 24) by kernel_rfl)
  have HI0 := hidden (And.intro hi0 (And.intro hz0 (And.intro hz1 hz2)))
  have HB := hidden hB
  have HC := hidden hc
  have HO := hidden hO
  have HR := hidden hR
  have HLX := hidden hLx
  have HM := hidden hm
  have HNE := hidden hne
  have HBS := hidden hb
  clear hB hc hO hR hi0 hz0 hz1 hz2 hLx hm hne hb
  go_enter Tryd.func24, Tryd.ntmps24
  go_wp2_with fail
  clear c6
  go_loopw [5] (fun v5 wx => ∃ (k : Nat) (ys : List Value), v5 = .int .i64 (k : Int) ∧ k ≤ L ∧ Hid (Rw wx 5 (.slice ad L c) ys ∧ ys.length = L ∧ (∀ j, j < k → ys[j]? = some (mkB m)) ∧ Chg (fun i => (Value.slice ad L c).ownBlock = some i) w wx)) (fun v5 _ => L - (intOf v5).toNat)
  case atStart => exact ⟨0, xs, rfl, by omega, hidden ⟨HR.out, HLX.out, fun j hj => absurd hj (by omega), Chg.refl _ _⟩⟩
  case round =>
    obtain ⟨k, ys, rfl, hk, hI⟩ := hrel
    by_cases hkL : k < L
    · obtain ⟨g, rfl⟩ := hnz (by omega)
      obtain ⟨h1, h2, h3, h4⟩ := hI.out
      have hy : ys[k]? = some (ys[k]'(by omega)) := by simp
      generalize ys[k]'(by omega) = y at hy
      have cy := h1.cell hy
      have fy := h1.frozen (j := k) (by have := h1.lens; omega)
      have H1 := hidden (And.intro h1 (And.intro h2 (And.intro h3 h4)))
      clear h1 h2 h3 h4 hy hI
      go_wp2_with fail
      refine ⟨⟨k + 1, ys.set k (mkB m), by first | rfl | simp, by omega, hidden ?_⟩, ?_⟩
      · obtain ⟨h1, h2, h3, h4⟩ := H1.out
        refine ⟨h1.set k _, by rw [List.length_set]; exact h2, fun j hj => ?_, h4.trans (Chg.set ⟨g, k, none⟩ _ _) (fun i _ (e : i = g) => by rw [e]; rfl)⟩
        rw [List.getElem?_set]
        by_cases e : k = j
        · rw [if_pos e, if_pos (by omega)]
        · rw [if_neg e]; exact h3 j (by omega)
      · show L - ((k : Int) + 1).toNat < L - (k : Int).toNat
        omega
    · have hkl : k = L := by omega
      subst hkl
      obtain ⟨h1, h2, h3, h4⟩ := hI.out
      have hys : ys = List.replicate k (mkB m) := by
        apply List.ext_getElem?
        intro j
        by_cases hj : j < k
        · rw [h3 j hj]; simp [hj]
        · rw [List.getElem?_eq_none (by omega)]; simp [hj]
      subst hys
      have hvb : ¬ (Value.slice ad k c).ownBlock = some v := fun e => (HR.out.tg e).ne HB.out.tg (by decide) rfl
      have B1 := h4.blk HB.out hvb
      have O1 := h4.owns HO.out (fun z hz e => HNE.out z e hz)
      have c6 : wr.cell? ⟨v, 6, none⟩ = some (.slice bd m bc) := by rw [B1.cell]; exact HC.out
      have HB1 := hidden B1
      have HO1 := hidden O1
      have H1 := hidden (And.intro h1 h4)
      have HSZ : Hid (base ≤ wr.heap.size) := hidden (Nat.le_trans HBS.out h4.size)
      have HP : Hid (∀ (g9 c9 : Nat) (w9 : World), Pushed (wr.alloc (.cells #[.slice ad k c] 40)) w9 (.slice bd m bc) g9 → Blk w9 v 33 cs ∧ Rw w9 5 (.slice ad k c) (List.replicate k (mkB m)) ∧ Chg (fun i => (Value.slice bd m bc).ownBlock = some i) wr w9 ∧ Moved wr (Value.slice bd m bc).ownBlock (some g9)) := hidden (fun g9 c9 w9 hp => by
        obtain ⟨k1, k2⟩ := hp.chg
        exact ⟨k1.blk B1 (fun e => (owns_tg O1 v e).ne B1.tg (by decide) rfl), h1.chg k1 (fun z hz e => HNE.out z hz e), k1, k2⟩)
      clear h1 h2 h3 h4 B1 O1 hvb hI
      go_wp2_with (refine wpList_push _ rfl (.tmp 26) (.tmp 28) 30 rfl 40 i0 (.slice none 0 0) 24 Tryd.underlying30 HI0.out.1 HI0.out.2.1 HI0.out.2.2.1 HI0.out.2.2.2 rfl base (.slice bd m bc) m Lb rfl (HO1.out.alloc _) ⟨wr.heap.size, 0, none⟩ (.slice ad k c) rfl (by simp) rfl (by unfold maxLen; omega) (by omega) (by have := HSZ.out; simp; omega) ?_; intro g9 c9 w9 h1 h2; obtain ⟨d1, d2, d3, d4⟩ := HP.out g9 c9 w9 h2; have H9 := hidden (And.intro h1 (And.intro d1 (And.intro d2 (And.intro d3 d4)))); have d5 : w9.cell? ⟨v, 6, none⟩ = some (.slice bd m bc) := (by rw [d1.cell]; exact HC.out); have d6 := d1.frozen 6; clear h1 h2 d1 d2 d3 d4 c6)
      first
        | refine bodyPost_end (results_none rfl _ _ _) rfl ?_
        | refine bodyPost_ret (results_none rfl _ _ _) rfl ?_
      obtain ⟨h1, d1, d2, d3, d4⟩ := H9.out
      have kS := Chg.set ⟨v, 6, none⟩ (.slice (some ⟨g9, 0, none⟩) (m + 1) c9) w9
      have hv9 : ∀ z, Tg w9 z 40 → ¬ z = v := fun z hz => hz.ne d1.tg (by decide)
      refine ⟨rfl, _, d1.set 6 _, kS.owns h1 (fun z hz e => hv9 z (owns_tg h1 z hz) e), d2.chg kS (fun z hz (e : z = v) => (d2.tg hz).ne d1.tg (by decide) e), ?_, ?_⟩
      · refine ((H1.out.2.mono (fun i _ e => .inr (.inl e))).trans (d3.mono (fun i _ e => .inr (.inr e))) (fun i _ e => e)).trans (kS.mono (fun i _ (e : i = v) => .inl e)) (fun i _ e => e)
      · exact Moved.trans (.inl rfl) d4 H1.out.2.size

set_option maxHeartbeats 4000000 in
theorem numbersP (v base : Nat) (cs : List Value) (vb a : Value) (Lb xs : List Value) (w : World) (hB : Blk w v 33 cs) (hc : cs[7]? = some vb) (hO : w.ownsRow base 22 1 vb Lb.length Lb) (hb : base ≤ w.heap.size) (hR : Rw w 3 a xs) (hx : xs.length ≤ 65536) (hL : Lb.length < 60)
    (hne : ∀ g, a.ownBlock = some g → ¬ vb.ownBlock = some g) :
    Calls Tryd.prog 27 #[.pointer (some ⟨v, 0, none⟩), a] w fun e w' => e = .returned (.tuple #[]) ∧ ∃ vb', Blk w' v 33 (cs.set 7 vb') ∧ w'.ownsRow base 22 1 vb' (Lb.length + 1) (Lb ++ [a]) ∧ Rw w' 3 a (List.replicate xs.length (mkI Lb.length)) ∧ Chg (fun i => i = v ∨ a.ownBlock = some i ∨ vb.ownBlock = some i) w w' ∧ Moved w vb.ownBlock vb'.ownBlock := by
  obtain ⟨ad, c, rfl, hnz⟩ := hR.slice
  obtain ⟨bd, bc, rfl⟩ := owns_form hO
  obtain ⟨L, hLx⟩ : ∃ L, xs.length = L := ⟨_, rfl⟩
  obtain ⟨m, hm⟩ : ∃ m, Lb.length = m := ⟨_, rfl⟩
  rw [hLx] at hR hnz hx hne ⊢
  rw [hm] at hO hc hL hne ⊢
  have c6 : w.cell? ⟨v, 7, none⟩ = some (.slice bd m bc) := by rw [hB.cell]; exact hc
  have hwu2 : mkI m = .int .i64 (-9 - (m : Int)) := rfl
  obtain ⟨i0, hi0, hz0, hz1, hz2⟩ : ∃ i0, Tryd.prog.info? 22 = some i0 ∧ i0.zero = some (.slice none 0 0) ∧ i0.size = 1 ∧ i0.bytes = 24 := info_parts (show (Tryd.prog.info? 22).map (fun i => (i.zero, i.size, i.bytes)) = some (some (.slice none 0 0), 1, 24) by kernel_rfl)
  have HI0 := hidden (And.intro hi0 (And.intro hz0 (And.intro hz1 hz2)))
  have HB := hidden hB
  have HC := hidden hc
  have HO := hidden hO
  have HR := hidden hR
  have HLX := hidden hLx
  have HM := hidden hm
  have HNE := hidden hne
  have HBS := hidden hb
  clear hB hc hO hR hi0 hz0 hz1 hz2 hLx hm hne hb
  go_enter Tryd.func27, Tryd.ntmps27
  go_wp2_with fail
  clear c6
  go_loopw [5] (fun v5 wx => ∃ (k : Nat) (ys : List Value), v5 = .int .i64 (k : Int) ∧ k ≤ L ∧ Hid (Rw wx 3 (.slice ad L c) ys ∧ ys.length = L ∧ (∀ j, j < k → ys[j]? = some (mkI m)) ∧ Chg (fun i => (Value.slice ad L c).ownBlock = some i) w wx)) (fun v5 _ => L - (intOf v5).toNat)
  case atStart => exact ⟨0, xs, rfl, by omega, hidden ⟨HR.out, HLX.out, fun j hj => absurd hj (by omega), Chg.refl _ _⟩⟩
  case round =>
    obtain ⟨k, ys, rfl, hk, hI⟩ := hrel
    by_cases hkL : k < L
    · obtain ⟨g, rfl⟩ := hnz (by omega)
      obtain ⟨h1, h2, h3, h4⟩ := hI.out
      have hy : ys[k]? = some (ys[k]'(by omega)) := by simp
      generalize ys[k]'(by omega) = y at hy
      have cy := h1.cell hy
      have fy := h1.frozen (j := k) (by have := h1.lens; omega)
      have H1 := hidden (And.intro h1 (And.intro h2 (And.intro h3 h4)))
      clear h1 h2 h3 h4 hy hI
      go_wp2_with fail
      refine ⟨⟨k + 1, ys.set k (mkI m), by first | rfl | simp, by omega, hidden ?_⟩, ?_⟩
      · obtain ⟨h1, h2, h3, h4⟩ := H1.out
        refine ⟨h1.set k _, by rw [List.length_set]; exact h2, fun j hj => ?_, h4.trans (Chg.set ⟨g, k, none⟩ _ _) (fun i _ (e : i = g) => by rw [e]; rfl)⟩
        rw [List.getElem?_set]
        by_cases e : k = j
        · rw [if_pos e, if_pos (by omega)]
        · rw [if_neg e]; exact h3 j (by omega)
      · show L - ((k : Int) + 1).toNat < L - (k : Int).toNat
        omega
    · have hkl : k = L := by omega
      subst hkl
      obtain ⟨h1, h2, h3, h4⟩ := hI.out
      have hys : ys = List.replicate k (mkI m) := by
        apply List.ext_getElem?
        intro j
        by_cases hj : j < k
        · rw [h3 j hj]; simp [hj]
        · rw [List.getElem?_eq_none (by omega)]; simp [hj]
      subst hys
      have hvb : ¬ (Value.slice ad k c).ownBlock = some v := fun e => (HR.out.tg e).ne HB.out.tg (by decide) rfl
      have B1 := h4.blk HB.out hvb
      have O1 := h4.owns HO.out (fun z hz e => HNE.out z e hz)
      have c6 : wr.cell? ⟨v, 7, none⟩ = some (.slice bd m bc) := by rw [B1.cell]; exact HC.out
      have HB1 := hidden B1
      have HO1 := hidden O1
      have H1 := hidden (And.intro h1 h4)
      have HSZ : Hid (base ≤ wr.heap.size) := hidden (Nat.le_trans HBS.out h4.size)
      have HP : Hid (∀ (g9 c9 : Nat) (w9 : World), Pushed (wr.alloc (.cells #[.slice ad k c] 22)) w9 (.slice bd m bc) g9 → Blk w9 v 33 cs ∧ Rw w9 3 (.slice ad k c) (List.replicate k (mkI m)) ∧ Chg (fun i => (Value.slice bd m bc).ownBlock = some i) wr w9 ∧ Moved wr (Value.slice bd m bc).ownBlock (some g9)) := hidden (fun g9 c9 w9 hp => by
        obtain ⟨k1, k2⟩ := hp.chg
        exact ⟨k1.blk B1 (fun e => (owns_tg O1 v e).ne B1.tg (by decide) rfl), h1.chg k1 (fun z hz e => HNE.out z hz e), k1, k2⟩)
      clear h1 h2 h3 h4 B1 O1 hvb hI
      go_wp2_with (refine wpList_push _ rfl (.tmp 26) (.tmp 28) 31 rfl 22 i0 (.slice none 0 0) 24 Tryd.underlying31 HI0.out.1 HI0.out.2.1 HI0.out.2.2.1 HI0.out.2.2.2 rfl base (.slice bd m bc) m Lb rfl (HO1.out.alloc _) ⟨wr.heap.size, 0, none⟩ (.slice ad k c) rfl (by simp) rfl (by unfold maxLen; omega) (by omega) (by have := HSZ.out; simp; omega) ?_; intro g9 c9 w9 h1 h2; obtain ⟨d1, d2, d3, d4⟩ := HP.out g9 c9 w9 h2; have H9 := hidden (And.intro h1 (And.intro d1 (And.intro d2 (And.intro d3 d4)))); have d5 : w9.cell? ⟨v, 7, none⟩ = some (.slice bd m bc) := (by rw [d1.cell]; exact HC.out); have d6 := d1.frozen 7; clear h1 h2 d1 d2 d3 d4 c6)
      first
        | refine bodyPost_end (results_none rfl _ _ _) rfl ?_
        | refine bodyPost_ret (results_none rfl _ _ _) rfl ?_
      obtain ⟨h1, d1, d2, d3, d4⟩ := H9.out
      have kS := Chg.set ⟨v, 7, none⟩ (.slice (some ⟨g9, 0, none⟩) (m + 1) c9) w9
      have hv9 : ∀ z, Tg w9 z 22 → ¬ z = v := fun z hz => hz.ne d1.tg (by decide)
      refine ⟨rfl, _, d1.set 7 _, kS.owns h1 (fun z hz e => hv9 z (owns_tg h1 z hz) e), d2.chg kS (fun z hz (e : z = v) => (d2.tg hz).ne d1.tg (by decide) e), ?_, ?_⟩
      · refine ((H1.out.2.mono (fun i _ e => .inr (.inl e))).trans (d3.mono (fun i _ e => .inr (.inr e))) (fun i _ e => e)).trans (kS.mono (fun i _ (e : i = v) => .inl e)) (fun i _ e => e)
      · exact Moved.trans (.inl rfl) d4 H1.out.2.size

end Go.Proofs.YtjlpkgepiajapaaDoor
