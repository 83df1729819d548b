/-
  The program's List.
-/
import Derived.Test.YtanlgplgplncdaaGreatDoorMbB
import Derived.Test.YtanlgplgplncdaaGreatDoorMtG
namespace Go.Proofs.YtanlgplgplncdaaGreatDoor
open Go.RowKit
set_option linter.unusedVariables false
set_option linter.unusedSimpArgs false

/-- 'make([]T, n)'. -/
theorem wpList_make_any {P : Program} (w : World) {ops : Array Oper} {rest : List Oper} {o : Oper} {a : Act} {Q : Exit → Act → World → Prop}
    (hg : o.guard = none) (l c : Operand) (t : TypeId) (hop : o.op = Op.makeSlice t l c) (e : TypeId) (z : Value) (s b : Nat) (h1 : P.underlying t = some (.slice e)) (h2 : (P.info? e).map (fun i => (i.zero, i.size, i.bytes)) = some (some z, s, b))
    (n : Nat) (hl : a.eval l = .int .i64 (n : Int)) (hc : a.eval c = .int .i64 (n : Int)) (hb : b * n ≤ 281474976710656) (hn : n ≤ 281474976710656)
    (hK : ∀ w', Blk w' w.heap.size e (madeCells z.cells (n * s)).toList → w'.heap.size = w.heap.size + 1 → Below w.heap.size w w' → wpList P ops Q rest (a.put o.dst (.slice (some ⟨w.heap.size, 0, none⟩) n n)) w') : wpList P ops Q (o :: rest) a w := by
  obtain ⟨i, hi, hz, hs, hby⟩ := info_parts h2
  refine wpList_plain hg fun K hK' => ?_
  have hr := run_make (P := P) w t e i z h1 hi hz .i64 .i64 (n : Int) (n : Int) (by omega) (by omega) (by rw [hby, ← Int.natCast_mul]; omega) (by omega)
  rw [hs] at hr
  simp only [Int.toNat_natCast] at hr
  unfold Oper.wp
  simp [execOp, hop, hl, hc, hr, Result.andThen]
  refine hK' _ _ (hK _ ?_ (by simp) ((Below.refl _ _).alloc (Nat.le_refl _) _))
  unfold Blk
  rw [heap_alloc_new w]
theorem made_len (z : Array Value) (k : Nat) : (madeCells z k).toList.length = k := by simp [madeCells]
theorem owns_made {w : World} {g n base : Nat} {xs : List Value} (h : Blk w g 58 xs) (hl : xs.length = n * 3) (hb : base ≤ g) (hn : n ≤ 1000000) : w.ownsRow base 58 3 (.slice (some ⟨g, 0, none⟩) n n) n xs := by
  refine ⟨hl, .inr ⟨g, n, xs.toArray, rfl, hb, h, Nat.le_refl _, by unfold maxLen; omega, by simp [hl], ?_⟩⟩
  rw [List.take_of_length_le (by simp [hl])]
theorem set3_take (xs : List Value) (i : Nat) (a b c : Value) (h : (i + 1) * 3 ≤ xs.length) : (((xs.set (i * 3) a).set (i * 3 + 1) b).set (i * 3 + 2) c).take ((i + 1) * 3) = xs.take (i * 3) ++ [a, b, c] := by
  apply List.ext_getElem?
  intro j
  have hlt : (xs.take (i * 3)).length = i * 3 := by rw [List.length_take]; omega
  rw [List.getElem?_take]
  by_cases h0 : j < i * 3
  · rw [if_pos (by omega), List.getElem?_set_ne (by omega), List.getElem?_set_ne (by omega), List.getElem?_set_ne (by omega), List.getElem?_append_left (by omega), List.getElem?_take, if_pos h0]
  · rw [List.getElem?_append_right (by omega), hlt]
    by_cases h1 : j < (i + 1) * 3
    · rw [if_pos h1]
      rcases (show j = i * 3 ∨ j = i * 3 + 1 ∨ j = i * 3 + 2 by omega) with rfl | rfl | rfl
      · rw [List.getElem?_set_ne (by omega), List.getElem?_set_ne (by omega), List.getElem?_set_self (by omega), Nat.sub_self]
        rfl
      · rw [List.getElem?_set_ne (by omega), List.getElem?_set_self (by simp; omega), show i * 3 + 1 - i * 3 = 1 by omega]
        rfl
      · rw [List.getElem?_set_self (by simp; omega), show i * 3 + 2 - i * 3 = 2 by omega]
        rfl
    · rw [if_neg h1, List.getElem?_eq_none (by simp; omega)]
/-- A row of matchers that is being filled. -/
structure RT (base : Nat) (w : World) (g n i : Nat) (l : List Mt) : Prop where
  row : ∃ xs, w.ownsRow base 58 3 (.slice (some ⟨g, 0, none⟩) n n) n xs ∧ xs.take (i * 3) = L.cM (l.take i)
theorem RT.rv {base : Nat} {w : World} {g n i : Nat} {l : List Mt} (h : RT base w g n i l) : RV base w g n n := by
  obtain ⟨xs, h, _⟩ := h.row
  exact ⟨xs, h⟩
theorem RT.later {base : Nat} {w w' : World} {g n i : Nat} {l : List Mt} (h : RT base w g n i l) (hb : Below w.heap.size w w') : RT base w' g n i l := by
  obtain ⟨xs, h1, h2⟩ := h.row
  exact ⟨xs, owl h1 hb, h2⟩
theorem RT.put {base : Nat} {w : World} {g n i : Nat} {l : List Mt} {x : Mt} (h : RT base w g n i l) (hi : i < n) (hx : l[i]? = some x) :
    RT base (((w.setCell ⟨g, i * 3, none⟩ (.string x.n)).setCell ⟨g, i * 3 + 1, none⟩ (.int .i64 x.op)).setCell ⟨g, i * 3 + 2, none⟩ (.string x.t)) g n (i + 1) l := by
  obtain ⟨xs, h1, h2⟩ := h.row
  refine ⟨_, owns_setV (owns_setV (owns_setV h1 (i * 3) _) (i * 3 + 1) _) (i * 3 + 2) _, ?_⟩
  rw [set3_take xs i _ _ _ (by rw [h1.1]; omega), h2, take_next hx, L.cM_append]
  simp [L.cM, mC]
theorem RT.full {base : Nat} {w : World} {g n : Nat} {l : List Mt} (h : RT base w g n n l) (hl : l.length = n) : w.ownsRow base 58 3 (.slice (some ⟨g, 0, none⟩) n n) n (L.cM l) := by
  obtain ⟨xs, h1, h2⟩ := h.row
  rw [List.take_of_length_le (by rw [h1.1]; omega), List.take_of_length_le (by omega)] at h2
  rw [← h2]
  exact h1

set_option maxRecDepth 100000 in
set_option maxHeartbeats 4000000 in
theorem listP (F : Nat → Prop) (w : World) (s : Nat) (l : List Mt) (hS : StR F w s l) (hll : l.length ≤ 1000) :
    Calls Tryz.prog 10 #[.pointer (some ⟨s, 0, none⟩)] w fun e w' => e = .returned (.slice (some ⟨w.heap.size, 0, none⟩) l.length l.length) ∧ w'.ownsRow w.heap.size 58 3 (.slice (some ⟨w.heap.size, 0, none⟩) l.length l.length) l.length (L.cM l) ∧ Below w.heap.size w w' := by
  obtain ⟨v, R, h1, h2, h3, h4, h5, h6, h7⟩ := hS
  have HF := hidden h4
  have HO := hidden h2
  have HR := hidden h3
  obtain ⟨ad, c, rfl, -⟩ := owns_formS h2
  have hBS := h1
  obtain ⟨n, hn⟩ : ∃ n, R.length = n := ⟨_, rfl⟩
  have hln : l.length = n := by rw [← h3, List.length_map]; exact hn
  have HN := hidden hn
  have HLN := hidden hln
  rw [hln] at hll ⊢
  rw [hn] at hBS
  have HBS := hidden hBS
  have c0 : w.cell? ⟨s, 0, none⟩ = some (.slice ad n c) := hBS.cell 0
  clear h1 h2 h3 h4 h5 h6 h7 hn hln hBS
  go_enter Tryz.func10, Tryz.ntmps10
  go_upto_region 2 with (refine wpList_make_any _ rfl (.tmp 10) (.tmp 10) 22 rfl 58 _ 3 40 Tryz.underlying22 L.info31 n rfl rfl (by omega) (by omega) ?_; intro w1 hB hz bl; have HB := hidden hB; have BL := hidden bl; clear hB hz bl)
  have R0 : Hid (RT w.heap.size w1 w.heap.size n 0 l) := hidden ⟨_, owns_made HB.out (made_len _ _) (Nat.le_refl _) (by omega), by simp [L.cM]⟩
  have c1 : w1.cell? ⟨s, 0, none⟩ = some (.slice ad n c) := (HBS.out.later BL.out).cell 0
  clear c0 HB
  go_wp2_with fail
  go_loopw [4, 5, 17] (fun v4 v5 v17 wx => ∃ i : Nat, v17 = .int .i64 (i : Int) ∧ i ≤ n ∧ Hid (RT w.heap.size wx w.heap.size n i l) ∧ Hid (Below w.heap.size w wx)) (fun _ _ v17 _ => n - (intOf v17).toNat)
  case atStart => exact ⟨0, rfl, by omega, R0, BL⟩
  case round =>
    rename World => wx
    obtain ⟨i, rfl, hi, hRT, hBl⟩ := hrel
    clear R0 BL c1
    by_cases hlt : i < n
    · have hltz : (i : Int) < (n : Int) := by omega
      obtain ⟨p, hp⟩ : ∃ p, R[i]? = some p := ⟨R[i]'(by rw [HN.out]; exact hlt), by simp⟩
      obtain ⟨x, fv⟩ := p
      have hx : l[i]? = some x := by rw [← HR.out, List.getElem?_map, hp]; rfl
      have hfv := HF.out _ (List.mem_of_getElem? hp)
      obtain ⟨fn, xa, ya, e⟩ := hfv.func
      simp only at e
      subst e
      obtain ⟨g, rfl⟩ : ∃ g, ad = some ⟨g, 0, none⟩ := by
        rcases HO.out.2 with ⟨_, e⟩ | ⟨g, cap, cur, e, _⟩
        · rw [HN.out] at e; omega
        · injection e with e; exact ⟨g, e⟩
      have hO := owl HO.out hBl.out
      obtain ⟨k0, k1, k2, k3⟩ := cR_get R i _ hp
      have d0 := hO.cells (g := g) rfl _ _ k0
      have d1 := hO.cells (g := g) rfl _ _ k1
      have d2 := hO.cells (g := g) rfl _ _ k2
      have d3 := hO.cells (g := g) rfl _ _ k3
      rw [Addr.add_lit, Nat.zero_add] at d0 d1 d2 d3
      have HX := hidden hx
      clear hO hp hx hfv k0 k1 k2 k3
      go_upto_region 5 with (first
        | (refine wpList_alloc_blk rfl 67 rfl 5 rfl (ruC zM .nilFunc) info56z ?_; intro w3 B3 bl3 hz3; have HB3 := hidden B3; have BL3 := hidden bl3; clear B3 bl3 hz3)
        | (refine wpList_store_blk rfl 67 (.tmp 5) (.tmp 21) rfl rfl wx.heap.size (l := ruC x (.func fn xa ya)) HB3.out rfl rfl rfl size56 (one_ruC rfl) ?_))
      have hN := blk_stored (l := ruC x (.func fn xa ya)) HB3.out rfl
      have hcs := Chg.sets wx.heap.size (ruC x (.func fn xa ya)) 0 w3
      have hB4 : Below wx.heap.size wx (w3.setCells wx.heap.size 0 (ruC x (.func fn xa ya))) := BL3.out.trans (hcs.below BL3.out.size (fun j e => by have e' : j = wx.heap.size := e; omega))
      have HN4 := hidden hN
      have HB4 := hidden hB4
      clear d0 d1 d2 d3 hN hcs hB4 HB3 BL3
      generalize w3.setCells wx.heap.size 0 (ruC x (.func fn xa ya)) = w4 at *
      have R4 := hidden (hRT.out.later HB4.out)
      have B4w : Hid (Below w.heap.size w w4) := hidden (hBl.out.trans (HB4.out.mono hBl.out.size))
      have g0 : w4.cell? ⟨wx.heap.size, 0, none⟩ = some (.string x.n) := HN4.out.cell 0
      have g1 : w4.cell? ⟨wx.heap.size, 1, none⟩ = some (.int .i64 x.op) := HN4.out.cell 1
      have g2 : w4.cell? ⟨wx.heap.size, 2, none⟩ = some (.string x.t) := HN4.out.cell 2
      obtain ⟨hg, -, ⟨u0, q0⟩, ⟨u1, q1⟩, ⟨u2, q2⟩, hf⟩ := R4.out.rv.spot hlt
      have f0 := hf (i * 3)
      have f1 := hf (i * 3 + 1)
      have f2 := hf (i * 3 + 2)
      clear hf
      go_wp2
      refine ⟨⟨i + 1, by first | rfl | simp, by omega, hidden (R4.out.put hlt HX.out), hidden (B4w.out.trans ((set3_chg w4 w.heap.size (i * 3) _ _ _).below B4w.out.size (fun j e => by have e' : j = w.heap.size := e; omega)))⟩, ?_⟩
      simp [intOf]
      omega
    · have hltz : ¬ (i : Int) < (n : Int) := by omega
      obtain rfl : i = n := by omega
      go_wp2
      go_ret
      exact ⟨by first | rfl | simp, hRT.out.full HLN.out, hBl.out⟩

end Go.Proofs.YtanlgplgplncdaaGreatDoor
