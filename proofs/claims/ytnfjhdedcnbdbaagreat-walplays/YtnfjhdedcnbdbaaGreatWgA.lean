import Derived.Test.YtnfjhdedcnbdbaaGreatFrP
import Derived.Test.YtnfjhdedcnbdbaaGreatWlC
import Derived.ArgAppend
import Derived.Test.YtnfjhdedcnbdbaaGreatWgR
/-
  The document's log: a head's frame.
-/
namespace Go.Proofs.YtnfjhdedcnbdbaaGreat
open Go.RowKit
set_option linter.unusedVariables false
set_option linter.unusedSimpArgs false

/-- Bytes that fill their row: what is appended to them lies in a new one. -/
theorem wpList_grows (w : World) {ops : Array Oper} {rest : List Oper} {o : Oper} {a : Act} {Q : Exit → Act → World → Prop} (hgd : o.guard = none) (s x : Operand)
    (ho : o.op = .call { callee := .builtin .append, args := #[s, x], argTypes := #[28, 28] }) (y : Addr) (n : Nat) (xs : List Int) (hs : a.eval s = .slice (some y) n n) (hsl : Sl w (some y) n xs)
    (z : Addr) (m c : Nat) (l : List Int) (hx : a.eval x = .slice (some z) m c) (hl : Sl w (some z) m l) (hm : 0 < m) (hb : n + m ≤ 140737488355328)
    (h : ∀ v' w', Bld w w' v' (n + m) (xs ++ l) → wpList Tryz.prog ops Q rest (a.put o.dst v') w') : wpList Tryz.prog ops Q (o :: rest) a w := by
  obtain ⟨i0, hi, hz0, hz1, hz2⟩ := info_parts info5
  refine wpList_plain hgd fun K hK => ?_
  obtain ⟨v', w', hr, h1, h2⟩ := run_append_arg_grows (P := Tryz.prog) (w := w) 28 o.type 5 i0 (.int .u8 0) 1 1 Tryz.underlying28 hi hz0 hz1 hz2 rfl (by decide) y n n (cells8 xs) (by rw [cells8_length, hsl.len]; omega) hsl.cells z m c (cells8 l) (by rw [cells8_length, hl.len]; omega) hl.cells (by omega) (by unfold maxLen; omega) (by omega)
  unfold Oper.wp
  simp [execOp, ho, resolve, invoke, builtin, hs, hx, hr, Result.andThen]
  refine hK _ _ (h v' w' ⟨?_, ?_, fun g hg => (h1.lt g hg).1⟩)
  · have h3 := owns_zero h1
    rw [← cells8_append] at h3
    exact h3
  · exact (Chg.of_grown (F := fun _ => False) h2 (fun j hj => by cases hj)).below (Nat.le_refl _) (fun _ k => k.elim)

set_option maxRecDepth 100000 in
theorem rlowP (ad : Option Addr) (n c : Nat) (xs : List Int) (v k : Nat) (w0 w : World) (h : Bld w0 w (.slice ad n c) n xs ∨ (c = n ∧ (∃ x, ad = some x) ∧ Sl w ad n xs ∧ Below w0.heap.size w0 w)) (hv : v < 18446744073709551616) (hk : k ≤ 8) (hk0 : 0 < k) (hb : n ≤ 140737488355000) :
    Calls Tryz.prog 83 #[.slice ad n c, .int .u64 (v : Int), .int .i64 (k : Int)] w fun e w' => ∃ ad' c', e = .returned (.slice ad' (n + k) c') ∧ Bld w0 w' (.slice ad' (n + k) c') (n + k) (xs ++ low k v) := by
  obtain ⟨i0, hi, hz0, hz1, hz2⟩ := info_parts info5
  have H := hidden h
  clear h
  go_enter Tryz.func83, Tryz.ntmps83
  go_wp2_with fail
  go_loopw [0, 1, 7] (fun v0 v1 v7 wr => ∃ (i : Nat) (a' : Option Addr) (c' : Nat), v7 = .int .i64 (i : Int) ∧ i ≤ k ∧ v1 = .int .u64 ((v / 256 ^ i : Nat) : Int) ∧ v0 = .slice a' (n + i) c' ∧ (Bld w0 wr (.slice a' (n + i) c') (n + i) (xs ++ low i v) ∨ (i = 0 ∧ c' = n ∧ (∃ x, a' = some x) ∧ Sl wr a' n xs ∧ Below w0.heap.size w0 wr)))
    (fun v0 v1 v7 _ => match v7 with | .int _ j => k - j.toNat | _ => 0)
  case atStart => exact ⟨0, ad, c, rfl, Nat.zero_le _, by simp, rfl, H.out.elim (fun h => .inl (by simpa [low] using h)) (fun h => .inr ⟨rfl, h⟩)⟩
  case round =>
    obtain ⟨i, a', c', rfl, hik, rfl, rfl, hbl⟩ := hrel
    have HB := hidden hbl
    clear hbl
    by_cases hin : i < k
    · have hin' : (i : Int) < (k : Int) := by omega
      have HE : Hid (xs ++ low (i + 1) v = xs ++ low i v ++ [((v / 256 ^ i % 256 : Nat) : Int)]) := by
        show _ = _
        rw [low_snoc, List.append_assoc]
      have hlt : v / 256 ^ i < 18446744073709551616 := Nat.lt_of_le_of_lt (Nat.div_le_self _ _) hv
      have HN : Hid (v / 256 ^ (i + 1) = v / 256 ^ i / 256) := by
        show _ = _
        rw [Nat.pow_succ, Nat.div_div_eq_div_mul]
      obtain ⟨u, hu⟩ : ∃ u, v / 256 ^ i = u := ⟨_, rfl⟩
      rw [hu] at HE HN hlt ⊢
      clear hu
      have r1 : (u : Int) % 256 = ((u % 256 : Nat) : Int) := by omega
      have r2 : (u : Int) / 256 = ((u / 256 : Nat) : Int) := by omega
      have r3 : Int.tmod (u : Int) 256 = ((u % 256 : Nat) : Int) := rfl
      have r4 : Int.tdiv (u : Int) 256 = ((u / 256 : Nat) : Int) := rfl
      obtain ⟨y, hy⟩ : ∃ y, u % 256 = y := ⟨_, rfl⟩
      obtain ⟨z, hz⟩ : ∃ z, u / 256 = z := ⟨_, rfl⟩
      have hy1 : y ≤ 255 := by omega
      have hz3 : z < 18446744073709551616 := by omega
      rw [hy] at r1 r3 HE
      rw [hz] at r2 r4 HN
      clear hy hz
      rcases HB.out with hB | ⟨hi0, hcn, ⟨x, hx⟩, hS, hbel⟩
      · have HBB := hidden hB
        clear hB
        go_wp2_with (at_builtin; refine wpList_appends _ rfl (.tmp 13) (.tmp 17) 28 rfl 5 i0 (.int .u8 0) Tryz.underlying28 hi hz0 hz1 hz2 rfl (.slice a' (n + i) c') (n + i) (xs ++ low i v) rfl (HBB.out.row.alloc _) (some ⟨wr.heap.size, 0, none⟩) 1 1 [(y : Int)] rfl (sl_lit wr [(y : Int)] (fun z hz => by simp at hz; rw [hz]; omega) 5 (0, 0) 1 rfl _ rfl _ rfl) (fun h => by cases h) (by omega) ?_; intro v3 w3 ho3 hc3 hm3; have H3 := hidden (HBB.out.stepA ho3 hc3 hm3); obtain ⟨a3, c3, rfl⟩ := owns_form ho3; clear ho3 hc3 hm3)
        refine ⟨⟨i + 1, a3, c3, by simp, hin, by rw [HN.out], rfl, by rw [HE.out]; exact .inl H3.out⟩, ?_⟩
        simp only []
        omega
      · subst hi0 hx
        obtain rfl := hcn.symm
        have HSS := hidden hS
        have HBE := hidden hbel
        clear hS hbel HB
        simp only [Nat.add_zero]
        go_wp2_with (at_builtin; refine wpList_grows _ rfl (.tmp 13) (.tmp 17) rfl x n xs rfl (HSS.out.later ((Below.refl _ _).alloc (Nat.le_refl _) _)) ⟨wr.heap.size, 0, none⟩ 1 1 [(y : Int)] rfl (sl_lit wr [(y : Int)] (fun z hz => by simp at hz; rw [hz]; omega) 5 (0, 0) 1 rfl _ rfl _ rfl) (by decide) (by omega) ?_; intro v3 w3 h3; have H3 := hidden (h3.start (HBE.out.alloc HBE.out.size _)); obtain ⟨a3, c3, rfl⟩ := owns_form h3.row; clear h3)
        refine ⟨⟨1, a3, c3, by simp, by omega, by rw [HN.out], rfl, .inl ?_⟩, ?_⟩
        · have e : xs ++ low (0 + 1) v = xs ++ [(y : Int)] := by rw [HE.out]; simp [low]
          rw [show (1 : Nat) = 0 + 1 from rfl, e]
          exact H3.out
        · simp only []
          omega
    · have hin' : ¬ (i : Int) < (k : Int) := by omega
      have e : i = k := by omega
      subst e
      have HBB := hidden (HB.out.resolve_right (fun h => by have := h.1; omega))
      clear HB
      go_wp2_with fail
      go_ret
      exact ⟨_, _, rfl, HBB.out⟩

set_option maxRecDepth 100000 in
theorem rframeP (h : Hd) (ad : Option Addr) (n c : Nat) (l : List Int) (w : World) (hs : Sl w ad n l) (hno : ad = none → n = 0 ∧ c = 0) (hn : n ≤ 4194280) (hg : h.g < 18446744073709551616) (hc : h.cap ≤ 4194304) (hl : h.slots ≤ 65536) :
    Calls Tryz.prog 53 #[.agg #[.int .u64 (h.g : Int), .int .i64 (h.cap : Int), .int .i64 (h.slots : Int), .slice ad n c]] w fun e w' => ∃ ag c', e = .returned (.slice ag (24 + n + 9) c') ∧ Bld w w' (.slice ag (24 + n + 9) c') (24 + n + 9) (made 1 (hdata h l)) := by
  obtain ⟨i0, hi, hz0, hz1, hz2⟩ := info_parts info5
  have HS := hidden hs
  have HNO := hidden hno
  clear hs hno
  obtain ⟨g, cap, slots⟩ := h
  dsimp only at hg hc hl
  go_enter Tryz.func53, Tryz.ntmps53
  go_wp2_with (first
    | (refine wpList_box_blk rfl 85 (.tmp 0) rfl [.int .u64 (g : Int), .int .i64 (cap : Int), .int .i64 (slots : Int), .slice ad n c] rfl ?_; intro w2 B2 bl2 hz2; have HB := hidden B2; have HL := hidden bl2; have hcb := constBytes w2 #[.int .u8 116, .int .u8 117, .int .u8 114, .int .u8 110, .int .u8 107, .int .u8 101, .int .u8 121, .int .u8 49] 8 8 w2.heap.size rfl; have BL3 := hidden ((Below.refl _ w2).alloc (Nat.le_refl _) (.cells #[.int .u8 116, .int .u8 117, .int .u8 114, .int .u8 110, .int .u8 107, .int .u8 101, .int .u8 121, .int .u8 49] 5 (8, 9))); have B3 := B2.later BL3.out; have c0 := B3.cell 0; clear B2 bl2 hz2 B3; simp only [List.getElem?_cons_succ, List.getElem?_cons_zero] at c0))
  have HS3 := hidden (sl_lit w2 mark mark_byte 5 (8, 9) 8 rfl _ rfl _ rfl)
  clear hcb
  refine (rlowP (some ⟨w2.heap.size, 0, none⟩) 8 8 mark g 8 w2 _ (.inr ⟨rfl, ⟨_, rfl⟩, HS3.out, BL3.out⟩) hg (by omega) (by omega) (by omega)).mono ?_
  rintro e w4 ⟨a4, c4, rfl, h4⟩
  have H4 := hidden h4
  have B4 := HB.out.later H4.out.bel
  clear c0 h4
  have c1 := B4.cell 1
  clear B4
  simp only [List.getElem?_cons_succ, List.getElem?_cons_zero] at c1
  go_wp2_with fail
  refine (rlowP a4 16 c4 _ cap 4 w2 w4 (.inl H4.out) (by omega) (by omega) (by omega) (by omega)).mono ?_
  rintro e w5 ⟨a5, c5, rfl, h5⟩
  have H5 := hidden h5
  have B5 := HB.out.later H5.out.bel
  clear c1 h5
  have c2 := B5.cell 2
  clear B5
  simp only [List.getElem?_cons_succ, List.getElem?_cons_zero] at c2
  go_wp2_with fail
  refine (rlowP a5 20 c5 _ slots 4 w2 w5 (.inl H5.out) (by omega) (by omega) (by omega) (by omega)).mono ?_
  rintro e w6 ⟨a6, c6, rfl, h6⟩
  have H6 := hidden h6
  have B6 := HB.out.later H6.out.bel
  clear c2 h6
  have c3 := B6.cell 3
  clear B6
  simp only [List.getElem?_cons_succ, List.getElem?_cons_zero] at c3
  go_wp2_with (at_builtin; refine wpList_appends _ rfl (.tmp 20) (.tmp 22) 28 rfl 5 i0 (.int .u8 0) Tryz.underlying28 hi hz0 hz1 hz2 rfl (.slice a6 24 c6) 24 _ rfl H6.out.row ad n c l rfl ((HS.out.later HL.out).later H6.out.bel) HNO.out (by omega) ?_; intro v7 w7 ho7 hc7 hm7; have H7 := hidden (H6.out.step ho7 hc7 hm7); obtain ⟨g7, c7, rfl, hl7, _, _⟩ := owns_some ho7 (by omega); clear ho7 hc7 hm7 c3)
  have hby : Byte (hdata ⟨g, cap, slots⟩ l) := by
    unfold hdata
    exact (((mark_byte.append (low_byte _ _)).append (low_byte _ _)).append (low_byte _ _)).append HS.out.byte
  have hsl : Sl w7 (some ⟨g7, 0, none⟩) (24 + n) (hdata ⟨g, cap, slots⟩ l) := H7.out.sl hby
  refine (made_any 1 (some ⟨g7, 0, none⟩) (24 + n) c7 (hdata ⟨g, cap, slots⟩ l) w7 (by decide) hsl (fun h => by cases h) (by omega)).mono ?_
  rintro e w8 ⟨a8, c8, rfl, h8⟩
  have H8 := hidden (h8.start (Lat.trans _ _ _ HL.out H7.out.bel))
  clear h8 hsl hby
  go_wp2_with fail
  go_ret
  exact ⟨_, _, rfl, H8.out⟩

end Go.Proofs.YtnfjhdedcnbdbaaGreat

/-
  The document's log: what is told of it.
-/
namespace Go.Proofs.YtnfjhdedcnbdbaaGreat
open Go.RowKit
set_option linter.unusedVariables false
set_option linter.unusedSimpArgs false

set_option maxRecDepth 100000 in
theorem rweightP (n : Int) (w : World) (hn : n ≤ 9223372036854775807) : Calls Tryz.prog 76 #[.int .i64 n] w fun e w' => e = .returned (.int .i64 (weight n)) ∧ w' = w := by
  have hq : Hid (weight n = if n < 0 ∨ 4194280 < n then 0 else n + 33) := rfl
  obtain ⟨q, hqq⟩ : ∃ q, weight n = q := ⟨_, rfl⟩
  rw [hqq] at hq ⊢
  clear hqq
  by_cases h0 : n < 0
  · have : q = 0 := by rw [hq.out, if_pos (.inl h0)]
    subst this
    go_enter Tryz.func76, Tryz.ntmps76
    go_wp2_with fail
    go_ret
    exact ⟨rfl, rfl⟩
  · by_cases h1 : 4194280 < n
    · have : q = 0 := by rw [hq.out, if_pos (.inr h1)]
      subst this
      go_enter Tryz.func76, Tryz.ntmps76
      go_wp2_with fail
      go_ret
      exact ⟨rfl, rfl⟩
    · have HE : Hid (n + 33 = q) := by
        show _ = _
        rw [hq.out, if_neg (by omega)]
      have h0' : ¬ n < 0 := h0
      have h1' : ¬ 4194280 < n := h1
      go_enter Tryz.func76, Tryz.ntmps76
      go_wp2_with fail
      go_ret
      rw [← HE.out]
      exact ⟨rfl, rfl⟩

set_option maxRecDepth 100000 in
theorem rfitsUP (cap : Int) (n : Int) (w : World) (hn : n ≤ 9223372036854775807) : Calls Tryz.prog 50 #[.int .i64 n, .int .i64 cap] w fun e w' => e = .returned (.bool (decide (0 < weight n ∧ weight n ≤ cap))) ∧ w' = w := by
  obtain ⟨q, hqq⟩ : ∃ q, decide (0 < weight n ∧ weight n ≤ cap) = q := ⟨_, rfl⟩
  have hq := hidden hqq.symm
  rw [hqq]
  clear hqq
  have hw := hidden (rweightP n w (by omega))
  obtain ⟨z, hz⟩ : ∃ z, weight n = z := ⟨_, rfl⟩
  rw [hz] at hq hw
  clear hz
  by_cases h0 : 0 < z
  · by_cases h1 : z ≤ cap
    · have : q = true := by rw [hq.out]; exact decide_eq_true ⟨h0, h1⟩
      subst this
      go_enter Tryz.func50, Tryz.ntmps50
      go_wp2_with fail
      refine hw.out.mono ?_
      rintro e w' ⟨rfl, rfl⟩
      go_wp2_with fail
      go_ret
      exact ⟨rfl, rfl⟩
    · have : q = false := by rw [hq.out]; exact decide_eq_false (fun h => h1 h.2)
      subst this
      have h1' : cap < z := by omega
      go_enter Tryz.func50, Tryz.ntmps50
      go_wp2_with fail
      refine hw.out.mono ?_
      rintro e w' ⟨rfl, rfl⟩
      go_wp2_with fail
      go_ret
      refine ⟨?_, rfl⟩
      simp [h1']
  · have : q = false := by rw [hq.out]; exact decide_eq_false (fun h => h0 h.1)
    subst this
    go_enter Tryz.func50, Tryz.ntmps50
    go_wp2_with fail
    refine hw.out.mono ?_
    rintro e w' ⟨rfl, rfl⟩
    go_wp2_with fail
    go_ret
    exact ⟨rfl, rfl⟩

theorem Lq.head {w : World} {lp p : Nat} {l : Lw} {sv : Value} (h : Lq w lp p l sv) : w.cell? ⟨lp, 0, none⟩ = some (.pointer (some ⟨p, 0, none⟩)) ∧ w.cell? ⟨lp, 1, none⟩ = some (.int .i64 (l.falls : Int)) ∧ w.cell? ⟨lp, 2, none⟩ = some (.int .i64 (l.live : Int)) ∧ w.cell? ⟨lp, 3, none⟩ = some (.int .u64 (l.h.g : Int)) ∧ w.cell? ⟨lp, 4, none⟩ = some (.int .i64 (l.h.cap : Int)) ∧ w.cell? ⟨lp, 5, none⟩ = some (.int .i64 (l.h.slots : Int)) :=
  ⟨Blk.cell h 0, Blk.cell h 1, Blk.cell h 2, Blk.cell h 3, Blk.cell h 4, Blk.cell h 5⟩
theorem Lq.lat {w w' : World} {lp p : Nat} {l : Lw} {sv : Value} (h : Lq w lp p l sv) (hb : Lat w w') : Lq w' lp p l sv := Blk.later h hb
theorem Lq.chg {w w' : World} {lp p : Nat} {l : Lw} {sv : Value} {F : Nat → Prop} (h : Lq w lp p l sv) (hc : Chg F w w') (hf : ¬ F lp) : Lq w' lp p l sv := hc.blk h hf
theorem Lq.out {w : World} {lp p q : Nat} {F : Nat → Prop} {S : St} {l : Lw} {sv : Value} (hl : Lq w lp q l sv) (h : Dk 82 97 w p F S) : ¬ F lp := by
  intro hF
  have ht : Tg w lp 91 := Blk.tg hl
  rcases h.tg lp hF with k | k | k | k
  · exact absurd (k.one ht) (by decide)
  · exact absurd (k.one ht) (by decide)
  · exact absurd (k.one ht) (by decide)
  · exact absurd (k.one ht) (by decide)

set_option maxRecDepth 100000 in
theorem rcapP (lp p : Nat) (l : Lw) (sv : Value) (w : World) (h : Lq w lp p l sv) : Calls Tryz.prog 73 #[.pointer (some ⟨lp, 0, none⟩)] w fun e w' => e = .returned (.int .i64 (l.h.cap : Int)) ∧ w' = w := by
  obtain ⟨c0, c1, c2, c3, c4, c5⟩ := h.head
  clear h
  go_enter Tryz.func73, Tryz.ntmps73
  go_wp2_with fail
  go_ret
  exact ⟨rfl, rfl⟩
set_option maxRecDepth 100000 in
theorem rslotsP (lp p : Nat) (l : Lw) (sv : Value) (w : World) (h : Lq w lp p l sv) : Calls Tryz.prog 74 #[.pointer (some ⟨lp, 0, none⟩)] w fun e w' => e = .returned (.int .i64 (l.h.slots : Int)) ∧ w' = w := by
  obtain ⟨c0, c1, c2, c3, c4, c5⟩ := h.head
  clear h
  go_enter Tryz.func74, Tryz.ntmps74
  go_wp2_with fail
  go_ret
  exact ⟨rfl, rfl⟩
set_option maxRecDepth 100000 in
theorem rgenerationP (lp p : Nat) (l : Lw) (sv : Value) (w : World) (h : Lq w lp p l sv) : Calls Tryz.prog 75 #[.pointer (some ⟨lp, 0, none⟩)] w fun e w' => e = .returned (.int .u64 (l.h.g : Int)) ∧ w' = w := by
  obtain ⟨c0, c1, c2, c3, c4, c5⟩ := h.head
  clear h
  go_enter Tryz.func75, Tryz.ntmps75
  go_wp2_with fail
  go_ret
  exact ⟨rfl, rfl⟩

set_option maxRecDepth 100000 in
theorem rdeadP (lp p : Nat) (F : Nat → Prop) (S : St) (l : Lw) (sv : Value) (w : World) (h : Dk 82 97 w p F S) (hl : Lq w lp p l sv) : Calls Tryz.prog 56 #[.pointer (some ⟨lp, 0, none⟩)] w fun e w' => e = .returned (.bool (decide (S.falls ≠ l.falls))) ∧ Lat w w' := by
  have H := hidden h
  have HL := hidden hl
  have HX : Hid (∀ w1, Lat w w1 → w1.cell? ⟨p, 2, none⟩ = some (.int .i64 (S.falls : Int))) := fun w1 hL => by
    obtain ⟨fb0, fc0, set0, ops0, ka0, kn0, kc0, p0, p1, p2, _⟩ := (h.lat hL).head
    exact p2
  clear h hl
  by_cases hx : S.falls = l.falls
  · rw [decide_eq_false (fun k => k hx)]
    go_enter Tryz.func56, Tryz.ntmps56
    go_wp2_with fail
    refine rdead_r1_eq lp p S.falls l.falls w _ _ (by rfl) (by rfl) (fun w1 hL => (HL.out.lat hL).head.1) HX.out (fun w1 hL => (HL.out.lat hL).head.2.1) (by rw [hx]) ?_
    intros
    rename_i w1 hL
    simp only [Act.put, List.setIfInBounds_toArray, List.set_cons_succ, List.set_cons_zero]
    go_wp2_with fail
    go_ret
    exact ⟨rfl, hL⟩
  · rw [decide_eq_true (show S.falls ≠ l.falls from hx)]
    go_enter Tryz.func56, Tryz.ntmps56
    go_wp2_with fail
    refine rdead_r1_ne lp p S.falls l.falls w _ _ (by rfl) (by rfl) (fun w1 hL => (HL.out.lat hL).head.1) HX.out (fun w1 hL => (HL.out.lat hL).head.2.1) (by omega) ?_
    intros
    rename_i w1 hL
    simp only [Act.put, List.setIfInBounds_toArray, List.set_cons_succ, List.set_cons_zero]
    go_wp2_with fail
    go_ret
    exact ⟨rfl, hL⟩

set_option maxRecDepth 100000 in
theorem rbytesP (lp p : Nat) (F : Nat → Prop) (S : St) (l : Lw) (sv : Value) (w : World) (h : Dk 82 97 w p F S) (hl : Lq w lp p l sv) : Calls Tryz.prog 72 #[.pointer (some ⟨lp, 0, none⟩)] w fun e w' => e = .returned (.int .i64 (S.bytes l)) ∧ Lat w w' := by
  have H := hidden h
  have HL := hidden hl
  have HD := hidden (rdeadP lp p F S l sv w h hl)
  clear h hl
  have hq : Hid (S.bytes l = if S.falls = l.falls then S.size l.live else 0) := rfl
  obtain ⟨q, hqq⟩ : ∃ q, S.bytes l = q := ⟨_, rfl⟩
  rw [hqq] at hq ⊢
  clear hqq
  by_cases hx : S.falls = l.falls
  · rw [if_pos hx] at hq
    rw [decide_eq_false (fun k => k hx)] at HD
    go_enter Tryz.func72, Tryz.ntmps72
    go_wp2_with fail
    refine HD.out.mono ?_
    rintro e w1 ⟨rfl, hL1⟩
    have HL1 := hidden hL1
    clear hL1
    go_wp2_with fail
    refine rbytes_r4 lp p l.live q w1 _ _ (by rfl) (by rfl) (fun w2 hL => (HL.out.lat (Lat.trans _ _ _ HL1.out hL)).head.1) (fun w2 hL => (HL.out.lat (Lat.trans _ _ _ HL1.out hL)).head.2.2.1) (fun w2 hL => (sizeR p F S w2 l.live (H.out.lat (Lat.trans _ _ _ HL1.out hL))).mono (fun e w2 h => ⟨by rw [hq.out]; exact h.1, by rw [h.2]; exact Lat.refl _⟩)) ?_
    intros
    rename_i w2 hL
    simp only [Act.put, List.setIfInBounds_toArray, List.set_cons_succ, List.set_cons_zero]
    go_wp2_with fail
    go_ret
    exact ⟨rfl, Lat.trans _ _ _ HL1.out hL⟩
  · rw [if_neg hx] at hq
    rw [decide_eq_true (show S.falls ≠ l.falls from hx)] at HD
    have : q = 0 := hq.out
    subst this
    go_enter Tryz.func72, Tryz.ntmps72
    go_wp2_with fail
    refine HD.out.mono ?_
    rintro e w1 ⟨rfl, hL1⟩
    have HL1 := hidden hL1
    clear hL1
    go_wp2_with fail
    go_ret
    exact ⟨rfl, HL1.out⟩

set_option maxRecDepth 100000 in
theorem rfitsP (lp p : Nat) (F : Nat → Prop) (S : St) (l : Lw) (sv : Value) (n : Int) (w : World) (h : Dk 82 97 w p F S) (hl : Lq w lp p l sv) (hn : n ≤ 9223372036854775807) : Calls Tryz.prog 57 #[.pointer (some ⟨lp, 0, none⟩), .int .i64 n] w fun e w' => e = .returned (.bool (S.fits l n)) ∧ Lat w w' := by
  have HL := hidden hl
  have HB : Hid (∀ w1, Lat w w1 → Calls Tryz.prog 72 #[.pointer (some ⟨lp, 0, none⟩)] w1 fun e w' => e = .returned (.int .i64 (S.bytes l)) ∧ Lat w1 w') := fun w1 hL => rbytesP lp p F S l sv w1 (h.lat hL) (hl.lat hL)
  have hbb := bytes_bounds h l
  unfold St.fits
  clear h hl
  generalize S.bytes l = y at *
  by_cases h0 : 0 ≤ n
  · by_cases h1 : n ≤ 4194304
    · by_cases h2 : y + (n + 9) ≤ l.h.cap
      · rw [decide_eq_true ⟨h0, h1, h2⟩]
        go_enter Tryz.func57, Tryz.ntmps57
        go_wp2_with fail
        refine rfits_le lp y n l.h.cap w _ _ (by rfl) (by rfl) (by rfl) h0 h1 HB.out (wrapI _ (by omega) (by omega)) (wrapI _ (by omega) (by omega)) (fun w2 hL => (HL.out.lat hL).head.2.2.2.2.1) (by omega) ?_
        intros
        rename_i w2 hL
        simp only [Act.put, List.setIfInBounds_toArray, List.set_cons_succ, List.set_cons_zero]
        go_wp2_with fail
        go_ret
        exact ⟨rfl, hL⟩
      · rw [decide_eq_false (fun h => h2 h.2.2)]
        go_enter Tryz.func57, Tryz.ntmps57
        go_wp2_with fail
        refine rfits_gt lp y n l.h.cap w _ _ (by rfl) (by rfl) (by rfl) h0 h1 HB.out (wrapI _ (by omega) (by omega)) (wrapI _ (by omega) (by omega)) (fun w2 hL => (HL.out.lat hL).head.2.2.2.2.1) (by omega) ?_
        intros
        rename_i w2 hL
        simp only [Act.put, List.setIfInBounds_toArray, List.set_cons_succ, List.set_cons_zero]
        go_wp2_with fail
        go_ret
        exact ⟨rfl, hL⟩
    · rw [decide_eq_false (fun h => h1 h.2.1)]
      go_enter Tryz.func57, Tryz.ntmps57
      go_wp2_with fail
      refine rfits_big lp y n l.h.cap w _ _ (by rfl) (by rfl) (by rfl) h0 (by omega) ?_
      intros
      rename_i w2 hL
      simp only [Act.put, List.setIfInBounds_toArray, List.set_cons_succ, List.set_cons_zero]
      go_wp2_with fail
      go_ret
      exact ⟨rfl, hL⟩
  · rw [decide_eq_false (fun h => h0 h.1)]
    go_enter Tryz.func57, Tryz.ntmps57
    go_wp2_with fail
    refine rfits_no lp y n l.h.cap w _ _ (by rfl) (by rfl) (by rfl) (by omega) ?_
    intros
    rename_i w2 hL
    simp only [Act.put, List.setIfInBounds_toArray, List.set_cons_succ, List.set_cons_zero]
    go_wp2_with fail
    go_ret
    exact ⟨rfl, hL⟩

end Go.Proofs.YtnfjhdedcnbdbaaGreat

/-
  The document's log: Append.
-/
namespace Go.Proofs.YtnfjhdedcnbdbaaGreat
open Go.RowKit
set_option linter.unusedVariables false
set_option linter.unusedSimpArgs false

theorem Bld.rowE {w w' : World} {ag : Option Addr} {n c B : Nat} {xs : List Int} (h : Bld w w' (.slice ag n c) n xs) (hB : B ≤ w.heap.size) : RowE B n xs (.slice ag n c) w' :=
  ⟨ag, c, rfl, owns_baseG h.row (fun g hg => Nat.le_trans hB (h.new g hg))⟩
/-- Bytes that are new: a disk's append takes them. -/
theorem appendR_new (p : Nat) (F : Nat → Prop) (S : St) (w w0 : World) (f : Int) (ag : Option Addr) (m c : Nat) (xs : List Int) (h : Dk 82 97 w p F S) (h0 : ∀ i, F i → i < w0.heap.size) (hf : S.falls ≤ 1099511627776) (hr : RowE w0.heap.size m xs (.slice ag m c) w) (hb : Byte xs) (hm : 0 < m) (hm2 : m ≤ 70368744177664) :
    Calls Tryz.prog 33 #[.pointer (some ⟨p, 0, none⟩), .int .i64 f, .slice ag m c] w fun e w' => e = .returned (.int .i64 (S.append f xs).1) ∧ Dks 82 97 w w' p F (S.append f xs).2 := by
  obtain ⟨a2, c2, e2, ho⟩ := hr
  obtain ⟨g, rfl⟩ := owns_addr ho hm
  refine appendR p F S w f _ m c xs h hf (sl_of_owns ho hb) (fun h => by cases h) hm2 (fun x hx _ k => ?_)
  cases hx
  have h1 : g < w0.heap.size := h0 _ k
  have h2 : w0.heap.size ≤ g := (ho.lt g rfl).1
  omega

set_option maxRecDepth 100000 in
theorem rappendP (lp p : Nat) (F : Nat → Prop) (S : St) (l : Lw) (sv : Value) (ad : Option Addr) (n c : Nat) (r : List Int) (w : World) (h : Dk 82 97 w p F S) (hl : Lq w lp p l sv) (hf : S.falls ≤ 1099511627776) (hS : Sl w ad n r) (hno : ad = none → n = 0 ∧ c = 0) (hn : n ≤ 9223372036854775807) :
    Calls Tryz.prog 24 #[.pointer (some ⟨lp, 0, none⟩), .slice ad n c] w fun e w' => e = .returned (.int .i64 (S.wappend l r).1) ∧ Dks 82 97 w w' p F (S.wappend l r).2 ∧ Lq w' lp p l sv := by
  have H := hidden h
  have HL := hidden hl
  have HS := hidden hS
  have HNO := hidden hno
  have HF := hidden hf
  have HD := hidden (rdeadP lp p F S l sv w h hl)
  have HOUT := hidden (hl.out h)
  have HLT := hidden h.lt
  have hlen := hidden hS.len
  clear h hl hS hno hf
  have hq : Hid (S.wappend l r = if S.falls ≠ l.falls then (40, S) else if S.fits l r.length = false then (60, S) else S.put l.live 2 r) := rfl
  obtain ⟨q, hqq⟩ : ∃ q, S.wappend l r = q := ⟨_, rfl⟩
  rw [hqq] at hq ⊢
  clear hqq
  by_cases hx : S.falls = l.falls
  · rw [if_neg (fun k => k hx), hlen.out] at hq
    rw [decide_eq_false (fun k => k hx)] at HD
    go_enter Tryz.func24, Tryz.ntmps24
    go_wp2_with fail
    refine HD.out.mono ?_
    rintro e w1 ⟨rfl, hL1⟩
    have HL1 := hidden hL1
    clear hL1
    go_wp2_with fail
    refine (rfitsP lp p F S l sv n w1 (H.out.lat HL1.out) (HL.out.lat HL1.out) (by omega)).mono ?_
    rintro e w2 ⟨rfl, hL2⟩
    have HL2 := hidden (Lat.trans _ _ _ HL1.out hL2)
    clear hL2
    have hfit : Hid (S.fits l n = true → n ≤ 4194304) := fun h => by
      unfold St.fits at h
      have := of_decide_eq_true h
      omega
    obtain ⟨b, hb⟩ : ∃ b, S.fits l n = b := ⟨_, rfl⟩
    rw [hb] at hq hfit ⊢
    clear hb
    cases b with
    | false =>
      rw [if_pos rfl] at hq
      go_wp2_with fail
      go_ret
      rw [hq.out]
      exact ⟨rfl, Dks.lat HL2.out (Dks.same (H.out.lat HL2.out)), HL.out.lat HL2.out⟩
    | true =>
      rw [if_neg (by simp)] at hq
      have hn4 : n ≤ 4194304 := hfit.out rfl
      have HPB := hidden (made_byte (k := 2) (by decide) HS.out.byte)
      go_wp2_with fail
      refine rappend_r7 lp p l.live n c w2.heap.size (n + 9) ad (made 2 r) (fun x w3 => x = .int .i64 (S.append l.live (made 2 r)).1 ∧ Dks 82 97 w w3 p F (S.append l.live (made 2 r)).2 ∧ Lq w3 lp p l sv) w2 _ _ (by rfl) (by rfl) (by rfl) (fun w3 hL => (HL.out.lat (Lat.trans _ _ _ HL2.out hL)).head.1) (fun w3 hL => (HL.out.lat (Lat.trans _ _ _ HL2.out hL)).head.2.2.1) (fun w3 hL => ?_) (fun w3 hL ag cg hr => ?_) ?_
      · refine (made_any 2 ad n c r w3 (by decide) (HS.out.later (Lat.trans _ _ _ HL2.out hL)) HNO.out hn4).mono ?_
        rintro e w4 ⟨ag, c4, rfl, hb4⟩
        exact ⟨_, rfl, hb4.bel, hb4.rowE hL.size⟩
      · have hL3 := Lat.trans _ _ _ HL2.out hL
        refine (appendR_new p F S w3 w2 l.live ag (n + 9) cg (made 2 r) (H.out.lat hL3) (fun i hi => Nat.lt_of_lt_of_le (HLT.out i hi) HL2.out.size) HF.out hr HPB.out (by omega) (by omega)).mono ?_
        rintro e w4 ⟨rfl, hD4⟩
        refine ⟨_, rfl, rfl, Dks.lat hL3 hD4, ?_⟩
        obtain ⟨F', k1, k2, k3⟩ := hD4
        exact (HL.out.lat hL3).chg k2 HOUT.out
      · intros
        rename_i x w3 hR
        obtain ⟨rfl, hR2, hR3⟩ := hR
        have HAO : Hid ((S.append l.live (made 2 r)).1 = 0 → (S.append l.live (made 2 r)).2.falls = S.falls) := append_ok
        have HPQ : Hid (q = if (S.append l.live (made 2 r)).1 ≠ 0 then S.append l.live (made 2 r) else (S.append l.live (made 2 r)).2.sync l.live) := hq.out
        obtain ⟨z, hz⟩ : ∃ z, S.append l.live (made 2 r) = z := ⟨_, rfl⟩
        rw [hz] at HAO HPQ hR2 ⊢
        obtain ⟨e1, S1⟩ := z
        dsimp only at HAO HPQ hR2 ⊢
        have HR2 := hidden hR2
        have HR3 := hidden hR3
        clear hR2 hR3 hz hq
        simp only [Act.put, List.setIfInBounds_toArray, List.set_cons_succ, List.set_cons_zero]
        by_cases h0 : e1 = 0
        · subst h0
          obtain ⟨F3, k1, k2, k3⟩ := HR2.out
          have K1 := hidden k1
          have K2 := hidden k2
          have K3 := hidden k3
          have HF1 : Hid (S1.falls ≤ 1099511627776) := by show S1.falls ≤ _; rw [HAO.out rfl]; exact HF.out
          have HQ2 : Hid (q = S1.sync l.live) := by have h := HPQ.out; rw [if_neg (by simp)] at h; exact h
          clear k1 k2 k3
          go_wp2_with fail
          refine rappend_r9 lp p l.live (fun x w4 => x = .int .i64 q.1 ∧ Dks 82 97 w w4 p F q.2 ∧ Lq w4 lp p l sv) w3 _ _ (by rfl) (by rfl) (fun w4 hL => (HR3.out.lat hL).head.1) (fun w4 hL => (HR3.out.lat hL).head.2.2.1) (fun w4 hL => ?_) ?_
          · refine (syncR p F3 S1 w4 l.live (K1.out.lat hL) HF1.out).mono ?_
            rintro e w5 ⟨rfl, hD5⟩
            refine ⟨_, rfl, ?_⟩
            rw [HQ2.out]
            refine ⟨rfl, Dks.trans K2.out K3.out (Dks.lat hL hD5), ?_⟩
            obtain ⟨F5, j1, j2, j3⟩ := hD5
            exact (HR3.out.lat hL).chg j2 ((HR3.out).out K1.out)
          · intros
            rename_i x w4 hR
            obtain ⟨rfl, hR5, hR6⟩ := hR
            have HR5 := hidden hR5
            have HR6 := hidden hR6
            clear hR5 hR6
            simp only [Act.put, List.setIfInBounds_toArray, List.set_cons_succ, List.set_cons_zero]
            go_wp2_with fail
            go_ret
            exact ⟨rfl, HR5.out, HR6.out⟩
        · have HQ2 : Hid (q = (e1, S1)) := by have h := HPQ.out; rw [if_pos h0] at h; exact h
          go_wp2_with fail
          go_ret
          rw [HQ2.out]
          exact ⟨rfl, HR2.out, HR3.out⟩
  · rw [if_pos hx] at hq
    rw [decide_eq_true (show S.falls ≠ l.falls from hx)] at HD
    go_enter Tryz.func24, Tryz.ntmps24
    go_wp2_with fail
    refine HD.out.mono ?_
    rintro e w1 ⟨rfl, hL1⟩
    have HL1 := hidden hL1
    clear hL1
    go_wp2_with fail
    refine (rfitsP lp p F S l sv n w1 (H.out.lat HL1.out) (HL.out.lat HL1.out) (by omega)).mono ?_
    rintro e w2 ⟨rfl, hL2⟩
    have HL2 := hidden (Lat.trans _ _ _ HL1.out hL2)
    clear hL2
    go_wp2_with fail
    go_ret
    rw [hq.out]
    exact ⟨rfl, Dks.lat HL2.out (Dks.same (H.out.lat HL2.out)), HL.out.lat HL2.out⟩

/-- A new head in a file: cut, written, synced. -/
def St.lays (S : St) (f : Int) (h : Hd) (s : List Int) : Int × St := if (S.truncate f 0).1 ≠ 0 then S.truncate f 0 else (S.truncate f 0).2.put f 1 (hdata h s)

set_option maxRecDepth 100000 in
theorem rlaysP (p : Nat) (F : Nat → Prop) (S : St) (f : Int) (hd : Hd) (ad : Option Addr) (n c : Nat) (s : List Int) (w : World) (h : Dk 82 97 w p F S) (hf : S.falls ≤ 1099511627776) (hS : Sl w ad n s) (hno : ad = none → n = 0 ∧ c = 0) (hap : ∀ x, ad = some x → 0 < n → ¬ F x.block) (hn : n ≤ 4194280) (hg : hd.g < 18446744073709551616) (hc : hd.cap ≤ 4194304) (hl : hd.slots ≤ 65536) :
    Calls Tryz.prog 59 #[.pointer (some ⟨p, 0, none⟩), .int .i64 f, .agg #[.int .u64 (hd.g : Int), .int .i64 (hd.cap : Int), .int .i64 (hd.slots : Int), .slice ad n c]] w fun e w' => e = .returned (.int .i64 (S.lays f hd s).1) ∧ Dks 82 97 w w' p F (S.lays f hd s).2 := by
  have H := hidden h
  have HS := hidden hS
  have HNO := hidden hno
  have HF := hidden hf
  have HAP := hidden hap
  have HLEN := hidden hS.len
  have HDB := hidden (made_byte (k := 1) (by decide) (hdata_byte hd s hS.byte))
  clear h hS hno hf hap
  have hq : Hid (S.lays f hd s = if (S.truncate f 0).1 ≠ 0 then S.truncate f 0 else (S.truncate f 0).2.put f 1 (hdata hd s)) := rfl
  have HTO : Hid ((S.truncate f 0).1 = 0 → (S.truncate f 0).2.falls = S.falls) := truncate_ok
  obtain ⟨q, hqq⟩ : ∃ q, S.lays f hd s = q := ⟨_, rfl⟩
  rw [hqq] at hq ⊢
  clear hqq
  go_enter Tryz.func59, Tryz.ntmps59
  go_wp2_with (refine wpList_box_blk rfl 85 (.tmp 2) rfl [.int .u64 (hd.g : Int), .int .i64 (hd.cap : Int), .int .i64 (hd.slots : Int), .slice ad n c] rfl ?_; intro w2 B2 bl2 hz2; have HB := hidden B2; have HL : Hid (Lat w w2) := bl2; clear B2 bl2 hz2)
  have hnp : ¬ F w.heap.size := fun k => Nat.lt_irrefl _ (H.out.lt _ k)
  refine (truncateR p F S w2 f 0 (H.out.lat HL.out) HF.out (by decide)).mono ?_
  obtain ⟨z, hz⟩ : ∃ z, S.truncate f 0 = z := ⟨_, rfl⟩
  rw [hz] at hq HTO ⊢
  obtain ⟨e1, S1⟩ := z
  dsimp only at hq HTO ⊢
  rintro e w3 ⟨rfl, F3, d3, g3, n3⟩
  have HD3 := hidden d3
  have HG3 := hidden g3
  have HN3 := hidden n3
  have HB3 := hidden (g3.blk HB.out hnp)
  clear d3 g3 n3 hz
  by_cases h0 : e1 = 0
  · subst h0
    have HF1 : Hid (S1.falls ≤ 1099511627776) := by show S1.falls ≤ _; rw [HTO.out rfl]; exact HF.out
    have HPQ : Hid (q = if (S1.append f (made 1 (hdata hd s))).1 ≠ 0 then S1.append f (made 1 (hdata hd s)) else (S1.append f (made 1 (hdata hd s))).2.sync f) := by have h := hq.out; rw [if_neg (by simp)] at h; exact h
    have HS3 : Hid (Sl w3 ad n s) := HG3.out.sl (HS.out.later HL.out) HAP.out
    go_wp2_with (refine wpList_load_blk rfl 85 (.tmp 5) rfl w.heap.size HB3.out rfl Tryz.underlying85 rfl size85g ?_)
    refine (rframeP hd ad n c s w3 HS3.out HNO.out hn hg hc hl).mono ?_
    rintro e w4 ⟨ag, c4, rfl, hb4⟩
    have HB4 := hidden hb4
    have HR4 := hidden (hb4.rowE (Nat.le_refl _))
    have HL4 : Hid (Lat w3 w4) := hb4.bel
    clear hb4
    go_wp2_with fail
    refine (appendR_new p F3 S1 w4 w3 f ag (24 + n + 9) c4 (made 1 (hdata hd s)) (HD3.out.lat HL4.out) HD3.out.lt HF1.out HR4.out HDB.out (by omega) (by omega)).mono ?_
    have HAO : Hid ((S1.append f (made 1 (hdata hd s))).1 = 0 → (S1.append f (made 1 (hdata hd s))).2.falls = S1.falls) := append_ok
    obtain ⟨z, hz⟩ : ∃ z, S1.append f (made 1 (hdata hd s)) = z := ⟨_, rfl⟩
    rw [hz] at HPQ HAO ⊢
    obtain ⟨e2, S2⟩ := z
    dsimp only at HPQ HAO ⊢
    rintro e w5 ⟨rfl, hD5⟩
    have HD5 := hidden (Dks.trans HG3.out HN3.out (Dks.lat HL4.out hD5))
    have HK5 := hidden (Dks.lat HL.out HD5.out)
    clear hD5 hz
    by_cases h2 : e2 = 0
    · subst h2
      have HF2 : Hid (S2.falls ≤ 1099511627776) := by show S2.falls ≤ _; rw [HAO.out rfl]; exact HF1.out
      have HQ2 : Hid (q = S2.sync f) := by have h := HPQ.out; rw [if_neg (by simp)] at h; exact h
      obtain ⟨F5, k1, k2, k3⟩ := HK5.out
      have K1 := hidden k1
      have K2 := hidden k2
      have K3 := hidden k3
      clear k1 k2 k3
      go_wp2_with fail
      refine (syncR p F5 S2 w5 f K1.out HF2.out).mono ?_
      rintro e w6 ⟨rfl, hD6⟩
      have HK6 := hidden (Dks.trans K2.out K3.out hD6)
      rw [← HQ2.out] at HK6 ⊢
      clear hD6
      go_wp2_with fail
      go_ret
      exact ⟨rfl, HK6.out⟩
    · have HQ2 : Hid (q = (e2, S2)) := by have h := HPQ.out; rw [if_pos h2] at h; exact h
      go_wp2_with fail
      go_ret
      rw [HQ2.out]
      exact ⟨rfl, HK5.out⟩
  · have HQ2 : Hid (q = (e1, S1)) := by have h := hq.out; rw [if_pos h0] at h; exact h
    go_wp2_with fail
    go_ret
    rw [HQ2.out]
    exact ⟨rfl, Dks.lat HL.out ⟨F3, HD3.out, HG3.out, HN3.out⟩⟩

end Go.Proofs.YtnfjhdedcnbdbaaGreat

/-
  The document's log: Format.
-/
namespace Go.Proofs.YtnfjhdedcnbdbaaGreat
open Go.RowKit
set_option linter.unusedVariables false
set_option linter.unusedSimpArgs false

theorem trunc_off {S : St} {f n : Int} (h : S.on = false) : S.truncate f n = (40, S) := by
  have e : S.refuse f = 40 := by unfold St.refuse; rw [h]; simp
  unfold St.truncate
  rw [e, if_pos (by decide)]
theorem built85f (cap slots : Int) (a : Option Addr) (n c : Nat) : Tryz.prog.built 85 [(0, .int .u64 1), (1, .int .i64 cap), (2, .int .i64 slots), (3, .slice a n c)] = some #[.int .u64 1, .int .i64 cap, .int .i64 slots, .slice a n c] := by kernel_rfl

set_option maxRecDepth 100000 in
set_option maxHeartbeats 0 in
theorem rformatP (p : Nat) (F : Nat → Prop) (S : St) (cap slots : Int) (ad : Option Addr) (n c : Nat) (s : List Int) (w : World) (h : Dk 82 97 w p F S) (hf : S.falls ≤ 1099511627776) (hS : Sl w ad n s) (hno : ad = none → n = 0 ∧ c = 0) (hap : ∀ x, ad = some x → 0 < n → ¬ F x.block) (hn : n ≤ 9223372036854775807) :
    Calls Tryz.prog 22 #[.pointer (some ⟨p, 0, none⟩), .int .i64 cap, .int .i64 slots, .slice ad n c] w fun e w' => e = .returned (.int .i64 (S.format cap slots s).1) ∧ Dks 82 97 w w' p F (S.format cap slots s).2 := by
  obtain ⟨fb0, fc0, set0, ops0, ka0, kn0, kc0, p0, p1, p2, _⟩ := h.head
  have H := hidden h
  have HS := hidden hS
  have HNO := hidden hno
  have HF := hidden hf
  have HAP := hidden hap
  have hlen := hidden hS.len
  have HSAME := hidden (Dks.same h)
  clear h hS hno hf hap p0 p2
  have hq : Hid (S.format cap slots s = if S.L.length < 2 ∨ okH 1 cap slots = false then (1, S) else if fitsU cap s.length = false then (60, S) else
    if (S.truncate 0 0).1 ≠ 0 then S.truncate 0 0 else if ((S.truncate 0 0).2.truncate 1 0).1 ≠ 0 then (S.truncate 0 0).2.truncate 1 0 else
    ((S.truncate 0 0).2.truncate 1 0).2.put 0 1 (hdata ⟨1, cap.toNat, slots.toNat⟩ s)) := rfl
  obtain ⟨q, hqq⟩ : ∃ q, S.format cap slots s = q := ⟨_, rfl⟩
  rw [hqq] at hq ⊢
  rw [hlen.out] at hq
  clear hqq
  have HOKK : Hid (okH 1 cap slots = true → 1024 ≤ cap ∧ cap ≤ 4194304 ∧ 1 ≤ slots ∧ slots ≤ 65536) := fun h => by have := of_decide_eq_true h; omega
  have HFIT : Hid (fitsU cap n = true → n ≤ 4194280) := fun h => by
    unfold fitsU at h
    have h3 := (of_decide_eq_true h).1
    unfold weight at h3
    split at h3 <;> omega
  have HSZ1 := hidden (St.size_one S)
  have HR := hidden (sizeR p F S w 1 H.out)
  have HM := hidden (mayR cap slots w)
  have HFU : Hid (Calls Tryz.prog 50 #[.int .i64 (n : Int), .int .i64 cap] w fun e w' => e = .returned (.bool (fitsU cap n)) ∧ w' = w) := rfitsUP cap n w (by omega)
  obtain ⟨ok, hok⟩ : ∃ ok, okH 1 cap slots = ok := ⟨_, rfl⟩
  obtain ⟨fu, hfu⟩ : ∃ fu, fitsU cap n = fu := ⟨_, rfl⟩
  obtain ⟨on, hon⟩ : ∃ on, S.on = on := ⟨_, rfl⟩
  obtain ⟨z1, hz1⟩ : ∃ z, S.size 1 = z := ⟨_, rfl⟩
  rw [hok] at hq HM HOKK
  rw [hfu] at hq HFU HFIT
  rw [hz1] at HSZ1 HR
  rw [hon] at p1
  have HON := hidden hon
  clear hok hfu hz1 hon
  go_enter Tryz.func22, Tryz.ntmps22
  go_wp2_with fail
  refine HM.out.mono ?_
  rintro e w1 ⟨rfl, hw1⟩
  obtain rfl := hw1.symm
  clear hw1
  go_wp2_with fail
  refine HFU.out.mono ?_
  rintro e w1 ⟨rfl, hw1⟩
  obtain rfl := hw1.symm
  clear hw1
  go_wp2_with fail
  refine HR.out.mono ?_
  rintro e w1 ⟨rfl, hw1⟩
  obtain rfl := hw1.symm
  clear hw1
  by_cases hs1 : z1 < 0
  · have HL2 : Hid (S.L.length < 2) := by
      show S.L.length < 2
      have h := HSZ1.out
      rcases Nat.lt_or_ge S.L.length 2 with k | k
      · exact k
      · have : 0 ≤ z1 := by rw [h]; exact k
        omega
    rw [if_pos (.inl HL2.out)] at hq
    go_wp2_with fail
    go_ret
    rw [hq.out]
    exact ⟨rfl, HSAME.out⟩
  · have HL2 : Hid (¬ S.L.length < 2) := by
      show ¬ S.L.length < 2
      have h := HSZ1.out
      have : 2 ≤ S.L.length := by rw [← h]; omega
      omega
    have hs1' : ¬ z1 < 0 := hs1
    cases ok with
    | false =>
      rw [if_pos (.inr rfl)] at hq
      go_wp2_with fail
      go_ret
      rw [hq.out]
      exact ⟨rfl, HSAME.out⟩
    | true =>
      rw [if_neg (fun h => h.elim HL2.out (by simp))] at hq
      cases fu with
      | false =>
        rw [if_pos rfl] at hq
        go_wp2_with fail
        go_ret
        rw [hq.out]
        exact ⟨rfl, HSAME.out⟩
      | true =>
        rw [if_neg (by simp)] at hq
        cases on with
        | false =>
          rw [trunc_off HON.out, if_pos (by show (40 : Int) ≠ 0; decide)] at hq
          go_wp2_with fail
          go_ret
          rw [hq.out]
          exact ⟨rfl, HSAME.out⟩
        | true =>
          have hn4 : n ≤ 4194280 := HFIT.out rfl
          have hokk := HOKK.out rfl
          obtain ⟨cn, rfl⟩ : ∃ cn : Nat, cap = cn := ⟨cap.toNat, by omega⟩
          obtain ⟨sn, rfl⟩ : ∃ sn : Nat, slots = sn := ⟨slots.toNat, by omega⟩
          rw [Int.toNat_natCast, Int.toNat_natCast] at hq
          have HDB := hidden (made_byte (k := 1) (by decide) (hdata_byte ⟨1, cn, sn⟩ s HS.out.byte))
          clear HM HFU HR HSZ1 HOKK HFIT
          have HTO : Hid ((S.truncate 0 0).1 = 0 → (S.truncate 0 0).2.falls = S.falls) := truncate_ok
          go_wp2_with fail
          refine (truncateR p F S w 0 0 H.out HF.out (by decide)).mono ?_
          obtain ⟨z, hz⟩ : ∃ z, S.truncate 0 0 = z := ⟨_, rfl⟩
          rw [hz] at hq HTO ⊢
          obtain ⟨e1, S1⟩ := z
          dsimp only at hq HTO ⊢
          rintro e w3 ⟨rfl, F3, d3, g3, n3⟩
          have HD3 := hidden d3
          have HG3 := hidden g3
          have HN3 := hidden n3
          clear d3 g3 n3 hz p1
          by_cases h1 : e1 = 0
          · subst h1
            rw [if_neg (by simp)] at hq
            have HF1 : Hid (S1.falls ≤ 1099511627776) := by show S1.falls ≤ _; rw [HTO.out rfl]; exact HF.out
            have HTO2 : Hid ((S1.truncate 1 0).1 = 0 → (S1.truncate 1 0).2.falls = S1.falls) := truncate_ok
            go_wp2_with fail
            refine (truncateR p F3 S1 w3 1 0 HD3.out HF1.out (by decide)).mono ?_
            obtain ⟨z, hz⟩ : ∃ z, S1.truncate 1 0 = z := ⟨_, rfl⟩
            rw [hz] at hq HTO2 ⊢
            obtain ⟨e2, S2⟩ := z
            dsimp only at hq HTO2 ⊢
            rintro e w4 ⟨rfl, hD4⟩
            have HK4 := hidden (Dks.trans HG3.out HN3.out hD4)
            clear hD4 hz
            by_cases h2 : e2 = 0
            · subst h2
              rw [if_neg (by simp)] at hq
              have HF2 : Hid (S2.falls ≤ 1099511627776) := by show S2.falls ≤ _; rw [HTO2.out rfl]; exact HF1.out
              have HPQ : Hid (q = if (S2.append 0 (made 1 (hdata ⟨1, cn, sn⟩ s))).1 ≠ 0 then S2.append 0 (made 1 (hdata ⟨1, cn, sn⟩ s)) else (S2.append 0 (made 1 (hdata ⟨1, cn, sn⟩ s))).2.sync 0) := hq.out
              obtain ⟨F4, k1, k2, k3⟩ := HK4.out
              have K1 := hidden k1
              have K2 := hidden k2
              have K3 := hidden k3
              clear k1 k2 k3
              have HS4 : Hid (Sl w4 ad n s) := K2.out.sl HS.out HAP.out
              go_wp2_with (refine wpList_build_to rfl 85 #[(0, .const (.int .u64 1)), (1, .tmp 45), (2, .tmp 46), (3, .tmp 47)] rfl [(0, .int .u64 1), (1, .int .i64 (cn : Int)), (2, .int .i64 (sn : Int)), (3, .slice ad n c)] #[.int .u64 1, .int .i64 (cn : Int), .int .i64 (sn : Int), .slice ad n c] ?_ (built85f (cn : Int) (sn : Int) ad n c) ?_; kernel_rfl)
              refine (rframeP ⟨1, cn, sn⟩ ad n c s w4 HS4.out HNO.out hn4 (by show (1 : Nat) < _; decide) (by show cn ≤ _; omega) (by show sn ≤ _; omega)).mono ?_
              rintro e w5 ⟨ag, c5, rfl, hb5⟩
              have HR5 := hidden (hb5.rowE (Nat.le_refl _))
              have HL5 : Hid (Lat w4 w5) := hb5.bel
              clear hb5
              go_wp2_with fail
              refine (appendR_new p F4 S2 w5 w4 0 ag (24 + n + 9) c5 _ (K1.out.lat HL5.out) K1.out.lt HF2.out HR5.out HDB.out (by omega) (by omega)).mono ?_
              have HAO : Hid ((S2.append 0 (made 1 (hdata ⟨1, cn, sn⟩ s))).1 = 0 → (S2.append 0 (made 1 (hdata ⟨1, cn, sn⟩ s))).2.falls = S2.falls) := append_ok
              obtain ⟨z, hz⟩ : ∃ z, S2.append 0 (made 1 (hdata ⟨1, cn, sn⟩ s)) = z := ⟨_, rfl⟩
              rw [hz] at HPQ HAO ⊢
              obtain ⟨e3, S3⟩ := z
              dsimp only at HPQ HAO ⊢
              rintro e w6 ⟨rfl, hD6⟩
              have HK6 := hidden (Dks.trans K2.out K3.out (Dks.lat HL5.out hD6))
              clear hD6 hz hq
              by_cases h3 : e3 = 0
              · subst h3
                have HF3 : Hid (S3.falls ≤ 1099511627776) := by show S3.falls ≤ _; rw [HAO.out rfl]; exact HF2.out
                have HQ3 : Hid (q = S3.sync 0) := by have h := HPQ.out; rw [if_neg (by simp)] at h; exact h
                obtain ⟨F6, j1, j2, j3⟩ := HK6.out
                have J1 := hidden j1
                have J2 := hidden j2
                have J3 := hidden j3
                clear j1 j2 j3
                go_wp2_with fail
                refine (syncR p F6 S3 w6 0 J1.out HF3.out).mono ?_
                rintro e w7 ⟨rfl, hD7⟩
                have HK7 := hidden (Dks.trans J2.out J3.out hD7)
                rw [← HQ3.out] at HK7 ⊢
                clear hD7
                go_wp2_with fail
                go_ret
                exact ⟨rfl, HK7.out⟩
              · have HQ3 : Hid (q = (e3, S3)) := by have h := HPQ.out; rw [if_pos h3] at h; exact h
                go_wp2_with fail
                go_ret
                rw [HQ3.out]
                exact ⟨rfl, HK6.out⟩
            · have HQ3 : Hid (q = (e2, S2)) := by have h := hq.out; rw [if_pos h2] at h; exact h
              go_wp2_with fail
              go_ret
              rw [HQ3.out]
              exact ⟨rfl, HK4.out⟩
          · have HQ3 : Hid (q = (e1, S1)) := by have h := hq.out; rw [if_pos h1] at h; exact h
            go_wp2_with fail
            go_ret
            rw [HQ3.out]
            exact ⟨rfl, F3, HD3.out, HG3.out, HN3.out⟩

end Go.Proofs.YtnfjhdedcnbdbaaGreat

/-
  The document's log: Checkpoint.
-/
namespace Go.Proofs.YtnfjhdedcnbdbaaGreat
open Go.RowKit
set_option linter.unusedVariables false
set_option linter.unusedSimpArgs false

set_option maxRecDepth 100000 in
set_option maxHeartbeats 0 in
theorem rcheckP (lp p : Nat) (F : Nat → Prop) (S : St) (l : Lw) (sv : Value) (ad : Option Addr) (n c : Nat) (s : List Int) (w : World) (h : Dk 82 97 w p F S) (hl : Lq w lp p l sv) (hfn : l.fine) (hf : S.falls ≤ 1099511627776) (hS : Sl w ad n s) (hno : ad = none → n = 0 ∧ c = 0) (hn : n ≤ 9223372036854775807) :
    Calls Tryz.prog 25 #[.pointer (some ⟨lp, 0, none⟩), .slice ad n c] w fun e w' => e = .returned (.int .i64 (S.wcheck l s).1) ∧ ∃ F' sv', Dk 82 97 w' p F' (S.wcheck l s).2.1 ∧ Chg (fun i => F i ∨ i = lp) w w' ∧ New w F F' ∧ Lq w' lp p (S.wcheck l s).2.2 sv' := by
  obtain ⟨i0, hi, hz0, hz1, hz2⟩ := info_parts info5
  have H := hidden h
  have HL := hidden hl
  have HS := hidden hS
  have HNO := hidden hno
  have HF := hidden hf
  have HFN := hidden hfn
  have HD := hidden (rdeadP lp p F S l sv w h hl)
  have HOUT := hidden (hl.out h)
  have hlen := hidden hS.len
  have HLP := hidden (Blk.lt hl)
  clear h hl hS hno hf hfn
  have hq : Hid (S.wcheck l s = if S.falls ≠ l.falls then (40, S, l) else if fitsU l.h.cap s.length = false then (60, S, l) else
    if (S.lays (1 - l.live : Int) l.h.next s).1 ≠ 0 then ((S.lays (1 - l.live : Int) l.h.next s).1, (S.lays (1 - l.live : Int) l.h.next s).2, l) else
    if ((S.lays (1 - l.live : Int) l.h.next s).2.truncate l.live 0).1 ≠ 0 then (((S.lays (1 - l.live : Int) l.h.next s).2.truncate l.live 0).1, ((S.lays (1 - l.live : Int) l.h.next s).2.truncate l.live 0).2, l) else
    (0, ((S.lays (1 - l.live : Int) l.h.next s).2.truncate l.live 0).2, ⟨l.falls, 1 - l.live, l.h.next⟩)) := by
    show S.wcheck l s = _
    unfold St.wcheck St.lays St.check3 St.check2 St.check1
    by_cases hx : (S.truncate (1 - l.live : Int) 0).1 = 0
    · simp only [hx, ne_eq, not_true_eq_false, if_false]
    · simp only [ne_eq, hx, not_false_eq_true, if_true]
  have HLF : Hid ((S.lays (1 - l.live : Int) l.h.next s).1 = 0 → (S.lays (1 - l.live : Int) l.h.next s).2.falls = S.falls) := fun h => by
    unfold St.lays at h ⊢
    by_cases hx : (S.truncate (1 - l.live : Int) 0).1 = 0
    · simp only [hx, ne_eq, not_true_eq_false, if_false] at h ⊢
      rw [put_ok h, truncate_ok hx]
    · simp only [ne_eq, hx, not_false_eq_true, if_true] at h
  obtain ⟨q, hqq⟩ : ∃ q, S.wcheck l s = q := ⟨_, rfl⟩
  rw [hqq] at hq ⊢
  rw [hlen.out] at hq
  clear hqq
  have HW : Hid (∀ w1 S1, Dks 82 97 w w1 p F S1 → ∃ F' sv', Dk 82 97 w1 p F' S1 ∧ Chg (fun i => F i ∨ i = lp) w w1 ∧ New w F F' ∧ Lq w1 lp p l sv') := fun w1 S1 hd => by
    obtain ⟨F', k1, k2, k3⟩ := hd
    exact ⟨F', sv, k1, k2.mono (fun _ _ h => .inl h), k3, HL.out.chg k2 HOUT.out⟩
  have HFU : Hid (∀ w1, Calls Tryz.prog 50 #[.int .i64 (n : Int), .int .i64 (l.h.cap : Int)] w1 fun e w' => e = .returned (.bool (fitsU l.h.cap n)) ∧ w' = w1) := fun w1 => rfitsUP l.h.cap n w1 (by omega)
  have hfit : Hid (fitsU l.h.cap n = true → n ≤ 4194280) := fun h => by
    unfold fitsU at h
    have h3 := (of_decide_eq_true h).1
    unfold weight at h3
    split at h3 <;> omega
  obtain ⟨b, hb⟩ : ∃ b, fitsU l.h.cap n = b := ⟨_, rfl⟩
  rw [hb] at hq hfit HFU
  clear hb
  obtain ⟨dd, hdd⟩ : ∃ dd, decide (S.falls ≠ l.falls) = dd := ⟨_, rfl⟩
  rw [hdd] at HD
  have HDD := hidden hdd
  clear hdd
  go_enter Tryz.func25, Tryz.ntmps25
  go_wp2_with fail
  refine HD.out.mono ?_
  rintro e w1 ⟨rfl, hL1⟩
  have HL1 := hidden hL1
  obtain ⟨c0, c1, c2, c3, c4, c5⟩ := (HL.out.lat hL1).head
  clear hL1
  go_wp2_with fail
  refine (HFU.out w1).mono ?_
  rintro e w2 ⟨rfl, hw2⟩
  obtain rfl := hw2.symm
  clear hw2
  cases dd with
  | true =>
    have hx : S.falls ≠ l.falls := of_decide_eq_true HDD.out
    rw [if_pos hx] at hq
    go_wp2_with fail
    go_ret
    rw [hq.out]
    exact ⟨rfl, HW.out _ _ (Dks.lat HL1.out (Dks.same (H.out.lat HL1.out)))⟩
  | false =>
    have hx := of_decide_eq_false HDD.out
    rw [if_neg hx] at hq
    clear hx
    cases b with
    | false =>
      rw [if_pos rfl] at hq
      go_wp2_with fail
      go_ret
      rw [hq.out]
      exact ⟨rfl, HW.out _ _ (Dks.lat HL1.out (Dks.same (H.out.lat HL1.out)))⟩
    | true =>
      rw [if_neg (by simp)] at hq
      have hn4 : n ≤ 4194280 := hfit.out rfl
      clear hfit HFU HD
      have hwr : IntKind.u64.wrap ((l.h.g : Int) + 1) = ((l.h.next.g : Nat) : Int) := by
        rw [IntKind.wrap_u64]
        show _ = (((l.h.g + 1) % 18446744073709551616 : Nat) : Int)
        omega
      have hbt := built98 ((l.h.next.g : Nat) : Int) (l.h.cap : Int) (l.h.slots : Int)
      obtain ⟨i3, hi3⟩ : ∃ i, Tryz.prog.info? 85 = some i := by
        have : (Tryz.prog.info? 85).isSome = true := by kernel_rfl
        exact Option.isSome_iff_exists.1 this
      have hlt : lp < w1.heap.size := Blk.lt (HL.out.lat HL1.out)
      go_wp2_with fail
      go_region
      have HBN : Hid (Blk (w1.alloc (.cells #[.int .u64 (l.h.next.g : Int), .int .i64 (l.h.cap : Int), .int .i64 (l.h.slots : Int), .slice none 0 0] 85)).drew w1.heap.size 85 [.int .u64 (l.h.next.g : Int), .int .i64 (l.h.cap : Int), .int .i64 (l.h.slots : Int), .slice none 0 0]) := Blk.new w1 85 _
      have HLN : Hid (Lat w1 (w1.alloc (.cells #[.int .u64 (l.h.next.g : Int), .int .i64 (l.h.cap : Int), .int .i64 (l.h.slots : Int), .slice none 0 0] 85)).drew) := Lat.trans _ _ _ ((Below.refl _ w1).alloc (Nat.le_refl _) _) (Lat.draw _)
      have HSZ : Hid ((w1.alloc (.cells #[.int .u64 (l.h.next.g : Int), .int .i64 (l.h.cap : Int), .int .i64 (l.h.slots : Int), .slice none 0 0] 85)).drew.heap.size = w1.heap.size + 1) := World.size_alloc _ _
      generalize (w1.alloc (.cells #[.int .u64 (l.h.next.g : Int), .int .i64 (l.h.cap : Int), .int .i64 (l.h.slots : Int), .slice none 0 0] 85)).drew = w3 at *
      obtain ⟨hb, hhb⟩ : ∃ hb, w1.heap.size = hb := ⟨_, rfl⟩
      rw [hhb] at HBN HSZ hlt ⊢
      have HHB := hidden hhb
      clear hhb c0 c1 c2 c3 c4 c5 hwr hbt hi3
      have HL3 := hidden (Lat.trans _ _ _ HL1.out HLN.out)
      have d3 := HBN.out.cell 3
      simp only [List.getElem?_cons_succ, List.getElem?_cons_zero] at d3
      go_wp2_with (at_builtin; refine wpList_appends _ rfl (.tmp 42) (.tmp 43) 28 rfl 5 i0 (.int .u8 0) Tryz.underlying28 hi hz0 hz1 hz2 rfl (.slice none 0 0) 0 [] rfl (World.ownsRow_nil _ _ _ _) ad n c s rfl (HS.out.later HL3.out) HNO.out (by omega) ?_; intro v4 w4 ho4 hc4 hm4; rw [Nat.zero_add, List.nil_append] at ho4; have HO4 := hidden ho4; have HC4 := hidden hc4; have HM4 := hidden hm4; obtain ⟨a4, c4, rfl⟩ := owns_form ho4; have B4 := hc4.blk HBN.out (fun k => by cases k); have d3 := B4.cell 3; have e3 := B4.frozen 3; have HB4 := hidden B4; simp only [List.getElem?_cons_succ, List.getElem?_cons_zero] at d3; clear ho4 hc4 hm4 B4)
      have HL4 : Hid (Lat w w4) := Below.trans HL3.out (HC4.out.below HL3.out.size (fun i k => by cases k))
      have HNEW : Hid (∀ g, a4 = some g → w3.heap.size ≤ g.block) := fun g hg => by
        rcases HM4.out with e | ⟨g', e, hg'⟩
        · rw [hg] at e; cases e
        · rw [hg] at e
          have : g.block = g' := Option.some.inj e
          omega
      have HN4 : Hid (a4 = none → n = 0 ∧ c4 = 0) := fun h => by
        subst h
        rcases HO4.out.2 with ⟨e, h0⟩ | ⟨g, c', cur, e, _⟩
        · cases e; exact ⟨h0, rfl⟩
        · cases e
      have HS4 : Hid (Sl w4 a4 n s) := sl_of_owns HO4.out HS.out.byte
      have HB5 : Hid (Blk (w4.setCell ⟨hb, 3, none⟩ (.slice a4 n c4)) hb 85 [.int .u64 (l.h.next.g : Int), .int .i64 (l.h.cap : Int), .int .i64 (l.h.slots : Int), .slice a4 n c4]) := HB4.out.set 3 _
      have HC5 := hidden (Chg.set ⟨hb, 3, none⟩ (.slice a4 n c4) w4)
      have HL5 : Hid (Lat w (w4.setCell ⟨hb, 3, none⟩ (.slice a4 n c4))) := Below.trans HL4.out (HC5.out.below HL4.out.size (fun i hi => by have := HHB.out; have := HL1.out.size; dsimp only at hi; omega))
      have HS5 : Hid (Sl (w4.setCell ⟨hb, 3, none⟩ (.slice a4 n c4)) a4 n s) := HC5.out.sl HS4.out (fun x hx _ k => by have h1 := HNEW.out x hx; have h2 := HSZ.out; dsimp only at k; omega)
      generalize w4.setCell ⟨hb, 3, none⟩ (.slice a4 n c4) = w5 at *
      have HLT := hidden H.out.lt
      have HAP : Hid (∀ x, a4 = some x → 0 < n → ¬ F x.block) := fun x hx _ k => by
        have h1 := HNEW.out x hx
        have h2 := HLT.out _ k
        have h3 := HL3.out.size
        omega
      clear d3 e3 HB4 HC4 HO4 HM4 HBN HLN HS4 HC5
      have hw1 : IntKind.i64.wrap (1 - (l.live : Int)) = 1 - (l.live : Int) := wrapI _ (by have := HFN.out.live; omega) (by have := HFN.out.live; omega)
      obtain ⟨z, hz⟩ : ∃ z, S.lays (1 - l.live : Int) l.h.next s = z := ⟨_, rfl⟩
      have HZ := hidden hz
      rw [hz] at hq HLF
      obtain ⟨e1, S1⟩ := z
      dsimp only at hq HLF
      clear hz
      have HNB : Hid (¬ F hb) := fun k => by have h2 := HLT.out _ k; have := HHB.out; have := HL1.out.size; omega
      refine rcheck_r9 lp p hb l.live l.h.next.g l.h.cap l.h.slots n c4 (1 - (l.live : Int)) a4 (fun x w6 => x = .int .i64 e1 ∧ Dks 82 97 w w6 p F S1 ∧ Lq w6 lp p l sv ∧ Blk w6 hb 85 [.int .u64 (l.h.next.g : Int), .int .i64 (l.h.cap : Int), .int .i64 (l.h.slots : Int), .slice a4 n c4]) w5 _ _ (by rfl) (by rfl) (by rfl) (fun w6 hL => (HL.out.lat (Lat.trans _ _ _ HL5.out hL)).head.1) (fun w6 hL => (HL.out.lat (Lat.trans _ _ _ HL5.out hL)).head.2.2.1) (fun w6 hL => HB5.out.later hL) hw1 (fun w6 hL => ?_) ?_
      · have hL6 := Lat.trans _ _ _ HL5.out hL
        refine (rlaysP p F S (1 - (l.live : Int)) l.h.next a4 n c4 s w6 (H.out.lat hL6) HF.out (HS5.out.later hL) HN4.out HAP.out hn4 HFN.out.next.g HFN.out.cap HFN.out.slots).mono ?_
        rw [HZ.out]
        rintro e w7 ⟨rfl, hD7⟩
        refine ⟨_, rfl, rfl, Dks.lat hL6 hD7, ?_, ?_⟩
        · obtain ⟨F', k1, k2, k3⟩ := hD7
          exact (HL.out.lat hL6).chg k2 HOUT.out
        · obtain ⟨F', k1, k2, k3⟩ := hD7
          exact k2.blk (HB5.out.later hL) HNB.out
      · intros
        rename_i x w6 hR
        obtain ⟨rfl, r1, r2, r3⟩ := hR
        have HD6 := hidden r1
        have HLG6 := hidden r2
        have HB6 := hidden r3
        clear r1 r2 r3
        simp only [Act.put, List.setIfInBounds_toArray, List.set_cons_succ, List.set_cons_zero]
        by_cases hz2 : e1 = 0
        · subst hz2
          rw [if_neg (by simp)] at hq
          have HF2 : Hid (S1.falls ≤ 1099511627776) := by show S1.falls ≤ _; rw [HLF.out rfl]; exact HF.out
          obtain ⟨F6, j1, j2, j3⟩ := HD6.out
          have HI1 := hidden j1
          have HI2 := hidden j2
          have HI3 := hidden j3
          have HNB6 : Hid (¬ F6 hb) := fun k => by
            rcases j3 hb k with h | h
            · exact HNB.out h
            · have h1 : Tg w6 hb 85 := Blk.tg HB6.out
              rcases j1.tg hb k with t | t | t | t <;> exact absurd (t.one h1) (by decide)
          clear j1 j2 j3
          obtain ⟨z, hz⟩ : ∃ z, S1.truncate l.live 0 = z := ⟨_, rfl⟩
          have HZ2 := hidden hz
          rw [hz] at hq
          obtain ⟨e2, S2⟩ := z
          dsimp only at hq
          clear hz
          go_wp2_with fail
          refine rcheck_r11 lp p l.live (fun x w7 => x = .int .i64 e2 ∧ Dks 82 97 w w7 p F S2 ∧ Lq w7 lp p l sv ∧ Blk w7 hb 85 [.int .u64 (l.h.next.g : Int), .int .i64 (l.h.cap : Int), .int .i64 (l.h.slots : Int), .slice a4 n c4]) w6 _ _ (by rfl) (by rfl) (fun w7 hL => (HLG6.out.lat hL).head.1) (fun w7 hL => (HLG6.out.lat hL).head.2.2.1) (fun w7 hL => ?_) ?_
          · refine (truncateR p F6 S1 w7 l.live 0 (HI1.out.lat hL) HF2.out (by omega)).mono ?_
            rw [HZ2.out]
            rintro e w8 ⟨rfl, hD8⟩
            refine ⟨_, rfl, rfl, Dks.trans HI2.out HI3.out (Dks.lat hL hD8), ?_, ?_⟩
            · obtain ⟨F', k1, k2, k3⟩ := hD8
              exact (HLG6.out.lat hL).chg k2 ((HLG6.out.lat hL).out (HI1.out.lat hL))
            · obtain ⟨F', k1, k2, k3⟩ := hD8
              exact k2.blk (HB6.out.later hL) HNB6.out
          · intros
            rename_i x w7 hR
            obtain ⟨rfl, r1, r2, r3⟩ := hR
            have HD7 := hidden r1
            have HLG7 := hidden r2
            have HB7 := hidden r3
            clear r1 r2 r3
            simp only [Act.put, List.setIfInBounds_toArray, List.set_cons_succ, List.set_cons_zero]
            by_cases hz3 : e2 = 0
            · subst hz3
              rw [if_neg (by simp)] at hq
              have c2 := HLG7.out.head.2.2.1
              have f2 := Blk.frozen HLG7.out 2
              have th := Blk.there (HLG7.out) 3 4 (by simp)
              have LGS : Hid (Blk (w7.setCell ⟨lp, 2, none⟩ (.int .i64 (1 - (l.live : Int)))) lp 91 _) := Blk.set HLG7.out 2 (.int .i64 (1 - (l.live : Int)))
              have LBS : Hid (Blk (w7.setCell ⟨lp, 2, none⟩ (.int .i64 (1 - (l.live : Int)))) hb 85 [.int .u64 (l.h.next.g : Int), .int .i64 (l.h.cap : Int), .int .i64 (l.h.slots : Int), .slice a4 n c4]) := (Chg.set ⟨lp, 2, none⟩ (.int .i64 (1 - (l.live : Int))) w7).blk HB7.out (fun e => by dsimp only at e; omega)
              go_wp2_with (first
                | refine wpList_load_blk rfl 85 (.tmp 7) rfl hb LBS.out rfl Tryz.underlying85 rfl size85g ?_
                | refine wpList_store_mid rfl 85 (.tmp 81) (.tmp 79) rfl lp 3 #[.int .u64 (l.h.next.g : Int), .int .i64 (l.h.cap : Int), .int .i64 (l.h.slots : Int), .slice a4 n c4] rfl rfl (Blk.there LGS.out 3 4 (by simp)) size85g (by simp [Value.oneCell']) ?_)
              go_ret
              rw [hq.out]
              obtain ⟨F7, j1, j2, j3⟩ := HD7.out
              have HC := (Chg.set ⟨lp, 2, none⟩ (.int .i64 (1 - (l.live : Int))) w7).trans (chg_sets (fun i => i = lp) lp rfl [.int .u64 (l.h.next.g : Int), .int .i64 (l.h.cap : Int), .int .i64 (l.h.slots : Int), .slice a4 n c4] 3 _) (fun _ _ h => h)
              have hB := Blk.sets [.int .u64 (l.h.next.g : Int), .int .i64 (l.h.cap : Int), .int .i64 (l.h.slots : Int), .slice a4 n c4] 3 _ _ LGS.out (by simp)
              refine ⟨rfl, F7, .slice a4 n c4, j1.chg HC (fun i hi e => ?_), (j2.mono (fun _ _ h => .inl h)).trans (HC.mono (fun _ _ h => .inr h)) (fun _ _ h => h), j3, ?_⟩
              · dsimp only at e
                subst e
                exact HLG7.out.out j1 hi
              · show Blk _ lp 91 [.pointer (some ⟨p, 0, none⟩), .int .i64 (l.falls : Int), .int .i64 ((1 - l.live : Nat) : Int), .int .u64 (l.h.next.g : Int), .int .i64 (l.h.cap : Int), .int .i64 (l.h.slots : Int), .slice a4 n c4]
                rw [show ((1 - l.live : Nat) : Int) = 1 - (l.live : Int) by have := HFN.out.live; omega]
                simpa using hB
            · rw [if_pos hz3] at hq
              go_wp2_with fail
              go_ret
              rw [hq.out]
              exact ⟨rfl, HW.out _ _ HD7.out⟩
        · rw [if_pos hz2] at hq
          go_wp2_with fail
          go_ret
          rw [hq.out]
          exact ⟨rfl, HW.out _ _ HD6.out⟩

end Go.Proofs.YtnfjhdedcnbdbaaGreat
