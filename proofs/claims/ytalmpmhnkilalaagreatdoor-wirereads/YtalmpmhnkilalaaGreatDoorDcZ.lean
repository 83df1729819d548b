import Derived.Test.YtalmpmhnkilalaaGreatDoorChU
import Derived.Test.YtalmpmhnkilalaaGreatDoorRwA
/-
  Two helpers of the document's chunk.
-/
namespace Go.Proofs.YtalmpmhnkilalaaGreatDoor
open Go.RowKit
set_option linter.unusedVariables false

theorem take_next {l : List Sm} {i : Nat} {x : Sm} (h : l[i]? = some x) : l.take i ++ [x] = l.take (i + 1) := by
  rw [List.take_add_one, h]; rfl
theorem Ss.bel {w w' : World} {ad : Option Addr} {l : List Sm} {b : Nat} (h : Ss w ad l) (hb : Below b w w') (hlt : ∀ x, ad = some x → l ≠ [] → x.block < b) : Ss w' ad l := by
  refine ⟨h.sz, fun h0 => ?_⟩
  obtain ⟨g, off, e, hg, hc⟩ := h.at' h0
  have hgb : g < b := hlt _ e h0
  refine ⟨g, off, e, Nat.lt_of_lt_of_le hg hb.size, fun i x hx => ?_⟩
  rw [hb.cell (p := ⟨g, off + i * 2, none⟩) hgb, hb.cell (p := ⟨g, off + i * 2 + 1, none⟩) hgb]
  exact hc i x hx

end Go.Proofs.YtalmpmhnkilalaaGreatDoor

/-
  The document's own bits: put, within, time.
-/
namespace Go.Proofs.YtalmpmhnkilalaaGreatDoor
open Go.RowKit
set_option linter.unusedVariables false
set_option linter.unusedSimpArgs false

/-- Noughts and ones. -/
def nI (L : List Bool) : List Int := L.map (fun b => (b.toNat : Int))
def bI (L : List Bool) : List Value := cells8 (nI L)
theorem nI_len (L : List Bool) : (nI L).length = L.length := by simp [nI]
theorem bI_len (L : List Bool) : (bI L).length = L.length := by unfold bI; rw [cells8_length, nI_len]
theorem bI_append (L M : List Bool) : bI (L ++ M) = bI L ++ bI M := by unfold bI nI; rw [List.map_append, cells8_append]
theorem bI_one (b : Bool) : bI [b] = [.int .u8 (b.toNat : Int)] := by cases b <;> rfl
theorem wpList_pushB (w : World) {ops : Array Oper} {rest : List Oper} {o : Oper} {a : Act} {Q : Exit → Act → World → Prop} (hgd : o.guard = none) (s x : Operand)
    (ho : o.op = .call { callee := .builtin .append, args := #[s, x], argTypes := #[22, 22] }) (base : Nat) (v : Value) (n : Nat) (xs : List Value) (hs : a.eval s = v) (w0 : World) (hown : w0.ownsRow base 5 1 v n xs) (y : Int)
    (hw : w = w0.alloc (.cells #[.int .u8 y] 5)) (hx : a.eval x = .slice (some ⟨w0.heap.size, 0, none⟩) 1 1) (hn : n ≤ 10000000000) (hbase : base ≤ w0.heap.size)
    (h : ∀ g' c' w', w'.ownsRow base 5 1 (.slice (some ⟨g', 0, none⟩) (n + 1) c') (n + 1) (xs ++ [.int .u8 y]) → Below base w0 w' → wpList Tryz.prog ops Q rest (a.put o.dst (.slice (some ⟨g', 0, none⟩) (n + 1) c')) w') : wpList Tryz.prog ops Q (o :: rest) a w := by
  subst hw
  obtain ⟨i0, hi0, hz0, hz1, hz2⟩ := info_parts info5
  refine wpList_push _ hgd s x 22 ho 5 i0 (.int .u8 0) 1 Tryz.underlying22 hi0 hz0 hz1 hz2 rfl base v n xs hs (hown.alloc _) ⟨w0.heap.size, 0, none⟩ (.int .u8 y) hx (by simp) rfl (by unfold maxLen; omega) (by omega) (by simp; omega) ?_
  intro g' c' w' h1 h2
  exact h g' c' w' h1 (h2.chg.1.below hbase (fun q hq => (hown.lt q hq).1))
theorem low_take_next (x n k : Nat) (h : k < n) : (low x n).take (k + 1) = (low x n).take k ++ [x.testBit (n - 1 - k)] := by
  have hl : k < (low x n).length := by rw [low_len]; exact h
  rw [List.take_add_one]
  congr 1
  have e := low_at x n k
  rw [List.getD_eq_getElem?_getD, List.getElem?_eq_getElem hl] at e
  simp only [Option.getD_some, decide_eq_true h, Bool.true_and] at e
  rw [List.getElem?_eq_getElem hl, e]
  rfl
theorem bit_of (x i : Nat) (hx : x < 18446744073709551616) : bits .and .u64 ((x / 2 ^ i : Nat) : Int) 1 = ((x.testBit i).toNat : Int) := by
  have h := bits_and_u64_nat (x / 2 ^ i) 1 (by have := Nat.div_le_self x (2 ^ i); omega) (by omega)
  rw [show ((1 : Nat) : Int) = 1 from rfl] at h
  rw [h, Nat.and_one_is_mod, Nat.toNat_testBit]
theorem shr_of (x i : Nat) (hi : i ≤ 63) : Op.shift .shr .u64 (x : Int) .i64 (i : Int) = pure (.int .u64 ((x / 2 ^ i : Nat) : Int)) := by
  rw [shift_shr .u64 .i64 _ _ (by omega) (by simp [IntKind.bits]; omega), Int.toNat_natCast]
  congr 2
theorem toNat_u8 (b : Bool) : IntKind.u8.wrap (b.toNat : Int) = (b.toNat : Int) := by cases b <;> rfl

/-- A row of bits of one's own. -/
def OW (w : World) (base : Nat) (v : Value) (L : List Bool) : Prop := (∃ ad c, v = .slice ad L.length c) ∧ w.ownsRow base 5 1 v L.length (bI L)
/-- What one of the document's puts leaves. -/
def PtD (w : World) (base : Nat) (M : List Bool) (e : Ending) (w' : World) : Prop := ∃ v, e = .returned v ∧ OW w' base v M ∧ Below base w w'

set_option maxRecDepth 100000 in
set_option maxHeartbeats 4000000 in
theorem putD (w : World) (base : Nat) (v : Value) (L : List Bool) (x n : Nat) (h : OW w base v L) (hb : base ≤ w.heap.size) (hx : x < 18446744073709551616) (hn : n ≤ 64) (hL : L.length ≤ 1000000000) :
    Calls Tryz.prog 172 #[v, .int .u64 (x : Int), .int .i64 (n : Int)] w (PtD w base (L ++ low x n)) := by
  obtain ⟨⟨ad, c, rfl⟩, hO⟩ := h
  have HO := hidden hO
  clear hO
  go_enter Tryz.func172, Tryz.ntmps172
  go_wp2_with fail
  go_loopw [0, 7] (fun v0 v7 wr => ∃ (k : Nat) (ad' : Option Addr) (c' : Nat), k ≤ n ∧ v7 = .int .i64 ((n : Int) - 1 - (k : Int)) ∧ v0 = .slice ad' (L.length + k) c' ∧ Hid (wr.ownsRow base 5 1 (.slice ad' (L.length + k) c') (L.length + k) (bI (L ++ (low x n).take k))) ∧ Hid (Below base w wr)) (fun _ v7 _ => (intOf v7 + 1).toNat)
  case atStart => exact ⟨0, ad, c, by omega, by simp, by simp, by simpa using HO, hidden (Below.refl _ _)⟩
  case round =>
    rename World => wr
    obtain ⟨k, ad', c', hk, rfl, rfl, hO, hB⟩ := hrel
    by_cases hlt : k < n
    · obtain ⟨i, hi⟩ : ∃ i, n - 1 - k = i := ⟨_, rfl⟩
      have hiz : (n : Int) - 1 - (k : Int) = (i : Int) := by omega
      have hge : (0 : Int) ≤ (i : Int) := by omega
      have hi64 : i < 64 := by omega
      have HT := hidden (low_take_next x n k hlt)
      rw [hi] at HT
      have hbit : bits BinOp.and IntKind.u64 ((x : Int) / 2 ^ i) 1 = ((x.testBit i).toNat : Int) := by
        rw [← bit_of x i hx]
        congr 1
      have hmod : ((x.testBit i).toNat : Int) % 256 = ((x.testBit i).toNat : Int) := by cases x.testBit i <;> rfl
      have hsh := shr_of x i (by omega)
      have hbs := hB.out.size
      rw [hiz]
      generalize hbb : x.testBit i = bb at *
      go_wp2_with (first
        | (refine wpList_pushB _ rfl (.tmp 14) (.tmp 20) rfl base (.slice ad' (L.length + k) c') (L.length + k) _ rfl wr hO.out (bb.toNat : Int) rfl rfl (by omega) (by omega) ?_
           intro g7 c7 w7 o7 b7
           have O7 := hidden o7
           have B7 := hidden (hB.out.trans b7)
           clear o7 b7))
      refine ⟨⟨k + 1, some ⟨g7, 0, none⟩, c7, by omega, ?_, rfl, ?_, B7⟩, ?_⟩
      · congr 1
        omega
      · rw [HT.out, ← List.append_assoc, bI_append, bI_one]
        exact O7
      · simp [intOf]
    · obtain rfl : k = n := by omega
      have hge : ¬ (0 : Int) ≤ (k : Int) - 1 - (k : Int) := by omega
      have HT : Hid ((low x k).take k = low x k) := hidden (by rw [List.take_of_length_le (by rw [low_len]; exact Nat.le_refl _)])
      rw [HT.out] at hO
      have hlen : (L ++ low x k).length = L.length + k := by rw [List.length_append, low_len]
      go_wp2
      go_ret
      exact ⟨_, rfl, ⟨⟨ad', c', by rw [hlen]; rfl⟩, by rw [hlen]; exact hO.out⟩, hB.out⟩


theorem withinD (w : World) (n a b : Int) (hn : I64 n) (ha : I64 a) (hb : I64 b) :
    Calls Tryz.prog 187 #[.int .i64 n, .int .i64 a, .int .i64 b] w fun e w' => e = .returned (.bool (decide (a ≤ n ∧ n ≤ b))) ∧ w' = w := by
  by_cases h1 : a ≤ n
  · by_cases h2 : n ≤ b
    · rw [decide_eq_true ⟨h1, h2⟩]
      go_enter Tryz.func187, Tryz.ntmps187
      go_wp2
      go_ret
      exact ⟨rfl, rfl⟩
    · rw [decide_eq_false (fun h => h2 h.2)]
      go_enter Tryz.func187, Tryz.ntmps187
      go_wp2
      go_ret
      exact ⟨rfl, rfl⟩
  · rw [decide_eq_false (fun h => h1 h.1)]
    go_enter Tryz.func187, Tryz.ntmps187
    go_wp2
    go_ret
    exact ⟨rfl, rfl⟩

set_option maxRecDepth 100000 in
set_option maxHeartbeats 8000000 in
theorem timeD (w : World) (base : Nat) (v : Value) (L : List Bool) (d : Int) (h : OW w base v L) (hb : base ≤ w.heap.size) (hd : I64 d) (hL : L.length ≤ 900000000) :
    Calls Tryz.prog 173 #[v, .int .i64 d] w (PtD w base (L ++ drB d)) := by
  have HO := hidden h
  have hul := un_lt d
  have hu : IntKind.u64.wrap d = (un d : Int) := by rw [u64w]; unfold un; omega
  have hdb := hd
  unfold I64 at hdb
  have HW := hidden (fun (w1 : World) (a b : Int) (ha : I64 a) (hb : I64 b) => withinD w1 d a b hd ha hb)
  clear hd h
  by_cases h0 : d = 0
  · subst h0
    have HP := hidden (putD w base v L 0 1 HO.out hb (by omega) (by omega) (by omega))
    rw [show low 0 1 = [false] from by decide] at HP
    rw [show drB 0 = [false] from rfl]
    go_enter Tryz.func173, Tryz.ntmps173
    go_wp2_with fail
    refine HP.out.mono ?_
    rintro e w1 ⟨v1, rfl, o1, b1⟩
    go_wp2
    go_ret
    exact ⟨_, rfl, o1, b1⟩
  · have TWO : Hid (∀ (x n m : Nat), x < 18446744073709551616 → n ≤ 4 → m ≤ 64 → ∀ w1 v1, OW w1 base v1 (L ++ low x n) → Below base w w1 → Calls Tryz.prog 172 #[v1, .int .u64 (un d : Int), .int .i64 (m : Int)] w1 (PtD w1 base (L ++ low x n ++ low (un d) m))) := hidden (fun x n m hx hn hm w1 v1 o1 b1 => putD w1 base v1 _ (un d) m o1 (Nat.le_trans hb b1.size) hul hm (by rw [List.length_append, low_len]; omega))
    have ONE : Hid (∀ (x n : Nat), x < 18446744073709551616 → n ≤ 4 → Calls Tryz.prog 172 #[v, .int .u64 (x : Int), .int .i64 (n : Int)] w (PtD w base (L ++ low x n))) := hidden (fun x n hx hn => putD w base v L x n HO.out hb hx (by omega) (by omega))
    go_enter Tryz.func173, Tryz.ntmps173
    go_wp2_with fail
    refine (HW.out w (-64) 63 (by unfold I64; omega) (by unfold I64; omega)).mono ?_
    rintro e w1 ⟨rfl, rfl⟩
    by_cases h1 : -64 ≤ d ∧ d ≤ 63
    · rw [decide_eq_true h1]
      have HE : Hid (drB d = low 2 2 ++ low (un d) 7) := hidden (by unfold drB; rw [if_neg h0, if_pos h1]; rfl)
      go_wp2_with fail
      refine (ONE.out 2 2 (by omega) (by omega)).mono ?_
      rintro e w2 ⟨v2, rfl, o2, b2⟩
      have O2 := hidden o2
      have B2 := hidden b2
      clear o2 b2
      go_wp2_with fail
      refine (TWO.out 2 2 7 (by omega) (by omega) (by omega) w2 v2 O2.out B2.out).mono ?_
      rintro e w3 ⟨v3, rfl, o3, b3⟩
      have O3 := hidden o3
      have B3 := hidden (B2.out.trans b3)
      clear o3 b3
      go_wp2
      go_ret
      exact ⟨_, rfl, by rw [HE.out, ← List.append_assoc]; exact O3.out, B3.out⟩
    · rw [decide_eq_false h1]
      have H1 := hidden h1
      clear h1
      go_wp2_with fail
      refine (HW.out _ (-256) 255 (by unfold I64; omega) (by unfold I64; omega)).mono ?_
      rintro e wa ⟨rfl, rfl⟩
      by_cases h2 : -256 ≤ d ∧ d ≤ 255
      · rw [decide_eq_true h2]
        have HE : Hid (drB d = low 6 3 ++ low (un d) 9) := hidden (by unfold drB; rw [if_neg h0, if_neg H1.out, if_pos h2]; rfl)
        go_wp2_with fail
        refine (ONE.out 6 3 (by omega) (by omega)).mono ?_
        rintro e w2 ⟨v2, rfl, o2, b2⟩
        have O2 := hidden o2
        have B2 := hidden b2
        clear o2 b2
        go_wp2_with fail
        refine (TWO.out 6 3 9 (by omega) (by omega) (by omega) w2 v2 O2.out B2.out).mono ?_
        rintro e w3 ⟨v3, rfl, o3, b3⟩
        have O3 := hidden o3
        have B3 := hidden (B2.out.trans b3)
        clear o3 b3
        go_wp2
        go_ret
        exact ⟨_, rfl, by rw [HE.out, ← List.append_assoc]; exact O3.out, B3.out⟩
      · rw [decide_eq_false h2]
        have H2 := hidden h2
        clear h2
        go_wp2_with fail
        refine (HW.out _ (-2048) 2047 (by unfold I64; omega) (by unfold I64; omega)).mono ?_
        rintro e wb ⟨rfl, rfl⟩
        by_cases h3 : -2048 ≤ d ∧ d ≤ 2047
        · rw [decide_eq_true h3]
          have HE : Hid (drB d = low 14 4 ++ low (un d) 12) := hidden (by unfold drB; rw [if_neg h0, if_neg H1.out, if_neg H2.out, if_pos h3]; rfl)
          go_wp2_with fail
          refine (ONE.out 14 4 (by omega) (by omega)).mono ?_
          rintro e w2 ⟨v2, rfl, o2, b2⟩
          have O2 := hidden o2
          have B2 := hidden b2
          clear o2 b2
          go_wp2_with fail
          refine (TWO.out 14 4 12 (by omega) (by omega) (by omega) w2 v2 O2.out B2.out).mono ?_
          rintro e w3 ⟨v3, rfl, o3, b3⟩
          have O3 := hidden o3
          have B3 := hidden (B2.out.trans b3)
          clear o3 b3
          go_wp2
          go_ret
          exact ⟨_, rfl, by rw [HE.out, ← List.append_assoc]; exact O3.out, B3.out⟩
        · rw [decide_eq_false h3]
          have H3 := hidden h3
          clear h3
          have HE : Hid (drB d = low 15 4 ++ low (un d) 64) := hidden (by unfold drB; rw [if_neg h0, if_neg H1.out, if_neg H2.out, if_neg H3.out]; rfl)
          go_wp2_with fail
          refine (ONE.out 15 4 (by omega) (by omega)).mono ?_
          rintro e w2 ⟨v2, rfl, o2, b2⟩
          have O2 := hidden o2
          have B2 := hidden b2
          clear o2 b2
          go_wp2_with fail
          refine (TWO.out 15 4 64 (by omega) (by omega) (by omega) w2 v2 O2.out B2.out).mono ?_
          rintro e w3 ⟨v3, rfl, o3, b3⟩
          have O3 := hidden o3
          have B3 := hidden (B2.out.trans b3)
          clear o3 b3
          go_wp2
          go_ret
          exact ⟨_, rfl, by rw [HE.out, ← List.append_assoc]; exact O3.out, B3.out⟩

end Go.Proofs.YtalmpmhnkilalaaGreatDoor

/-
  The document's own bits: value.
-/
namespace Go.Proofs.YtalmpmhnkilalaaGreatDoor
open Go.RowKit
set_option linter.unusedVariables false
set_option linter.unusedSimpArgs false

/-- Where the first 1 stands, and the last one. -/
theorem ahd_find {x a : Nat} (hx : x < 18446744073709551616) (h0 : 0 < x) (ha : a ≤ ahd x) : x / 2 ^ (63 - a) = 0 ↔ a ≠ ahd x := by
  obtain ⟨s1, s2, _⟩ := span_lt hx h0
  obtain ⟨h1, h2, h3⟩ := blen_lt 64 x (by omega)
  obtain ⟨h4, h5⟩ := h2 h0
  have hb : blen 64 x = 64 - ahd x := by unfold ahd; omega
  rw [hb] at h1 h5
  constructor
  · intro e hh
    subst hh
    have := Nat.div_eq_zero_iff.1 e
    have h6 : 2 ^ (63 - ahd x) = 2 ^ (64 - ahd x - 1) := by congr 1; omega
    have hp := Nat.two_pow_pos (63 - ahd x)
    omega
  · intro hh
    apply Nat.div_eq_of_lt
    refine Nat.lt_of_lt_of_le h1 (Nat.pow_le_pow_right (by omega) (by omega))
theorem bhd_odd {x : Nat} (hx : x < 18446744073709551616) (h0 : 0 < x) : ∃ m, x = 2 ^ bhd x * (2 * m + 1) := by
  obtain ⟨m, hm, hc⟩ := Lib.ctzFrom_spec 64 x (by omega) (by omega)
  have hb : bhd x = Lib.ctzFrom 64 x := by unfold bhd Lib.ctz; first | rfl | (rw [if_neg (by omega)]) | simp
  rw [hb]
  exact ⟨m, hm⟩
theorem bhd_find {x b : Nat} (hx : x < 18446744073709551616) (h0 : 0 < x) (hb : b ≤ bhd x) : x / 2 ^ b % 2 = 0 ↔ b ≠ bhd x := by
  obtain ⟨m, hm⟩ := bhd_odd hx h0
  constructor
  · intro e hh
    subst hh
    have h2 : x / 2 ^ bhd x = 2 * m + 1 := by
      have := Nat.mul_div_cancel_left (2 * m + 1) (Nat.two_pow_pos (bhd x))
      rwa [← hm] at this
    omega
  · intro hh
    have h3 : bhd x = b + 1 + (bhd x - b - 1) := by omega
    have h2 : x / 2 ^ b = 2 * (2 ^ (bhd x - b - 1) * (2 * m + 1)) := by
      have h4 : x = 2 ^ b * (2 * (2 ^ (bhd x - b - 1) * (2 * m + 1))) := by
        have e1 : 2 ^ bhd x = 2 ^ b * 2 * 2 ^ (bhd x - b - 1) := by
          rw [← Nat.pow_succ, ← Nat.pow_add]; congr 1
        calc x = 2 ^ bhd x * (2 * m + 1) := hm
          _ = 2 ^ b * 2 * 2 ^ (bhd x - b - 1) * (2 * m + 1) := by rw [← e1]
          _ = _ := by simp only [Nat.mul_assoc]
      have := Nat.mul_div_cancel_left (2 * (2 ^ (bhd x - b - 1) * (2 * m + 1))) (Nat.two_pow_pos b)
      rwa [← h4] at this
    rw [h2]
    omega

theorem div_cast (x q : Nat) : (x : Int) / 2 ^ q = ((x / 2 ^ q : Nat) : Int) := by rw [Int.natCast_ediv, Int.natCast_pow]; rfl
set_option maxRecDepth 100000 in
set_option maxHeartbeats 8000000 in
theorem valueD (w : World) (base : Nat) (v : Value) (L : List Bool) (x : Nat) (h : OW w base v L) (hb : base ≤ w.heap.size) (hx : x < 18446744073709551616) (hL : L.length ≤ 900000000) :
    Calls Tryz.prog 174 #[v, .int .u64 (x : Int)] w (PtD w base (L ++ flB x)) := by
  have HO := hidden h
  clear h
  by_cases h0 : x = 0
  · subst h0
    have HP := hidden (putD w base v L 0 1 HO.out hb (by omega) (by omega) (by omega))
    rw [show low 0 1 = [false] from by decide] at HP
    rw [show flB 0 = [false] from rfl]
    go_enter Tryz.func174, Tryz.ntmps174
    go_wp2_with fail
    refine HP.out.mono ?_
    rintro e w1 ⟨v1, rfl, o1, b1⟩
    go_wp2
    go_ret
    exact ⟨_, rfl, o1, b1⟩
  · have hp : 0 < x := by omega
    obtain ⟨s1, s2, s3, s4, s5⟩ := span_lt hx hp
    have HA := hidden (fun a (ha : a ≤ ahd x) => ahd_find hx hp ha)
    have HB := hidden (fun b (hb : b ≤ bhd x) => bhd_find hx hp hb)
    have HE : Hid (flB x = low 1 1 ++ low (ahd x) 6 ++ low (siz x - 1) 6 ++ low (x / 2 ^ bhd x) (siz x)) := hidden (by unfold flB; rw [if_neg h0]; rfl)
    have hdiv : x / 2 ^ bhd x < 18446744073709551616 := Nat.lt_of_le_of_lt (Nat.div_le_self _ _) hx
    have PUT : Hid (∀ w1 v1 M (y n : Nat), OW w1 base v1 (L ++ M) → M.length ≤ 100 → Below base w w1 → y < 18446744073709551616 → n ≤ 64 → Calls Tryz.prog 172 #[v1, .int .u64 (y : Int), .int .i64 (n : Int)] w1 (PtD w1 base (L ++ M ++ low y n))) := hidden (fun w1 v1 M y n o1 hM b1 hy hn => putD w1 base v1 _ y n o1 (Nat.le_trans hb b1.size) hy hn (by rw [List.length_append]; omega))
    have h0z : ¬ (x : Int) = 0 := by omega
    generalize hah : ahd x = A at *
    generalize hbh : bhd x = Bh at *
    generalize hsi : siz x = Z at *
    clear hp h0
    go_enter Tryz.func174, Tryz.ntmps174
    go_wp2_with fail
    go_loopw [5] (fun v5 wx => w = wx ∧ ∃ a : Nat, v5 = .int .i64 (a : Int) ∧ a ≤ A) (fun v5 _ => A - (intOf v5).toNat)
    case atStart => exact ⟨rfl, 0, rfl, by omega⟩
    case round =>
      rename World => wx
      obtain ⟨rfl, a, rfl, ha⟩ := hrel
      have hf := HA.out a ha
      have hz : (63 : Int) - (a : Int) = ((63 - a : Nat) : Int) := by omega
      generalize h63 : 63 - a = q at *
      have hdv : (x : Int) / 2 ^ q = ((x / 2 ^ q : Nat) : Int) := div_cast x q
      have hq : q ≤ 63 := by omega
      by_cases hlt : a = A
      · subst hlt
        have hne : ¬ x / 2 ^ q = 0 := fun e => (hf.1 e) rfl
        have hne2 : ¬ (x : Int) / 2 ^ q = 0 := by rw [hdv]; omega
        clear hdv hne hf HA
        go_wp2_with fail
        clear hne2
        generalize ((x : Int) / 2 ^ q == 0) = bq at *
        go_loopw [6] (fun v6 wx => w = wx ∧ ∃ b : Nat, v6 = .int .i64 (b : Int) ∧ b ≤ Bh) (fun v6 _ => Bh - (intOf v6).toNat)
        case atStart => exact ⟨rfl, 0, rfl, by omega⟩
        case round =>
          rename World => wy
          obtain ⟨rfl, b, rfl, hbb⟩ := hrel
          have hf := HB.out b hbb
          have hdv : (x : Int) / 2 ^ b = ((x / 2 ^ b : Nat) : Int) := div_cast x b
          have hb63 : b ≤ 63 := by omega
          have hbit : bits BinOp.and IntKind.u64 ((x : Int) / 2 ^ b) 1 = ((x / 2 ^ b % 2 : Nat) : Int) := by
            have h := bits_and_u64_nat (x / 2 ^ b) 1 (by have := Nat.div_le_self x (2 ^ b); omega) (by omega)
            rw [show ((1 : Nat) : Int) = 1 from rfl, Nat.and_one_is_mod] at h
            rw [hdv]
            exact h
          clear hdv
          by_cases hlt : b = Bh
          · subst hlt
            have hne : ¬ ((x / 2 ^ b % 2 : Nat) : Int) = 0 := by have := mt hf.1 (fun h => h rfl); omega
            have hne' : ¬ bits BinOp.and IntKind.u64 ((x : Int) / 2 ^ b) 1 = 0 := by rw [hbit]; exact hne
            clear hbit hne hf HB
            have hz1 : (64 : Int) - (a : Int) - (b : Int) = (Z : Int) := by omega
            have hz2 : (Z : Int) - 1 = ((Z - 1 : Nat) : Int) := by omega
            go_wp2_with fail
            refine (PUT.out w v [] 1 1 (by simpa using HO.out) (by simp) (Below.refl _ _) (by omega) (by omega)).mono ?_
            rintro e w1 ⟨v1, rfl, o1, b1⟩
            have O1 : Hid (OW w1 base v1 (L ++ low 1 1)) := hidden (by simpa using o1)
            have B1 := hidden b1
            clear o1 b1 hne'
            go_wp2_with fail
            refine (PUT.out w1 v1 (low 1 1) a 6 O1.out (by simp [low_len]) B1.out (by omega) (by omega)).mono ?_
            rintro e w2 ⟨v2, rfl, o2, b2⟩
            have O2 : Hid (OW w2 base v2 (L ++ (low 1 1 ++ low a 6))) := hidden (by simpa using o2)
            have B2 := hidden (B1.out.trans b2)
            clear o2 b2
            go_wp2_with fail
            refine (PUT.out w2 v2 (low 1 1 ++ low a 6) (Z - 1) 6 O2.out (by simp [low_len]) B2.out (by omega) (by omega)).mono ?_
            rintro e w3 ⟨v3, rfl, o3, b3⟩
            have O3 : Hid (OW w3 base v3 (L ++ (low 1 1 ++ low a 6 ++ low (Z - 1) 6))) := hidden (by simpa using o3)
            have B3 := hidden (B2.out.trans b3)
            clear o3 b3
            go_wp2_with fail
            rw [div_cast x b]
            refine (PUT.out w3 v3 (low 1 1 ++ low a 6 ++ low (Z - 1) 6) (x / 2 ^ b) Z O3.out (by simp [low_len]) B3.out hdiv (by omega)).mono ?_
            rintro e w4 ⟨v4, rfl, o4, b4⟩
            have O4 : Hid (OW w4 base v4 (L ++ flB x)) := hidden (by rw [HE.out]; simpa using o4)
            have B4 := hidden (B3.out.trans b4)
            clear o4 b4
            go_wp2
            go_ret
            exact ⟨_, rfl, O4.out, B4.out⟩
          · have he : x / 2 ^ b % 2 = 0 := hf.2 hlt
            rw [he] at hbit
            have hb0 : bits BinOp.and IntKind.u64 ((x : Int) / 2 ^ b) 1 = 0 := hbit
            clear hbit
            go_wp2_with fail
            exact ⟨⟨by first | rfl | trivial, b + 1, by rw [Int.natCast_add]; rfl, by omega⟩, by simp [intOf]; omega⟩
      · have he : x / 2 ^ q = 0 := hf.2 hlt
        have he2 : (x : Int) / 2 ^ q = 0 := by rw [hdv, he]; rfl
        clear hdv he hf
        go_wp2_with fail
        exact ⟨⟨by first | rfl | trivial, a + 1, by rw [Int.natCast_add]; rfl, by omega⟩, by simp [intOf]; omega⟩

end Go.Proofs.YtalmpmhnkilalaaGreatDoor
