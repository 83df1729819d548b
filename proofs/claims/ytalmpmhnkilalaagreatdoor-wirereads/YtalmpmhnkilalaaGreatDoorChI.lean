import Derived.Test.YtalmpmhnkilalaaGreatDoorAnyB
import Derived.Test.YtalmpmhnkilalaaGreatDoorChA
import Derived.Test.YtalmpmhnkilalaaGreatDoorMath
/-
  Package chunk: Append.
-/
namespace Go.Proofs.YtalmpmhnkilalaaGreatDoor
open Go.RowKit
set_option linter.unusedVariables false
set_option linter.unusedSimpArgs false

/-- What Append leaves. -/
def APp (w w' : World) (c p : Nat) (rb : Option Nat) (most : Int) (n : Nat) (a : Tr) (L : List Bool) : Prop :=
  Blk w' c 198 (chC most n a p) ∧ ∃ rb', WS w' p rb' L ∧ Chg (fun i => fpt p rb i ∨ i = c) w w' ∧ Moved w rb rb'
def room (most : Int) (n : Nat) (L : List Bool) : Prop := ((Q.grp n + 1 + (L.length + 7) / 8 : Nat) : Int) ≤ most
instance (most : Int) (n : Nat) (L : List Bool) : Decidable (room most n L) := by unfold room; infer_instance
theorem flB_len {x : Nat} (hx : x < 18446744073709551616) : (flB x).length ≤ 77 := by
  unfold flB
  split
  · simp
  · have := span_lt hx (by omega)
    simp [low_len]
    omega
theorem onB_len {n : Nat} {a : Tr} {s : Sm} (ha : Ok a) (hs : OkS s) : (onB n a s).length ≤ 145 := by
  unfold onB
  split
  · simp [fiB, low_len]
  · have := drB_len (a.drift s)
    have := flB_len (ok_flips ha hs)
    simp
    omega

theorem chg_set (w : World) (c o : Nat) (u : Value) : Chg (fun i => i = c) w (w.setCell ⟨c, o, none⟩ u) :=
  ⟨rfl, rfl, rfl, by simp [World.setCell], fun i _ hne => heap_setCell_other w ⟨c, o, none⟩ i u (fun e => hne e)⟩
theorem count_x (w : World) (n : Nat) (hn : n ≤ 20000000) :
    Calls Tryz.prog 200 #[.int .i64 ((n : Int) + 1)] w fun e w' => ∃ ad c', e = .returned (.slice ad (Q.grp (n + 1) + 1) c') ∧ Below w.heap.size w w' := by
  have h := countP w (n + 1) (by omega)
  rw [show (((n + 1 : Nat) : Int)) = (n : Int) + 1 by omega] at h
  refine h.mono ?_
  rintro e w' ⟨rfl, _, hb⟩
  exact ⟨some ⟨w.heap.size, 0, none⟩, 0 + (Q.grp (n + 1) + 1), by rw [Nat.zero_add], hb⟩

set_option maxRecDepth 100000 in
set_option maxHeartbeats 8000000 in
theorem appendP (w : World) (c p : Nat) (rb : Option Nat) (most : Int) (n : Nat) (a : Tr) (L : List Bool) (s : Sm) (hB : Blk w c 198 (chC most n a p)) (h : WS w p rb L) (hG : Gv w) (ha : Ok a) (hs : OkS s) (hn : n ≤ 20000000) (hL : L.length ≤ 900000000) (hlo : 1 < p ∧ ∀ i, rb = some i → 1 < i) (hm : I64 most) :
    Calls Tryz.prog 192 #[.pointer (some ⟨c, 0, none⟩), .int .i64 s.t, .int .u64 (s.v : Int)] w fun e w' =>
      e = .returned (.bool (decide (room most (n + 1) (L ++ onB n a s)))) ∧ if room most (n + 1) (L ++ onB n a s) then APp w w' c p rb most (n + 1) (onT n a s) (L ++ onB n a s) else APp w w' c p rb most n a L := by
  have HB := hidden hB
  have HW := hidden h
  have HP := hidden (cputP w c p rb most n a L s hB h hG ha hs (by omega) hL hlo)
  have hol := onB_len (n := n) ha hs
  have hst := hs.t
  have hsv := hs.v
  unfold I64 at hst hm
  have c0 := hB.cell 0
  have c1 := hB.cell 1
  have c5 := hB.cell 5
  simp [chC] at c0 c1 c5
  unfold smV trV at HP
  generalize onB n a s = O at *
  generalize onT n a s = b at *
  clear hB h hG ha hs
  go_enter Tryz.func192, Tryz.ntmps192
  go_wp2_with fail
  refine (len_any p rb L w HW.out).mono ?_
  rintro e w1 ⟨rfl, rfl⟩
  go_wp2_with fail
  refine HP.out.mono ?_
  rintro e w2 ⟨rfl, h2⟩
  have BC2 := hidden (h2.blk HW.out HB.out (by decide) (by decide))
  have U2 := hidden h2
  clear h2
  go_wp2_with (first
    | (refine wpList_alloc_blk rfl 196 rfl 8 rfl tz3 info53 ?_; intro w3 B3 bl3 hz3; have HB3 := hidden B3; have BC3 := hidden (BC2.out.later bl3); have U3 := hidden (U2.out.later bl3); have hg3 := U2.out; clear B3 bl3 hz3)
    | (refine wpList_store_blk rfl 196 (.tmp 8) (.tmp 20) rfl rfl w2.heap.size (l := [.int .i64 b.t, .int .u64 (b.v : Int), .int .i64 b.st]) HB3.out rfl rfl rfl size53 (by intro v hv; simp at hv; rcases hv with rfl | rfl | rfl <;> rfl) ?_; have d1 := (Blk.setsOff [.int .i64 b.t, .int .u64 (b.v : Int), .int .i64 b.st] 0 w2.heap.size w3 _ BC3.out (by have := BC2.out.lt; omega)).cell 1; simp [chC] at d1))
  have hbc := BC2.out.lt
  have hsz2 : w1.heap.size ≤ w2.heap.size := by obtain ⟨_, _, hq, _⟩ := U2.out; exact hq.size
  have BC4 := hidden (Blk.setsOff [.int .i64 b.t, .int .u64 (b.v : Int), .int .i64 b.st] 0 w2.heap.size w3 _ BC3.out (by omega))
  have BE4 := hidden (blk_stored (l := [.int .i64 b.t, .int .u64 (b.v : Int), .int .i64 b.st]) HB3.out rfl)
  have U4 := hidden (U3.out.sets HB3.out (by decide) (by decide) hsz2 [.int .i64 b.t, .int .u64 (b.v : Int), .int .i64 b.st])
  generalize w3.setCells w2.heap.size 0 [.int .i64 b.t, .int .u64 (b.v : Int), .int .i64 b.st] = w4 at *
  generalize w2.heap.size = ge at *
  clear HB3 BC3 U3 hg3 BC2 U2 d1 HP
  have d0 := BC4.out.cell 0
  have d5 := BC4.out.cell 5
  simp [chC] at d0 d5
  obtain ⟨rb4, k1, k2, k3⟩ := U4.out
  have K1 := hidden k1
  have K2 := hidden k2
  have K3 := hidden k3
  clear k1 k2 k3
  have hgr := Q.grp_le (n + 1)
  have CO := hidden (fun wx => count_x wx n (by omega))
  have SZ := hidden (fun (wx : World) (hb : Below w4.heap.size w4 wx) => sizeP wx p rb4 (L ++ O) (K1.out.later hb) (by simp; omega))
  have hlen : ((L ++ O).length + 7) / 8 ≤ 1000000000 := by simp; omega
  unfold rwV at SZ
  obtain ⟨gk, hgkE⟩ : ∃ gk, Q.grp (n + 1) + 1 = gk := ⟨_, rfl⟩
  obtain ⟨sk, hskE⟩ : ∃ sk, ((L ++ O).length + 7) / 8 = sk := ⟨_, rfl⟩
  have hgk : gk ≤ 100 := by omega
  have HR : Hid (room most (n + 1) (L ++ O) ↔ (gk : Int) + (sk : Int) ≤ most) := hidden (by unfold room; omega)
  simp only [hgkE] at CO
  simp only [hskE] at SZ
  rw [hskE] at hlen
  clear hgkE hskE
  have hadd : IntKind.i64.wrap ((gk : Int) + (sk : Int)) = (gk : Int) + (sk : Int) := i64_id (by omega) (by omega)
  have C0 := hidden (fun (w1 : World) (hl : Lat w4 w1) => by have := (BC4.out.later hl).cell 0; simpa [chC] using this)
  have C5 := hidden (fun (w1 : World) (hl : Lat w4 w1) => by have := (BC4.out.later hl).cell 5; simpa [chC] using this)
  refine app_r4 c p n gk sk most w4 _ _ (by rfl) (by rfl) (by rfl) C0.out C5.out hadd CO.out SZ.out ?_
  intro v26 v27 v28 v29 v30 v31 v32 v33 v34 v35 v36 v37 v38 v39 w5 hL5 h39
  subst h39
  have BC5 := hidden (BC4.out.later hL5)
  have BE5 := hidden (BE4.out.later hL5)
  have K5 := hidden (K1.out.later hL5)
  have K2' := hidden (K2.out.trans (Chg.of_below (F := fun _ => False) hL5) (fun _ _ e => absurd e id))
  clear hL5 d0 d5 C0 C5 CO SZ c0 c1 c5 hadd hgr hlen hsz2 hbc
  simp only [Act.put, List.setIfInBounds_toArray, List.set_cons_succ, List.set_cons_zero]
  by_cases hr : (gk : Int) + (sk : Int) > most
  · have hr' : ¬ room most (n + 1) (L ++ O) := mt HR.out.1 (Int.not_le.2 hr)
    have HNR := hidden hr'
    clear hr'
    have e5 := BC5.out.cell 5
    simp [chC] at e5
    go_wp2_with fail
    refine (cut_any p rb4 (L ++ O) (L.length : Int) w5 K5.out (by simp; omega)).mono ?_
    rintro e w6 ⟨rfl, k6, ch6⟩
    have B6 := hidden (ch6.blk BC5.out (ws_ne K5.out BC5.out (by decide) (by decide)))
    have U6 := hidden (WU.more K2'.out K3.out ⟨rb4, k6, ch6, .inl rfl⟩)
    clear k6 ch6
    go_wp2
    go_ret
    refine ⟨by simp [HNR.out], ?_⟩
    have hfin : APp w1 w6 c p rb most n a L := by
      refine ⟨B6.out, ?_⟩
      obtain ⟨rb7, q1, q2, q3⟩ := U6.out
      rw [Int.toNat_natCast, List.take_left] at q1
      exact ⟨rb7, q1, q2.mono (fun i _ hi => .inl hi), q3⟩
    first | exact hfin | (rw [if_neg HNR.out]; exact hfin)
  · have hr' : room most (n + 1) (L ++ O) := HR.out.2 (Int.not_lt.1 hr)
    have HNR := hidden hr'
    clear hr'
    have e1 := BC5.out.cell 1
    have e2 := BC5.out.cell 2
    have e3 := BC5.out.cell 3
    have e4 := BC5.out.cell 4
    have f1 := BC5.out.frozen 1
    have f2 := BC5.out.frozen 2
    have f3 := BC5.out.frozen 3
    have f4 := BC5.out.frozen 4
    have g0 := BE5.out.cell 0
    have g1 := BE5.out.cell 1
    have g2 := BE5.out.cell 2
    simp [chC] at e1 e2 e3 e4 g0 g1 g2
    have hne : ¬ ge = c := fun e => by
      subst e
      have h1 := BC5.out.symm.trans BE5.out
      injection h1 with h1
      injection h1 with _ h2 _
      exact absurd h2 (by decide)
    have hne' : ¬ c = ge := fun e => hne e.symm
    go_wp2_with fail
    go_region
    have B9 := hidden ((((BC5.out.set 1 (.int .i64 ((n : Int) + 1))).set 2 (.int .i64 b.t)).set 3 (.int .u64 (b.v : Int))).set 4 (.int .i64 b.st))
    have C9 := hidden (((((chg_set w5 c 1 (.int .i64 ((n : Int) + 1))).trans (chg_set _ c 2 (.int .i64 b.t)) (fun _ _ e => e)).trans (chg_set _ c 3 (.int .u64 (b.v : Int))) (fun _ _ e => e)).trans (chg_set _ c 4 (.int .i64 b.st)) (fun _ _ e => e)))
    have K9 := hidden (K5.out.chg C9.out (fun i hi e => by subst e; exact ws_ne K5.out BC5.out (by decide) (by decide) hi))
    have Z9 := hidden ((K2'.out.mono (G := fun i => fpt p rb i ∨ i = c) (fun i _ hi => .inl hi)).trans C9.out (fun i _ hi => .inr hi))
    have hcell : chC most (n + 1) b p = ((((chC most n a p).set 1 (.int .i64 ((n : Int) + 1))).set 2 (.int .i64 b.t)).set 3 (.int .u64 (b.v : Int))).set 4 (.int .i64 b.st) := by simp [chC]
    have HCE := hidden hcell
    clear hcell e1 e2 e3 e4 f1 f2 f3 f4 g0 g1 g2
    go_wp2
    go_ret
    refine ⟨by simp [HNR.out], ?_⟩
    exact ⟨by rw [HCE.out]; exact B9.out, rb4, K9.out.chg (Chg.drew (fun _ => False) _) (fun _ _ e => e), Z9.out.trans (Chg.drew (fun _ => False) _) (fun _ _ e => absurd e id), K3.out⟩

end Go.Proofs.YtalmpmhnkilalaaGreatDoor

/-
  Runs of samples, purely: bytes of them, there and back. Nothing of the program.
-/
set_option linter.unusedVariables false
set_option linter.unusedSimpArgs false
namespace Go.Proofs.YtalmpmhnkilalaaGreatDoor.Q
open Go.RowKit
theorem grpF_ge : ∀ f n, grpF f n = 0 ∨ 128 ^ grpF f n ≤ n
  | 0, n => .inl rfl
  | f + 1, n => by
    rw [grpF]
    split
    · exact .inl rfl
    · right
      rcases grpF_ge f (n / 128) with h | h
      · rw [h]; simp; omega
      · rw [Nat.pow_succ]; omega
theorem grp_ge (n : Nat) : grp n = 0 ∨ 128 ^ grp n ≤ n := grpF_ge 9 n

theorem decAt_encK : ∀ (k n i acc : Nat) (b : List Int), i + k ≤ 9 → (i + k = 9 → n / 128 ^ k ≤ 1) → (n / 128 ^ k ≠ 0 ∨ i + k = 0) → n / 128 ^ k < 128 → decAt (encK k n ++ b) i acc = (acc + n * 128 ^ i, i + k + 1)
  | 0, n, i, acc, b, h1, h2, h3, h4 => by
    simp only [Nat.pow_zero, Nat.div_one, Nat.add_zero] at h2 h3 h4
    show decAt ((n : Int) :: b) i acc = _
    rw [decAt, if_neg (by omega), if_neg (by omega), if_neg (by omega), if_neg (by omega), Int.toNat_natCast, Nat.mod_eq_of_lt h4]
  | k + 1, n, i, acc, b, h1, h2, h3, h4 => by
    have e : n / 128 ^ (k + 1) = n / 128 / 128 ^ k := by rw [Nat.pow_succ, Nat.mul_comm, Nat.div_div_eq_div_mul]
    rw [e] at h2 h3 h4
    show decAt (((n % 128 + 128 : Nat) : Int) :: (encK k (n / 128) ++ b)) i acc = _
    rw [decAt, if_neg (by omega), if_neg (by omega), if_pos (by omega), decAt_encK k (n / 128) (i + 1) _ b (by omega) (by intro h; exact h2 (by omega)) (by omega) h4, Int.toNat_natCast]
    have e2 : (n % 128 + 128) % 128 = n % 128 := by omega
    have e3 : n % 128 * 128 ^ i + n / 128 * 128 ^ (i + 1) = n * 128 ^ i := by
      rw [Nat.pow_succ, Nat.mul_comm (128 ^ i) 128, ← Nat.mul_assoc, ← Nat.add_mul]
      congr 1
      omega
    rw [e2, Nat.add_assoc, e3]
    congr 1
    omega

theorem dec_enc (n : Nat) (h : n < 18446744073709551616) (b : List Int) : dec (enc n ++ b) = (n, grp n + 1) := by
  have hg := grp_le n
  have h4 := last_lt n h
  have e := decAt_encK (grp n) n 0 0 b (by omega) (by
      intro h9
      have : grp n = 9 := by omega
      rw [this]
      omega) (by
      rcases grp_ge n with h0 | h0
      · right; omega
      · left
        have := Nat.div_pos h0 (Nat.pow_pos (by omega))
        omega) h4
  unfold dec enc
  rw [e]
  simp
theorem decAt_back : ∀ (b : List Int) (i acc x m : Nat), Byte b → decAt b i acc = (x, m) → m ≠ 0 →
    ∃ k y, m = i + k + 1 ∧ x = acc + y * 128 ^ i ∧ b.take (k + 1) = encK k y ∧ (y / 128 ^ k ≠ 0 ∨ i + k = 0) ∧ y / 128 ^ k < 128 ∧ i + k ≤ 9
  | [], i, acc, x, m, hb, h, hm => by
    simp only [decAt, Prod.mk.injEq] at h
    omega
  | c :: t, i, acc, x, m, hb, h, hm => by
    have hc := hb c (by simp)
    have ht : Byte t := fun x hx => hb x (by simp [hx])
    rw [decAt] at h
    by_cases h1 : 10 ≤ i
    · rw [if_pos h1] at h; simp only [Prod.mk.injEq] at h; omega
    · rw [if_neg h1] at h
      by_cases h2 : i = 9 ∧ 1 < c
      · rw [if_pos h2] at h; simp only [Prod.mk.injEq] at h; omega
      · rw [if_neg h2] at h
        by_cases h3 : 128 ≤ c
        · rw [if_pos h3] at h
          obtain ⟨k, y, e1, e2, e3, e4, e5, e6⟩ := decAt_back t (i + 1) _ x m ht h hm
          have hd : (y * 128 + c.toNat % 128) / 128 = y := by omega
          have hq : (y * 128 + c.toNat % 128) / 128 ^ (k + 1) = y / 128 ^ k := by rw [Nat.pow_succ, Nat.mul_comm (128 ^ k), ← Nat.div_div_eq_div_mul, hd]
          refine ⟨k + 1, y * 128 + c.toNat % 128, by omega, ?_, ?_, ?_, ?_, by omega⟩
          · rw [e2, Nat.pow_succ, Nat.add_mul, Nat.mul_assoc y 128, Nat.mul_comm 128 (128 ^ i)]
            omega
          · rw [List.take_succ_cons, e3, encK, hd]
            congr 1
            omega
          · rw [hq]; omega
          · rw [hq]; exact e5
        · rw [if_neg h3] at h
          by_cases h4 : c = 0 ∧ 0 < i
          · rw [if_pos h4] at h; simp only [Prod.mk.injEq] at h; omega
          · rw [if_neg h4] at h
            simp only [Prod.mk.injEq] at h
            refine ⟨0, c.toNat, by omega, ?_, ?_, ?_, ?_, by omega⟩
            · rw [← h.1, Nat.mod_eq_of_lt (by omega)]
            · simp [encK]; omega
            · simp; omega
            · simp; omega

theorem enc_dec (b : List Int) (hb : Byte b) (h : (dec b).2 ≠ 0) : enc (dec b).1 = b.take (dec b).2 ∧ (dec b).2 = grp (dec b).1 + 1 := by
  obtain ⟨k, y, e1, e2, e3, e4, e5, e6⟩ := decAt_back b 0 0 (dec b).1 (dec b).2 hb rfl h
  simp only [Nat.pow_zero, Nat.mul_one, Nat.zero_add] at e1 e2 e4 e6
  rw [e2]
  have hp : 0 < 128 ^ k := Nat.pow_pos (by omega)
  have hg : grp y = k := by
    refine grpF_is 9 k y e6 ?_ ?_
    · rcases e4 with h0 | h0
      · right
        rcases Nat.lt_or_ge y (128 ^ k) with h1 | h1
        · rw [Nat.div_eq_of_lt h1] at h0; omega
        · exact h1
      · exact .inl h0
    · rw [Nat.pow_succ]
      have := (Nat.div_lt_iff_lt_mul hp).1 e5
      omega
  refine ⟨?_, by omega⟩
  rw [enc, hg, e1, e3]

theorem decAt_nil : ∀ (b : List Int) (i acc : Nat), (decAt b i acc).2 = 0 → (decAt b i acc).1 = 0
  | [], i, acc, h => by simp [decAt]
  | c :: t, i, acc, h => by
    rw [decAt] at h ⊢
    split
    · rfl
    · split
      · rfl
      · split
        · rename_i h1 h2 h3
          rw [if_neg h1, if_neg h2, if_pos h3] at h
          exact decAt_nil t _ _ h
        · split
          · rfl
          · rename_i h1 h2 h3 h4
            rw [if_neg h1, if_neg h2, if_neg h3, if_neg h4] at h
            simp at h
theorem decAt_le : ∀ (b : List Int) (i acc : Nat), (decAt b i acc).2 ≤ i + b.length
  | [], i, acc => by simp [decAt]
  | c :: t, i, acc => by
    rw [decAt]
    have := decAt_le t (i + 1) (acc + c.toNat % 128 * 128 ^ i)
    simp only [List.length_cons]
    repeat' split
    all_goals first | simp; done | (simp; omega) | omega
theorem dec_le (b : List Int) : (dec b).2 ≤ b.length := by have := decAt_le b 0 0; unfold dec; omega
end Go.Proofs.YtalmpmhnkilalaaGreatDoor.Q
namespace Go.Proofs.YtalmpmhnkilalaaGreatDoor
open Go.RowKit

/-- Bits as bytes, and back. -/
def pk (L : List Bool) : List Int := (List.range ((L.length + 7) / 8)).map (fun q => ((vl ((List.range 8).map (fun i => L.getD (8 * q + i) false)) : Nat) : Int))
def ub (R : List Int) : List Bool := (List.range (8 * R.length)).map (bt R)
theorem pk_len (L : List Bool) : (pk L).length = (L.length + 7) / 8 := by simp [pk]
theorem ub_len (R : List Int) : (ub R).length = 8 * R.length := by simp [ub]
theorem ub_at (R : List Int) (i : Nat) : (ub R).getD i false = bt R i := by
  by_cases h : i < 8 * R.length
  · simp [ub, List.getD, h]
  · rw [bt_beyond R i (by omega)]
    simp [ub, List.getD, h]
theorem pk_byte (L : List Bool) : Byte (pk L) := by
  intro x hx
  simp only [pk, List.mem_map] at hx
  obtain ⟨q, _, rfl⟩ := hx
  have := vl_lt ((List.range 8).map (fun i => L.getD (8 * q + i) false))
  rw [List.length_map, List.length_range] at this
  omega
theorem vl_bit (X : List Bool) (i : Nat) (h : i < X.length) : (vl X).testBit (X.length - 1 - i) = X.getD i false := by
  have e := low_at (vl X) X.length i
  rw [low_vl, decide_eq_true h, Bool.true_and] at e
  exact e.symm
theorem pk_rep (L : List Bool) : Rep (pk L) L := by
  intro i
  by_cases h : i / 8 < (L.length + 7) / 8
  · have h1 : (pk L).getD (i / 8) 0 = ((vl ((List.range 8).map (fun j => L.getD (8 * (i / 8) + j) false)) : Nat) : Int) := by
      simp [pk, List.getD, h]
    unfold bt
    rw [h1, Int.toNat_natCast]
    have h2 := vl_bit ((List.range 8).map (fun j => L.getD (8 * (i / 8) + j) false)) (i % 8) (by simp; omega)
    simp only [List.length_map, List.length_range] at h2
    rw [show 7 - i % 8 = 8 - 1 - i % 8 by omega, h2]
    have h8 : i % 8 < 8 := by omega
    have h9 : 8 * (i / 8) + i % 8 = i := by omega
    simp [List.getD, h8, h9]
  · rw [bt_beyond (pk L) i (by rw [pk_len]; omega)]
    simp [List.getD, show ¬ i < L.length by omega]
theorem ub_rep {R : List Int} {L : List Bool} (h : Rep R L) (hl : L.length ≤ 8 * R.length) : ub R = L ++ List.replicate (8 * R.length - L.length) false := by
  refine list_ext (by rw [ub_len]; simp; omega) (fun i hi => ?_)
  rw [ub_at, h i, getD_append]
  split
  · rfl
  · rename_i hi2
    have e1 : L.getD i false = false := by simp [List.getD, hi2]
    rw [e1]
    simp only [List.getD, List.getElem?_replicate]
    split <;> rfl
theorem vl_rep : ∀ k, vl (List.replicate k false) = 0
  | 0 => rfl
  | k + 1 => by rw [List.replicate_succ, vl, vl_rep k]; rfl
theorem vl_none : ∀ B, vl B = 0 → B = List.replicate B.length false
  | [], _ => rfl
  | b :: B, h => by
    rw [vl] at h
    have hp := Nat.two_pow_pos B.length
    cases b with
    | true => simp at h
    | false =>
      have := vl_none B (by simpa using h)
      rw [List.length_cons, List.replicate_succ, ← this]

/-- The bytes of samples. -/
def encC (l : List Sm) : List Int := if l = [] then [] else Q.enc l.length ++ pk (rowB l)
def fiR (B : List Bool) : Sm := ⟨wr (vl (B.take 64) : Nat), vl ((B.drop 64).take 64)⟩
/-- What is read behind the count. -/
def rdB (n : Nat) (B : List Bool) : Option (List Sm) :=
  if B.length < 128 then none else
  match rdS (n - 1) (tr0 (fiR B)) ((B.drop 64).drop 64) with
  | none => none
  | some (l, B3) => if B3.length < 8 ∧ vl B3 = 0 then some (fiR B :: l) else none
def rdR (b : List Int) : Option (List Sm) :=
  if b = [] then some [] else if (Q.dec b).1 = 0 then none else rdB (Q.dec b).1 (ub (b.drop (Q.dec b).2))
theorem wr_un {t : Int} (h : I64 t) : wr (un t : Nat) = t := by unfold I64 at h; unfold wr un; omega
theorem un_wr {v : Nat} (h : v < 18446744073709551616) : un (wr (v : Nat)) = v := by unfold wr un; omega
theorem tr0_ok {s : Sm} (h : OkS s) : Ok (tr0 s) := ⟨h.t, h.v, by show I64 0; unfold I64; omega⟩
theorem rdB_row {s : Sm} {l : List Sm} (hs : ∀ x ∈ s :: l, OkS x) (k : Nat) (hk : k < 8) : rdB (s :: l).length (rowB (s :: l) ++ List.replicate k false) = some (s :: l) := by
  have h0 := hs s (by simp)
  have e : rowB (s :: l) ++ List.replicate k false = low (un s.t) 64 ++ (low s.v 64 ++ (moB (tr0 s) l ++ List.replicate k false)) := by simp [rowB, fiB]
  rw [e]
  unfold rdB
  rw [if_neg (by simp [low_len]; omega)]
  have hf : fiR (low (un s.t) 64 ++ (low s.v 64 ++ (moB (tr0 s) l ++ List.replicate k false))) = s := by
    unfold fiR
    rw [take_low, drop_low, take_low, low_id (by have := un_lt s.t; omega), low_id (by have := h0.v; omega), wr_un h0.t]
  rw [hf, drop_low, drop_low, List.length_cons, Nat.add_sub_cancel, rdS_moB l (tr0 s) _ (tr0_ok h0) (fun x hx => hs x (by simp [hx]))]
  simp only [List.length_replicate]
  rw [if_pos ⟨hk, vl_rep k⟩]
theorem rd_enc {l : List Sm} (hs : ∀ x ∈ l, OkS x) (hl : l.length < 18446744073709551616) : rdR (encC l) = some l := by
  unfold encC
  split
  · rename_i h; subst h; rfl
  · rename_i h
    unfold rdR
    have hn : ¬ Q.enc l.length ++ pk (rowB l) = [] := by
      intro e
      have := congrArg List.length e
      rw [List.length_append, Q.enc_length] at this
      simp at this
    have hd : (Q.enc l.length ++ pk (rowB l)).drop (Q.grp l.length + 1) = pk (rowB l) := by
      rw [← Q.enc_length, List.drop_left]
    have hp : l.length ≠ 0 := by simpa using h
    rw [if_neg hn, Q.dec_enc _ hl]
    simp only
    rw [if_neg hp, hd, ub_rep (pk_rep _) (by rw [pk_len]; omega)]
    cases l with
    | nil => exact absurd rfl h
    | cons s t => exact rdB_row hs _ (by rw [pk_len]; omega)
theorem fiR_fiB {B : List Bool} (h : ¬ B.length < 128) : B = fiB (fiR B) ++ (B.drop 64).drop 64 ∧ OkS (fiR B) := by
  have h1 := take_lt (B := B) (k := 64)
  have h2 := take_lt (B := B.drop 64) (k := 64)
  refine ⟨?_, ⟨wr_i64 _, by simpa [fiR] using h2⟩⟩
  unfold fiB fiR
  rw [un_wr (by omega), take_vl (by omega), take_vl (by rw [List.length_drop]; omega), List.append_assoc, List.take_append_drop, List.take_append_drop]
theorem enc_rd {b : List Int} {l : List Sm} (hb : Byte b) (h : rdR b = some l) : encC l = b ∧ (∀ x ∈ l, OkS x) ∧ (l = [] → b = []) := by
  unfold rdR at h
  split at h
  · rename_i h0
    injection h with h
    subst h h0
    exact ⟨rfl, by simp, fun _ => rfl⟩
  · rename_i h0
    split at h
    · exact absurd h (by simp)
    · rename_i h1
      have h2 : (Q.dec b).2 ≠ 0 := fun e => h1 (Q.decAt_nil b 0 0 e)
      obtain ⟨d1, d2⟩ := Q.enc_dec b hb h2
      have hle := Q.dec_le b
      generalize (Q.dec b).1 = n at *
      generalize (Q.dec b).2 = k at *
      unfold rdB at h
      split at h
      · exact absurd h (by simp)
      · rename_i h3
        obtain ⟨f1, f2⟩ := fiR_fiB h3
        split at h
        · exact absurd h (by simp)
        · rename_i l' B3 h4
          split at h
          · rename_i h5
            injection h with h
            subst h
            obtain ⟨g1, g2, g3⟩ := rdS_some _ _ _ _ _ (tr0_ok f2) h4
            generalize fiR (ub (b.drop k)) = s at *
            have hB3 := vl_none B3 h5.2
            rw [g2] at f1
            have hrow : ub (b.drop k) = rowB (s :: l') ++ List.replicate B3.length false := by rw [← hB3, f1]; simp [rowB]
            have hlen := congrArg List.length hrow
            rw [ub_len] at hlen
            simp only [List.length_append, List.length_replicate] at hlen
            have hrep : Rep (b.drop k) (rowB (s :: l')) := by
              intro i
              rw [← ub_at, hrow, getD_append]
              split
              · rfl
              · rename_i hi
                have e1 : (rowB (s :: l')).getD i false = false := by simp [List.getD, hi]
                rw [e1]
                simp only [List.getD, List.getElem?_replicate]
                split <;> rfl
            have hpk : pk (rowB (s :: l')) = b.drop k := Rep.unique (pk_rep _) hrep (by rw [pk_len]; omega) (pk_byte _) (fun x hx => hb x (List.mem_of_mem_drop hx))
            refine ⟨?_, ?_, fun e => absurd e (by simp)⟩
            · unfold encC
              rw [if_neg (by simp), hpk, List.length_cons, g1, show n - 1 + 1 = n by omega, d1, List.take_append_drop]
            · intro x hx
              rcases List.mem_cons.1 hx with rfl | hx
              · exact f2
              · exact g3 x hx
          · exact absurd h (by simp)
end Go.Proofs.YtalmpmhnkilalaaGreatDoor
