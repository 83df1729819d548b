import Derived.Test.YtfieglepljmmkaaHexR
import Derived.Test.YtfieglepljmmkaaEq
namespace Go.Proofs.Ytfieglepljmmkaa
open Go.RowKit
set_option linter.unusedVariables false

/-- The bytes of a text. -/
def numsB (s : ByteArray) : List Int := s.data.toList.map (fun b => (b.toNat : Int))
theorem numsB_len (s : ByteArray) : (numsB s).length = s.size := by simp [numsB]
theorem numsB_byte (s : ByteArray) : Byte (numsB s) := by
  intro n hn
  simp only [numsB, List.mem_map] at hn
  obtain ⟨b, _, rfl⟩ := hn
  have := b.toNat_lt
  omega
theorem index_str (s : ByteArray) (w : World) (k : Nat) (kk : IntKind) (v : Int) (hv : v = (k : Int)) (h : k < s.size) : (Instr.index 9 (.string s) (.int kk v)).run Try.prog w = .ok (.int .u8 ((numsB s).getD k 0)) w := by
  subst hv
  have hs : s[k]? = some s[k] := by simp [h]
  have hn : (numsB s).getD k 0 = ((s[k].toNat : Nat) : Int) := by
    have hk : k < s.data.size := h
    simp only [numsB, List.getD, List.getElem?_map, Array.getElem?_toList]
    rw [Array.getElem?_eq_getElem hk]
    rfl
  rw [hn]
  simp only [Instr.index, asIntOf, Sem.run_bind, Sem.run_pure, Result.andThen_ok, run_underlying Try.underlying9, Int.toNat_natCast, if_pos (Int.natCast_nonneg k), hs]

theorem pair_yes (a b : Int) (h : isDig a = true) (k : isDig b = true) : pairL ((dval a * 16 + dval b : Nat) : Int) = [a, b] := by
  have h1 := dval_lt a
  have h2 := dval_lt b
  unfold pairL
  rw [Int.toNat_natCast, show (dval a * 16 + dval b) / 16 = dval a by omega, show (dval a * 16 + dval b) % 16 = dval b by omega, dig_dval a h, dig_dval b k]
theorem pair_no (a b : Int) (h : (isDig a && isDig b) = false) : pairL ((dval a * 16 + dval b : Nat) : Int) ≠ [a, b] := by
  intro e
  have h1 := dval_lt a
  have h2 := dval_lt b
  unfold pairL at e
  rw [Int.toNat_natCast, show (dval a * 16 + dval b) / 16 = dval a by omega, show (dval a * 16 + dval b) % 16 = dval b by omega] at e
  simp only [List.cons.injEq, and_true] at e
  have k1 := isDig_dig (dval a) h1
  have k2 := isDig_dig (dval b) h2
  rw [e.1] at k1
  rw [e.2] at k2
  rw [k1, k2] at h
  cases h
theorem or_bytes (a b : Int) : bits .or .u8 (((dval a : Nat) : Int) * 16) ((dval b : Nat) : Int) = ((dval a * 16 + dval b : Nat) : Int) := by
  have h1 := dval_lt a
  have h2 := dval_lt b
  rw [u8_or _ _ (by omega) (by omega) (by omega) (by omega)]
  have : (((dval a : Nat) : Int) * 16).toNat ||| (((dval b : Nat) : Int)).toNat = dval a * 16 + dval b := by
    rw [Int.toNat_natCast, show (((dval a : Nat) : Int) * 16).toNat = dval a <<< 4 by rw [Nat.shiftLeft_eq]; omega, ← Nat.shiftLeft_add_eq_or_of_lt (by omega), Nat.shiftLeft_eq]
  rw [this]
theorem neq62 (a b p q : Int) (w : World) : (binOp .neq 62 (.agg #[.int .u8 a, .int .u8 b]) (.agg #[.int .u8 p, .int .u8 q])).run Try.prog w = .ok (.bool (!(a == p && b == q))) w := by
  have h := neq8 62 2 Try.underlying62 [a, b] [p, q] rfl rfl w
  have e : decide ([a, b] = [p, q]) = (a == p && b == q) := by
    by_cases h1 : a = p <;> by_cases h2 : b = q <;> simp [h1, h2]
  rw [e] at h
  exact h
theorem unL_take (L : List Int) (i : Nat) (h : 2 * i + 1 < L.length) : (unL L).take (i + 1) = (unL L).take i ++ [((dval (L.getD (2 * i) 0) * 16 + dval (L.getD (2 * i + 1) 0) : Nat) : Int)] := by
  rw [take_snoc _ i (by rw [unL_len]; omega), unL_at L i h]
def rowTo (L : List Int) (n i : Nat) : List Int := (unL L).take i ++ List.replicate (n - i) 0
theorem rowTo_len (L : List Int) (n i : Nat) (hn : L.length = 2 * n) (hi : i ≤ n) : (rowTo L n i).length = n := by
  simp [rowTo, unL_len]
  omega
theorem rowTo_step (L : List Int) (n i : Nat) (hn : L.length = 2 * n) (hi : i < n) : (cells8 (rowTo L n i)).set i (.int .u8 ((dval (L.getD (2 * i) 0) * 16 + dval (L.getD (2 * i + 1) 0) : Nat) : Int)) = cells8 (rowTo L n (i + 1)) := by
  unfold rowTo cells8
  rw [← List.map_set, unL_take L i (by omega), List.set_append, if_neg (by simp [unL_len]; omega), List.length_take, unL_len, show i - min i (L.length / 2) = 0 by omega, show n - i = (n - (i + 1)) + 1 by omega, List.replicate_succ, List.set_cons_zero]
  simp
theorem rowTo_full (L : List Int) (n : Nat) (hn : L.length = 2 * n) : rowTo L n n = unL L := by
  unfold rowTo
  rw [Nat.sub_self, List.replicate_zero, List.append_nil, List.take_of_length_le (by rw [unL_len]; omega)]

/-- All digits up to the i-th pair. -/
def okTo (L : List Int) (i : Nat) : Prop := ∀ k, k < 2 * i → isDig (L.getD k 0) = true

/-- What Unhex leaves. -/
def UnP (s : ByteArray) (w : World) (e : Ending) (w' : World) : Prop :=
  e = .returned (.tuple #[if okL (numsB s) then .slice (some ⟨w.heap.size, 0, none⟩) (s.size / 2) (s.size / 2) else .slice none 0 0, .bool (okL (numsB s))]) ∧ Below w.heap.size w w' ∧ (okL (numsB s) = true → Blk w' w.heap.size 5 (cells8 (unL (numsB s))))
theorem UnP.no {s : ByteArray} {w w' : World} (h : okL (numsB s) = false) (hb : Below w.heap.size w w') : UnP s w (.returned (.tuple #[.slice none 0 0, .bool false])) w' := by
  unfold UnP
  rw [h]
  exact ⟨rfl, hb, fun h => by cases h⟩
theorem UnP.yes {s : ByteArray} {w w' : World} (n : Nat) (hn : s.size / 2 = n) (h : okL (numsB s) = true) (hb : Below w.heap.size w w') (hB : Blk w' w.heap.size 5 (cells8 (unL (numsB s)))) : UnP s w (.returned (.tuple #[.slice (some ⟨w.heap.size, 0, none⟩) n n, .bool true])) w' := by
  unfold UnP
  rw [h, hn]
  exact ⟨rfl, hb, fun _ => hB⟩

set_option maxRecDepth 100000 in
set_option maxHeartbeats 1000000 in
theorem unhex_any (s : ByteArray) (w : World) (hb : s.size ≤ 140737488355328) : Calls Try.prog 21 #[.string s] w fun e w' => UnP s w e w' := by
  obtain ⟨i0, hi, hz0, hz1, hz2⟩ := info_parts info5
  obtain ⟨L, hL⟩ : ∃ L, numsB s = L := ⟨_, rfl⟩
  obtain ⟨z, hz⟩ : ∃ z, s.size = z := ⟨_, rfl⟩
  have hLl : L.length = z := by rw [← hL, numsB_len, hz]
  rw [hz] at hb
  by_cases hodd : z % 2 = 0
  · obtain ⟨n, hn⟩ : ∃ n, z / 2 = n := ⟨_, rfl⟩
    have hLn : L.length = 2 * n := by omega
    have hnb : n ≤ 140737488355328 := by omega
    have hm : ((z : Int) % 2 == 0) = true := by
      rw [beq_iff_eq]; omega
    obtain ⟨g, hg⟩ : ∃ g, w.heap.size = g := ⟨_, rfl⟩
    have HN := hid2 hn
    have HLL := hid2 hLl
    have HLE := hid2 hL
    have HO := hid2 hodd
    have HZ := hid2 hz
    clear hn hLl hL hodd
    go_enter Try.func21, Try.ntmps21
    go_wp2_with (first
      | (refine wpList_make_room w rfl (.tmp 13) (.tmp 13) 22 rfl 5 i0 (.int .u8 0) Try.underlying22 hi hz0 hz1 hz2 rfl .i64 .i64 _ _ n n rfl rfl ?_ ?_ (Nat.le_refl _) (by omega) ?_; (have := HN.out; omega); (have := HN.out; omega); intro w1 B1 hsz1 bl1; have HB1 := hid2 B1; have HBL1 := hid2 bl1; clear B1 bl1))
    rw [hg] at HB1 HBL1
    have HB2 : Hid (Blk w1 g 5 (cells8 (rowTo L n 0))) := by
      have : cells8 (rowTo L n 0) = List.replicate n (Value.int .u8 0) := by simp [cells8, rowTo]
      rw [this]
      exact HB1.out
    have HG := hid2 hg
    clear HB1 hg hsz1
    go_loopw [17] (fun iv wr => ∃ i : Nat, i ≤ n ∧ iv = .int .i64 i ∧ okTo L i ∧ Blk wr g 5 (cells8 (rowTo L n i)) ∧ Below g w wr) (fun iv _ => n - (intOf iv).toNat)
    case atStart => exact ⟨0, Nat.zero_le _, rfl, fun k hk => by omega, HB2.out, HBL1.out⟩
    case round =>
      rename World => wr
      obtain ⟨i, hin, rfl, hok, hB, hbl⟩ := hrel
      clear HB2 HBL1
      have HOK := hid2 hok
      have HB := hid2 hB
      have HBL := hid2 hbl
      clear hok hB hbl
      by_cases hlt : i < n
      · have hb0 : 0 ≤ L.getD (2 * i) 0 ∧ L.getD (2 * i) 0 ≤ 255 := by rw [← HLE.out]; exact (numsB_byte s).at _
        have hb1 : 0 ≤ L.getD (2 * i + 1) 0 ∧ L.getD (2 * i + 1) 0 ≤ 255 := by rw [← HLE.out]; exact (numsB_byte s).at _
        have hx0 : ∀ w, (Instr.index 9 (.string s) (.int .i64 ((i : Int) * 2))).run Try.prog w = .ok (.int .u8 (L.getD (2 * i) 0)) w := fun w => by
          rw [← HLE.out]
          exact index_str s w (2 * i) .i64 _ (by omega) (by rw [HZ.out]; have := HN.out; have := HO.out; omega)
        have hx1 : ∀ w, (Instr.index 9 (.string s) (.int .i64 ((i : Int) * 2 + 1))).run Try.prog w = .ok (.int .u8 (L.getD (2 * i + 1) 0)) w := fun w => by
          rw [← HLE.out]
          exact index_str s w (2 * i + 1) .i64 _ (by omega) (by rw [HZ.out]; have := HN.out; have := HO.out; omega)
        have HSTEP := hid2 (rowTo_step L n i hLn hlt)
        have HLEN := hid2 (rowTo_len L n i hLn hin)
        have HOKN : Hid (∀ a b, L.getD (2 * i) 0 = a → L.getD (2 * i + 1) 0 = b → isDig a = true → isDig b = true → okTo L (i + 1)) := by
          intro a b ha hb h1 h2 k hk
          by_cases hk1 : k < 2 * i
          · exact HOK.out k hk1
          · rcases (by omega : k = 2 * i ∨ k = 2 * i + 1) with rfl | rfl
            · rw [ha]; exact h1
            · rw [hb]; exact h2
        have HBAD : Hid (∀ a b, L.getD (2 * i) 0 = a → L.getD (2 * i + 1) 0 = b → (isDig a && isDig b) = false → okL L = false) := by
          intro a b ha hb h1
          rw [Bool.eq_false_iff]
          intro h2
          simp only [okL, Bool.and_eq_true, decide_eq_true_eq] at h2
          have h3 := List.all_eq_true.1 h2.2
          have k1 := h3 (L.getD (2 * i) 0) (by simp [List.getD, show 2 * i < L.length by omega])
          have k2 := h3 (L.getD (2 * i + 1) 0) (by simp [List.getD, show 2 * i + 1 < L.length by omega])
          rw [ha] at k1
          rw [hb] at k2
          rw [k1, k2] at h1
          cases h1
        obtain ⟨a, ha⟩ : ∃ a, L.getD (2 * i) 0 = a := ⟨_, rfl⟩
        obtain ⟨b, hb⟩ : ∃ b, L.getD (2 * i + 1) 0 = b := ⟨_, rfl⟩
        rw [ha] at hb0 hx0 HSTEP
        rw [hb] at hb1 hx1 HSTEP
        have HA := hid2 ha
        have HBB := hid2 hb
        clear ha hb
        obtain ⟨ha0, ha1⟩ := hb0
        obtain ⟨hb0, hb1⟩ := hb1
        go_wp2_with fail
        go_region
        obtain ⟨gp, hgp⟩ : ∃ gp, wr.heap.size = gp := ⟨_, rfl⟩
        have P2 : Blk (wr.alloc (.cells #[.int .u8 a, .int .u8 b] 62)).drew gp 62 [.int .u8 a, .int .u8 b] := by
          rw [← hgp]
          exact (Blk.new wr 62 [.int .u8 a, .int .u8 b]).drew
        have B2 : Blk (wr.alloc (.cells #[.int .u8 a, .int .u8 b] 62)).drew g 5 (cells8 (rowTo L n i)) := (HB.out.alloc _).drew
        have BL2 : Below g w (wr.alloc (.cells #[.int .u8 a, .int .u8 b] 62)).drew := (HBL.out.alloc (Nat.le_of_lt HB.out.lt) _).drew
        rw [hgp]
        generalize (wr.alloc (.cells #[.int .u8 a, .int .u8 b] 62)).drew = w2 at *
        have hgne : gp ≠ g := by
          have := HB.out.lt
          omega
        clear hgp HB HBL hx0 hx1
        have HP2 := hid2 P2
        have HB2 := hid2 B2
        have HBL2 := hid2 BL2
        clear P2 B2 BL2
        obtain ⟨X, hX⟩ : ∃ X, ((dval a * 16 + dval b : Nat) : Int) = X := ⟨_, rfl⟩
        have hX0 : 0 ≤ X ∧ X ≤ 255 := by
          have := dval_lt a
          have := dval_lt b
          omega
        have HXO := hid2 (or_bytes a b)
        rw [hX] at HXO HSTEP
        have HXE := hid2 hX
        clear hX
        go_wp2_with fail
        refine unhex_r8 g gp n i a b X (cells8 (rowTo L n i)) w2 _ _ (by rfl) (by rfl) (by rfl) (by rfl) HP2.out HB2.out (by rw [cells8_length, HLEN.out]; exact hlt) hlt ha0 ha1 hb0 hb1 HXO.out ?_
        intro v30 v31 v32 v33 v34 v35 v36 v37 v38 v39 v40 w3 hL3
        simp only [Act.put, List.setIfInBounds_toArray, List.set_cons_succ, List.set_cons_zero]
        have P3 : Blk (w3.setCell ⟨g, i, none⟩ (.int .u8 X)) gp 62 [.int .u8 a, .int .u8 b] := (HP2.out.later hL3).setOff _ _ hgne
        have B3 := (HB2.out.later hL3).set i (.int .u8 X)
        rw [HSTEP.out] at B3
        have BL3 : Below g w (w3.setCell ⟨g, i, none⟩ (.int .u8 X)) := (HBL2.out.trans (Below.mono hL3 (Nat.le_of_lt HB2.out.lt))).setCell (Nat.le_refl g) _
        have hrow : (cells8 (rowTo L n (i + 1)))[i]? = some (.int .u8 X) := by
          rw [← HSTEP.out, List.getElem?_set_self]
          rw [cells8_length, HLEN.out]
          exact hlt
        generalize w3.setCell ⟨g, i, none⟩ (.int .u8 X) = w4 at *
        have HP4 := hid2 P3
        have HB4 := hid2 B3
        have HBL4 := hid2 BL3
        have HROW := hid2 hrow
        clear P3 B3 BL3 hL3 HP2 HB2 HBL2 hrow
        obtain ⟨p, q, hpq⟩ : ∃ p q, pairL X = [p, q] := ⟨_, _, rfl⟩
        have H32 : Hid (∀ w1, Calls Try.prog 32 #[.int .u8 X] w1 fun e w2 => e = .returned (.agg #[.int .u8 p, .int .u8 q]) ∧ Below w1.heap.size w1 w2) := by
          intro w1
          have := pairOf_any X w1 hX0.1 hX0.2
          rw [hpq] at this
          exact this
        have HPQ := hid2 hpq
        clear hpq
        go_wp2_with fail
        refine unhex_r9 g gp n i a b X p q (cells8 (rowTo L n (i + 1))) w4 _ _ (by rfl) (by rfl) (by rfl) (by rfl) HP4.out HB4.out HROW.out hlt H32.out (fun w1 => neq62 a b p q w1) ?_
        intro v41 v42 v43 v44 v45 v46 w5 hL5
        simp only [Act.put, List.setIfInBounds_toArray, List.set_cons_succ, List.set_cons_zero]
        have HB5 : Hid (Blk w5 g 5 (cells8 (rowTo L n (i + 1)))) := HB4.out.later hL5
        have HBL5 : Hid (Below g w w5) := HBL4.out.trans (Below.mono hL5 (Nat.le_of_lt HB4.out.lt))
        clear HP4 HB4 HBL4 hL5 H32
        by_cases hd : (isDig a && isDig b) = true
        · have hd2 := hd
          rw [Bool.and_eq_true] at hd2
          have hpq := HPQ.out
          rw [← HXE.out, pair_yes a b hd2.1 hd2.2] at hpq
          simp only [List.cons.injEq, and_true] at hpq
          obtain ⟨rfl, rfl⟩ := hpq
          have HON : Hid (okTo L (i + 1)) := HOKN.out a b HA.out HBB.out hd2.1 hd2.2
          have hbt : (!(a == a && b == b)) = false := by simp
          rw [hbt]
          clear hd hd2 hbt
          go_wp2_with fail
          refine ⟨⟨i + 1, by omega, rfl, HON.out, HB5.out, HBL5.out⟩, ?_⟩
          simp only [intOf]; omega
        · have hd2 : (isDig a && isDig b) = false := by simpa using hd
          have hno := pair_no a b hd2
          rw [HXE.out, HPQ.out] at hno
          have hbt : (!(a == p && b == q)) = true := by
            rw [Bool.not_eq_true', Bool.eq_false_iff]
            intro hh
            rw [Bool.and_eq_true, beq_iff_eq, beq_iff_eq] at hh
            apply hno
            rw [hh.1, hh.2]
          have hokf : okL L = false := HBAD.out a b HA.out HBB.out hd2
          rw [hbt]
          clear hd hd2 hno hbt
          have HOKF := hid2 hokf
          clear hokf
          go_wp2_with fail
          go_ret2
          exact UnP.no (by rw [HLE.out]; exact HOKF.out) (by rw [HG.out]; exact HBL5.out)
      · have hge : (n : Int) ≤ i := by omega
        have hie : i = n := by omega
        have hokt : okL L = true := by
          simp only [okL, Bool.and_eq_true, decide_eq_true_eq]
          refine ⟨by omega, ?_⟩
          rw [List.all_eq_true]
          intro x hx
          obtain ⟨k, hk, rfl⟩ := List.getElem_of_mem hx
          have := HOK.out k (by omega)
          simpa [List.getD, hk] using this
        have HF : Hid (Blk wr g 5 (cells8 (unL L))) := by
          have := HB.out
          rw [hie, rowTo_full L n hLn] at this
          exact this
        have HOKT := hid2 hokt
        clear hie hokt
        go_wp2_with fail
        go_ret2
        have hyes := UnP.yes (s := s) (w := w) (w' := wr) n (by rw [HZ.out]; exact HN.out) (by rw [HLE.out]; exact HOKT.out) (by rw [HG.out]; exact HBL.out) (by rw [HG.out, HLE.out]; exact HF.out)
        rw [HG.out] at hyes
        exact hyes
  · have hok : okL L = false := by
      simp [okL, hLl, hodd]
    have hm : ((z : Int) % 2 == 0) = false := by
      rw [beq_eq_false_iff_ne]; omega
    go_enter Try.func21, Try.ntmps21
    go_wp2_with fail
    go_ret2
    exact UnP.no (by rw [hL]; exact hok) (Below.refl _ _)

end Go.Proofs.Ytfieglepljmmkaa
