import Derived.Test.YtfieglepljmmkaaUnhex
namespace Go.Proofs.Ytfieglepljmmkaa
open Go.RowKit
set_option linter.unusedVariables false

/-- The document's list, behind i digits. -/
def rl (L : List Int) (i : Nat) : List Int := (unL L).take (i / 2) ++ (if i % 2 = 1 then [((dval (L.getD (i - 1) 0) * 16 : Nat) : Int)] else [])
theorem rl_even (L : List Int) (i : Nat) (h : i % 2 = 0) : rl L (i + 1) = rl L i ++ [((dval (L.getD i 0) * 16 : Nat) : Int)] := by
  unfold rl
  rw [if_pos (show (i + 1) % 2 = 1 by omega), if_neg (show ¬ i % 2 = 1 by omega), show (i + 1) / 2 = i / 2 by omega, List.append_nil, show i + 1 - 1 = i by omega]
theorem rl_odd (L : List Int) (i : Nat) (h : i % 2 = 1) (hl : i < L.length) : (rl L i).set (i / 2) ((dval (L.getD (i - 1) 0) * 16 + dval (L.getD i 0) : Nat) : Int) = rl L (i + 1) := by
  have e1 : 2 * (i / 2) + 1 < L.length := by omega
  unfold rl
  rw [if_pos h, if_neg (by omega), show (i + 1) / 2 = i / 2 + 1 by omega, unL_take L (i / 2) e1, List.append_nil, List.set_append, if_neg (by rw [List.length_take, unL_len]; omega), List.length_take, unL_len, show i / 2 - min (i / 2) (L.length / 2) = 0 by omega, List.set_cons_zero, show 2 * (i / 2) = i - 1 by omega, show i - 1 + 1 = i by omega]
theorem rl_at (L : List Int) (i : Nat) (h : i % 2 = 1) (hl : i < L.length) : (rl L i).getD (i / 2) 0 = ((dval (L.getD (i - 1) 0) * 16 : Nat) : Int) := by
  unfold rl
  rw [if_pos h, List.getD_eq_getElem?_getD, List.getElem?_append_right (by rw [List.length_take, unL_len]; omega), List.length_take, unL_len, show i / 2 - min (i / 2) (L.length / 2) = 0 by omega]
  rfl
theorem rl_len (L : List Int) (i : Nat) (hl : i ≤ L.length) : (rl L i).length = (i + 1) / 2 := by
  unfold rl
  rw [List.length_append, List.length_take, unL_len]
  split
  · simp
    omega
  · simp
    omega
theorem rl_byte (L : List Int) (i : Nat) : Byte (rl L i) := by
  unfold rl
  refine ((unL_byte L).take _).append ?_
  split
  · intro n hn
    simp only [List.mem_cons, List.not_mem_nil, or_false] at hn
    have := dval_lt (L.getD (i - 1) 0)
    omega
  · intro n hn
    simp at hn
theorem rl_full (L : List Int) (h : L.length % 2 = 0) : rl L L.length = unL L := by
  unfold rl
  rw [if_neg (by omega), List.append_nil, List.take_of_length_le (by rw [unL_len]; omega)]
theorem owns_addr2 {w : World} {base : Nat} {e : TypeId} {ad : Option Addr} {n c : Nat} {xs : List Value} (h : w.ownsRow base e 1 (.slice ad n c) n xs) (hp : 0 < n) : ∃ g, ad = some ⟨g, 0, none⟩ := by
  rcases h.2 with ⟨_, h0⟩ | ⟨g, c', cur, hv, _⟩
  · omega
  · simp only [Value.slice.injEq] at hv
    exact ⟨g, hv.1⟩
theorem owns_frozen2 {w : World} {base g n c : Nat} {e : TypeId} {m : Nat} {xs : List Value} (h : w.ownsRow base e 1 (.slice (some ⟨g, 0, none⟩) n c) m xs) (k : Nat) : w.frozen? ⟨g, k, none⟩ = false := by
  rcases h.2 with ⟨h0, _⟩ | ⟨g', c', cur, hv, _, hh, _⟩
  · cases h0
  · simp only [Value.slice.injEq, Option.some.injEq, Addr.mk.injEq] at hv
    obtain ⟨⟨rfl, _⟩, _⟩ := hv
    exact frozen_of_row w g k _ e hh
def okUp (L : List Int) (i : Nat) : Prop := ∀ k, k < i → isDig (L.getD k 0) = true
theorem okUp_all {L : List Int} {n : Nat} (hn : L.length = n) (h : okUp L n) : L.all isDig = true := by
  rw [List.all_eq_true]
  intro x hx
  obtain ⟨k, hk, rfl⟩ := List.getElem_of_mem hx
  have := h k (by omega)
  simpa [List.getD, hk] using this
/-- What the document's Unhex leaves. -/
def RefP (s : ByteArray) (w : World) (e : Ending) (w' : World) : Prop :=
  (okL (numsB s) = false ∧ e = .returned (.tuple #[.slice none 0 0, .bool false]) ∧ Below w.heap.size w w') ∨
  (okL (numsB s) = true ∧ ∃ ad c, e = .returned (.tuple #[.slice ad (s.size / 2) c, .bool true]) ∧ Sl w' ad (s.size / 2) (unL (numsB s)) ∧ (∀ x, ad = some x → 0 < s.size / 2 → w.heap.size ≤ x.block) ∧ Below w.heap.size w w')
theorem RefP.no {s : ByteArray} {w w' : World} {L : List Int} (hL : numsB s = L) (h : okL L = false) (hb : Below w.heap.size w w') : RefP s w (.returned (.tuple #[.slice none 0 0, .bool false])) w' := .inl ⟨by rw [hL]; exact h, rfl, hb⟩

set_option maxRecDepth 100000 in
set_option maxHeartbeats 2000000 in
theorem refUnhex_any (s : ByteArray) (w : World) (hb : s.size ≤ 140737488355328) : Calls Try.prog 22 #[.string s] w fun e w' => RefP s w e w' := by
  obtain ⟨i0, hi, hz0, hz1, hz2⟩ := info_parts info5
  obtain ⟨L, hL⟩ : ∃ L, numsB s = L := ⟨_, rfl⟩
  obtain ⟨z, hz⟩ : ∃ z, s.size = z := ⟨_, rfl⟩
  have hLl : L.length = z := by rw [← hL, numsB_len, hz]
  rw [hz] at hb
  have HZ := hid2 hz
  have HLE := hid2 hL
  have HLL := hid2 hLl
  clear hL hLl
  go_enter Try.func22, Try.ntmps22
  go_wp2_with fail
  go_loopw [4, 5] (fun ov iv wr => ∃ (i : Nat) (v : Value), i ≤ z ∧ iv = .int .i64 i ∧ ov = v ∧ okUp L i ∧ wr.ownsRow w.heap.size 5 1 v ((i + 1) / 2) (cells8 (rl L i)) ∧ Below w.heap.size w wr) (fun _ iv _ => z - (intOf iv).toNat)
  case atStart => exact ⟨0, _, Nat.zero_le _, rfl, rfl, fun k hk => by omega, World.ownsRow_nil _ _ _ _, Below.refl _ _⟩
  case round =>
    rename World => wr
    obtain ⟨i, v, hiz, rfl, rfl, hok, ho, hbl⟩ := hrel
    obtain ⟨al, cl, rfl⟩ := owns_form ho
    have HOK := hid2 hok
    have HO := hid2 ho
    have HBL := hid2 hbl
    clear hok ho hbl
    by_cases hlt : i < z
    · have hb0 : 0 ≤ L.getD i 0 ∧ L.getD i 0 ≤ 255 := by rw [← HLE.out]; exact (numsB_byte s).at _
      have hx0 : ∀ w, (Instr.index 9 (.string s) (.int .i64 (i : Int))).run Try.prog w = .ok (.int .u8 (L.getD i 0)) w := fun w => by
        rw [← HLE.out]
        exact index_str s w i .i64 _ rfl (by rw [HZ.out]; exact hlt)
      have HON : Hid (isDig (L.getD i 0) = true → okUp L (i + 1)) := by
        intro h k hk
        rcases (by omega : k < i ∨ k = i) with h1 | rfl
        · exact HOK.out k h1
        · exact h
      have HBAD : Hid (isDig (L.getD i 0) = false → okL L = false) := by
        intro h
        rw [Bool.eq_false_iff]
        intro h2
        simp only [okL, Bool.and_eq_true, decide_eq_true_eq] at h2
        have k1 := List.all_eq_true.1 h2.2 (L.getD i 0) (by have := HLL.out; simp [List.getD, show i < L.length by omega])
        rw [h] at k1
        cases k1
      have HEV := hid2 (rl_even L i)
      have HOD := hid2 (fun h => rl_odd L i h (by rw [HLL.out]; exact hlt))
      have HAT := hid2 (fun h => rl_at L i h (by rw [HLL.out]; exact hlt))
      have HLN : Hid ((rl L i).length = (i + 1) / 2) := rl_len L i (by rw [HLL.out]; exact hiz)
      obtain ⟨c, hc⟩ : ∃ c, L.getD i 0 = c := ⟨_, rfl⟩
      rw [hc] at hb0 hx0 HON HBAD HEV HOD
      clear hc
      obtain ⟨hc0, hc1⟩ := hb0
      rcases (by omega : c < 48 ∨ (57 < c ∧ c < 97) ∨ 102 < c ∨ (48 ≤ c ∧ c ≤ 57) ∨ (97 ≤ c ∧ c ≤ 102)) with h1 | ⟨h1, h2⟩ | h1 | ⟨h1, h2⟩ | ⟨h1, h2⟩
      · have HF : Hid (okL L = false) := HBAD.out (by simp [isDig]; omega)
        go_wp2_with fail
        go_ret2
        exact RefP.no HLE.out HF.out HBL.out
      · have HF : Hid (okL L = false) := HBAD.out (by simp [isDig]; omega)
        go_wp2_with fail
        go_ret2
        exact RefP.no HLE.out HF.out HBL.out
      · have HF : Hid (okL L = false) := HBAD.out (by simp [isDig]; omega)
        go_wp2_with fail
        go_ret2
        exact RefP.no HLE.out HF.out HBL.out
      · have HD : Hid (isDig c = true) := by
          show isDig c = true
          simp [isDig]
          omega
        have HV : Hid (((dval c : Nat) : Int) = c - 48) := by
          show ((dval c : Nat) : Int) = c - 48
          unfold dval
          rw [if_neg (by omega)]
          omega
        by_cases hpar : i % 2 = 0
        · have hp : ((i : Int) % 2 == 0) = true := by rw [beq_iff_eq]; omega
          have HE : Hid (rl L (i + 1) = rl L i ++ [16 * (c - 48)]) := by
            show rl L (i + 1) = rl L i ++ [16 * (c - 48)]
            rw [HEV.out hpar]
            have := HV.out
            congr 2
            omega
          have hpp : (i + 1) / 2 = i / 2 := by omega
          have hp2 : (i + 1 + 1) / 2 = i / 2 + 1 := by omega
          have HO2 := HO
          rw [hpp] at HO2 ⊢
          have HP2 := hid2 hp2
          clear hpar hpp hp2
          have HSL : Hid (Sl (wr.alloc (.cells #[.int .u8 (16 * (c - 48))] 5)) (some ⟨wr.heap.size, 0, none⟩) 1 [16 * (c - 48)]) := sl_lit wr [16 * (c - 48)] (by intro n hn; simp only [List.mem_cons, List.not_mem_nil, or_false] at hn; omega) 5 (0, 0) 1 rfl _ rfl _ rfl
          have HSZ : Hid (w.heap.size ≤ (wr.alloc (.cells #[.int .u8 (16 * (c - 48))] 5)).heap.size) := by
            show w.heap.size ≤ (wr.alloc (.cells #[.int .u8 (16 * (c - 48))] 5)).heap.size
            have := HBL.out.size
            simp
            omega
          have HL1 : Hid (Below wr.heap.size wr (wr.alloc (.cells #[.int .u8 (16 * (c - 48))] 5))) := (Below.refl _ _).alloc (Nat.le_refl _) _
          go_wp2_with (first
            | (at_builtin; refine wpList_append_sl _ rfl (.tmp 47) (.tmp 50) 22 rfl w.heap.size 5 i0 (.int .u8 0) Try.underlying22 hi hz0 hz1 hz2 rfl _ (i / 2) (rl L i) rfl (owns_later HO2.out HL1.out) _ 1 1 [16 * (c - 48)] rfl HSL.out (fun h => by cases h) (by omega) HSZ.out ?_; intro ad4 c4 w4 hown4 hgr4; have hbl4 := grown_below hgr4 (owns_later HO2.out HL1.out) HSZ.out; have HO4 := hid2 hown4; have HBL4 := hid2 hbl4; clear hown4 hbl4 hgr4))
          refine ⟨⟨i + 1, _, by omega, rfl, rfl, HON.out HD.out, ?_, (HBL.out.trans (HL1.out.mono HBL.out.size)).trans HBL4.out⟩, ?_⟩
          · rw [HE.out, HP2.out]
            exact HO4.out
          · simp only [intOf]; omega
        · have hp : ((i : Int) % 2 == 0) = false := by rw [beq_eq_false_iff_ne]; omega
          have hodd : i % 2 = 1 := by omega
          have HA := HAT.out hodd
          have HO3 := HOD.out hodd
          obtain ⟨g, rfl⟩ := owns_addr2 HO.out (by omega)
          have hgb : w.heap.size ≤ g := (HO.out.lt g rfl).1
          obtain ⟨x, hx⟩ : ∃ x, dval (L.getD (i - 1) 0) = x := ⟨_, rfl⟩
          have hx16 : x < 16 := by rw [← hx]; exact dval_lt _
          rw [hx] at HA HO3
          have hcell : wr.cell? ⟨g, i / 2, none⟩ = some (.int .u8 ((x * 16 : Nat) : Int)) := by
            have h := HO.out.cells rfl (i / 2) (.int .u8 ((x * 16 : Nat) : Int)) (by
              have hln := HLN.out
              rw [← HA]
              simp [cells8, List.getD, show i / 2 < (rl L i).length by omega])
            simpa [Addr.add_lit] using h
          have hfr : wr.frozen? ⟨g, i / 2, none⟩ = false := owns_frozen2 HO.out (i / 2)
          have hst := HO.out.stored (i / 2) (.int .u8 (((x * 16 : Nat) : Int) + (c - 48)))
          have HST : Hid ((wr.setCell ⟨g, i / 2, none⟩ (.int .u8 (((x * 16 : Nat) : Int) + (c - 48)))).ownsRow w.heap.size 5 1 (.slice (some ⟨g, 0, none⟩) ((i + 1) / 2) cl) ((i + 1) / 2) (cells8 (rl L (i + 1)))) := by
            have h := hst.1
            have hv := HV.out
            rw [show (cells8 (rl L i)).set (i / 2) (.int .u8 (((x * 16 : Nat) : Int) + (c - 48))) = cells8 (rl L (i + 1)) by
              rw [← HO3, ← hv]
              simp [cells8]] at h
            exact h
          have hpp : (i + 1 + 1) / 2 = (i + 1) / 2 := by omega
          have hq1 : (i : Int) / 2 < (((i + 1) / 2 : Nat) : Int) := by omega
          have HP2 := hid2 hpp
          have hcI : ((x * 16 : Nat) : Int) = (x : Int) * 16 := by omega
          rw [hcI] at hcell HST
          clear hst hpp HA HO3 hx hcI hpar
          go_wp2_with fail
          refine ⟨⟨i + 1, _, by omega, rfl, rfl, HON.out HD.out, ?_, HBL.out.setCell hgb _⟩, ?_⟩
          · rw [HP2.out]
            exact HST.out
          · simp only [intOf]; omega
      · have HD : Hid (isDig c = true) := by
          show isDig c = true
          simp [isDig]
          omega
        have HV : Hid (((dval c : Nat) : Int) = c - 97 + 10) := by
          show ((dval c : Nat) : Int) = c - 97 + 10
          unfold dval
          rw [if_pos (by omega)]
          omega
        by_cases hpar : i % 2 = 0
        · have hp : ((i : Int) % 2 == 0) = true := by rw [beq_iff_eq]; omega
          have HE : Hid (rl L (i + 1) = rl L i ++ [16 * (c - 97 + 10)]) := by
            show rl L (i + 1) = rl L i ++ [16 * (c - 97 + 10)]
            rw [HEV.out hpar]
            have := HV.out
            congr 2
            omega
          have hpp : (i + 1) / 2 = i / 2 := by omega
          have hp2 : (i + 1 + 1) / 2 = i / 2 + 1 := by omega
          have HO2 := HO
          rw [hpp] at HO2 ⊢
          have HP2 := hid2 hp2
          clear hpar hpp hp2
          have HSL : Hid (Sl (wr.alloc (.cells #[.int .u8 (16 * (c - 97 + 10))] 5)) (some ⟨wr.heap.size, 0, none⟩) 1 [16 * (c - 97 + 10)]) := sl_lit wr [16 * (c - 97 + 10)] (by intro n hn; simp only [List.mem_cons, List.not_mem_nil, or_false] at hn; omega) 5 (0, 0) 1 rfl _ rfl _ rfl
          have HSZ : Hid (w.heap.size ≤ (wr.alloc (.cells #[.int .u8 (16 * (c - 97 + 10))] 5)).heap.size) := by
            show w.heap.size ≤ (wr.alloc (.cells #[.int .u8 (16 * (c - 97 + 10))] 5)).heap.size
            have := HBL.out.size
            simp
            omega
          have HL1 : Hid (Below wr.heap.size wr (wr.alloc (.cells #[.int .u8 (16 * (c - 97 + 10))] 5))) := (Below.refl _ _).alloc (Nat.le_refl _) _
          go_wp2_with (first
            | (at_builtin; refine wpList_append_sl _ rfl (.tmp 47) (.tmp 50) 22 rfl w.heap.size 5 i0 (.int .u8 0) Try.underlying22 hi hz0 hz1 hz2 rfl _ (i / 2) (rl L i) rfl (owns_later HO2.out HL1.out) _ 1 1 [16 * (c - 97 + 10)] rfl HSL.out (fun h => by cases h) (by omega) HSZ.out ?_; intro ad4 c4 w4 hown4 hgr4; have hbl4 := grown_below hgr4 (owns_later HO2.out HL1.out) HSZ.out; have HO4 := hid2 hown4; have HBL4 := hid2 hbl4; clear hown4 hbl4 hgr4))
          refine ⟨⟨i + 1, _, by omega, rfl, rfl, HON.out HD.out, ?_, (HBL.out.trans (HL1.out.mono HBL.out.size)).trans HBL4.out⟩, ?_⟩
          · rw [HE.out, HP2.out]
            exact HO4.out
          · simp only [intOf]; omega
        · have hp : ((i : Int) % 2 == 0) = false := by rw [beq_eq_false_iff_ne]; omega
          have hodd : i % 2 = 1 := by omega
          have HA := HAT.out hodd
          have HO3 := HOD.out hodd
          obtain ⟨g, rfl⟩ := owns_addr2 HO.out (by omega)
          have hgb : w.heap.size ≤ g := (HO.out.lt g rfl).1
          obtain ⟨x, hx⟩ : ∃ x, dval (L.getD (i - 1) 0) = x := ⟨_, rfl⟩
          have hx16 : x < 16 := by rw [← hx]; exact dval_lt _
          rw [hx] at HA HO3
          have hcell : wr.cell? ⟨g, i / 2, none⟩ = some (.int .u8 ((x * 16 : Nat) : Int)) := by
            have h := HO.out.cells rfl (i / 2) (.int .u8 ((x * 16 : Nat) : Int)) (by
              have hln := HLN.out
              rw [← HA]
              simp [cells8, List.getD, show i / 2 < (rl L i).length by omega])
            simpa [Addr.add_lit] using h
          have hfr : wr.frozen? ⟨g, i / 2, none⟩ = false := owns_frozen2 HO.out (i / 2)
          have hst := HO.out.stored (i / 2) (.int .u8 (((x * 16 : Nat) : Int) + (c - 97 + 10)))
          have HST : Hid ((wr.setCell ⟨g, i / 2, none⟩ (.int .u8 (((x * 16 : Nat) : Int) + (c - 97 + 10)))).ownsRow w.heap.size 5 1 (.slice (some ⟨g, 0, none⟩) ((i + 1) / 2) cl) ((i + 1) / 2) (cells8 (rl L (i + 1)))) := by
            have h := hst.1
            have hv := HV.out
            rw [show (cells8 (rl L i)).set (i / 2) (.int .u8 (((x * 16 : Nat) : Int) + (c - 97 + 10))) = cells8 (rl L (i + 1)) by
              rw [← HO3, ← hv]
              simp [cells8]] at h
            exact h
          have hpp : (i + 1 + 1) / 2 = (i + 1) / 2 := by omega
          have hq1 : (i : Int) / 2 < (((i + 1) / 2 : Nat) : Int) := by omega
          have HP2 := hid2 hpp
          have hcI : ((x * 16 : Nat) : Int) = (x : Int) * 16 := by omega
          rw [hcI] at hcell HST
          clear hst hpp HA HO3 hx hcI hpar
          go_wp2_with fail
          refine ⟨⟨i + 1, _, by omega, rfl, rfl, HON.out HD.out, ?_, HBL.out.setCell hgb _⟩, ?_⟩
          · rw [HP2.out]
            exact HST.out
          · simp only [intOf]; omega
    · have hge : (z : Int) ≤ i := by omega
      have hie : i = z := by omega
      by_cases hodd : z % 2 = 1
      · have hm : ((z : Int) % 2 == 1) = true := by rw [beq_iff_eq]; omega
        have HF : Hid (okL L = false) := by
          show okL L = false
          simp [okL, HLL.out, hodd]
        clear hie
        go_wp2_with fail
        go_ret2
        exact RefP.no HLE.out HF.out HBL.out
      · have hm : ((z : Int) % 2 == 1) = false := by rw [beq_eq_false_iff_ne]; omega
        have HT : Hid (RefP s w (.returned (.tuple #[.slice al ((i + 1) / 2) cl, .bool true])) wr) := by
          refine .inr ⟨?_, al, cl, ?_, ?_, ?_, HBL.out⟩
          · rw [HLE.out]
            have := HOK.out
            rw [hie] at this
            simp only [okL, Bool.and_eq_true, decide_eq_true_eq]
            exact ⟨by rw [HLL.out]; omega, okUp_all HLL.out this⟩
          · rw [HZ.out, show (i + 1) / 2 = z / 2 by omega]
          · rw [HZ.out, HLE.out]
            have h := sl_of_owns HO.out (rl_byte L i)
            have e : rl L i = unL L := by
              rw [hie, ← HLL.out]
              exact rl_full L (by rw [HLL.out]; omega)
            rw [e, show (i + 1) / 2 = z / 2 by omega] at h
            exact h
          · intro x hx hp
            rw [HZ.out] at hp
            obtain ⟨g, rfl⟩ := owns_addr2 HO.out (by omega)
            obtain rfl := Option.some.inj hx
            exact (HO.out.lt g rfl).1
        clear hie
        go_wp2_with fail
        go_ret2
        exact HT.out

end Go.Proofs.Ytfieglepljmmkaa
