/-
  slices.Grow of nothing, slices.Concat.
-/
import Derived.Test.YtjpelnbffodaiaaSoJ
namespace Go.Proofs.Ytjpelnbffodaiaa
open Go.RowKit
set_option linter.unusedVariables false
set_option linter.unusedSimpArgs false

theorem und3 : Try.prog.underlying 3 = some (.int .i64) := by kernel_rfl
theorem run_append_make (ty : TypeId) (k : Nat) (w : World) (h0 : 0 < k) (h9 : k ≤ 1000000000) :
    (Builtin.append_ #[22, 3] ty #[.slice none 0 0, .int .i64 (k : Int)]).run Try.prog w =
      .ok (.slice (some ⟨w.heap.size, 0, none⟩) k (grownCap w k 0 23)) (w.drew.alloc (.cells (Builtin.zeroCells #[.int .u32 0] k ++ Builtin.zeroCells #[.int .u32 0] (grownCap w k 0 23 - k)) 23)) := by
  obtain ⟨i, hi, hz, hsize, hby⟩ := info_parts info23
  have hw := i64w k (by omega)
  have hn : k ≠ 0 := by omega
  have h1 : ¬ ((k : Int) < 0) := by omega
  have h2 : ¬ ((k : Int) * (i.bytes : Int) > 281474976710656) := by rw [hby]; omega
  have h63' : ¬ (9223372036854775807 < (k : Int)) := by omega
  have h3 : ¬ (281474976710656 < (k : Int) * 4) := by omega
  have h4 : ¬ ((k : Int) ≤ 0) := by omega
  have h5 : ¬ (281474976710656 < Builtin.nextslicecap k 0 * 4) := by rw [nextslicecap_zero h0]; omega
  have h6 : max (k : Int) 0 = (k : Int) := by omega
  have h48' : ¬ (281474976710656 < Builtin.nextslicecap k 0 * i.bytes) := by rw [nextslicecap_zero h0, hby]; omega
  have hc : (Value.int .u32 0).cells = #[.int .u32 0] := rfl
  simp [Builtin.append_, run_underlying Try.underlying22, run_underlying und3, sizeOf, typeInfo, zeroValue, hi, hz, hsize, Builtin.lenOf, hn, h63', h48', Question.forced, run_firstCells_none, newRow, grownCap, asInt, asIntOf, hw, h1, h2, h3, h4, h5, h6, hc, hby]

theorem wpList_appmake (w : World) {ops : Array Oper} {rest : List Oper} {o : Oper} {a : Act} {Q : Exit → Act → World → Prop} (hgd : o.guard = none) (s x : Operand)
    (ho : o.op = .call { callee := .builtin .append, args := #[s, x], argTypes := #[22, 3] }) (k : Nat) (hs : a.eval s = .slice none 0 0) (hx : a.eval x = .int .i64 (k : Int)) (h0 : 0 < k) (h9 : k ≤ 1000000000)
    (h : ∀ c w', k ≤ c → c ≤ maxLen → w'.ownsRow w.heap.size 23 1 (.slice (some ⟨w.heap.size, 0, none⟩) 0 c) 0 (cells32 []) → Below w.heap.size w w' → wpList Try.prog ops Q rest (a.put o.dst (.slice (some ⟨w.heap.size, 0, none⟩) k c)) w') : wpList Try.prog ops Q (o :: rest) a w := by
  refine wpList_plain hgd fun K hK => ?_
  have hr := run_append_make o.type k w h0 h9
  unfold Oper.wp execOp
  simp only [ho, resolve, invoke, builtin, Sem.run_bind, Sem.run_pure, Result.andThen_ok, List.map_toArray, List.map_cons, List.map_nil, hs, hx, hr]
  have hc := grownCap_ge w k 0 23
  have hm := grownCap_le_maxLen w k 0 23 (by unfold maxLen; omega)
  refine hK _ _ (h _ _ hc hm ⟨rfl, .inr ⟨w.heap.size, _, _, rfl, Nat.le_refl _, heap_alloc_new w.drew _, Nat.zero_le _, hm, ?_, rfl⟩⟩ ?_)
  · simp [Builtin.zeroCells]
    omega
  · exact (show Below w.heap.size w w.drew from ⟨rfl, rfl, rfl, Nat.le_refl _, fun _ _ => rfl⟩).alloc (Nat.le_refl _) _
theorem growP (k : Nat) (w : World) (h9 : k ≤ 1000000000) :
    Calls Try.prog 50 #[.slice none 0 0, .int .i64 (k : Int)] w fun e w' => ∃ ad c, e = .returned (.slice ad 0 c) ∧ w'.ownsRow w.heap.size 23 1 (.slice ad 0 c) 0 (cells32 []) ∧ Below w.heap.size w w' := by
  rcases Nat.eq_zero_or_pos k with rfl | hk
  · go_enter Try.func50, Try.ntmps50
    go_wp2_with fail
    go_ret
    exact ⟨none, 0, rfl, ⟨rfl, .inl ⟨rfl, rfl⟩⟩, Below.refl _ _⟩
  · have hk' : (k : Int) > 0 := by omega
    go_enter Try.func50, Try.ntmps50
    go_wp2_with (first
      | (refine wpList_appmake _ rfl (.tmp 20) (.tmp 21) rfl k rfl rfl hk h9 ?_; intro c1 w1 hc1 hm1 ho1 hb1; have HO1 := hidden ho1; have HB1 := hidden hb1; have hc2 : c1 ≤ 9223372036854775807 := by unfold maxLen at hm1; omega))
    clear ho1 hb1
    go_ret
    exact ⟨_, _, rfl, HO1.out, HB1.out⟩

/-- An element of a list of lists. -/
abbrev Lst := Option Addr × Nat × Nat × List Nat
def Lst.v (x : Lst) : Value := .slice x.1 x.2.1 x.2.2.1
/-- A list of lists, read. -/
def Lsw (w : World) (ad : Option Addr) (xs : List Lst) : Prop :=
  ∀ (i : Nat) (x : Lst), xs[i]? = some x → (∃ b off, ad = some ⟨b, off, none⟩ ∧ b < w.heap.size ∧ w.cell? ⟨b, off + i, none⟩ = some (.slice x.1 x.2.1 x.2.2.1)) ∧ Ar w x.1 x.2.1 x.2.2.1 x.2.2.2
theorem Lsw.below {w w' : World} {ad : Option Addr} {xs : List Lst} (h : Lsw w ad xs) (hb : Below w.heap.size w w') : Lsw w' ad xs := by
  intro i x hx
  obtain ⟨⟨b, off, h1, h2, h3⟩, h4⟩ := h i x hx
  exact ⟨⟨b, off, h1, Nat.lt_of_lt_of_le h2 hb.size, by rw [hb.cell (p := ⟨b, off + i, none⟩) h2]; exact h3⟩, h4.later hb⟩
def lensum (xs : List Lst) : Nat := (xs.map (fun x : Lst => x.2.1)).sum
def joined (xs : List Lst) : List Nat := xs.flatMap (fun x : Lst => x.2.2.2)
theorem lensum_next {xs : List Lst} {i : Nat} {x : Lst} (h : xs[i]? = some x) : lensum (xs.take (i + 1)) = lensum (xs.take i) + x.2.1 := by
  unfold lensum
  rw [List.take_add_one, h]
  simp
theorem joined_next {xs : List Lst} {i : Nat} {x : Lst} (h : xs[i]? = some x) : joined (xs.take (i + 1)) = joined (xs.take i) ++ x.2.2.2 := by
  unfold joined
  rw [List.take_add_one, h]
  simp
theorem lensum_le (xs : List Lst) (i : Nat) : lensum (xs.take i) ≤ lensum xs := by
  unfold lensum
  have h : xs.map (fun x : Lst => x.2.1) = (xs.take i).map (fun x : Lst => x.2.1) ++ (xs.drop i).map (fun x : Lst => x.2.1) := by
    rw [← List.map_append, List.take_append_drop]
  rw [h, List.sum_append]
  omega

set_option maxRecDepth 100000 in
set_option maxHeartbeats 8000000 in
theorem concatP (w : World) (ad : Option Addr) (n c : Nat) (xs : List Lst) (h : Lsw w ad xs) (hn : xs.length = n) (hn9 : n ≤ 1000) (hsum : lensum xs ≤ 1000000) (hnc : n ≤ c) (hc9 : c ≤ 9223372036854775807) :
    Calls Try.prog 38 #[.slice ad n c] w fun e w' => ∃ a' c', e = .returned (.slice a' (lensum xs) c') ∧ w'.ownsRow w.heap.size 23 1 (.slice a' (lensum xs) c') (lensum xs) (cells32 (joined xs)) ∧ Below w.heap.size w w' := by
  have HL := hidden h
  have HN := hidden hn
  have HS := hidden hsum
  clear h hn hsum
  go_enter Try.func38, Try.ntmps38
  go_wp2_with fail
  go_loopw [3, 11] (fun s3 s11 wx => ∃ (i k : Nat), s3 = .int .i64 (k : Int) ∧ s11 = .int .i64 (i : Int) ∧ i ≤ n ∧ k ≤ 1000000 ∧ Hid (k = lensum (xs.take i)) ∧ wx = w) (fun _ s11 _ => n - (intOf s11).toNat)
  case atStart => exact ⟨0, 0, rfl, rfl, by omega, by omega, hidden (by simp [lensum]), rfl⟩
  case round =>
    obtain ⟨i, k, rfl, rfl, hin, hk9, hk, hw⟩ := hrel
    obtain rfl := hw.symm
    clear hw
    by_cases hlt : i < n
    · have hlt' : (i : Int) < (n : Int) := by omega
      obtain ⟨x, hx⟩ : ∃ x, xs[i]? = some x := ⟨xs[i]'(by rw [HN.out]; exact hlt), by simp⟩
      obtain ⟨⟨b, off, rfl, _, hc⟩, hA⟩ := HL.out i x hx
      have hxb : k + x.2.1 ≤ 1000000 := by
        have h1 := lensum_next hx
        have h2 := lensum_le xs (i + 1)
        have h3 := HS.out
        have h4 := hk.out
        omega
      have HX := hidden hx
      have hge : ¬ (k : Int) + (x.2.1 : Int) < 0 := by omega
      clear hx hA
      go_wp2_with fail
      refine ⟨⟨i + 1, k + x.2.1, by first | rfl | simp, by first | rfl | simp, by omega, hxb, hidden (by rw [lensum_next HX.out, ← hk.out]), by first | trivial | rfl⟩, ?_⟩
      simp [intOf]
      omega
    · have hlt' : ¬ (i : Int) < (n : Int) := by omega
      have hke : k = lensum xs := by
        have h4 := hk.out
        rw [List.take_of_length_le (by rw [HN.out]; omega)] at h4
        exact h4
      have HK := hidden hke
      clear hke hk
      go_wp2_with fail
      refine (growP k w (by omega)).mono ?_
      rintro e w1 ⟨a1, c1, rfl, ho1, hb1⟩
      have HO1 := hidden ho1
      have HB1 := hidden hb1
      clear ho1 hb1
      go_wp2_with fail
      go_loopw [6, 27] (fun s6 s27 wx => ∃ (i m : Nat) (a2 : Option Addr) (c2 : Nat), s6 = .slice a2 m c2 ∧ s27 = .int .i64 (i : Int) ∧ i ≤ n ∧ Hid (m = lensum (xs.take i)) ∧ Hid (wx.ownsRow w.heap.size 23 1 (.slice a2 m c2) m (cells32 (joined (xs.take i)))) ∧ Hid (Below w.heap.size w wx)) (fun _ s27 _ => n - (intOf s27).toNat)
      case atStart => exact ⟨0, 0, a1, c1, rfl, rfl, by omega, hidden (by simp [lensum]), hidden (by simpa [joined] using HO1.out), HB1⟩
      case round =>
        rename World => wx
        obtain ⟨i, m, a2, c2, rfl, rfl, hin, hm, hO, hB⟩ := hrel
        by_cases hlt : i < n
        · have hlt' : (i : Int) < (n : Int) := by omega
          obtain ⟨x, hx⟩ : ∃ x, xs[i]? = some x := ⟨xs[i]'(by rw [HN.out]; exact hlt), by simp⟩
          obtain ⟨⟨b, off, rfl, _, hc⟩, hA⟩ := (HL.out.below hB.out) i x hx
          have HX := hidden hx
          have HA := hidden hA
          have hxb : m + x.2.1 ≤ 1000000 := by
            have h1 := lensum_next hx
            have h2 := lensum_le xs (i + 1)
            have h3 := HS.out
            have h4 := hm.out
            omega
          clear hx hA
          go_wp2_with (first
            | (refine wpList_appW _ rfl (.tmp 31) (.tmp 32) rfl w.heap.size _ m _ rfl hO.out x.1 x.2.1 x.2.2.1 x.2.2.2 rfl HA.out.sw HA.out.no (by omega) hB.out.size ?_; intro a3 c3 w3 ho3 hb3; have HO3 := hidden ho3; have HB3 := hidden hb3; clear ho3 hb3))
          refine ⟨⟨i + 1, m + x.2.1, a3, c3, rfl, by first | rfl | simp, by omega, hidden (by rw [lensum_next HX.out, ← hm.out]), hidden (by rw [joined_next HX.out]; exact HO3.out), hidden (hB.out.trans HB3.out)⟩, ?_⟩
          simp [intOf]
          omega
        · have hlt' : ¬ (i : Int) < (n : Int) := by omega
          have hme : m = lensum xs := by
            have h4 := hm.out
            rw [List.take_of_length_le (by rw [HN.out]; omega)] at h4
            exact h4
          have hO2 := hO.out
          rw [List.take_of_length_le (by rw [HN.out]; omega), hme] at hO2
          have HO2 := hidden hO2
          have HME := hidden hme
          clear hO2 hme hm
          go_wp2_with fail
          go_ret
          exact ⟨a2, c2, by rw [← HME.out]; rfl, HO2.out, hB.out⟩
end Go.Proofs.Ytjpelnbffodaiaa
