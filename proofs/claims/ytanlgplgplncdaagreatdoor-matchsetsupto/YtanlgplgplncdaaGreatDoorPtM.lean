import Derived.Test.YtanlgplgplncdaaGreatDoorPtI
/-
  The machine: within.
-/
namespace Go.Proofs.YtanlgplgplncdaaGreatDoor
open Go.RowKit
set_option linter.unusedVariables false
set_option linter.unusedSimpArgs false

theorem inS_step {l : Sn} {i : Nat} {o : Nat × Nat} (h : l[i]? = some o) (x : Nat) : inS (l.drop i) x = ((decide (o.1 ≤ x) && decide (x ≤ o.2)) || inS (l.drop (i + 1)) x) := by
  have hl := (List.getElem?_eq_some_iff.1 h).1
  rw [List.drop_eq_getElem_cons hl]
  rw [List.getElem?_eq_getElem hl] at h
  injection h with h
  rw [h]
  simp [inS]

set_option maxRecDepth 100000 in
set_option maxHeartbeats 4000000 in
theorem withinP (ad : Option Addr) (c : Nat) (l : Sn) (x : Nat) (w : World) (hL : Ss w ad l) (hlen : l.length ≤ 9223372036854775807) :
    Calls Tryz.prog 112 #[.slice ad l.length c, .int .i32 (x : Int)] w fun e w' => e = .returned (.bool (inS l x)) ∧ Below w.heap.size w w' := by
  obtain ⟨n, hn⟩ : ∃ n, l.length = n := ⟨_, rfl⟩
  rw [hn] at hlen ⊢
  have HN := hidden hn
  have HL := hidden hL
  obtain ⟨R, hR⟩ : ∃ R, inS l x = R := ⟨_, rfl⟩
  have HR : Hid (inS (l.drop 0) x = R) := hidden (by rw [List.drop_zero]; exact hR)
  rw [hR]
  clear hn hL hR
  go_enter Tryz.func112, Tryz.ntmps112
  go_wp2
  go_loopw [9] (fun s9 wx => ∃ i : Nat, s9 = .int .i64 (i : Int) ∧ i ≤ n ∧ Hid (inS (l.drop i) x = R) ∧ Hid (Below w.heap.size w wx)) (fun s9 _ => n - (intOf s9).toNat)
  case atStart => exact ⟨0, rfl, by omega, HR, hidden (Below.refl _ _)⟩
  case round =>
    rename World => wr
    obtain ⟨i, rfl, hi, hrel, hbel⟩ := hrel
    clear HR
    by_cases hlt : i < n
    · have hltz : (i : Int) < (n : Int) := by omega
      obtain ⟨b, off, o, rfl, hb, ho, ho', d0, d1, y1, y2⟩ := (HL.out.later hbel.out).get (i := i) (by rw [HN.out]; exact hlt)
      have HST := hidden (inS_step ho x)
      have hal : Below w.heap.size w (wr.alloc (.cells #[.int .i32 (o.1 : Int), .int .i32 (o.2 : Int)] 209)) := hbel.out.alloc hbel.out.size _
      have HAL := hidden hal
      have B8 := Blk.new wr 209 [.int .i32 (o.1 : Int), .int .i32 (o.2 : Int)]
      have e0 : (wr.alloc (.cells #[.int .i32 (o.1 : Int), .int .i32 (o.2 : Int)] 209)).cell? ⟨wr.heap.size, 0, none⟩ = some (.int .i32 (o.1 : Int)) := B8.cell 0
      have e1 : (wr.alloc (.cells #[.int .i32 (o.1 : Int), .int .i32 (o.2 : Int)] 209)).cell? ⟨wr.heap.size, 1, none⟩ = some (.int .i32 (o.2 : Int)) := B8.cell 1
      clear ho ho' B8 hal
      by_cases h1 : o.1 ≤ x
      · have h1z : (o.1 : Int) ≤ (x : Int) := by omega
        by_cases h2 : x ≤ o.2
        · have h2z : (x : Int) ≤ (o.2 : Int) := by omega
          have HT : Hid (R = true) := hidden (by rw [← hrel.out, HST.out]; simp [h1, h2])
          clear h1 h2 hrel HST
          go_wp2
          go_ret
          exact ⟨by rw [HT.out]; rfl, HAL.out⟩
        · have h2z : ¬ (x : Int) ≤ (o.2 : Int) := by omega
          have h2z' : decide ((x : Int) ≤ (o.2 : Int)) = false := decide_eq_false h2z
          have HS : Hid (inS (l.drop (i + 1)) x = R) := hidden (by rw [← hrel.out, HST.out]; simp [h2])
          clear h1 h2 hrel HST
          go_wp2
          refine ⟨⟨i + 1, by first | rfl | simp, by omega, HS, HAL⟩, ?_⟩
          simp [intOf]
          omega
      · have h1z : ¬ (o.1 : Int) ≤ (x : Int) := by omega
        have h1z' : decide ((o.1 : Int) ≤ (x : Int)) = false := decide_eq_false h1z
        have HS : Hid (inS (l.drop (i + 1)) x = R) := hidden (by rw [← hrel.out, HST.out]; simp [h1])
        clear h1 hrel HST
        go_wp2
        refine ⟨⟨i + 1, by first | rfl | simp, by omega, HS, HAL⟩, ?_⟩
        simp [intOf]
        omega
    · have hltz : ¬ (i : Int) < (n : Int) := by omega
      have HF : Hid (R = false) := hidden (by rw [← hrel.out, List.drop_of_length_le (by rw [HN.out]; omega)]; rfl)
      clear hrel
      go_wp2
      go_ret
      exact ⟨by rw [HF.out]; rfl, hbel.out⟩

end Go.Proofs.YtanlgplgplncdaaGreatDoor

/-
  The machine: others.
-/
namespace Go.Proofs.YtanlgplgplncdaaGreatDoor
open Go.RowKit
set_option linter.unusedVariables false
set_option linter.unusedSimpArgs false

theorem othS_step {l : Sn} {i : Nat} {o : Nat × Nat} (h : l[i]? = some o) (low : Nat) : othS low (l.drop i) = (if low < o.1 then [(low, o.1 - 1)] else []) ++ othS (o.2 + 1) (l.drop (i + 1)) := by
  have hl := (List.getElem?_eq_some_iff.1 h).1
  rw [List.drop_eq_getElem_cons hl]
  rw [List.getElem?_eq_getElem hl] at h
  injection h with h
  rw [h, othS]

set_option maxRecDepth 100000 in
set_option maxHeartbeats 8000000 in
theorem othersP (ad : Option Addr) (c : Nat) (l : Sn) (w : World) (hL : Ss w ad l) (hlen : l.length ≤ 1000) :
    Calls Tryz.prog 119 #[.slice ad l.length c] w fun e w' => ∃ a' c', e = .returned (.slice a' (othS 0 l).length c') ∧ w'.ownsRow w.heap.size 209 2 (.slice a' (othS 0 l).length c') (othS 0 l).length (cS (othS 0 l)) ∧ Bd (othS 0 l) ∧ Below w.heap.size w w' := by
  obtain ⟨i0, hi0, hz0, hz1, hz2⟩ := info_parts info93
  have HI := hidden hi0
  obtain ⟨n, hn⟩ : ∃ n, l.length = n := ⟨_, rfl⟩
  rw [hn] at hlen ⊢
  have HN := hidden hn
  have HL := hidden hL
  obtain ⟨R, hR⟩ : ∃ R, othS 0 l = R := ⟨_, rfl⟩
  have HR : Hid ([] ++ othS 0 (l.drop 0) = R) := hidden (by rw [List.drop_zero]; exact hR)
  rw [hR]
  clear hi0 hn hL hR
  go_enter Tryz.func119, Tryz.ntmps119
  go_wp2
  go_loopw [3, 4, 9] (fun s3 s4 s9 wx => ∃ (i low m cc : Nat) (aa : Option Addr) (acc : Sn), s3 = .slice aa m cc ∧ s4 = .int .i32 (low : Int) ∧ s9 = .int .i64 (i : Int) ∧ i ≤ n ∧ m ≤ i ∧ low ≤ 1114112 ∧ Hid (acc.length = m) ∧ Hid (Bd acc) ∧ Hid (acc ++ othS low (l.drop i) = R) ∧ Hid (wx.ownsRow w.heap.size 209 2 (.slice aa m cc) m (cS acc)) ∧ Hid (Below w.heap.size w wx)) (fun _ _ s9 _ => n - (intOf s9).toNat)
  case atStart => exact ⟨0, 0, 0, 0, none, [], rfl, rfl, rfl, by omega, by omega, by omega, hidden rfl, hidden (fun y hy => by cases hy), HR, hidden (World.ownsRow_nil _ _ _ _), hidden (Below.refl _ _)⟩
  case round =>
    rename World => wr
    obtain ⟨i, low, m, cc, aa, acc, rfl, rfl, rfl, hi, hmi, hlow, hlm, hbd, hrel, hown, hbel⟩ := hrel
    clear HR
    have HBS : Hid (w.heap.size ≤ wr.heap.size) := hidden hbel.out.size
    by_cases hlt : i < n
    · have hltz : (i : Int) < (n : Int) := by omega
      obtain ⟨b, off, o, rfl, hb, ho, ho', d0, d1, y1, y2⟩ := (HL.out.later hbel.out).get (i := i) (by rw [HN.out]; exact hlt)
      have HST := hidden (othS_step ho low)
      have hal1 : Below wr.heap.size wr (wr.alloc (.cells #[.int .i32 (o.1 : Int), .int .i32 (o.2 : Int)] 209)) := (Below.refl _ _).alloc (Nat.le_refl _) _
      have HAL := hidden (hbel.out.alloc hbel.out.size (.cells #[.int .i32 (o.1 : Int), .int .i32 (o.2 : Int)] 209))
      have OW := hidden (owl hown.out hal1)
      have B8 := Blk.new wr 209 [.int .i32 (o.1 : Int), .int .i32 (o.2 : Int)]
      have e0 : (wr.alloc (.cells #[.int .i32 (o.1 : Int), .int .i32 (o.2 : Int)] 209)).cell? ⟨wr.heap.size, 0, none⟩ = some (.int .i32 (o.1 : Int)) := B8.cell 0
      have e1 : (wr.alloc (.cells #[.int .i32 (o.1 : Int), .int .i32 (o.2 : Int)] 209)).cell? ⟨wr.heap.size, 1, none⟩ = some (.int .i32 (o.2 : Int)) := B8.cell 1
      have HB8 := hidden B8
      clear ho ho' B8 hal1
      by_cases h1 : low < o.1
      · have h1z : (low : Int) < (o.1 : Int) := by omega
        have hsub : Hid (((o.1 - 1 : Nat) : Int) = (o.1 : Int) - 1) := hidden (by omega)
        have HS : Hid ((acc ++ [(low, o.1 - 1)]) ++ othS (o.2 + 1) (l.drop (i + 1)) = R) := hidden (by rw [← hrel.out, HST.out, if_pos h1, List.append_assoc])
        have cellN : Hid (∀ jj u, [Value.int .i32 (low : Int), Value.int .i32 ((o.1 : Int) - 1)][jj]? = some u → ((wr.alloc (.cells #[.int .i32 (o.1 : Int), .int .i32 (o.2 : Int)] 209)).alloc (.cells #[.int .i32 (low : Int), .int .i32 ((o.1 : Int) - 1)] 209)).cell? ((⟨wr.heap.size + 1, 0, none⟩ : Addr).add jj) = some u) := hidden (fun jj u hu => by
          rw [Addr.add_lit, Nat.zero_add]
          have := (Blk.new (wr.alloc (.cells #[.int .i32 (o.1 : Int), .int .i32 (o.2 : Int)] 209)) 209 [.int .i32 (low : Int), .int .i32 ((o.1 : Int) - 1)]).cell jj
          rw [hu, show (wr.alloc (.cells #[.int .i32 (o.1 : Int), .int .i32 (o.2 : Int)] 209)).heap.size = wr.heap.size + 1 by simp] at this
          exact this)
        clear HST hrel
        go_wp2_with (refine wpList_push2 _ rfl (.tmp 17) (.tmp 23) 199 rfl 209 i0 (.agg #[.int .i32 0, .int .i32 0]) 8 Tryz.underlying199 HI.out hz0 hz1 hz2 rfl w.heap.size (.slice aa m cc) m (cS acc) rfl (OW.out.alloc _) ⟨wr.heap.size + 1, 0, none⟩ [.int .i32 (low : Int), .int .i32 ((o.1 : Int) - 1)] rfl rfl cellN.out (by intro u hu; simp at hu; rcases hu with rfl | rfl <;> rfl) (by unfold maxLen; omega) (by omega) (by have := HBS.out; simp; omega) ?_; intro g9 c9 w9 ho9 hp9; have hch := hp9.chg; have HO9 := hidden ho9; have HB9 := hidden (HAL.out.trans (hch.1.below (by have := HBS.out; simp; omega) (fun k hk => (OW.out.lt k hk).1))); have HE9 := hidden (hch.1.blk HB8.out (fun e => by have := owns_lt hown.out _ e; omega)); have f1 : w9.cell? ⟨wr.heap.size, 1, none⟩ = some (.int .i32 (o.2 : Int)) := HE9.out.cell 1; clear ho9 hp9 hch)
        refine ⟨⟨i + 1, o.2 + 1, m + 1, c9, some ⟨g9, 0, none⟩, acc ++ [(low, o.1 - 1)], by first | rfl | simp, by first | rfl | simp, by first | rfl | simp, by omega, by omega, by omega, hidden (by simp [hlm.out]), hidden (hbd.out.snoc ⟨by show low ≤ _; omega, by show o.1 - 1 ≤ _; omega⟩), HS, hidden ?_, HB9⟩, ?_⟩
        · rw [cS_append]
          have e : cS [(low, o.1 - 1)] = [.int .i32 (low : Int), .int .i32 ((o.1 : Int) - 1)] := by rw [← hsub.out]; rfl
          rw [e]
          exact HO9.out
        · simp [intOf]
          omega
      · have h1z : ¬ (low : Int) < (o.1 : Int) := by omega
        have HS : Hid (acc ++ othS (o.2 + 1) (l.drop (i + 1)) = R) := hidden (by rw [← hrel.out, HST.out, if_neg h1, List.nil_append])
        clear HST hrel
        go_wp2
        refine ⟨⟨i + 1, o.2 + 1, m, cc, aa, acc, by first | rfl | simp, by first | rfl | simp, by first | rfl | simp, by omega, by omega, by omega, hlm, hbd, HS, OW, HAL⟩, ?_⟩
        simp [intOf]
        omega
    · have hltz : ¬ (i : Int) < (n : Int) := by omega
      have hend : l.drop i = [] := List.drop_of_length_le (by rw [HN.out]; omega)
      by_cases h1 : low ≤ 1114111
      · have h1z : (low : Int) ≤ 1114111 := by omega
        have HS : Hid (acc ++ [(low, 1114111)] = R) := hidden (by rw [← hrel.out, hend, othS, if_pos h1])
        have cellN : Hid (∀ jj u, [Value.int .i32 (low : Int), Value.int .i32 1114111][jj]? = some u → (wr.alloc (.cells #[.int .i32 (low : Int), .int .i32 1114111] 209)).cell? ((⟨wr.heap.size, 0, none⟩ : Addr).add jj) = some u) := hidden (fun jj u hu => by
          rw [Addr.add_lit, Nat.zero_add]
          have := (Blk.new wr 209 [.int .i32 (low : Int), .int .i32 1114111]).cell jj
          rw [hu] at this
          exact this)
        clear hrel hend
        go_wp2_with (refine wpList_push2 _ rfl (.tmp 31) (.tmp 34) 199 rfl 209 i0 (.agg #[.int .i32 0, .int .i32 0]) 8 Tryz.underlying199 HI.out hz0 hz1 hz2 rfl w.heap.size (.slice aa m cc) m (cS acc) rfl (hown.out.alloc _) ⟨wr.heap.size, 0, none⟩ [.int .i32 (low : Int), .int .i32 1114111] rfl rfl cellN.out (by intro u hu; simp at hu; rcases hu with rfl | rfl <;> rfl) (by unfold maxLen; omega) (by omega) (by have := HBS.out; simp; omega) ?_; intro g9 c9 w9 ho9 hp9; have hch := hp9.chg; have HO9 := hidden ho9; have HB9 := hidden (hbel.out.trans (hch.1.below HBS.out (fun k hk => (hown.out.lt k hk).1))); clear ho9 hp9 hch)
        go_ret
        have hRl : R.length = m + 1 := by rw [← HS.out]; simp [hlm.out]
        refine ⟨some ⟨g9, 0, none⟩, c9, by rw [hRl]; rfl, ?_, ?_, HB9.out⟩
        · rw [hRl, ← HS.out, cS_append]
          exact HO9.out
        · rw [← HS.out]
          exact hbd.out.snoc ⟨h1, Nat.le_refl _⟩
      · have h1z : ¬ (low : Int) ≤ 1114111 := by omega
        have HS : Hid (acc = R) := hidden (by rw [← hrel.out, hend, othS, if_neg h1, List.append_nil])
        clear hrel hend
        go_wp2
        go_ret
        have hRl : R.length = m := by rw [← HS.out]; exact hlm.out
        refine ⟨aa, cc, by rw [hRl]; rfl, ?_, ?_, hbel.out⟩
        · rw [hRl, ← HS.out]; exact hown.out
        · rw [← HS.out]; exact hbd.out

end Go.Proofs.YtanlgplgplncdaaGreatDoor

/-
  The machine: a set's bit.
-/
namespace Go.Proofs.YtanlgplgplncdaaGreatDoor
open Go.RowKit
set_option linter.unusedVariables false
set_option linter.unusedSimpArgs false

theorem bit64_eq (v k : Nat) (hv : v < 18446744073709551616) : (bits .and .u64 ((v : Int) / 2 ^ k) 1 == 1) = v.testBit k := by
  have e1 : (v : Int) / 2 ^ k = ((v / 2 ^ k : Nat) : Int) := by simp
  have hz : v / 2 ^ k < 18446744073709551616 := Nat.lt_of_le_of_lt (Nat.div_le_self _ _) hv
  rw [e1, show (1 : Int) = ((1 : Nat) : Int) from rfl, u64_and_nat _ _ hz (by omega), Nat.and_one_is_mod]
  unfold Nat.testBit
  rw [Nat.shiftRight_eq_div_pow, Nat.and_comm, Nat.and_one_is_mod]
  rcases Nat.mod_two_eq_zero_or_one (v / 2 ^ k) with h | h <;> rw [h] <;> rfl

set_option maxHeartbeats 2000000 in
theorem hasP (v k : Nat) (hv : v < 18446744073709551616) (hk : k < 64) (w : World) : Calls Tryz.prog 111 #[.int .u64 (v : Int), .int .i64 (k : Int)] w fun e w' => e = .returned (.bool (v.testBit k)) ∧ w' = w := by
  have HB := hidden (bit64_eq v k hv)
  go_enter Tryz.func111, Tryz.ntmps111
  go_wp2
  all_goals go_ret
  all_goals exact ⟨by rw [← HB.out]; rfl, rfl⟩

end Go.Proofs.YtanlgplgplncdaaGreatDoor

/-
  The machine: spansOf.
-/
namespace Go.Proofs.YtanlgplgplncdaaGreatDoor
open Go.RowKit
set_option linter.unusedVariables false
set_option linter.unusedSimpArgs false

set_option maxRecDepth 100000 in
theorem as95 (x : Int) (w : World) : (Instr.typeAssert (.iface 207 (.int .i32 x)) 189 207 true).run Tryz.prog w = .ok (.tuple #[.int .i32 x, .bool true]) w := by rfl
set_option maxRecDepth 100000 in
theorem as97_95 (w : World) : (Instr.typeAssert (.iface 211 (.agg #[])) 189 207 true).run Tryz.prog w = .ok (.tuple #[.int .i32 0, .bool false]) w := by rfl
set_option maxRecDepth 100000 in
theorem as97 (w : World) : (Instr.typeAssert (.iface 211 (.agg #[])) 189 211 true).run Tryz.prog w = .ok (.tuple #[.agg #[], .bool true]) w := by rfl
set_option maxRecDepth 100000 in
theorem as100_95 (b : Bool) (v : Value) (w : World) : (Instr.typeAssert (.iface 214 (.agg #[.bool b, v])) 189 207 true).run Tryz.prog w = .ok (.tuple #[.int .i32 0, .bool false]) w := by rfl
set_option maxRecDepth 100000 in
theorem as100_97 (b : Bool) (v : Value) (w : World) : (Instr.typeAssert (.iface 214 (.agg #[.bool b, v])) 189 211 true).run Tryz.prog w = .ok (.tuple #[.agg #[], .bool false]) w := by rfl
set_option maxRecDepth 100000 in
theorem as100 (b : Bool) (v : Value) (w : World) : (Instr.typeAssert (.iface 214 (.agg #[.bool b, v])) 189 214 true).run Tryz.prog w = .ok (.tuple #[.agg #[.bool b, v], .bool true]) w := by rfl

set_option maxRecDepth 100000 in
set_option maxHeartbeats 4000000 in
theorem spansChr (x : Nat) (hx : x ≤ 1114111) (w : World) :
    Calls Tryz.prog 110 #[.iface 207 (.int .i32 (x : Int))] w fun e w' => e = .returned (.slice (some ⟨w.heap.size, 0, none⟩) 1 1) ∧ Blk w' w.heap.size 209 (cS [(x, x)]) ∧ Below w.heap.size w w' := by
  have k := fun w => as95 (x : Int) w
  have HB : Hid (Blk (w.alloc (.cells #[.int .i32 (x : Int), .int .i32 (x : Int)] 209)) w.heap.size 209 (cS [(x, x)])) := hidden (Blk.new w 209 (cS [(x, x)]))
  have HL : Hid (Below w.heap.size w (w.alloc (.cells #[.int .i32 (x : Int), .int .i32 (x : Int)] 209))) := hidden ((Below.refl _ _).alloc (Nat.le_refl _) _)
  go_enter Tryz.func110, Tryz.ntmps110
  go_wp2
  go_ret
  exact ⟨rfl, HB.out, HL.out⟩

set_option maxRecDepth 100000 in
set_option maxHeartbeats 4000000 in
theorem spansAny (w : World) :
    Calls Tryz.prog 110 #[.iface 211 (.agg #[])] w fun e w' => ∃ a' c', e = .returned (.slice a' (othS 0 []).length c') ∧ w'.ownsRow w.heap.size 209 2 (.slice a' (othS 0 []).length c') (othS 0 []).length (cS (othS 0 [])) ∧ Bd (othS 0 []) ∧ Below w.heap.size w w' := by
  have k1 := fun w => as97_95 w
  have k2 := fun w => as97 w
  have hal : Below w.heap.size w (w.alloc (.cells #[] 211)) := (Below.refl _ _).alloc (Nat.le_refl _) _
  have k3 := othersP none 0 [] (w.alloc (.cells #[] 211)) (Ss.nil _ _) (by simp)
  have HAL := hidden hal
  clear hal
  obtain ⟨R, hR⟩ : ∃ R, othS 0 [] = R := ⟨_, rfl⟩
  rw [hR] at k3 ⊢
  clear hR
  go_enter Tryz.func110, Tryz.ntmps110
  go_wp2_with (go_at_call 119; refine k3.mono ?_; rintro e w1 ⟨a1, c1, rfl, ho1, hb1, hl1⟩; clear k3)
  go_ret
  exact ⟨a1, c1, rfl, owns_base ho1 (fun g hg => Nat.le_trans HAL.out.size (ho1.lt g hg).1), hb1, HAL.out.trans (hl1.mono HAL.out.size)⟩

set_option maxRecDepth 100000 in
set_option maxHeartbeats 4000000 in
theorem spansCls (F : Nat → Prop) (v : Value) (neg : Bool) (l : Sn) (w : World) (h : ClV F w v neg l) (hlen : l.length ≤ 1000) :
    Calls Tryz.prog 110 #[v] w fun e w' => ∃ a' c', e = .returned (.slice a' (Pt.cls neg l).spans.length c') ∧ Ss w' a' (Pt.cls neg l).spans ∧ Bd (Pt.cls neg l).spans ∧ (∀ y, (Pt.cls neg l).spans ≠ [] → a' = some y → F y.block ∨ w.heap.size ≤ y.block) ∧ Below w.heap.size w w' := by
  obtain ⟨ad, c, rfl, hs, hb, hf⟩ := h
  obtain ⟨n, hn⟩ : ∃ n, l.length = n := ⟨_, rfl⟩
  have HN := hidden hn
  have k1 := fun w => as100_95 neg (.slice ad n c) w
  have k2 := fun w => as100_97 neg (.slice ad n c) w
  have k3 := fun w => as100 neg (.slice ad n c) w
  have hal : Below w.heap.size w (w.alloc (.cells #[.bool neg, .slice ad n c] 214)) := (Below.refl _ _).alloc (Nat.le_refl _) _
  have B8 := Blk.new w 214 [.bool neg, .slice ad n c]
  have e0 : (w.alloc (.cells #[.bool neg, .slice ad n c] 214)).cell? ⟨w.heap.size, 0, none⟩ = some (.bool neg) := B8.cell 0
  have e1 : (w.alloc (.cells #[.bool neg, .slice ad n c] 214)).cell? ⟨w.heap.size, 1, none⟩ = some (.slice ad n c) := B8.cell 1
  have HAL := hidden hal
  have HS := hidden hs
  have HB := hidden hb
  have HF := hidden hf
  have k4 := othersP ad c l (w.alloc (.cells #[.bool neg, .slice ad n c] 214)) (hs.later hal) hlen
  rw [hn] at k4 ⊢
  clear hn hal hs hb hf B8
  cases neg with
  | false =>
    have e : (Pt.cls false l).spans = l := by simp [Pt.spans]
    rw [e]
    clear e k4
    go_enter Tryz.func110, Tryz.ntmps110
    go_wp2
    go_ret
    exact ⟨ad, c, by rw [HN.out]; rfl, HS.out.later HAL.out, HB.out, fun y h0 e => Or.inl (HF.out y h0 e), HAL.out⟩
  | true =>
    have e : (Pt.cls true l).spans = othS 0 l := by simp [Pt.spans]
    rw [e]
    clear e
    obtain ⟨R, hR⟩ : ∃ R, othS 0 l = R := ⟨_, rfl⟩
    rw [hR] at k4 ⊢
    clear hR
    go_enter Tryz.func110, Tryz.ntmps110
    go_wp2_with (go_at_call 119; refine k4.mono ?_; rintro e w1 ⟨a1, c1, rfl, ho1, hb1, hl1⟩; clear k4)
    go_ret
    refine ⟨a1, c1, rfl, ss_of_owns ho1 hb1, hb1, fun y h0 e => Or.inr ?_, HAL.out.trans (hl1.mono HAL.out.size)⟩
    subst e
    obtain ⟨a2, c2, e2, _, hsp, _⟩ := owns_formS ho1
    injection e2 with e3 _ _
    obtain ⟨z0, z1⟩ := hsp y e3.symm
    obtain ⟨b, off, sp⟩ := y
    simp only at z0 z1
    subst z0 z1
    have := (ho1.lt b (by simp [Value.ownBlock])).1
    have := HAL.out.size
    simp only
    omega

end Go.Proofs.YtanlgplgplncdaaGreatDoor

/-
  The machine: either.
-/
namespace Go.Proofs.YtanlgplgplncdaaGreatDoor
open Go.RowKit
set_option linter.unusedVariables false
set_option linter.unusedSimpArgs false

/-- Ends, as cells. -/
def esC (e : Es) : List Value := [.int .u64 (e.first : Int), .int .u64 (e.last : Int), .bool e.emp]
def esV (e : Es) : Value := .agg #[.int .u64 (e.first : Int), .int .u64 (e.last : Int), .bool e.emp]
def Es.b64 (e : Es) : Prop := e.first < 18446744073709551616 ∧ e.last < 18446744073709551616
theorem res_either (tmps : Array Value) (w : World) (g : Nat) (e : Es) (hp : tmps.getD 4 undef = .pointer (some ⟨g, 0, none⟩)) (h : Blk w g 163 (esC e)) :
    (results Tryz.f106 tmps).run Tryz.prog w = .ok (esV e) w := by
  have h0 : w.cell? ⟨g, 0, none⟩ = some (.int .u64 (e.first : Int)) := h.cell 0
  have h1 : w.cell? ⟨g, 1, none⟩ = some (.int .u64 (e.last : Int)) := h.cell 1
  have h2 : w.cell? ⟨g, 2, none⟩ = some (.bool e.emp) := h.cell 2
  have hr : Tryz.f106.results = #[.cell 4 163] := by kernel_rfl
  have hp' : tmps[4]?.getD undef = .pointer (some ⟨g, 0, none⟩) := by simpa using hp
  simp [results, hr, hp', asAddr, loadVar, h0, h1, h2, go_sem, esV]
theorem or64 {a b : Nat} (ha : a < 18446744073709551616) (hb : b < 18446744073709551616) : bits .or .u64 (a : Int) (b : Int) = ((a ||| b : Nat) : Int) := u64_or_nat a b ha hb

set_option maxRecDepth 100000 in
set_option maxHeartbeats 4000000 in
theorem eitherP (a b : Es) (ha : a.b64) (hb : b.b64) (w : World) : Calls Tryz.prog 106 #[esV a, esV b] w fun e w' => e = .returned (esV (a.either b)) ∧ Below w.heap.size w w' := by
  obtain ⟨af, al, ae⟩ := a
  obtain ⟨bf, bl, be⟩ := b
  have o1 := or64 ha.1 hb.1
  have o2 := or64 ha.2 hb.2
  have hal : Below w.heap.size w (((w.alloc (.cells #[.int .u64 (af : Int), .int .u64 (al : Int), .bool ae] 163)).alloc (.cells #[.int .u64 (bf : Int), .int .u64 (bl : Int), .bool be] 163)).alloc (.cells #[.int .u64 0, .int .u64 0, .bool false] 163)) := by
    have h1 := (Below.refl w.heap.size w).alloc (Nat.le_refl _) (.cells #[.int .u64 (af : Int), .int .u64 (al : Int), .bool ae] 163)
    have h2 := h1.alloc h1.size (.cells #[.int .u64 (bf : Int), .int .u64 (bl : Int), .bool be] 163)
    exact h2.alloc h2.size _
  have HBK : Hid (∀ (f l : Nat) (e : Bool), Blk (((w.alloc (.cells #[.int .u64 (af : Int), .int .u64 (al : Int), .bool ae] 163)).alloc (.cells #[.int .u64 (bf : Int), .int .u64 (bl : Int), .bool be] 163)).alloc (.cells #[.int .u64 (f : Int), .int .u64 (l : Int), .bool e] 163)) (w.heap.size + 1 + 1) 163 (esC ⟨f, l, e⟩) ∧ Below w.heap.size w (((w.alloc (.cells #[.int .u64 (af : Int), .int .u64 (al : Int), .bool ae] 163)).alloc (.cells #[.int .u64 (bf : Int), .int .u64 (bl : Int), .bool be] 163)).alloc (.cells #[.int .u64 (f : Int), .int .u64 (l : Int), .bool e] 163))) := hidden (fun f l e => by
    refine ⟨?_, ?_⟩
    · have := Blk.new ((w.alloc (.cells #[.int .u64 (af : Int), .int .u64 (al : Int), .bool ae] 163)).alloc (.cells #[.int .u64 (bf : Int), .int .u64 (bl : Int), .bool be] 163)) 163 (esC ⟨f, l, e⟩)
      rw [show ((w.alloc (.cells #[.int .u64 (af : Int), .int .u64 (al : Int), .bool ae] 163)).alloc (.cells #[.int .u64 (bf : Int), .int .u64 (bl : Int), .bool be] 163)).heap.size = w.heap.size + 1 + 1 by simp] at this
      exact this
    · have h1 := (Below.refl w.heap.size w).alloc (Nat.le_refl _) (.cells #[.int .u64 (af : Int), .int .u64 (al : Int), .bool ae] 163)
      have h2 := h1.alloc h1.size (.cells #[.int .u64 (bf : Int), .int .u64 (bl : Int), .bool be] 163)
      exact h2.alloc h2.size _)
  clear hal ha hb
  have hE : esV ((⟨af, al, ae⟩ : Es).either ⟨bf, bl, be⟩) = esV ⟨af ||| bf, al ||| bl, ae || be⟩ := rfl
  rw [hE]
  clear hE
  obtain ⟨R, hR⟩ : ∃ R, esV ⟨af ||| bf, al ||| bl, ae || be⟩ = R := ⟨_, rfl⟩
  have HR := hidden hR
  rw [hR]
  clear hR
  simp only [esV]
  go_enter Tryz.func106, Tryz.ntmps106
  cases ae
  · go_wp2
    refine bodyPost_ret (res_either _ _ (w.heap.size + 1 + 1) ⟨af ||| bf, al ||| bl, be⟩ rfl (HBK.out _ _ _).1) rfl ?_
    exact ⟨by rw [← HR.out]; rfl, (HBK.out _ _ _).2⟩
  · go_wp2
    refine bodyPost_ret (res_either _ _ (w.heap.size + 1 + 1) ⟨af ||| bf, al ||| bl, true⟩ rfl (HBK.out _ _ _).1) rfl ?_
    exact ⟨by rw [← HR.out]; rfl, (HBK.out _ _ _).2⟩

end Go.Proofs.YtanlgplgplncdaaGreatDoor
