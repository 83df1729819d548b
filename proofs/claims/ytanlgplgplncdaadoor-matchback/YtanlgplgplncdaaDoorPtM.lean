import Derived.Test.YtanlgplgplncdaaDoorPtK
/-
  The machine: within.
-/
namespace Go.Proofs.YtanlgplgplncdaaDoor
open Go.RowKit
set_option linter.unusedVariables false
set_option linter.unusedSimpArgs false

theorem inS_step {l : Sn} {i : Nat} {o : Nat × Nat} (h : l[i]? = some o) (x : Nat) : inS (l.drop i) x = ((decide (o.1 ≤ x) && decide (x ≤ o.2)) || inS (l.drop (i + 1)) x) := by
  have hl := (List.getElem?_eq_some_iff.1 h).1
  rw [List.drop_eq_getElem_cons hl]
  rw [List.getElem?_eq_getElem hl] at h
  injection h with h
  rw [h]
  simp [inS]

set_option maxRecDepth 100000 in
set_option maxHeartbeats 4000000 in
theorem withinP (ad : Option Addr) (c : Nat) (l : Sn) (x : Nat) (w : World) (hL : Ss w ad l) (hlen : l.length ≤ 9223372036854775807) :
    Calls Tryd.prog 67 #[.slice ad l.length c, .int .i32 (x : Int)] w fun e w' => e = .returned (.bool (inS l x)) ∧ Below w.heap.size w w' := by
  obtain ⟨n, hn⟩ : ∃ n, l.length = n := ⟨_, rfl⟩
  rw [hn] at hlen ⊢
  have HN := hidden hn
  have HL := hidden hL
  obtain ⟨R, hR⟩ : ∃ R, inS l x = R := ⟨_, rfl⟩
  have HR : Hid (inS (l.drop 0) x = R) := hidden (by rw [List.drop_zero]; exact hR)
  rw [hR]
  clear hn hL hR
  go_enter Tryd.func67, Tryd.ntmps67
  go_wp2
  go_loopw [9] (fun s9 wx => ∃ i : Nat, s9 = .int .i64 (i : Int) ∧ i ≤ n ∧ Hid (inS (l.drop i) x = R) ∧ Hid (Below w.heap.size w wx)) (fun s9 _ => n - (intOf s9).toNat)
  case atStart => exact ⟨0, rfl, by omega, HR, hidden (Below.refl _ _)⟩
  case round =>
    rename World => wr
    obtain ⟨i, rfl, hi, hrel, hbel⟩ := hrel
    clear HR
    by_cases hlt : i < n
    · have hltz : (i : Int) < (n : Int) := by omega
      obtain ⟨b, off, o, rfl, hb, ho, ho', d0, d1, y1, y2⟩ := (HL.out.later hbel.out).get (i := i) (by rw [HN.out]; exact hlt)
      have HST := hidden (inS_step ho x)
      have hal : Below w.heap.size w (wr.alloc (.cells #[.int .i32 (o.1 : Int), .int .i32 (o.2 : Int)] 157)) := hbel.out.alloc hbel.out.size _
      have HAL := hidden hal
      have B8 := Blk.new wr 157 [.int .i32 (o.1 : Int), .int .i32 (o.2 : Int)]
      have e0 : (wr.alloc (.cells #[.int .i32 (o.1 : Int), .int .i32 (o.2 : Int)] 157)).cell? ⟨wr.heap.size, 0, none⟩ = some (.int .i32 (o.1 : Int)) := B8.cell 0
      have e1 : (wr.alloc (.cells #[.int .i32 (o.1 : Int), .int .i32 (o.2 : Int)] 157)).cell? ⟨wr.heap.size, 1, none⟩ = some (.int .i32 (o.2 : Int)) := B8.cell 1
      clear ho ho' B8 hal
      by_cases h1 : o.1 ≤ x
      · have h1z : (o.1 : Int) ≤ (x : Int) := by omega
        by_cases h2 : x ≤ o.2
        · have h2z : (x : Int) ≤ (o.2 : Int) := by omega
          have HT : Hid (R = true) := hidden (by rw [← hrel.out, HST.out]; simp [h1, h2])
          clear h1 h2 hrel HST
          go_wp2
          go_ret
          exact ⟨by rw [HT.out]; rfl, HAL.out⟩
        · have h2z : ¬ (x : Int) ≤ (o.2 : Int) := by omega
          have h2z' : decide ((x : Int) ≤ (o.2 : Int)) = false := decide_eq_false h2z
          have HS : Hid (inS (l.drop (i + 1)) x = R) := hidden (by rw [← hrel.out, HST.out]; simp [h2])
          clear h1 h2 hrel HST
          go_wp2
          refine ⟨⟨i + 1, by first | rfl | simp, by omega, HS, HAL⟩, ?_⟩
          simp [intOf]
          omega
      · have h1z : ¬ (o.1 : Int) ≤ (x : Int) := by omega
        have h1z' : decide ((o.1 : Int) ≤ (x : Int)) = false := decide_eq_false h1z
        have HS : Hid (inS (l.drop (i + 1)) x = R) := hidden (by rw [← hrel.out, HST.out]; simp [h1])
        clear h1 hrel HST
        go_wp2
        refine ⟨⟨i + 1, by first | rfl | simp, by omega, HS, HAL⟩, ?_⟩
        simp [intOf]
        omega
    · have hltz : ¬ (i : Int) < (n : Int) := by omega
      have HF : Hid (R = false) := hidden (by rw [← hrel.out, List.drop_of_length_le (by rw [HN.out]; omega)]; rfl)
      clear hrel
      go_wp2
      go_ret
      exact ⟨by rw [HF.out]; rfl, hbel.out⟩

end Go.Proofs.YtanlgplgplncdaaDoor

/-
  The machine: others.
-/
namespace Go.Proofs.YtanlgplgplncdaaDoor
open Go.RowKit
set_option linter.unusedVariables false
set_option linter.unusedSimpArgs false

theorem othS_step {l : Sn} {i : Nat} {o : Nat × Nat} (h : l[i]? = some o) (low : Nat) : othS low (l.drop i) = (if low < o.1 then [(low, o.1 - 1)] else []) ++ othS (o.2 + 1) (l.drop (i + 1)) := by
  have hl := (List.getElem?_eq_some_iff.1 h).1
  rw [List.drop_eq_getElem_cons hl]
  rw [List.getElem?_eq_getElem hl] at h
  injection h with h
  rw [h, othS]

set_option maxRecDepth 100000 in
set_option maxHeartbeats 8000000 in
theorem othersP (ad : Option Addr) (c : Nat) (l : Sn) (w : World) (hL : Ss w ad l) (hlen : l.length ≤ 1000) :
    Calls Tryd.prog 73 #[.slice ad l.length c] w fun e w' => ∃ a' c', e = .returned (.slice a' (othS 0 l).length c') ∧ w'.ownsRow w.heap.size 157 2 (.slice a' (othS 0 l).length c') (othS 0 l).length (cS (othS 0 l)) ∧ Bd (othS 0 l) ∧ Below w.heap.size w w' := by
  obtain ⟨i0, hi0, hz0, hz1, hz2⟩ := info_parts info93
  have HI := hidden hi0
  obtain ⟨n, hn⟩ : ∃ n, l.length = n := ⟨_, rfl⟩
  rw [hn] at hlen ⊢
  have HN := hidden hn
  have HL := hidden hL
  obtain ⟨R, hR⟩ : ∃ R, othS 0 l = R := ⟨_, rfl⟩
  have HR : Hid ([] ++ othS 0 (l.drop 0) = R) := hidden (by rw [List.drop_zero]; exact hR)
  rw [hR]
  clear hi0 hn hL hR
  go_enter Tryd.func73, Tryd.ntmps73
  go_wp2
  go_loopw [3, 4, 9] (fun s3 s4 s9 wx => ∃ (i low m cc : Nat) (aa : Option Addr) (acc : Sn), s3 = .slice aa m cc ∧ s4 = .int .i32 (low : Int) ∧ s9 = .int .i64 (i : Int) ∧ i ≤ n ∧ m ≤ i ∧ low ≤ 1114112 ∧ Hid (acc.length = m) ∧ Hid (Bd acc) ∧ Hid (acc ++ othS low (l.drop i) = R) ∧ Hid (wx.ownsRow w.heap.size 157 2 (.slice aa m cc) m (cS acc)) ∧ Hid (Below w.heap.size w wx)) (fun _ _ s9 _ => n - (intOf s9).toNat)
  case atStart => exact ⟨0, 0, 0, 0, none, [], rfl, rfl, rfl, by omega, by omega, by omega, hidden rfl, hidden (fun y hy => by cases hy), HR, hidden (World.ownsRow_nil _ _ _ _), hidden (Below.refl _ _)⟩
  case round =>
    rename World => wr
    obtain ⟨i, low, m, cc, aa, acc, rfl, rfl, rfl, hi, hmi, hlow, hlm, hbd, hrel, hown, hbel⟩ := hrel
    clear HR
    have HBS : Hid (w.heap.size ≤ wr.heap.size) := hidden hbel.out.size
    by_cases hlt : i < n
    · have hltz : (i : Int) < (n : Int) := by omega
      obtain ⟨b, off, o, rfl, hb, ho, ho', d0, d1, y1, y2⟩ := (HL.out.later hbel.out).get (i := i) (by rw [HN.out]; exact hlt)
      have HST := hidden (othS_step ho low)
      have hal1 : Below wr.heap.size wr (wr.alloc (.cells #[.int .i32 (o.1 : Int), .int .i32 (o.2 : Int)] 157)) := (Below.refl _ _).alloc (Nat.le_refl _) _
      have HAL := hidden (hbel.out.alloc hbel.out.size (.cells #[.int .i32 (o.1 : Int), .int .i32 (o.2 : Int)] 157))
      have OW := hidden (owl hown.out hal1)
      have B8 := Blk.new wr 157 [.int .i32 (o.1 : Int), .int .i32 (o.2 : Int)]
      have e0 : (wr.alloc (.cells #[.int .i32 (o.1 : Int), .int .i32 (o.2 : Int)] 157)).cell? ⟨wr.heap.size, 0, none⟩ = some (.int .i32 (o.1 : Int)) := B8.cell 0
      have e1 : (wr.alloc (.cells #[.int .i32 (o.1 : Int), .int .i32 (o.2 : Int)] 157)).cell? ⟨wr.heap.size, 1, none⟩ = some (.int .i32 (o.2 : Int)) := B8.cell 1
      have HB8 := hidden B8
      clear ho ho' B8 hal1
      by_cases h1 : low < o.1
      · have h1z : (low : Int) < (o.1 : Int) := by omega
        have hsub : Hid (((o.1 - 1 : Nat) : Int) = (o.1 : Int) - 1) := hidden (by omega)
        have HS : Hid ((acc ++ [(low, o.1 - 1)]) ++ othS (o.2 + 1) (l.drop (i + 1)) = R) := hidden (by rw [← hrel.out, HST.out, if_pos h1, List.append_assoc])
        have cellN : Hid (∀ jj u, [Value.int .i32 (low : Int), Value.int .i32 ((o.1 : Int) - 1)][jj]? = some u → ((wr.alloc (.cells #[.int .i32 (o.1 : Int), .int .i32 (o.2 : Int)] 157)).alloc (.cells #[.int .i32 (low : Int), .int .i32 ((o.1 : Int) - 1)] 157)).cell? ((⟨wr.heap.size + 1, 0, none⟩ : Addr).add jj) = some u) := hidden (fun jj u hu => by
          rw [Addr.add_lit, Nat.zero_add]
          have := (Blk.new (wr.alloc (.cells #[.int .i32 (o.1 : Int), .int .i32 (o.2 : Int)] 157)) 157 [.int .i32 (low : Int), .int .i32 ((o.1 : Int) - 1)]).cell jj
          rw [hu, show (wr.alloc (.cells #[.int .i32 (o.1 : Int), .int .i32 (o.2 : Int)] 157)).heap.size = wr.heap.size + 1 by simp] at this
          exact this)
        clear HST hrel
        go_wp2_with (refine wpList_push2 _ rfl (.tmp 17) (.tmp 23) 142 rfl 157 i0 (.agg #[.int .i32 0, .int .i32 0]) 8 Tryd.underlying142 HI.out hz0 hz1 hz2 rfl w.heap.size (.slice aa m cc) m (cS acc) rfl (OW.out.alloc _) ⟨wr.heap.size + 1, 0, none⟩ [.int .i32 (low : Int), .int .i32 ((o.1 : Int) - 1)] rfl rfl cellN.out (by intro u hu; simp at hu; rcases hu with rfl | rfl <;> rfl) (by unfold maxLen; omega) (by omega) (by have := HBS.out; simp; omega) ?_; intro g9 c9 w9 ho9 hp9; have hch := hp9.chg; have HO9 := hidden ho9; have HB9 := hidden (HAL.out.trans (hch.1.below (by have := HBS.out; simp; omega) (fun k hk => (OW.out.lt k hk).1))); have HE9 := hidden (hch.1.blk HB8.out (fun e => by have := owns_lt hown.out _ e; omega)); have f1 : w9.cell? ⟨wr.heap.size, 1, none⟩ = some (.int .i32 (o.2 : Int)) := HE9.out.cell 1; clear ho9 hp9 hch)
        refine ⟨⟨i + 1, o.2 + 1, m + 1, c9, some ⟨g9, 0, none⟩, acc ++ [(low, o.1 - 1)], by first | rfl | simp, by first | rfl | simp, by first | rfl | simp, by omega, by omega, by omega, hidden (by simp [hlm.out]), hidden (hbd.out.snoc ⟨by show low ≤ _; omega, by show o.1 - 1 ≤ _; omega⟩), HS, hidden ?_, HB9⟩, ?_⟩
        · rw [cS_append]
          have e : cS [(low, o.1 - 1)] = [.int .i32 (low : Int), .int .i32 ((o.1 : Int) - 1)] := by rw [← hsub.out]; rfl
          rw [e]
          exact HO9.out
        · simp [intOf]
          omega
      · have h1z : ¬ (low : Int) < (o.1 : Int) := by omega
        have HS : Hid (acc ++ othS (o.2 + 1) (l.drop (i + 1)) = R) := hidden (by rw [← hrel.out, HST.out, if_neg h1, List.nil_append])
        clear HST hrel
        go_wp2
        refine ⟨⟨i + 1, o.2 + 1, m, cc, aa, acc, by first | rfl | simp, by first | rfl | simp, by first | rfl | simp, by omega, by omega, by omega, hlm, hbd, HS, OW, HAL⟩, ?_⟩
        simp [intOf]
        omega
    · have hltz : ¬ (i : Int) < (n : Int) := by omega
      have hend : l.drop i = [] := List.drop_of_length_le (by rw [HN.out]; omega)
      by_cases h1 : low ≤ 1114111
      · have h1z : (low : Int) ≤ 1114111 := by omega
        have HS : Hid (acc ++ [(low, 1114111)] = R) := hidden (by rw [← hrel.out, hend, othS, if_pos h1])
        have cellN : Hid (∀ jj u, [Value.int .i32 (low : Int), Value.int .i32 1114111][jj]? = some u → (wr.alloc (.cells #[.int .i32 (low : Int), .int .i32 1114111] 157)).cell? ((⟨wr.heap.size, 0, none⟩ : Addr).add jj) = some u) := hidden (fun jj u hu => by
          rw [Addr.add_lit, Nat.zero_add]
          have := (Blk.new wr 157 [.int .i32 (low : Int), .int .i32 1114111]).cell jj
          rw [hu] at this
          exact this)
        clear hrel hend
        go_wp2_with (refine wpList_push2 _ rfl (.tmp 31) (.tmp 34) 142 rfl 157 i0 (.agg #[.int .i32 0, .int .i32 0]) 8 Tryd.underlying142 HI.out hz0 hz1 hz2 rfl w.heap.size (.slice aa m cc) m (cS acc) rfl (hown.out.alloc _) ⟨wr.heap.size, 0, none⟩ [.int .i32 (low : Int), .int .i32 1114111] rfl rfl cellN.out (by intro u hu; simp at hu; rcases hu with rfl | rfl <;> rfl) (by unfold maxLen; omega) (by omega) (by have := HBS.out; simp; omega) ?_; intro g9 c9 w9 ho9 hp9; have hch := hp9.chg; have HO9 := hidden ho9; have HB9 := hidden (hbel.out.trans (hch.1.below HBS.out (fun k hk => (hown.out.lt k hk).1))); clear ho9 hp9 hch)
        go_ret
        have hRl : R.length = m + 1 := by rw [← HS.out]; simp [hlm.out]
        refine ⟨some ⟨g9, 0, none⟩, c9, by rw [hRl]; rfl, ?_, ?_, HB9.out⟩
        · rw [hRl, ← HS.out, cS_append]
          exact HO9.out
        · rw [← HS.out]
          exact hbd.out.snoc ⟨h1, Nat.le_refl _⟩
      · have h1z : ¬ (low : Int) ≤ 1114111 := by omega
        have HS : Hid (acc = R) := hidden (by rw [← hrel.out, hend, othS, if_neg h1, List.append_nil])
        clear hrel hend
        go_wp2
        go_ret
        have hRl : R.length = m := by rw [← HS.out]; exact hlm.out
        refine ⟨aa, cc, by rw [hRl]; rfl, ?_, ?_, hbel.out⟩
        · rw [hRl, ← HS.out]; exact hown.out
        · rw [← HS.out]; exact hbd.out

end Go.Proofs.YtanlgplgplncdaaDoor
