import Derived.Test.YtndegcgcbhcokaaDoorPtH
/-
  Reading a pattern, purely: it goes on, and has steps enough.
-/
namespace Go.Proofs.YtndegcgcbhcokaaDoor
open Go
set_option linter.unusedVariables false
set_option linter.unusedSimpArgs false

theorem char_bd {S : List UInt8} {a c b : Nat} (ha : a ≤ S.length) (h : charF S a = .ok c b) : a < b ∧ b ≤ S.length := by
  unfold charF at h
  simp only at h
  generalize hb : (if decide (S[a]? = some 92) = true then a + 1 else a) = b0 at h
  have h0 : a ≤ b0 ∧ b0 ≤ S.length := by
    rw [← hb]
    split
    · rename_i hd
      exact ⟨by omega, (List.getElem?_eq_some_iff.1 (of_decide_eq_true hd)).1⟩
    · exact ⟨Nat.le_refl _, ha⟩
  split at h
  · cases h
  · rename_i c' k hf
    split at h
    · injection h with e1 e2
      have := fp_len hf
      rw [List.length_drop] at this
      omega
    · cases h
theorem char_no (S : List UInt8) (a : Nat) : charF S a ≠ .out := by
  unfold charF
  simp only
  split
  · simp
  · split <;> simp
theorem span_bd {S : List UInt8} {a : Nat} {x : Nat × Nat} {b : Nat} (ha : a ≤ S.length) (h : spanF S a = .ok x b) : a < b ∧ b ≤ S.length := by
  unfold spanF at h
  cases h1 : charF S a with
  | bad k => rw [h1] at h; cases h
  | out => rw [h1] at h; cases h
  | ok lo b1 =>
    have k1 := char_bd ha h1
    rw [h1] at h
    simp only at h
    split at h
    · rename_i h45
      have hl := (List.getElem?_eq_some_iff.1 h45).1
      cases h2 : charF S (b1 + 1) with
      | bad k => rw [h2] at h; cases h
      | out => rw [h2] at h; cases h
      | ok hi b2 =>
        have k2 := char_bd (by omega) h2
        rw [h2] at h
        simp only at h
        split at h
        · cases h
        · injection h with e1 e2; omega
    · injection h with e1 e2; omega
theorem span_no (S : List UInt8) (a : Nat) : spanF S a ≠ .out := by
  unfold spanF
  cases h1 : charF S a with
  | bad k => simp
  | out => exact absurd h1 (char_no S a)
  | ok lo b1 =>
    simp only
    split
    · cases h2 : charF S (b1 + 1) with
      | bad k => simp
      | out => exact absurd h2 (char_no S _)
      | ok hi b2 => simp only; split <;> simp
    · simp
theorem cls_bd {S : List UInt8} : ∀ (f a : Nat) (acc : Sn), a ≤ S.length → (∀ l b, clsF S f a acc = .ok l b → a < b ∧ b ≤ S.length) ∧ (S.length + 1 ≤ f + a → clsF S f a acc ≠ .out)
  | 0, a, acc, ha => ⟨(fun l b h => by rw [clsF] at h; cases h), fun h => by omega⟩
  | f + 1, a, acc, ha => by
    rw [clsF]
    by_cases h93 : acc ≠ [] ∧ S[a]? = some 93
    · rw [if_pos h93]
      refine ⟨fun l b h => ?_, fun _ => by simp⟩
      injection h with e1 e2
      have := (List.getElem?_eq_some_iff.1 h93.2).1
      omega
    · rw [if_neg h93]
      cases h1 : spanF S a with
      | bad k => exact ⟨(fun l b h => by cases h), fun _ => by simp⟩
      | out => exact absurd h1 (span_no S a)
      | ok x b1 =>
        have k1 := span_bd ha h1
        simp only
        obtain ⟨m1, m2⟩ := cls_bd f b1 (withS acc x) k1.2
        exact ⟨fun l b h => by have := m1 l b h; omega, fun h => m2 (by omega)⟩

theorem read_bd (S : List UInt8) : ∀ (f d a : Nat), a ≤ S.length →
    ((∀ l b, rowsF S f d a = .ok l b → a ≤ b ∧ b ≤ S.length) ∧ (4 * (S.length - a) + 4 ≤ f → rowsF S f d a ≠ .out)) ∧
    ((∀ l b, rowF S f d a = .ok l b → a ≤ b ∧ b ≤ S.length) ∧ (4 * (S.length - a) + 3 ≤ f → rowF S f d a ≠ .out)) ∧
    ((∀ l b, itemF S f d a = .ok l b → a < b ∧ b ≤ S.length) ∧ (4 * (S.length - a) + 2 ≤ f → itemF S f d a ≠ .out)) ∧
    ((∀ l b, atomF S f d a = .ok l b → a < b ∧ b ≤ S.length) ∧ (4 * (S.length - a) + 1 ≤ f → atomF S f d a ≠ .out))
  | 0, d, a, ha => by
    refine ⟨⟨fun l b h => ?_, fun h => by omega⟩, ⟨fun l b h => ?_, fun h => by omega⟩, ⟨fun l b h => ?_, fun h => by omega⟩, ⟨fun l b h => ?_, fun h => by omega⟩⟩
    · rw [rowsF] at h; cases h
    · rw [rowF] at h; cases h
    · rw [itemF] at h; cases h
    · rw [atomF] at h; cases h
  | f + 1, d, a, ha => by
    have ih := read_bd S f
    obtain ⟨_, ⟨r1, r2⟩, ⟨i1, i2⟩, ⟨t1, t2⟩⟩ := ih d a ha
    refine ⟨?_, ?_, ?_, ?_⟩
    · rw [rowsF]
      cases h1 : rowF S f d a with
      | bad k => exact ⟨(fun l b h => by cases h), fun _ => by simp⟩
      | out => exact ⟨(fun l b h => by cases h), fun h => absurd h1 (r2 (by omega))⟩
      | ok r b1 =>
        have k1 := r1 r b1 h1
        simp only
        by_cases h124 : S[b1]? = some 124
        · rw [if_pos h124]
          have hl := (List.getElem?_eq_some_iff.1 h124).1
          obtain ⟨⟨q1, q2⟩, _⟩ := ih d (b1 + 1) hl
          cases h2 : rowsF S f d (b1 + 1) with
          | bad k => exact ⟨(fun l b h => by cases h), fun _ => by simp⟩
          | out => exact ⟨(fun l b h => by cases h), fun h => absurd h2 (q2 (by omega))⟩
          | ok t b2 =>
            have k2 := q1 t b2 h2
            simp only
            exact ⟨fun l b h => by injection h with e1 e2; omega, fun _ => by simp⟩
        · rw [if_neg h124]
          exact ⟨fun l b h => by injection h with e1 e2; omega, fun _ => by simp⟩
    · rw [rowF]
      by_cases hst : S[a]? = none ∨ S[a]? = some 124 ∨ S[a]? = some 41
      · rw [if_pos hst]
        exact ⟨fun l b h => by injection h with e1 e2; omega, fun _ => by simp⟩
      · rw [if_neg hst]
        cases h1 : itemF S f d a with
        | bad k => exact ⟨(fun l b h => by cases h), fun _ => by simp⟩
        | out => exact ⟨(fun l b h => by cases h), fun h => absurd h1 (i2 (by omega))⟩
        | ok p b1 =>
          have k1 := i1 p b1 h1
          simp only
          obtain ⟨_, ⟨q1, q2⟩, _⟩ := ih d b1 k1.2
          cases h2 : rowF S f d b1 with
          | bad k => exact ⟨(fun l b h => by cases h), fun _ => by simp⟩
          | out => exact ⟨(fun l b h => by cases h), fun h => absurd h2 (q2 (by omega))⟩
          | ok t b2 =>
            have k2 := q1 t b2 h2
            simp only
            exact ⟨fun l b h => by injection h with e1 e2; omega, fun _ => by simp⟩
    · rw [itemF]
      cases h1 : atomF S f d a with
      | bad k => exact ⟨(fun l b h => by cases h), fun _ => by simp⟩
      | out => exact ⟨(fun l b h => by cases h), fun h => absurd h1 (t2 (by omega))⟩
      | ok p b1 =>
        have k1 := t1 p b1 h1
        simp only
        by_cases h42 : S[b1]? = some 42
        · rw [if_pos h42]
          have hl := (List.getElem?_eq_some_iff.1 h42).1
          exact ⟨fun l b h => by injection h with e1 e2; omega, fun _ => by simp⟩
        · rw [if_neg h42]
          by_cases h43 : S[b1]? = some 43
          · rw [if_pos h43]
            have hl := (List.getElem?_eq_some_iff.1 h43).1
            exact ⟨fun l b h => by injection h with e1 e2; omega, fun _ => by simp⟩
          · rw [if_neg h43]
            by_cases h63 : S[b1]? = some 63
            · rw [if_pos h63]
              have hl := (List.getElem?_eq_some_iff.1 h63).1
              exact ⟨fun l b h => by injection h with e1 e2; omega, fun _ => by simp⟩
            · rw [if_neg h63]
              exact ⟨fun l b h => by injection h with e1 e2; omega, fun _ => by simp⟩
    · rw [atomF]
      by_cases h46 : S[a]? = some 46
      · rw [if_pos h46]
        have hl := (List.getElem?_eq_some_iff.1 h46).1
        exact ⟨fun l b h => by injection h with e1 e2; omega, fun _ => by simp⟩
      · rw [if_neg h46]
        by_cases h91 : S[a]? = some 91
        · rw [if_pos h91]
          have hl := (List.getElem?_eq_some_iff.1 h91).1
          have hle : (if S[a + 1]? = some 94 then a + 2 else a + 1) ≤ S.length ∧ a < (if S[a + 1]? = some 94 then a + 2 else a + 1) := by
            split
            · rename_i h94; have := (List.getElem?_eq_some_iff.1 h94).1; omega
            · omega
          obtain ⟨m1, m2⟩ := cls_bd (S := S) (S.length + 2) (if S[a + 1]? = some 94 then a + 2 else a + 1) [] hle.1
          cases h2 : clsF S (S.length + 2) (if S[a + 1]? = some 94 then a + 2 else a + 1) [] with
          | bad k => exact ⟨(fun l b h => by cases h), fun _ => by simp⟩
          | out => exact absurd h2 (m2 (by omega))
          | ok t b2 =>
            have k2 := m1 t b2 h2
            simp only
            exact ⟨fun l b h => by injection h with e1 e2; omega, fun _ => by simp⟩
        · rw [if_neg h91]
          by_cases h40 : d < 16 ∧ S[a]? = some 40
          · rw [if_pos h40]
            have hl := (List.getElem?_eq_some_iff.1 h40.2).1
            obtain ⟨⟨q1, q2⟩, _⟩ := ih (d + 1) (a + 1) hl
            cases h2 : rowsF S f (d + 1) (a + 1) with
            | bad k => exact ⟨(fun l b h => by cases h), fun _ => by simp⟩
            | out => exact ⟨(fun l b h => by cases h), fun h => absurd h2 (q2 (by omega))⟩
            | ok t b2 =>
              have k2 := q1 t b2 h2
              simp only
              by_cases h41 : S[b2]? = some 41
              · rw [if_pos h41]
                have hl2 := (List.getElem?_eq_some_iff.1 h41).1
                exact ⟨fun l b h => by injection h with e1 e2; omega, fun _ => by simp⟩
              · rw [if_neg h41]
                exact ⟨(fun l b h => by cases h), fun _ => by simp⟩
          · rw [if_neg h40]
            cases h2 : charF S a with
            | bad k => exact ⟨(fun l b h => by cases h), fun _ => by simp⟩
            | out => exact absurd h2 (char_no S a)
            | ok c b2 =>
              have k2 := char_bd ha h2
              simp only
              exact ⟨fun l b h => by injection h with e1 e2; omega, fun _ => by simp⟩

end Go.Proofs.YtndegcgcbhcokaaDoor

/-
  The machine: within.
-/
namespace Go.Proofs.YtndegcgcbhcokaaDoor
open Go.RowKit
set_option linter.unusedVariables false
set_option linter.unusedSimpArgs false

theorem inS_step {l : Sn} {i : Nat} {o : Nat × Nat} (h : l[i]? = some o) (x : Nat) : inS (l.drop i) x = ((decide (o.1 ≤ x) && decide (x ≤ o.2)) || inS (l.drop (i + 1)) x) := by
  have hl := (List.getElem?_eq_some_iff.1 h).1
  rw [List.drop_eq_getElem_cons hl]
  rw [List.getElem?_eq_getElem hl] at h
  injection h with h
  rw [h]
  simp [inS]

set_option maxRecDepth 100000 in
set_option maxHeartbeats 4000000 in
theorem withinP (ad : Option Addr) (c : Nat) (l : Sn) (x : Nat) (w : World) (hL : Ss w ad l) (hlen : l.length ≤ 9223372036854775807) :
    Calls Tryd.prog 61 #[.slice ad l.length c, .int .i32 (x : Int)] w fun e w' => e = .returned (.bool (inS l x)) ∧ Below w.heap.size w w' := by
  obtain ⟨n, hn⟩ : ∃ n, l.length = n := ⟨_, rfl⟩
  rw [hn] at hlen ⊢
  have HN := hidden hn
  have HL := hidden hL
  obtain ⟨R, hR⟩ : ∃ R, inS l x = R := ⟨_, rfl⟩
  have HR : Hid (inS (l.drop 0) x = R) := hidden (by rw [List.drop_zero]; exact hR)
  rw [hR]
  clear hn hL hR
  go_enter Tryd.func61, Tryd.ntmps61
  go_wp2
  go_loopw [9] (fun s9 wx => ∃ i : Nat, s9 = .int .i64 (i : Int) ∧ i ≤ n ∧ Hid (inS (l.drop i) x = R) ∧ Hid (Below w.heap.size w wx)) (fun s9 _ => n - (intOf s9).toNat)
  case atStart => exact ⟨0, rfl, by omega, HR, hidden (Below.refl _ _)⟩
  case round =>
    rename World => wr
    obtain ⟨i, rfl, hi, hrel, hbel⟩ := hrel
    clear HR
    by_cases hlt : i < n
    · have hltz : (i : Int) < (n : Int) := by omega
      obtain ⟨b, off, o, rfl, hb, ho, ho', d0, d1, y1, y2⟩ := (HL.out.later hbel.out).get (i := i) (by rw [HN.out]; exact hlt)
      have HST := hidden (inS_step ho x)
      have hal : Below w.heap.size w (wr.alloc (.cells #[.int .i32 (o.1 : Int), .int .i32 (o.2 : Int)] 125)) := hbel.out.alloc hbel.out.size _
      have HAL := hidden hal
      have B8 := Blk.new wr 125 [.int .i32 (o.1 : Int), .int .i32 (o.2 : Int)]
      have e0 : (wr.alloc (.cells #[.int .i32 (o.1 : Int), .int .i32 (o.2 : Int)] 125)).cell? ⟨wr.heap.size, 0, none⟩ = some (.int .i32 (o.1 : Int)) := B8.cell 0
      have e1 : (wr.alloc (.cells #[.int .i32 (o.1 : Int), .int .i32 (o.2 : Int)] 125)).cell? ⟨wr.heap.size, 1, none⟩ = some (.int .i32 (o.2 : Int)) := B8.cell 1
      clear ho ho' B8 hal
      by_cases h1 : o.1 ≤ x
      · have h1z : (o.1 : Int) ≤ (x : Int) := by omega
        by_cases h2 : x ≤ o.2
        · have h2z : (x : Int) ≤ (o.2 : Int) := by omega
          have HT : Hid (R = true) := hidden (by rw [← hrel.out, HST.out]; simp [h1, h2])
          clear h1 h2 hrel HST
          go_wp2
          go_ret
          exact ⟨by rw [HT.out]; rfl, HAL.out⟩
        · have h2z : ¬ (x : Int) ≤ (o.2 : Int) := by omega
          have h2z' : decide ((x : Int) ≤ (o.2 : Int)) = false := decide_eq_false h2z
          have HS : Hid (inS (l.drop (i + 1)) x = R) := hidden (by rw [← hrel.out, HST.out]; simp [h2])
          clear h1 h2 hrel HST
          go_wp2
          refine ⟨⟨i + 1, by first | rfl | simp, by omega, HS, HAL⟩, ?_⟩
          simp [intOf]
          omega
      · have h1z : ¬ (o.1 : Int) ≤ (x : Int) := by omega
        have h1z' : decide ((o.1 : Int) ≤ (x : Int)) = false := decide_eq_false h1z
        have HS : Hid (inS (l.drop (i + 1)) x = R) := hidden (by rw [← hrel.out, HST.out]; simp [h1])
        clear h1 hrel HST
        go_wp2
        refine ⟨⟨i + 1, by first | rfl | simp, by omega, HS, HAL⟩, ?_⟩
        simp [intOf]
        omega
    · have hltz : ¬ (i : Int) < (n : Int) := by omega
      have HF : Hid (R = false) := hidden (by rw [← hrel.out, List.drop_of_length_le (by rw [HN.out]; omega)]; rfl)
      clear hrel
      go_wp2
      go_ret
      exact ⟨by rw [HF.out]; rfl, hbel.out⟩

end Go.Proofs.YtndegcgcbhcokaaDoor

/-
  The machine: others.
-/
namespace Go.Proofs.YtndegcgcbhcokaaDoor
open Go.RowKit
set_option linter.unusedVariables false
set_option linter.unusedSimpArgs false

theorem othS_step {l : Sn} {i : Nat} {o : Nat × Nat} (h : l[i]? = some o) (low : Nat) : othS low (l.drop i) = (if low < o.1 then [(low, o.1 - 1)] else []) ++ othS (o.2 + 1) (l.drop (i + 1)) := by
  have hl := (List.getElem?_eq_some_iff.1 h).1
  rw [List.drop_eq_getElem_cons hl]
  rw [List.getElem?_eq_getElem hl] at h
  injection h with h
  rw [h, othS]

set_option maxRecDepth 100000 in
set_option maxHeartbeats 8000000 in
theorem othersP (ad : Option Addr) (c : Nat) (l : Sn) (w : World) (hL : Ss w ad l) (hlen : l.length ≤ 1000) :
    Calls Tryd.prog 59 #[.slice ad l.length c] w fun e w' => ∃ a' c', e = .returned (.slice a' (othS 0 l).length c') ∧ w'.ownsRow w.heap.size 125 2 (.slice a' (othS 0 l).length c') (othS 0 l).length (cS (othS 0 l)) ∧ Bd (othS 0 l) ∧ Below w.heap.size w w' := by
  obtain ⟨i0, hi0, hz0, hz1, hz2⟩ := info_parts info93
  have HI := hidden hi0
  obtain ⟨n, hn⟩ : ∃ n, l.length = n := ⟨_, rfl⟩
  rw [hn] at hlen ⊢
  have HN := hidden hn
  have HL := hidden hL
  obtain ⟨R, hR⟩ : ∃ R, othS 0 l = R := ⟨_, rfl⟩
  have HR : Hid ([] ++ othS 0 (l.drop 0) = R) := hidden (by rw [List.drop_zero]; exact hR)
  rw [hR]
  clear hi0 hn hL hR
  go_enter Tryd.func59, Tryd.ntmps59
  go_wp2
  go_loopw [3, 4, 9] (fun s3 s4 s9 wx => ∃ (i low m cc : Nat) (aa : Option Addr) (acc : Sn), s3 = .slice aa m cc ∧ s4 = .int .i32 (low : Int) ∧ s9 = .int .i64 (i : Int) ∧ i ≤ n ∧ m ≤ i ∧ low ≤ 1114112 ∧ Hid (acc.length = m) ∧ Hid (Bd acc) ∧ Hid (acc ++ othS low (l.drop i) = R) ∧ Hid (wx.ownsRow w.heap.size 125 2 (.slice aa m cc) m (cS acc)) ∧ Hid (Below w.heap.size w wx)) (fun _ _ s9 _ => n - (intOf s9).toNat)
  case atStart => exact ⟨0, 0, 0, 0, none, [], rfl, rfl, rfl, by omega, by omega, by omega, hidden rfl, hidden (fun y hy => by cases hy), HR, hidden (World.ownsRow_nil _ _ _ _), hidden (Below.refl _ _)⟩
  case round =>
    rename World => wr
    obtain ⟨i, low, m, cc, aa, acc, rfl, rfl, rfl, hi, hmi, hlow, hlm, hbd, hrel, hown, hbel⟩ := hrel
    clear HR
    have HBS : Hid (w.heap.size ≤ wr.heap.size) := hidden hbel.out.size
    by_cases hlt : i < n
    · have hltz : (i : Int) < (n : Int) := by omega
      obtain ⟨b, off, o, rfl, hb, ho, ho', d0, d1, y1, y2⟩ := (HL.out.later hbel.out).get (i := i) (by rw [HN.out]; exact hlt)
      have HST := hidden (othS_step ho low)
      have hal1 : Below wr.heap.size wr (wr.alloc (.cells #[.int .i32 (o.1 : Int), .int .i32 (o.2 : Int)] 125)) := (Below.refl _ _).alloc (Nat.le_refl _) _
      have HAL := hidden (hbel.out.alloc hbel.out.size (.cells #[.int .i32 (o.1 : Int), .int .i32 (o.2 : Int)] 125))
      have OW := hidden (owl hown.out hal1)
      have B8 := Blk.new wr 125 [.int .i32 (o.1 : Int), .int .i32 (o.2 : Int)]
      have e0 : (wr.alloc (.cells #[.int .i32 (o.1 : Int), .int .i32 (o.2 : Int)] 125)).cell? ⟨wr.heap.size, 0, none⟩ = some (.int .i32 (o.1 : Int)) := B8.cell 0
      have e1 : (wr.alloc (.cells #[.int .i32 (o.1 : Int), .int .i32 (o.2 : Int)] 125)).cell? ⟨wr.heap.size, 1, none⟩ = some (.int .i32 (o.2 : Int)) := B8.cell 1
      have HB8 := hidden B8
      clear ho ho' B8 hal1
      by_cases h1 : low < o.1
      · have h1z : (low : Int) < (o.1 : Int) := by omega
        have hsub : Hid (((o.1 - 1 : Nat) : Int) = (o.1 : Int) - 1) := hidden (by omega)
        have HS : Hid ((acc ++ [(low, o.1 - 1)]) ++ othS (o.2 + 1) (l.drop (i + 1)) = R) := hidden (by rw [← hrel.out, HST.out, if_pos h1, List.append_assoc])
        have cellN : Hid (∀ jj u, [Value.int .i32 (low : Int), Value.int .i32 ((o.1 : Int) - 1)][jj]? = some u → ((wr.alloc (.cells #[.int .i32 (o.1 : Int), .int .i32 (o.2 : Int)] 125)).alloc (.cells #[.int .i32 (low : Int), .int .i32 ((o.1 : Int) - 1)] 125)).cell? ((⟨wr.heap.size + 1, 0, none⟩ : Addr).add jj) = some u) := hidden (fun jj u hu => by
          rw [Addr.add_lit, Nat.zero_add]
          have := (Blk.new (wr.alloc (.cells #[.int .i32 (o.1 : Int), .int .i32 (o.2 : Int)] 125)) 125 [.int .i32 (low : Int), .int .i32 ((o.1 : Int) - 1)]).cell jj
          rw [hu, show (wr.alloc (.cells #[.int .i32 (o.1 : Int), .int .i32 (o.2 : Int)] 125)).heap.size = wr.heap.size + 1 by simp] at this
          exact this)
        clear HST hrel
        go_wp2_with (refine wpList_push2 _ rfl (.tmp 17) (.tmp 23) 103 rfl 125 i0 (.agg #[.int .i32 0, .int .i32 0]) 8 Tryd.underlying103 HI.out hz0 hz1 hz2 rfl w.heap.size (.slice aa m cc) m (cS acc) rfl (OW.out.alloc _) ⟨wr.heap.size + 1, 0, none⟩ [.int .i32 (low : Int), .int .i32 ((o.1 : Int) - 1)] rfl rfl cellN.out (by intro u hu; simp at hu; rcases hu with rfl | rfl <;> rfl) (by unfold maxLen; omega) (by omega) (by have := HBS.out; simp; omega) ?_; intro g9 c9 w9 ho9 hp9; have hch := hp9.chg; have HO9 := hidden ho9; have HB9 := hidden (HAL.out.trans (hch.1.below (by have := HBS.out; simp; omega) (fun k hk => (OW.out.lt k hk).1))); have HE9 := hidden (hch.1.blk HB8.out (fun e => by have := owns_lt hown.out _ e; omega)); have f1 : w9.cell? ⟨wr.heap.size, 1, none⟩ = some (.int .i32 (o.2 : Int)) := HE9.out.cell 1; clear ho9 hp9 hch)
        refine ⟨⟨i + 1, o.2 + 1, m + 1, c9, some ⟨g9, 0, none⟩, acc ++ [(low, o.1 - 1)], by first | rfl | simp, by first | rfl | simp, by first | rfl | simp, by omega, by omega, by omega, hidden (by simp [hlm.out]), hidden (hbd.out.snoc ⟨by show low ≤ _; omega, by show o.1 - 1 ≤ _; omega⟩), HS, hidden ?_, HB9⟩, ?_⟩
        · rw [cS_append]
          have e : cS [(low, o.1 - 1)] = [.int .i32 (low : Int), .int .i32 ((o.1 : Int) - 1)] := by rw [← hsub.out]; rfl
          rw [e]
          exact HO9.out
        · simp [intOf]
          omega
      · have h1z : ¬ (low : Int) < (o.1 : Int) := by omega
        have HS : Hid (acc ++ othS (o.2 + 1) (l.drop (i + 1)) = R) := hidden (by rw [← hrel.out, HST.out, if_neg h1, List.nil_append])
        clear HST hrel
        go_wp2
        refine ⟨⟨i + 1, o.2 + 1, m, cc, aa, acc, by first | rfl | simp, by first | rfl | simp, by first | rfl | simp, by omega, by omega, by omega, hlm, hbd, HS, OW, HAL⟩, ?_⟩
        simp [intOf]
        omega
    · have hltz : ¬ (i : Int) < (n : Int) := by omega
      have hend : l.drop i = [] := List.drop_of_length_le (by rw [HN.out]; omega)
      by_cases h1 : low ≤ 1114111
      · have h1z : (low : Int) ≤ 1114111 := by omega
        have HS : Hid (acc ++ [(low, 1114111)] = R) := hidden (by rw [← hrel.out, hend, othS, if_pos h1])
        have cellN : Hid (∀ jj u, [Value.int .i32 (low : Int), Value.int .i32 1114111][jj]? = some u → (wr.alloc (.cells #[.int .i32 (low : Int), .int .i32 1114111] 125)).cell? ((⟨wr.heap.size, 0, none⟩ : Addr).add jj) = some u) := hidden (fun jj u hu => by
          rw [Addr.add_lit, Nat.zero_add]
          have := (Blk.new wr 125 [.int .i32 (low : Int), .int .i32 1114111]).cell jj
          rw [hu] at this
          exact this)
        clear hrel hend
        go_wp2_with (refine wpList_push2 _ rfl (.tmp 31) (.tmp 34) 103 rfl 125 i0 (.agg #[.int .i32 0, .int .i32 0]) 8 Tryd.underlying103 HI.out hz0 hz1 hz2 rfl w.heap.size (.slice aa m cc) m (cS acc) rfl (hown.out.alloc _) ⟨wr.heap.size, 0, none⟩ [.int .i32 (low : Int), .int .i32 1114111] rfl rfl cellN.out (by intro u hu; simp at hu; rcases hu with rfl | rfl <;> rfl) (by unfold maxLen; omega) (by omega) (by have := HBS.out; simp; omega) ?_; intro g9 c9 w9 ho9 hp9; have hch := hp9.chg; have HO9 := hidden ho9; have HB9 := hidden (hbel.out.trans (hch.1.below HBS.out (fun k hk => (hown.out.lt k hk).1))); clear ho9 hp9 hch)
        go_ret
        have hRl : R.length = m + 1 := by rw [← HS.out]; simp [hlm.out]
        refine ⟨some ⟨g9, 0, none⟩, c9, by rw [hRl]; rfl, ?_, ?_, HB9.out⟩
        · rw [hRl, ← HS.out, cS_append]
          exact HO9.out
        · rw [← HS.out]
          exact hbd.out.snoc ⟨h1, Nat.le_refl _⟩
      · have h1z : ¬ (low : Int) ≤ 1114111 := by omega
        have HS : Hid (acc = R) := hidden (by rw [← hrel.out, hend, othS, if_neg h1, List.append_nil])
        clear hrel hend
        go_wp2
        go_ret
        have hRl : R.length = m := by rw [← HS.out]; exact hlm.out
        refine ⟨aa, cc, by rw [hRl]; rfl, ?_, ?_, hbel.out⟩
        · rw [hRl, ← HS.out]; exact hown.out
        · rw [← HS.out]; exact hbd.out

end Go.Proofs.YtndegcgcbhcokaaDoor

/-
  The machine: a set's bit.
-/
namespace Go.Proofs.YtndegcgcbhcokaaDoor
open Go.RowKit
set_option linter.unusedVariables false
set_option linter.unusedSimpArgs false

theorem bit64_eq (v k : Nat) (hv : v < 18446744073709551616) : (bits .and .u64 ((v : Int) / 2 ^ k) 1 == 1) = v.testBit k := by
  have e1 : (v : Int) / 2 ^ k = ((v / 2 ^ k : Nat) : Int) := by simp
  have hz : v / 2 ^ k < 18446744073709551616 := Nat.lt_of_le_of_lt (Nat.div_le_self _ _) hv
  rw [e1, show (1 : Int) = ((1 : Nat) : Int) from rfl, u64_and_nat _ _ hz (by omega), Nat.and_one_is_mod]
  unfold Nat.testBit
  rw [Nat.shiftRight_eq_div_pow, Nat.and_comm, Nat.and_one_is_mod]
  rcases Nat.mod_two_eq_zero_or_one (v / 2 ^ k) with h | h <;> rw [h] <;> rfl

set_option maxHeartbeats 2000000 in
theorem hasP (v k : Nat) (hv : v < 18446744073709551616) (hk : k < 64) (w : World) : Calls Tryd.prog 60 #[.int .u64 (v : Int), .int .i64 (k : Int)] w fun e w' => e = .returned (.bool (v.testBit k)) ∧ w' = w := by
  have HB := hidden (bit64_eq v k hv)
  go_enter Tryd.func60, Tryd.ntmps60
  go_wp2
  all_goals go_ret
  all_goals exact ⟨by rw [← HB.out]; rfl, rfl⟩

end Go.Proofs.YtndegcgcbhcokaaDoor
