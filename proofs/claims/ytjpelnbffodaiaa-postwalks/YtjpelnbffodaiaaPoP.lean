/-
  The document's And, Not, Has, Take.
-/
import Derived.Test.YtjpelnbffodaiaaPoM
namespace Go.Proofs.Ytjpelnbffodaiaa
open Go.RowKit
set_option linter.unusedVariables false
set_option linter.unusedSimpArgs false

set_option maxRecDepth 100000 in
set_option maxHeartbeats 4000000 in
theorem inR (w : World) (ad : Option Addr) (n c x : Nat) (l : List Nat) (hs : Sw w ad n l) (hn : n ≤ 1000000000) :
    Calls Try.prog 35 #[.slice ad n c, .int .u32 (x : Int)] w fun e w' => e = .returned (.bool (decide (x ∈ l))) ∧ w' = w := by
  have HS := hidden hs
  have hl := hs.len
  clear hs
  go_enter Try.func35, Try.ntmps35
  go_wp2_with fail
  go_loopw [5] (fun s5 wx => ∃ i : Nat, s5 = .int .i64 (i : Int) ∧ i ≤ n ∧ Hid (∀ j, j < i → l.getD j 0 ≠ x) ∧ wx = w) (fun s5 _ => n - (intOf s5).toNat)
  case atStart => exact ⟨0, rfl, by omega, hidden (fun j hj => by omega), rfl⟩
  case round =>
    rename World => wr
    obtain ⟨i, rfl, hi, hno, rfl⟩ := hrel
    by_cases hlt : i < n
    · have hltz : (i : Int) < (n : Int) := by omega
      obtain ⟨b, o, rfl, _, hc⟩ := HS.out.at (by omega)
      have k1 := hc i hlt
      obtain ⟨y, hy⟩ : ∃ y, l.getD i 0 = y := ⟨_, rfl⟩
      rw [hy] at k1
      have HY := hidden hy
      clear hc hy
      by_cases hxy : y = x
      · subst hxy
        go_wp2
        go_ret
        have hm : y ∈ l := mem_getD.2 ⟨i, by omega, HY.out⟩
        exact ⟨by simp [hm], by first | trivial | rfl⟩
      · have hz : ¬ (y : Int) = (x : Int) := by omega
        go_wp2
        refine ⟨⟨i + 1, by first | rfl | simp, by omega, hidden (fun j hj => ?_), by first | trivial | rfl⟩, ?_⟩
        · by_cases e : j = i
          · subst e; rw [HY.out]; exact hxy
          · exact hno.out j (by omega)
        · simp [intOf]
          omega
    · have hltz : ¬ (i : Int) < (n : Int) := by omega
      go_wp2
      go_ret
      have hm : x ∉ l := fun h => by
        obtain ⟨j, hj, e⟩ := mem_getD.1 h
        exact hno.out j (by omega) e
      exact ⟨by simp [hm], by first | trivial | rfl⟩

theorem bothR (w : World) (a1 a2 : Option Addr) (n1 c1 n2 c2 : Nat) (A B : List Nat) (h1 : Sw w a1 n1 A) (h2 : Sw w a2 n2 B) (hn1 : n1 ≤ 1000000) (hn2 : n2 ≤ 1000000) :
    Calls Try.prog 34 #[.slice a1 n1 c1, .slice a2 n2 c2] w fun e w' => e = .returned (.bool (decide (Ris A ∧ Ris B))) ∧ Below w.heap.size w w' := by
  have H1 := hidden h1
  have H2 := hidden h2
  clear h1 h2
  go_enter Try.func34, Try.ntmps34
  go_wp2_with fail
  refine (risesR w a1 n1 c1 A H1.out (by omega)).mono ?_
  rintro e w1 ⟨rfl, b1⟩
  have B1 := hidden b1
  clear b1
  go_wp2_with fail
  refine (risesR w1 a2 n2 c2 B (H2.out.later B1.out) (by omega)).mono ?_
  rintro e w2 ⟨rfl, b2⟩
  have B2 := hidden (bt B1.out (Nat.le_refl _) b2)
  clear b2
  by_cases hr1 : Ris A <;> by_cases hr2 : Ris B
  all_goals
    simp only [hr1, hr2, decide_true, decide_false, and_self, and_true, and_false, false_and, true_and]
    go_wp2
    go_ret
    exact ⟨by simp [hr1, hr2], B2.out⟩

theorem hasR (w : World) (ad : Option Addr) (n c x : Nat) (l : List Nat) (hs : Sw w ad n l) (hn : n ≤ 1000000) :
    Calls Try.prog 22 #[.slice ad n c, .int .u32 (x : Int)] w fun e w' => e = .returned (.bool (hasF l x)) ∧ Below w.heap.size w w' := by
  have HS := hidden hs
  clear hs
  go_enter Try.func22, Try.ntmps22
  go_wp2_with fail
  refine (risesR w ad n c l HS.out (by omega)).mono ?_
  rintro e w1 ⟨rfl, b1⟩
  have B1 := hidden b1
  clear b1
  go_wp2_with fail
  refine (inR w1 ad n c x l (HS.out.later B1.out) (by omega)).mono ?_
  rintro e w2 ⟨rfl, rfl⟩
  by_cases hr : Ris l
  all_goals
    simp only [hr, decide_true, decide_false]
    go_wp2
    go_ret
    exact ⟨by simp [hasF, hr], B1.out⟩

theorem filter_step {l : List Nat} {i n : Nat} (p : Nat → Bool) (hl : l.length = n) (hi : i < n) : (l.take (i + 1)).filter p = (l.take i).filter p ++ (if p (l.getD i 0) then [l.getD i 0] else []) := by
  have h : i < l.length := by omega
  rw [List.take_add_one, List.getElem?_eq_getElem h, List.filter_append]
  congr 1
  simp [List.getD, h, List.filter_cons]

set_option maxRecDepth 100000 in
set_option maxHeartbeats 4000000 in
theorem andR (w : World) (a1 a2 : Option Addr) (n1 c1 n2 c2 : Nat) (A B : List Nat) (h1 : Sw w a1 n1 A) (h2 : Sw w a2 n2 B) (hn1 : n1 ≤ 1000000) (hn2 : n2 ≤ 1000000) :
    Calls Try.prog 18 #[.slice a1 n1 c1, .slice a2 n2 c2] w fun e w' => OutW w e w' (andF A B) := by
  have H1 := hidden h1
  have H2 := hidden h2
  have hl := h1.len
  have hwd := hidden h1.bd
  clear h1 h2
  go_enter Try.func18, Try.ntmps18
  go_wp2_with fail
  refine (bothR w a1 a2 n1 c1 n2 c2 A B H1.out H2.out hn1 hn2).mono ?_
  rintro e w1 ⟨rfl, b1⟩
  have B1 := hidden b1
  clear b1
  by_cases hr : Ris A ∧ Ris B
  · have HR := hidden hr
    simp only [hr, decide_true, and_self]
    go_wp2_with fail
    go_loopw [5, 7] (fun s5 s7 wr => ∃ (i m c' : Nat) (a' : Option Addr), s5 = .slice a' m c' ∧ s7 = .int .i64 (i : Int) ∧ i ≤ n1 ∧ m ≤ i ∧ Hid (wr.ownsRow w.heap.size 23 1 (.slice a' m c') m (cells32 ((A.take i).filter (fun x => decide (x ∈ B))))) ∧ Hid (Below w.heap.size w wr)) (fun _ s7 _ => n1 - (intOf s7).toNat)
    case atStart => exact ⟨0, 0, 0, none, rfl, rfl, by omega, by omega, hidden (World.ownsRow_nil _ _ _ _), B1⟩
    case round =>
      rename World => wr
      obtain ⟨i, m, c', a', rfl, rfl, hi, hm, hown, hbel⟩ := hrel
      by_cases hlt : i < n1
      · have hltz : (i : Int) < (n1 : Int) := by omega
        obtain ⟨b, o, rfl, _, hc⟩ := (H1.out.later hbel.out).at (by omega)
        have k1 := hc i hlt
        have hst := hidden (filter_step (fun x => decide (x ∈ B)) hl hlt)
        obtain ⟨y, hy⟩ : ∃ y, A.getD i 0 = y := ⟨_, rfl⟩
        rw [hy] at k1 hst
        have HB := hidden (H2.out.later hbel.out)
        clear hc hy
        go_wp2_with fail
        refine (inR wr a2 n2 c2 y B HB.out (by omega)).mono ?_
        rintro e w5 ⟨rfl, rfl⟩
        by_cases hin : y ∈ B
        · simp only [hin, decide_true, Bool.not_true, Bool.not_false, if_true, Bool.false_eq_true, if_false, List.append_nil] at hst ⊢
          go_wp2_with (refine wpList_pushW _ rfl (.tmp 28) (.tmp 33) rfl w.heap.size (.slice a' m c') m _ rfl w5 hown.out y _ rfl rfl rfl (by omega) hbel.out.size ?_; intro g8 c8 w8 o8 b8; have O8 := hidden o8; have B8 := hidden (hbel.out.trans b8); clear o8 b8)
          refine ⟨⟨i + 1, m + 1, c8, _, rfl, by first | rfl | simp, by omega, by omega, by rw [hst.out]; exact O8, B8⟩, ?_⟩
          simp [intOf]
          omega
        · simp only [hin, decide_false, Bool.not_true, Bool.not_false, if_true, Bool.false_eq_true, if_false, List.append_nil] at hst ⊢
          go_wp2
          refine ⟨⟨i + 1, m, c', a', rfl, by first | rfl | simp, by omega, by omega, by rw [hst.out]; exact hown, hbel⟩, ?_⟩
          simp [intOf]
          omega
      · have hltz : ¬ (i : Int) < (n1 : Int) := by omega
        obtain rfl : i = n1 := by omega
        have hE : (A.take i).filter (fun x => decide (x ∈ B)) = andF A B := by
          rw [List.take_of_length_le (by omega), andF_filter HR.out.1 HR.out.2]
        rw [hE] at hown
        have hml := own_len hown.out
        subst hml
        go_wp2
        go_ret
        exact ⟨a', c', rfl, hown.out, hbel.out⟩
  · simp only [hr, decide_false]
    go_wp2_with fail
    go_loopw [5, 7] (fun s5 s7 wr => s5 = .slice none 0 0 ∧ s7 = .int .i64 0 ∧ wr = w1) (fun _ _ _ => 0)
    case atStart => exact ⟨rfl, rfl, rfl⟩
    case round =>
      rename World => wr
      obtain ⟨rfl, rfl, rfl⟩ := hrel
      go_wp2
      go_ret
      rw [andF, joF_not hr]
      exact ⟨none, 0, rfl, World.ownsRow_nil _ _ _ _, B1.out⟩

set_option maxRecDepth 100000 in
set_option maxHeartbeats 4000000 in
theorem notR (w : World) (a1 a2 : Option Addr) (n1 c1 n2 c2 : Nat) (A B : List Nat) (h1 : Sw w a1 n1 A) (h2 : Sw w a2 n2 B) (hn1 : n1 ≤ 1000000) (hn2 : n2 ≤ 1000000) :
    Calls Try.prog 20 #[.slice a1 n1 c1, .slice a2 n2 c2] w fun e w' => OutW w e w' (notF A B) := by
  have H1 := hidden h1
  have H2 := hidden h2
  have hl := h1.len
  have hwd := hidden h1.bd
  clear h1 h2
  go_enter Try.func20, Try.ntmps20
  go_wp2_with fail
  refine (bothR w a1 a2 n1 c1 n2 c2 A B H1.out H2.out hn1 hn2).mono ?_
  rintro e w1 ⟨rfl, b1⟩
  have B1 := hidden b1
  clear b1
  by_cases hr : Ris A ∧ Ris B
  · have HR := hidden hr
    simp only [hr, decide_true, and_self]
    go_wp2_with fail
    go_loopw [5, 7] (fun s5 s7 wr => ∃ (i m c' : Nat) (a' : Option Addr), s5 = .slice a' m c' ∧ s7 = .int .i64 (i : Int) ∧ i ≤ n1 ∧ m ≤ i ∧ Hid (wr.ownsRow w.heap.size 23 1 (.slice a' m c') m (cells32 ((A.take i).filter (fun x => !decide (x ∈ B))))) ∧ Hid (Below w.heap.size w wr)) (fun _ s7 _ => n1 - (intOf s7).toNat)
    case atStart => exact ⟨0, 0, 0, none, rfl, rfl, by omega, by omega, hidden (World.ownsRow_nil _ _ _ _), B1⟩
    case round =>
      rename World => wr
      obtain ⟨i, m, c', a', rfl, rfl, hi, hm, hown, hbel⟩ := hrel
      by_cases hlt : i < n1
      · have hltz : (i : Int) < (n1 : Int) := by omega
        obtain ⟨b, o, rfl, _, hc⟩ := (H1.out.later hbel.out).at (by omega)
        have k1 := hc i hlt
        have hst := hidden (filter_step (fun x => !decide (x ∈ B)) hl hlt)
        obtain ⟨y, hy⟩ : ∃ y, A.getD i 0 = y := ⟨_, rfl⟩
        rw [hy] at k1 hst
        have HB := hidden (H2.out.later hbel.out)
        clear hc hy
        go_wp2_with fail
        refine (inR wr a2 n2 c2 y B HB.out (by omega)).mono ?_
        rintro e w5 ⟨rfl, rfl⟩
        by_cases hin : y ∈ B
        · simp only [hin, decide_true, Bool.not_true, Bool.not_false, if_true, Bool.false_eq_true, if_false, List.append_nil] at hst ⊢
          go_wp2
          refine ⟨⟨i + 1, m, c', a', rfl, by first | rfl | simp, by omega, by omega, by rw [hst.out]; exact hown, hbel⟩, ?_⟩
          simp [intOf]
          omega
        · simp only [hin, decide_false, Bool.not_true, Bool.not_false, if_true, Bool.false_eq_true, if_false, List.append_nil] at hst ⊢
          go_wp2_with (refine wpList_pushW _ rfl (.tmp 29) (.tmp 34) rfl w.heap.size (.slice a' m c') m _ rfl w5 hown.out y _ rfl rfl rfl (by omega) hbel.out.size ?_; intro g8 c8 w8 o8 b8; have O8 := hidden o8; have B8 := hidden (hbel.out.trans b8); clear o8 b8)
          refine ⟨⟨i + 1, m + 1, c8, _, rfl, by first | rfl | simp, by omega, by omega, by rw [hst.out]; exact O8, B8⟩, ?_⟩
          simp [intOf]
          omega
      · have hltz : ¬ (i : Int) < (n1 : Int) := by omega
        obtain rfl : i = n1 := by omega
        have hE : (A.take i).filter (fun x => !decide (x ∈ B)) = notF A B := by
          rw [List.take_of_length_le (by omega), notF_filter HR.out.1 HR.out.2]
        rw [hE] at hown
        have hml := own_len hown.out
        subst hml
        go_wp2
        go_ret
        exact ⟨a', c', rfl, hown.out, hbel.out⟩
  · simp only [hr, decide_false]
    go_wp2_with fail
    go_loopw [5, 7] (fun s5 s7 wr => s5 = .slice none 0 0 ∧ s7 = .int .i64 0 ∧ wr = w1) (fun _ _ _ => 0)
    case atStart => exact ⟨rfl, rfl, rfl⟩
    case round =>
      rename World => wr
      obtain ⟨rfl, rfl, rfl⟩ := hrel
      go_wp2
      go_ret
      rw [notF, joF_not hr]
      exact ⟨none, 0, rfl, World.ownsRow_nil _ _ _ _, B1.out⟩

end Go.Proofs.Ytjpelnbffodaiaa
