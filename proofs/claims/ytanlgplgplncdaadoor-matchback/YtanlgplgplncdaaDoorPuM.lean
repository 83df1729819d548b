/-
  The machine: step.
-/
import Derived.Test.YtanlgplgplncdaaDoorPuK
namespace Go.Proofs.YtanlgplgplncdaaDoor
open Go.RowKit
set_option linter.unusedVariables false
set_option linter.unusedSimpArgs false

/-- One code point taken, spot by spot. -/
def stF (last op x : Nat) : Nat → List Sp → Nat → Bool → Nat × Bool
  | _, [], nx, en => (nx, en)
  | i, s :: t, nx, en => if op.testBit i && inS s.takes x then stF last op x (i + 1) t (nx ||| s.next) (en || last.testBit i) else stF last op x (i + 1) t nx en
theorem stF_1 (last op x : Nat) : ∀ (t : List Sp) (i nx : Nat) (en : Bool) (q : Nat), (stF last op x i t nx en).1.testBit q = true ↔ nx.testBit q = true ∨ ∃ j s, t[j]? = some s ∧ op.testBit (i + j) = true ∧ inS s.takes x = true ∧ s.next.testBit q = true
  | [], i, nx, en, q => by simp [stF]
  | s :: t, i, nx, en, q => by
    rw [stF]
    have ih := stF_1 last op x t (i + 1)
    have key : (∃ j s', (s :: t)[j]? = some s' ∧ op.testBit (i + j) = true ∧ inS s'.takes x = true ∧ s'.next.testBit q = true) ↔ (op.testBit i = true ∧ inS s.takes x = true ∧ s.next.testBit q = true) ∨ ∃ j s', t[j]? = some s' ∧ op.testBit (i + 1 + j) = true ∧ inS s'.takes x = true ∧ s'.next.testBit q = true := by
      constructor
      · rintro ⟨j, s', h1, h2, h3, h4⟩
        cases j with
        | zero => simp at h1; subst h1; exact Or.inl ⟨h2, h3, h4⟩
        | succ j => exact Or.inr ⟨j, s', by simpa using h1, by rw [show i + 1 + j = i + (j + 1) by omega]; exact h2, h3, h4⟩
      · rintro (⟨h2, h3, h4⟩ | ⟨j, s', h1, h2, h3, h4⟩)
        · exact ⟨0, s, by simp, h2, h3, h4⟩
        · exact ⟨j + 1, s', by simpa using h1, by rw [show i + (j + 1) = i + 1 + j by omega]; exact h2, h3, h4⟩
    rw [key]
    split
    · rename_i hc
      simp only [Bool.and_eq_true] at hc
      rw [ih, Nat.testBit_or]
      simp only [Bool.or_eq_true]
      constructor
      · rintro ((h | h) | h)
        · exact Or.inl h
        · exact Or.inr (Or.inl ⟨hc.1, hc.2, h⟩)
        · exact Or.inr (Or.inr h)
      · rintro (h | ⟨_, _, h⟩ | h)
        · exact Or.inl (Or.inl h)
        · exact Or.inl (Or.inr h)
        · exact Or.inr h
    · rename_i hc
      simp only [Bool.and_eq_true] at hc
      rw [ih]
      constructor
      · rintro (h | h)
        · exact Or.inl h
        · exact Or.inr (Or.inr h)
      · rintro (h | ⟨h1, h2, _⟩ | h)
        · exact Or.inl h
        · exact absurd ⟨h1, h2⟩ hc
        · exact Or.inr h
theorem stF_2 (last op x : Nat) : ∀ (t : List Sp) (i nx : Nat) (en : Bool), (stF last op x i t nx en).2 = true ↔ en = true ∨ ∃ j s, t[j]? = some s ∧ op.testBit (i + j) = true ∧ inS s.takes x = true ∧ last.testBit (i + j) = true
  | [], i, nx, en => by simp [stF]
  | s :: t, i, nx, en => by
    rw [stF]
    have ih := stF_2 last op x t (i + 1)
    have key : (∃ j s', (s :: t)[j]? = some s' ∧ op.testBit (i + j) = true ∧ inS s'.takes x = true ∧ last.testBit (i + j) = true) ↔ (op.testBit i = true ∧ inS s.takes x = true ∧ last.testBit i = true) ∨ ∃ j s', t[j]? = some s' ∧ op.testBit (i + 1 + j) = true ∧ inS s'.takes x = true ∧ last.testBit (i + 1 + j) = true := by
      constructor
      · rintro ⟨j, s', h1, h2, h3, h4⟩
        cases j with
        | zero => simp at h1; subst h1; exact Or.inl ⟨h2, h3, h4⟩
        | succ j => exact Or.inr ⟨j, s', by simpa using h1, by rw [show i + 1 + j = i + (j + 1) by omega]; exact h2, h3, by rw [show i + 1 + j = i + (j + 1) by omega]; exact h4⟩
      · rintro (⟨h2, h3, h4⟩ | ⟨j, s', h1, h2, h3, h4⟩)
        · exact ⟨0, s, by simp, h2, h3, h4⟩
        · exact ⟨j + 1, s', by simpa using h1, by rw [show i + (j + 1) = i + 1 + j by omega]; exact h2, h3, by rw [show i + (j + 1) = i + 1 + j by omega]; exact h4⟩
    rw [key]
    split
    · rename_i hc
      simp only [Bool.and_eq_true] at hc
      rw [ih]
      simp only [Bool.or_eq_true]
      constructor
      · rintro ((h | h) | h)
        · exact Or.inl h
        · exact Or.inr (Or.inl ⟨hc.1, hc.2, h⟩)
        · exact Or.inr (Or.inr h)
      · rintro (h | ⟨_, _, h⟩ | h)
        · exact Or.inl (Or.inl h)
        · exact Or.inl (Or.inr h)
        · exact Or.inr h
    · rename_i hc
      simp only [Bool.and_eq_true] at hc
      rw [ih]
      constructor
      · rintro (h | h)
        · exact Or.inl h
        · exact Or.inr (Or.inr h)
      · rintro (h | ⟨h1, h2, _⟩ | h)
        · exact Or.inl h
        · exact absurd ⟨h1, h2⟩ hc
        · exact Or.inr h
theorem stF_b (last op x : Nat) : ∀ (t : List Sp) (i nx : Nat) (en : Bool), nx < 18446744073709551616 → (∀ (i : Nat) (s : Sp), t[i]? = some s → s.next < 18446744073709551616) → (stF last op x i t nx en).1 < 18446744073709551616
  | [], i, nx, en, h, _ => by rw [stF]; exact h
  | s :: t, i, nx, en, h, hb => by
    rw [stF]
    have hb' : ∀ (i : Nat) (s : Sp), t[i]? = some s → s.next < 18446744073709551616 := fun j s' h => hb (j + 1) s' (by simpa using h)
    split
    · exact stF_b last op x t _ _ _ (or_lt h (hb 0 s (by simp))) hb'
    · exact stF_b last op x t _ _ _ h hb'
theorem stF_yes {last op x i nx : Nat} {en : Bool} {M : List Sp} {s : Sp} (hs : M[i]? = some s) (h1 : op.testBit i = true) (h2 : inS s.takes x = true) : stF last op x i (M.drop i) nx en = stF last op x (i + 1) (M.drop (i + 1)) (nx ||| s.next) (en || last.testBit i) := by
  rw [drop_at hs, stF, h1, h2]; rfl
theorem stF_no {last op x i nx : Nat} {en : Bool} {M : List Sp} {s : Sp} (hs : M[i]? = some s) (h1 : (op.testBit i && inS s.takes x) = false) : stF last op x i (M.drop i) nx en = stF last op x (i + 1) (M.drop (i + 1)) nx en := by
  rw [drop_at hs, stF, h1]; rfl

set_option maxRecDepth 100000 in
set_option maxHeartbeats 8000000 in
theorem stepP (F : Nat → Prop) (w : World) (p : Nat) (l : List (List Pt)) (hP : PaR F w p l) (op x : Nat) (hop : op < 18446744073709551616) :
    Calls Tryd.prog 57 #[.pointer (some ⟨p, 1, none⟩), .int .u64 (op : Int), .int .i32 (x : Int)] w fun e w' => e = .returned (.tuple #[.int .u64 ((stF (machL l).1.last op x 0 (machL l).2 0 false).1 : Int), .bool (stF (machL l).1.last op x 0 (machL l).2 0 false).2]) ∧ Below w.heap.size w w' := by
  obtain ⟨ad, c, b, off, sa, sc, vs, h⟩ := hP
  have hB := h.blk
  have hsp := h.sp
  have hb64 := rowsAdd_b64 l ⟨0, 0, false⟩ [] (by simpa using h.cnt) (Es.b64.zero _)
  have hml := rowsAdd_len l ⟨0, 0, false⟩ []
  have hcnt := h.cnt
  clear h
  change (machL l).1.b64 at hb64
  change (machL l).2.length = _ at hml
  obtain ⟨⟨E, M⟩, hR⟩ : ∃ R, machL l = R := ⟨_, rfl⟩
  rw [hR] at hB hsp hb64 hml ⊢
  obtain ⟨fi, la, em⟩ := E
  simp only at hB hsp hb64 hml ⊢
  have hn64 : M.length ≤ 64 := by rw [hml]; simpa using hcnt
  obtain ⟨n, hn⟩ : ∃ n, M.length = n := ⟨_, rfl⟩
  have HN := hidden hn
  have HSP := hidden hsp
  have HBK := hidden hB
  rw [hn] at hn64
  have c1 : w.cell? ⟨p, 1, none⟩ = some (.slice sa n sc) := by have := hB.cell 1; rw [hn] at this; exact this
  have hla := hb64.2
  have HB64 := hidden hsp.b64
  obtain ⟨⟨R1, R2⟩, hR2⟩ : ∃ R, stF la op x 0 M 0 false = R := ⟨_, rfl⟩
  have HR : Hid (stF la op x 0 (M.drop 0) 0 false = (R1, R2)) := hidden (by rw [List.drop_zero]; exact hR2)
  rw [hR2]
  clear hB hsp hb64 hml hcnt hR hn hR2
  simp only at hla
  go_enter Tryd.func57, Tryd.ntmps57
  go_wp2
  clear c1
  go_loopw [8, 9, 17] (fun s8 s9 s17 wx => ∃ (i nx : Nat) (en : Bool), s8 = .int .u64 (nx : Int) ∧ s9 = .bool en ∧ s17 = .int .i64 (i : Int) ∧ i ≤ n ∧ nx < 18446744073709551616 ∧ Hid (stF la op x i (M.drop i) nx en = (R1, R2)) ∧ Hid (Below w.heap.size w wx)) (fun _ _ s17 _ => n - (intOf s17).toNat)
  case atStart => exact ⟨0, 0, false, rfl, rfl, rfl, by omega, by omega, HR, hidden (Below.refl _ _)⟩
  case round =>
    rename World => wr
    obtain ⟨i, nx, en, rfl, rfl, rfl, hi, hnx, hrel, hbel⟩ := hrel
    clear HR
    by_cases hlt : i < n
    · have hltz : (i : Int) < (n : Int) := by omega
      obtain ⟨s, hs⟩ : ∃ s, M[i]? = some s := ⟨M[i]'(by rw [HN.out]; exact hlt), by simp⟩
      have hsp := HSP.out.keep (Chg.of_below (F := fun _ => False) hbel.out) (fun _ _ h => h)
      obtain ⟨v, hv, ta, tc, rfl, hss, hsf, hs20⟩ := hsp.sp.get hs
      have hb := HB64.out i s hs
      rcases hsp.own.2 with ⟨e0, e1⟩ | ⟨g, cap, cur, e0, _⟩
      · rw [HN.out] at e1; omega
      · injection e0 with e0 _ e2
        subst e0 e2
        have hoc := cQ_get vs i _ hv
        obtain ⟨tn, htn⟩ : ∃ tn, s.takes.length = tn := ⟨_, rfl⟩
        rw [htn] at hoc hs20
        have d0 : wr.cell? ⟨g, i * 2, none⟩ = some (.slice ta tn tc) := by
          have := hsp.own.cells (g := g) (by simp [Value.ownBlock]) _ _ hoc.1
          rw [Addr.add_lit, Nat.zero_add] at this
          exact this
        have d1 : wr.cell? ⟨g, i * 2 + 1, none⟩ = some (.int .u64 (s.next : Int)) := by
          have := hsp.own.cells (g := g) (by simp [Value.ownBlock]) _ _ hoc.2
          rw [Addr.add_lit, Nat.zero_add] at this
          exact this
        have HAL : Hid (Below w.heap.size w (wr.alloc (.cells #[.slice ta tn tc, .int .u64 (s.next : Int)] 145))) := hidden (hbel.out.alloc hbel.out.size _)
        have hal1 : Below wr.heap.size wr (wr.alloc (.cells #[.slice ta tn tc, .int .u64 (s.next : Int)] 145)) := (Below.refl _ _).alloc (Nat.le_refl _) _
        have kW := withinP ta tc s.takes x (wr.alloc (.cells #[.slice ta tn tc, .int .u64 (s.next : Int)] 145)) (hss.later hal1) (by omega)
        rw [htn] at kW
        have kH := hasP op i hop (by omega)
        have kL := hasP la i hla (by omega)
        have HBP : Hid (Blk (wr.alloc (.cells #[.slice ta tn tc, .int .u64 (s.next : Int)] 145)) p 116 [.slice ad l.length c, .slice (some ⟨g, 0, none⟩) M.length sc, .int .u64 (fi : Int), .int .u64 (la : Int), .bool em]) := hidden (((Chg.of_below (F := fun _ => False) hbel.out).blk HBK.out (fun h => h)).alloc _)
        have HLB : Hid (Blk (wr.alloc (.cells #[.slice ta tn tc, .int .u64 (s.next : Int)] 145)) wr.heap.size 145 [.slice ta tn tc, .int .u64 (s.next : Int)]) := hidden (Blk.new wr 145 _)
        have o1 := or64 hnx hb
        have hnx2 := or_lt hnx hb
        have HS := hidden hs
        clear hsp hv hss hsf hs20 hoc htn hs
        cases hb1 : op.testBit i with
        | false =>
          rw [hb1] at kH
          have HNX := hidden ((stF_no (last := la) (nx := nx) (en := en) HS.out (show (op.testBit i && inS s.takes x) = false by rw [hb1]; rfl)).symm.trans hrel.out)
          clear hb1 kW kL
          go_wp2_with (go_at_call 66; refine (kH _).mono ?_; rintro e w2 ⟨rfl, rfl⟩; clear kH)
          refine ⟨⟨i + 1, nx, en, by first | rfl | simp, by first | rfl | simp, by first | rfl | simp, by omega, hnx, HNX, HAL⟩, ?_⟩
          simp [intOf]
          omega
        | true =>
          rw [hb1] at kH
          cases hb2 : inS s.takes x with
          | false =>
            rw [hb2] at kW
            have HNX := hidden ((stF_no (last := la) (nx := nx) (en := en) HS.out (show (op.testBit i && inS s.takes x) = false by rw [hb2]; simp)).symm.trans hrel.out)
            clear hb1 hb2 kL
            go_wp2_with (first
              | (go_at_call 66; refine (kH _).mono ?_; rintro e w2 ⟨rfl, rfl⟩; clear kH)
              | (go_at_call 67; refine kW.mono ?_; rintro e w3 ⟨rfl, h3⟩; have H3 := hidden h3; clear kW h3))
            refine ⟨⟨i + 1, nx, en, by first | rfl | simp, by first | rfl | simp, by first | rfl | simp, by omega, hnx, HNX, hidden (HAL.out.trans (H3.out.mono HAL.out.size))⟩, ?_⟩
            simp [intOf]
            omega
          | true =>
            rw [hb2] at kW
            have HNX := hidden ((stF_yes (last := la) (nx := nx) (en := en) HS.out hb1 hb2).symm.trans hrel.out)
            obtain ⟨lb, hlb⟩ : ∃ lb, la.testBit i = lb := ⟨_, rfl⟩
            rw [hlb] at kL HNX
            clear hb1 hb2 hlb
            cases en with
            | true =>
              clear kL
              go_wp2_with (first
                | (go_at_call 66; refine (kH _).mono ?_; rintro e w2 ⟨rfl, rfl⟩; clear kH)
                | (go_at_call 67; refine kW.mono ?_; rintro e w3 ⟨rfl, h3⟩; have H3 := hidden h3; have L3 := HLB.out.later h3; have L1 : w3.cell? ⟨wr.heap.size, 1, none⟩ = some (.int .u64 (s.next : Int)) := L3.cell 1; clear kW h3 L3))
              refine ⟨⟨i + 1, nx ||| s.next, true, by first | rfl | simp, by first | rfl | simp, by first | rfl | simp, by omega, hnx2, HNX, hidden (HAL.out.trans (H3.out.mono HAL.out.size))⟩, ?_⟩
              simp [intOf]
              omega
            | false =>
              go_wp2_with (first
                | (go_at_call 66; refine (kH _).mono ?_; rintro e w2 ⟨rfl, rfl⟩; clear kH)
                | (go_at_call 66; refine (kL _).mono ?_; rintro e w4 ⟨rfl, rfl⟩; clear kL)
                | (go_at_call 67; refine kW.mono ?_; rintro e w3 ⟨rfl, h3⟩; have H3 := hidden h3; have L3 := HLB.out.later h3; have L1 : w3.cell? ⟨wr.heap.size, 1, none⟩ = some (.int .u64 (s.next : Int)) := L3.cell 1; have P3 := HBP.out.later h3; have P1 : w3.cell? ⟨p, 3, none⟩ = some (.int .u64 (la : Int)) := P3.cell 3; clear kW h3 L3 P3))
              refine ⟨⟨i + 1, nx ||| s.next, lb, by first | rfl | simp, by first | rfl | simp, by first | rfl | simp, by omega, hnx2, by simpa using HNX, hidden (HAL.out.trans (H3.out.mono HAL.out.size))⟩, ?_⟩
              simp [intOf]
              omega
    · have hltz : ¬ (i : Int) < (n : Int) := by omega
      have hend : M.drop i = [] := List.drop_of_length_le (by rw [HN.out]; omega)
      have hre := hrel.out
      rw [hend, stF] at hre
      injection hre with e1 e2
      subst e1 e2
      clear hrel hend
      go_wp2
      go_ret2
      exact ⟨rfl, hbel.out⟩

end Go.Proofs.YtanlgplgplncdaaDoor
