/-
  Get.
-/
import Derived.Test.YtpdffdoogobhfaaDoorLbS
namespace Go.Proofs.YtpdffdoogobhfaaDoor
open Go.RowKit
set_option linter.unusedVariables false
set_option linter.unusedSimpArgs false

set_option maxHeartbeats 2000000 in
theorem getP (ad : Option Addr) (c : Nat) (l : List Lb) (nm : ByteArray) (w : World) (hL : Ls w ad l) (hlen : l.length ≤ 9223372036854775807) :
    Calls Tryd.prog 16 #[.slice ad l.length c, .string nm] w fun e w' => ∃ r, e = .returned (.string r) ∧ bts r = getL l (bts nm) ∧ Below w.heap.size w w' := by
  obtain ⟨n, hn⟩ : ∃ n, l.length = n := ⟨_, rfl⟩
  rw [hn] at hlen ⊢
  obtain ⟨R, hR⟩ : ∃ R, getL l (bts nm) = R := ⟨_, rfl⟩
  have HR := hidden hR
  have HL := hidden hL
  have HN := hidden hn
  rw [hR]
  clear hR hL hn
  go_enter Tryd.func16, Tryd.ntmps16
  go_wp2
  go_loopw [9] (fun s0 wx => ∃ i : Nat, s0 = .int .i64 (i : Int) ∧ i ≤ n ∧ Hid (getL (l.drop i) (bts nm) = R) ∧ Hid (Below w.heap.size w wx)) (fun s0 _ => n - (intOf s0).toNat)
  case atStart => exact ⟨0, rfl, by omega, hidden (by simpa using HR.out), hidden (Below.refl _ _)⟩
  case round =>
    rename World => wr
    obtain ⟨i, rfl, hi, hrel, hbel⟩ := hrel
    by_cases hlt : i < n
    · have hltz : (i : Int) < (n : Int) := by omega
      obtain ⟨b, off, x, rfl, hb, hx, hx', c0, c1, z0, z1⟩ := (HL.out.later hbel.out).get (i := i) (by rw [HN.out]; exact hlt)
      have hdrop : Hid (l.drop i = x :: l.drop (i + 1)) := by rw [← hx']; exact List.drop_eq_getElem_cons _
      clear hx hx'
      by_cases he : bts x.n = bts nm
      · have hq : (x.n.toList == nm.toList) = true := by rw [toList_bts, toList_bts, he]; simp
        have hR2 : Hid (bts x.v = R) := by have := hrel.out; rw [hdrop.out, getL, if_pos he] at this; exact this
        clear he hrel hdrop
        go_wp2
        go_ret
        exact ⟨_, rfl, hR2.out, hbel.out.alloc hbel.out.size _⟩
      · have hq : (x.n.toList == nm.toList) = false := by rw [toList_bts, toList_bts]; simpa using he
        have hR2 : Hid (getL (l.drop (i + 1)) (bts nm) = R) := by have := hrel.out; rw [hdrop.out, getL, if_neg he] at this; exact this
        clear he hrel hdrop
        go_wp2
        refine ⟨⟨i + 1, by first | rfl | simp, by omega, hR2, hidden (hbel.out.alloc hbel.out.size _)⟩, ?_⟩
        simp [intOf]
        omega
    · have hltz : ¬ (i : Int) < (n : Int) := by omega
      go_wp2
      go_ret
      refine ⟨_, rfl, ?_, hbel.out⟩
      have := hrel.out
      rw [List.drop_of_length_le (by rw [HN.out]; omega)] at this
      rw [← this]; rfl

set_option maxHeartbeats 2000000 in
theorem letterP (x : UInt8) (w : World) : Calls Tryd.prog 71 #[.int .u8 (x.toNat : Int)] w fun e w' => e = .returned (.bool (lett x)) ∧ w' = w := by
  unfold lett
  generalize x.toNat = k
  by_cases h1 : 97 ≤ k <;> by_cases h2 : k ≤ 122 <;> by_cases h3 : 65 ≤ k <;> by_cases h4 : k ≤ 90 <;> by_cases h5 : k = 95 <;> first
    | (exfalso; omega)
    | (have z1 : (97 : Int) ≤ (k : Int) ↔ 97 ≤ k := by omega
       have z2 : (k : Int) ≤ 122 ↔ k ≤ 122 := by omega
       have z3 : (65 : Int) ≤ (k : Int) ↔ 65 ≤ k := by omega
       have z4 : (k : Int) ≤ 90 ↔ k ≤ 90 := by omega
       have z5 : ((k : Int) = 95) ↔ k = 95 := by omega
       have z6 : ((k : Int) == 95) = decide (k = 95) := by rw [Bool.eq_iff_iff]; simp; omega
       go_enter Tryd.func71, Tryd.ntmps71
       go_wp2
       go_ret
       simp [h1, h2, h3, h4, h5, z6])

set_option maxHeartbeats 2000000 in
theorem digitP (x : UInt8) (w : World) : Calls Tryd.prog 72 #[.int .u8 (x.toNat : Int)] w fun e w' => e = .returned (.bool (digi x)) ∧ w' = w := by
  unfold digi
  generalize x.toNat = k
  by_cases h1 : 48 ≤ k <;> by_cases h2 : k ≤ 57 <;> first
    | (exfalso; omega)
    | (have z1 : (48 : Int) ≤ (k : Int) ↔ 48 ≤ k := by omega
       have z2 : (k : Int) ≤ 57 ↔ k ≤ 57 := by omega
       go_enter Tryd.func72, Tryd.ntmps72
       go_wp2
       go_ret
       simp [h1, h2])

/-- A text's byte at a place. -/
theorem byte_at (s : ByteArray) {i : Nat} (h : i < s.size) : ∃ x, s[i] = x ∧ (bts s)[i]? = some x ∧ (bts s).drop i = x :: (bts s).drop (i + 1) := by
  have hl : i < (bts s).length := by rw [← size_bts]; exact h
  refine ⟨s[i], rfl, ?_, ?_⟩
  · rw [List.getElem?_eq_getElem hl]; rfl
  · rw [List.drop_eq_getElem_cons hl]; rfl

set_option maxHeartbeats 2000000 in
theorem wordSizeP (s : ByteArray) (w : World) (hs : s.size ≤ 9223372036854775807) : Calls Tryd.prog 52 #[.string s] w fun e w' => e = .returned (.int .i64 (wsz true (bts s) : Int)) ∧ w' = w := by
  obtain ⟨R, hR⟩ : ∃ R, wsz true (bts s) = R := ⟨_, rfl⟩
  have HR := hidden hR
  rw [hR]
  clear hR
  go_enter Tryd.func52, Tryd.ntmps52
  go_wp2
  go_loopw [3] (fun s0 wx => ∃ i : Nat, s0 = .int .i64 (i : Int) ∧ i ≤ s.size ∧ Hid (i + wsz (i == 0) ((bts s).drop i) = R) ∧ wx = w) (fun s0 _ => s.size - (intOf s0).toNat)
  case atStart => exact ⟨0, rfl, by omega, hidden (by simpa using HR.out), rfl⟩
  case round =>
    obtain ⟨i, rfl, hi, hrel, rfl⟩ := hrel
    by_cases hlt : i < s.size
    · have hltz : (i : Int) < (s.size : Int) := by omega
      obtain ⟨x, hx, hx2, hdr⟩ := byte_at s hlt
      have HD := hidden hdr
      clear hx2 hdr
      have HA : ∀ b : Bool, lead (i == 0) x = b → Hid ((b = true → (i + 1) + wsz false ((bts s).drop (i + 1)) = R) ∧ (b = false → i = R)) := by
        intro b hb
        have := hrel.out
        rw [HD.out, wsz, hb] at this
        refine hidden ⟨fun e => ?_, fun e => ?_⟩
        · rw [e, if_pos rfl] at this; omega
        · rw [e] at this; simpa using this
      cases h1 : lett x with
      | true =>
        have hA := hidden ((HA true (by simp [lead, h1])).out.1 rfl)
        clear HA
        go_wp2_with (go_at_call 71; refine (letterP x _).mono ?_; rintro e w' ⟨rfl, rfl⟩)
        refine ⟨⟨i + 1, by first | rfl | simp, by omega, hidden (by simpa using hA.out), by first | rfl | trivial⟩, ?_⟩
        simp [intOf]
        omega
      | false =>
        by_cases h0 : 0 < i
        · have h0z : (0 : Int) < (i : Int) := by omega
          cases h2 : digi x with
          | true =>
            have hA := hidden ((HA true (by simp [lead, h1, h2]; omega)).out.1 rfl)
            clear HA
            go_wp2_with (first
              | (go_at_call 71; refine (letterP x _).mono ?_; rintro e w' ⟨rfl, rfl⟩)
              | (go_at_call 72; refine (digitP x _).mono ?_; rintro e w' ⟨rfl, rfl⟩))
            refine ⟨⟨i + 1, by first | rfl | simp, by omega, hidden (by simpa using hA.out), by first | rfl | trivial⟩, ?_⟩
            simp [intOf]
            omega
          | false =>
            have hA := hidden ((HA false (by simp [lead, h1, h2])).out.2 rfl)
            clear HA
            go_wp2_with (first
              | (go_at_call 71; refine (letterP x _).mono ?_; rintro e w' ⟨rfl, rfl⟩)
              | (go_at_call 72; refine (digitP x _).mono ?_; rintro e w' ⟨rfl, rfl⟩))
            go_ret
            exact ⟨by rw [hA.out]; rfl, rfl⟩
        · have h0z : ¬ (0 : Int) < (i : Int) := by omega
          have hA := hidden ((HA false (by simp [lead, h1]; omega)).out.2 rfl)
          clear HA
          go_wp2_with (go_at_call 71; refine (letterP x _).mono ?_; rintro e w' ⟨rfl, rfl⟩)
          go_ret
          exact ⟨by rw [hA.out]; rfl, rfl⟩
    · have hltz : ¬ (i : Int) < (s.size : Int) := by omega
      go_wp2
      go_ret
      have := hrel.out
      rw [List.drop_of_length_le (by rw [← size_bts]; omega), wsz] at this
      exact ⟨by rw [← this]; rfl, rfl⟩

theorem empty_bts (s : ByteArray) : (s.toList == ([] : List UInt8)) = decide (bts s = []) := by rw [toList_bts]; cases h : bts s <;> simp
set_option maxHeartbeats 2000000 in
theorem isNameP (s : ByteArray) (w : World) (hs : s.size ≤ 9223372036854775807) : Calls Tryd.prog 28 #[.string s] w fun e w' => e = .returned (.bool (isName (bts s))) ∧ w' = w := by
  have hW := wordSizeP s w hs
  unfold isName
  rw [← size_bts]
  obtain ⟨k, hk⟩ : ∃ k, wsz true (bts s) = k := ⟨_, rfl⟩
  rw [hk] at hW ⊢
  have e0 := empty_bts s
  clear hk
  by_cases h1 : s.size ≤ 32
  · have z1 : (s.size : Int) ≤ 32 := by omega
    by_cases h2 : k = s.size
    · have z2 : ((k : Int) == (s.size : Int)) = true := by simp [h2]
      cases h3 : decide (bts s = []) with
      | true =>
        rw [h3] at e0
        have h3' := of_decide_eq_true h3
        go_enter Tryd.func28, Tryd.ntmps28
        go_wp2_with (go_at_call 52; refine hW.mono ?_; rintro e w' ⟨rfl, rfl⟩)
        go_ret
        simp [e0, h1, h2, h3']
      | false =>
        rw [h3] at e0
        have h3' := of_decide_eq_false h3
        go_enter Tryd.func28, Tryd.ntmps28
        go_wp2_with (go_at_call 52; refine hW.mono ?_; rintro e w' ⟨rfl, rfl⟩)
        go_ret
        simp [e0, h1, h2, h3']
    · have z2 : ((k : Int) == (s.size : Int)) = false := by simp; omega
      have z3 : ¬ ((k : Int) = (s.size : Int)) := by omega
      go_enter Tryd.func28, Tryd.ntmps28
      go_wp2_with (go_at_call 52; refine hW.mono ?_; rintro e w' ⟨rfl, rfl⟩)
      go_ret
      simp [h1, h2]
  · have z1 : ¬ (s.size : Int) ≤ 32 := by omega
    clear hW
    go_enter Tryd.func28, Tryd.ntmps28
    go_wp2
    go_ret
    simp [h1]

set_option maxHeartbeats 2000000 in
theorem cmpSP (x y : ByteArray) (w : World) : Calls Tryd.prog 33 #[.string x, .string y] w fun e w' => e = .returned (.int .i64 (cmpS (bts x) (bts y))) ∧ w' = w := by
  unfold cmpS
  have e1 : Op.bytesLess x.toList y.toList = lss (bts x) (bts y) := by rw [bytesLess_lss, toList_bts, toList_bts]
  have e2 : (x.toList == y.toList) = decide (bts x = bts y) := by rw [toList_bts, toList_bts]; rw [Bool.eq_iff_iff]; simp
  cases h1 : lss (bts x) (bts y) with
  | true =>
    rw [h1] at e1
    go_enter Tryd.func33, Tryd.ntmps33
    go_wp2
    go_ret
    simp
  | false =>
    rw [h1] at e1
    cases h2 : lss (bts y) (bts x) with
    | true =>
      have h3 : decide (bts x = bts y) = false := by
        rw [decide_eq_false_iff_not]; intro e; rw [e, lss_irr] at h2; cases h2
      rw [h3] at e2
      go_enter Tryd.func33, Tryd.ntmps33
      go_wp2
      go_ret
      simp
    | false =>
      have h3 : decide (bts x = bts y) = true := decide_eq_true (lss_tri h1 h2)
      rw [h3] at e2
      go_enter Tryd.func33, Tryd.ntmps33
      go_wp2
      go_ret
      simp

set_option maxHeartbeats 2000000 in
theorem cmpIP (x y : Nat) (w : World) : Calls Tryd.prog 34 #[.int .i64 (x : Int), .int .i64 (y : Int)] w fun e w' => e = .returned (.int .i64 (if x < y then -1 else if y < x then 1 else 0)) ∧ w' = w := by
  by_cases h1 : x < y
  · have z1 : (x : Int) < (y : Int) := by omega
    go_enter Tryd.func34, Tryd.ntmps34
    go_wp2
    go_ret
    simp [h1]
  · have z1 : ¬ (x : Int) < (y : Int) := by omega
    by_cases h2 : y < x
    · have z2 : (y : Int) < (x : Int) := by omega
      go_enter Tryd.func34, Tryd.ntmps34
      go_wp2
      go_ret
      simp [h1, h2]
    · have z2 : ¬ (y : Int) < (x : Int) := by omega
      go_enter Tryd.func34, Tryd.ntmps34
      go_wp2
      go_ret
      simp [h1, h2]

def orV (p q : Int) : Int := if p ≠ 0 then p else q
set_option maxHeartbeats 2000000 in
theorem orP (g c : Nat) (p q : Int) (w : World) (c0 : w.cell? ⟨g, 0, none⟩ = some (.int .i64 p)) (c1 : w.cell? ⟨g, 1, none⟩ = some (.int .i64 q)) :
    Calls Tryd.prog 32 #[.slice (some ⟨g, 0, none⟩) 2 c] w fun e w' => e = .returned (.int .i64 (orV p q)) ∧ w' = w := by
  obtain ⟨R, hR⟩ : ∃ R, orV p q = R := ⟨_, rfl⟩
  have HR := hidden hR
  rw [hR]
  clear hR
  go_enter Tryd.func32, Tryd.ntmps32
  go_wp2
  go_loopw [8] (fun s0 wx => ∃ i : Nat, s0 = .int .i64 (i : Int) ∧ (i = 0 ∨ (i = 1 ∧ p = 0) ∨ (i = 2 ∧ p = 0 ∧ q = 0)) ∧ wx = w) (fun s0 _ => 2 - (intOf s0).toNat)
  case atStart => exact ⟨0, rfl, by omega, rfl⟩
  case round =>
    obtain ⟨i, rfl, hi, rfl⟩ := hrel
    rcases hi with rfl | ⟨rfl, hp⟩ | ⟨rfl, hp, hq⟩
    · by_cases h1 : p = 0
      · have z1 : (p == 0) = true := by simp [h1]
        have H1 := hidden h1
        clear h1
        go_wp2
        refine ⟨⟨1, by first | rfl | simp, Or.inr (Or.inl ⟨rfl, H1.out⟩), by first | rfl | trivial⟩, ?_⟩
        simp [intOf]
      · have z1 : (p == 0) = false := by simp [h1]
        have H1 := hidden h1
        clear h1
        go_wp2
        go_ret
        refine ⟨?_, rfl⟩
        have := HR.out
        rw [orV, if_pos H1.out] at this
        rw [← this]; rfl
    · have H1 := hidden hp
      clear hp
      by_cases h2 : q = 0
      · have z1 : (q == 0) = true := by simp [h2]
        have H2 := hidden h2
        clear h2
        go_wp2
        refine ⟨⟨2, by first | rfl | simp, Or.inr (Or.inr ⟨rfl, H1.out, H2.out⟩), by first | rfl | trivial⟩, ?_⟩
        simp [intOf]
      · have z1 : (q == 0) = false := by simp [h2]
        have H2 := hidden h2
        clear h2
        go_wp2
        go_ret
        refine ⟨?_, rfl⟩
        have := HR.out
        rw [orV, if_neg (fun h => h H1.out)] at this
        rw [← this]; rfl
    · have H1 := hidden hp
      have H2 := hidden hq
      clear hp hq
      go_wp2
      go_ret
      refine ⟨?_, rfl⟩
      have := HR.out
      rw [orV, if_neg (fun h => h H1.out), H2.out] at this
      rw [← this]; rfl

end Go.Proofs.YtpdffdoogobhfaaDoor
