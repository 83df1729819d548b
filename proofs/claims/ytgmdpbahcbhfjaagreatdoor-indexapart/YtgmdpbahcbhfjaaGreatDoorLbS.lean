import Derived.Test.YtgmdpbahcbhfjaaGreatDoorLbM
import Derived.Test.YtgmdpbahcbhfjaaGreatDoorAny
import Derived.Test.YtgmdpbahcbhfjaaGreatDoorProg
import Derived.Laws.IdiomStrings
import Derived.BigQuiet
import Derived.Deep.CutRange
import Derived.Lib.Strings
set_option linter.unusedSimpArgs false
set_option linter.unusedVariables false
set_option maxHeartbeats 40000000
set_option maxRecDepth 100000
/-
  Labels in memory: rows of two cells each.
-/
namespace Go.Proofs.YtgmdpbahcbhfjaaGreatDoor.L
open Go.RowKit

theorem toList_bts (s : ByteArray) : s.toList = bts s := Lib.toList_data s
theorem size_bts (s : ByteArray) : s.size = (bts s).length := by rw [bts, Array.length_toList]; rfl
theorem bytesLess_lss : ∀ (x y : List UInt8), Op.bytesLess x y = lss x y
  | [], [] => by simp [Op.bytesLess, lss]
  | _ :: _, [] => by simp [Op.bytesLess, lss]
  | [], _ :: _ => by simp [Op.bytesLess, lss]
  | a :: x, b :: y => by
    rw [Op.bytesLess, bytesLess_lss x y]
    simp only [lss, List.cons_lt_cons_iff]
    by_cases h1 : a < b <;> by_cases h2 : a = b <;> by_cases h3 : x < y <;> simp [h1, h2, h3]

/-- A slice's labels: where they lie. -/
structure Ls (w : World) (ad : Option Addr) (l : List Lb) : Prop where
  sz : ∀ x ∈ l, x.n.size ≤ 9223372036854775807 ∧ x.v.size ≤ 9223372036854775807
  at' : l ≠ [] → ∃ b off, ad = some ⟨b, off, none⟩ ∧ b < w.heap.size ∧ ∀ i x, l[i]? = some x → w.cell? ⟨b, off + i * 2, none⟩ = some (.string x.n) ∧ w.cell? ⟨b, off + i * 2 + 1, none⟩ = some (.string x.v)
theorem Ls.later {w w' : World} {ad : Option Addr} {l : List Lb} (h : Ls w ad l) (hb : Below w.heap.size w w') : Ls w' ad l := by
  refine ⟨h.sz, fun h0 => ?_⟩
  obtain ⟨b, off, e, hlt, hc⟩ := h.at' h0
  refine ⟨b, off, e, Nat.lt_of_lt_of_le hlt hb.size, fun i x hx => ?_⟩
  rw [hb.cell (p := ⟨b, off + i * 2, none⟩) hlt, hb.cell (p := ⟨b, off + i * 2 + 1, none⟩) hlt]
  exact hc i x hx
theorem Ls.nil (w : World) (ad : Option Addr) : Ls w ad [] := ⟨by simp, fun h => absurd rfl h⟩
theorem Ls.get {w : World} {ad : Option Addr} {l : List Lb} (h : Ls w ad l) {i : Nat} (hi : i < l.length) : ∃ b off x, ad = some ⟨b, off, none⟩ ∧ b < w.heap.size ∧ l[i]? = some x ∧ l[i] = x ∧ w.cell? ⟨b, off + i * 2, none⟩ = some (.string x.n) ∧ w.cell? ⟨b, off + i * 2 + 1, none⟩ = some (.string x.v) ∧ x.n.size ≤ 9223372036854775807 ∧ x.v.size ≤ 9223372036854775807 := by
  obtain ⟨b, off, e, hlt, hc⟩ := h.at' (by intro h0; rw [h0] at hi; simp at hi)
  have hx : l[i]? = some l[i] := by simp [hi]
  exact ⟨b, off, l[i], e, hlt, hx, rfl, (hc i _ hx).1, (hc i _ hx).2, h.sz _ (by simp)⟩

end Go.Proofs.YtgmdpbahcbhfjaaGreatDoor.L
/-
  Get.
-/
namespace Go.Proofs.YtgmdpbahcbhfjaaGreatDoor.L
open Go.RowKit

set_option maxHeartbeats 2000000 in
theorem getP (ad : Option Addr) (c : Nat) (l : List Lb) (nm : ByteArray) (w : World) (hL : Ls w ad l) (hlen : l.length ≤ 9223372036854775807) :
    Calls Tryz.prog 57 #[.slice ad l.length c, .string nm] w fun e w' => ∃ r, e = .returned (.string r) ∧ bts r = getL l (bts nm) ∧ Below w.heap.size w w' := by
  obtain ⟨n, hn⟩ : ∃ n, l.length = n := ⟨_, rfl⟩
  rw [hn] at hlen ⊢
  obtain ⟨R, hR⟩ : ∃ R, getL l (bts nm) = R := ⟨_, rfl⟩
  have HR := hidden hR
  have HL := hidden hL
  have HN := hidden hn
  rw [hR]
  clear hR hL hn
  go_enter Tryz.func57, Tryz.ntmps57
  go_wp2
  go_loopw [9] (fun s0 wx => ∃ i : Nat, s0 = .int .i64 (i : Int) ∧ i ≤ n ∧ Hid (getL (l.drop i) (bts nm) = R) ∧ Hid (Below w.heap.size w wx)) (fun s0 _ => n - (intOf s0).toNat)
  case atStart => exact ⟨0, rfl, by omega, hidden (by simpa using HR.out), hidden (Below.refl _ _)⟩
  case round =>
    rename World => wr
    obtain ⟨i, rfl, hi, hrel, hbel⟩ := hrel
    by_cases hlt : i < n
    · have hltz : (i : Int) < (n : Int) := by omega
      obtain ⟨b, off, x, rfl, hb, hx, hx', c0, c1, z0, z1⟩ := (HL.out.later hbel.out).get (i := i) (by rw [HN.out]; exact hlt)
      have hdrop : Hid (l.drop i = x :: l.drop (i + 1)) := by rw [← hx']; exact List.drop_eq_getElem_cons _
      clear hx hx'
      by_cases he : bts x.n = bts nm
      · have hq : (x.n.toList == nm.toList) = true := by rw [toList_bts, toList_bts, he]; simp
        have hR2 : Hid (bts x.v = R) := by have := hrel.out; rw [hdrop.out, getL, if_pos he] at this; exact this
        clear he hrel hdrop
        go_wp2
        go_ret
        exact ⟨_, rfl, hR2.out, hbel.out.alloc hbel.out.size _⟩
      · have hq : (x.n.toList == nm.toList) = false := by rw [toList_bts, toList_bts]; simpa using he
        have hR2 : Hid (getL (l.drop (i + 1)) (bts nm) = R) := by have := hrel.out; rw [hdrop.out, getL, if_neg he] at this; exact this
        clear he hrel hdrop
        go_wp2
        refine ⟨⟨i + 1, by first | rfl | simp, by omega, hR2, hidden (hbel.out.alloc hbel.out.size _)⟩, ?_⟩
        simp [intOf]
        omega
    · have hltz : ¬ (i : Int) < (n : Int) := by omega
      go_wp2
      go_ret
      refine ⟨_, rfl, ?_, hbel.out⟩
      have := hrel.out
      rw [List.drop_of_length_le (by rw [HN.out]; omega)] at this
      rw [← this]; rfl

set_option maxHeartbeats 2000000 in
theorem letterP (x : UInt8) (w : World) : Calls Tryz.prog 85 #[.int .u8 (x.toNat : Int)] w fun e w' => e = .returned (.bool (lett x)) ∧ w' = w := by
  unfold lett
  generalize x.toNat = k
  by_cases h1 : 97 ≤ k <;> by_cases h2 : k ≤ 122 <;> by_cases h3 : 65 ≤ k <;> by_cases h4 : k ≤ 90 <;> by_cases h5 : k = 95 <;> first
    | (exfalso; omega)
    | (have z1 : (97 : Int) ≤ (k : Int) ↔ 97 ≤ k := by omega
       have z2 : (k : Int) ≤ 122 ↔ k ≤ 122 := by omega
       have z3 : (65 : Int) ≤ (k : Int) ↔ 65 ≤ k := by omega
       have z4 : (k : Int) ≤ 90 ↔ k ≤ 90 := by omega
       have z5 : ((k : Int) = 95) ↔ k = 95 := by omega
       have z6 : ((k : Int) == 95) = decide (k = 95) := by rw [Bool.eq_iff_iff]; simp; omega
       go_enter Tryz.func85, Tryz.ntmps85
       go_wp2
       go_ret
       simp [h1, h2, h3, h4, h5, z6])

set_option maxHeartbeats 2000000 in
theorem digitP (x : UInt8) (w : World) : Calls Tryz.prog 86 #[.int .u8 (x.toNat : Int)] w fun e w' => e = .returned (.bool (digi x)) ∧ w' = w := by
  unfold digi
  generalize x.toNat = k
  by_cases h1 : 48 ≤ k <;> by_cases h2 : k ≤ 57 <;> first
    | (exfalso; omega)
    | (have z1 : (48 : Int) ≤ (k : Int) ↔ 48 ≤ k := by omega
       have z2 : (k : Int) ≤ 57 ↔ k ≤ 57 := by omega
       go_enter Tryz.func86, Tryz.ntmps86
       go_wp2
       go_ret
       simp [h1, h2])

/-- A text's byte at a place. -/
theorem byte_at (s : ByteArray) {i : Nat} (h : i < s.size) : ∃ x, s[i] = x ∧ (bts s)[i]? = some x ∧ (bts s).drop i = x :: (bts s).drop (i + 1) := by
  have hl : i < (bts s).length := by rw [← size_bts]; exact h
  refine ⟨s[i], rfl, ?_, ?_⟩
  · rw [List.getElem?_eq_getElem hl]; rfl
  · rw [List.drop_eq_getElem_cons hl]; rfl

set_option maxHeartbeats 2000000 in
theorem wordSizeP (s : ByteArray) (w : World) (hs : s.size ≤ 9223372036854775807) : Calls Tryz.prog 70 #[.string s] w fun e w' => e = .returned (.int .i64 (wsz true (bts s) : Int)) ∧ w' = w := by
  obtain ⟨R, hR⟩ : ∃ R, wsz true (bts s) = R := ⟨_, rfl⟩
  have HR := hidden hR
  rw [hR]
  clear hR
  go_enter Tryz.func70, Tryz.ntmps70
  go_wp2
  go_loopw [3] (fun s0 wx => ∃ i : Nat, s0 = .int .i64 (i : Int) ∧ i ≤ s.size ∧ Hid (i + wsz (i == 0) ((bts s).drop i) = R) ∧ wx = w) (fun s0 _ => s.size - (intOf s0).toNat)
  case atStart => exact ⟨0, rfl, by omega, hidden (by simpa using HR.out), rfl⟩
  case round =>
    obtain ⟨i, rfl, hi, hrel, rfl⟩ := hrel
    by_cases hlt : i < s.size
    · have hltz : (i : Int) < (s.size : Int) := by omega
      obtain ⟨x, hx, hx2, hdr⟩ := byte_at s hlt
      have HD := hidden hdr
      clear hx2 hdr
      have HA : ∀ b : Bool, lead (i == 0) x = b → Hid ((b = true → (i + 1) + wsz false ((bts s).drop (i + 1)) = R) ∧ (b = false → i = R)) := by
        intro b hb
        have := hrel.out
        rw [HD.out, wsz, hb] at this
        refine hidden ⟨fun e => ?_, fun e => ?_⟩
        · rw [e, if_pos rfl] at this; omega
        · rw [e] at this; simpa using this
      cases h1 : lett x with
      | true =>
        have hA := hidden ((HA true (by simp [lead, h1])).out.1 rfl)
        clear HA
        go_wp2_with (go_at_call 85; refine (letterP x _).mono ?_; rintro e w' ⟨rfl, rfl⟩)
        refine ⟨⟨i + 1, by first | rfl | simp, by omega, hidden (by simpa using hA.out), by first | rfl | trivial⟩, ?_⟩
        simp [intOf]
        omega
      | false =>
        by_cases h0 : 0 < i
        · have h0z : (0 : Int) < (i : Int) := by omega
          cases h2 : digi x with
          | true =>
            have hA := hidden ((HA true (by simp [lead, h1, h2]; omega)).out.1 rfl)
            clear HA
            go_wp2_with (first
              | (go_at_call 85; refine (letterP x _).mono ?_; rintro e w' ⟨rfl, rfl⟩)
              | (go_at_call 86; refine (digitP x _).mono ?_; rintro e w' ⟨rfl, rfl⟩))
            refine ⟨⟨i + 1, by first | rfl | simp, by omega, hidden (by simpa using hA.out), by first | rfl | trivial⟩, ?_⟩
            simp [intOf]
            omega
          | false =>
            have hA := hidden ((HA false (by simp [lead, h1, h2])).out.2 rfl)
            clear HA
            go_wp2_with (first
              | (go_at_call 85; refine (letterP x _).mono ?_; rintro e w' ⟨rfl, rfl⟩)
              | (go_at_call 86; refine (digitP x _).mono ?_; rintro e w' ⟨rfl, rfl⟩))
            go_ret
            exact ⟨by rw [hA.out]; rfl, rfl⟩
        · have h0z : ¬ (0 : Int) < (i : Int) := by omega
          have hA := hidden ((HA false (by simp [lead, h1]; omega)).out.2 rfl)
          clear HA
          go_wp2_with (go_at_call 85; refine (letterP x _).mono ?_; rintro e w' ⟨rfl, rfl⟩)
          go_ret
          exact ⟨by rw [hA.out]; rfl, rfl⟩
    · have hltz : ¬ (i : Int) < (s.size : Int) := by omega
      go_wp2
      go_ret
      have := hrel.out
      rw [List.drop_of_length_le (by rw [← size_bts]; omega), wsz] at this
      exact ⟨by rw [← this]; rfl, rfl⟩

theorem empty_bts (s : ByteArray) : (s.toList == ([] : List UInt8)) = decide (bts s = []) := by rw [toList_bts]; cases h : bts s <;> simp
set_option maxHeartbeats 2000000 in
theorem isNameP (s : ByteArray) (w : World) (hs : s.size ≤ 9223372036854775807) : Calls Tryz.prog 49 #[.string s] w fun e w' => e = .returned (.bool (isName (bts s))) ∧ w' = w := by
  have hW := wordSizeP s w hs
  unfold isName
  rw [← size_bts]
  obtain ⟨k, hk⟩ : ∃ k, wsz true (bts s) = k := ⟨_, rfl⟩
  rw [hk] at hW ⊢
  have e0 := empty_bts s
  clear hk
  by_cases h1 : s.size ≤ 32
  · have z1 : (s.size : Int) ≤ 32 := by omega
    by_cases h2 : k = s.size
    · have z2 : ((k : Int) == (s.size : Int)) = true := by simp [h2]
      cases h3 : decide (bts s = []) with
      | true =>
        rw [h3] at e0
        have h3' := of_decide_eq_true h3
        go_enter Tryz.func49, Tryz.ntmps49
        go_wp2_with (go_at_call 70; refine hW.mono ?_; rintro e w' ⟨rfl, rfl⟩)
        go_ret
        simp [e0, h1, h2, h3']
      | false =>
        rw [h3] at e0
        have h3' := of_decide_eq_false h3
        go_enter Tryz.func49, Tryz.ntmps49
        go_wp2_with (go_at_call 70; refine hW.mono ?_; rintro e w' ⟨rfl, rfl⟩)
        go_ret
        simp [e0, h1, h2, h3']
    · have z2 : ((k : Int) == (s.size : Int)) = false := by simp; omega
      have z3 : ¬ ((k : Int) = (s.size : Int)) := by omega
      go_enter Tryz.func49, Tryz.ntmps49
      go_wp2_with (go_at_call 70; refine hW.mono ?_; rintro e w' ⟨rfl, rfl⟩)
      go_ret
      simp [h1, h2]
  · have z1 : ¬ (s.size : Int) ≤ 32 := by omega
    clear hW
    go_enter Tryz.func49, Tryz.ntmps49
    go_wp2
    go_ret
    simp [h1]

end Go.Proofs.YtgmdpbahcbhfjaaGreatDoor.L
