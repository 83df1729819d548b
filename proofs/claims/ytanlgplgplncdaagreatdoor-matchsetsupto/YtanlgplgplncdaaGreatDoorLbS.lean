import Derived.Test.YtanlgplgplncdaaGreatDoorLbM
import Derived.Test.YtanlgplgplncdaaGreatDoorAny
import Derived.Test.YtanlgplgplncdaaGreatDoorProg
import Derived.Laws.IdiomStrings
import Derived.BigQuiet
import Derived.Deep.CutRange
import Derived.Lib.Strings
import Derived.Shelf.Unicode.ValidAny
import Derived.Shelf.Unicode.DecodeAny
import Derived.Shelf.Strings.Builder1
/-
  Labels in memory: rows of two cells each.
-/
namespace Go.Proofs.YtanlgplgplncdaaGreatDoor.L
open Go.RowKit
set_option linter.unusedVariables false

theorem toList_bts (s : ByteArray) : s.toList = bts s := Lib.toList_data s
theorem size_bts (s : ByteArray) : s.size = (bts s).length := by rw [bts, Array.length_toList]; rfl
theorem bytesLess_lss : ∀ (x y : List UInt8), Op.bytesLess x y = lss x y
  | [], [] => by simp [Op.bytesLess, lss]
  | _ :: _, [] => by simp [Op.bytesLess, lss]
  | [], _ :: _ => by simp [Op.bytesLess, lss]
  | a :: x, b :: y => by
    rw [Op.bytesLess, bytesLess_lss x y]
    simp only [lss, List.cons_lt_cons_iff]
    by_cases h1 : a < b <;> by_cases h2 : a = b <;> by_cases h3 : x < y <;> simp [h1, h2, h3]

/-- A slice's labels: where they lie. -/
structure Ls (w : World) (ad : Option Addr) (l : List Lb) : Prop where
  sz : ∀ x ∈ l, x.n.size ≤ 9223372036854775807 ∧ x.v.size ≤ 9223372036854775807
  at' : l ≠ [] → ∃ b off, ad = some ⟨b, off, none⟩ ∧ b < w.heap.size ∧ ∀ i x, l[i]? = some x → w.cell? ⟨b, off + i * 2, none⟩ = some (.string x.n) ∧ w.cell? ⟨b, off + i * 2 + 1, none⟩ = some (.string x.v)
theorem Ls.later {w w' : World} {ad : Option Addr} {l : List Lb} (h : Ls w ad l) (hb : Below w.heap.size w w') : Ls w' ad l := by
  refine ⟨h.sz, fun h0 => ?_⟩
  obtain ⟨b, off, e, hlt, hc⟩ := h.at' h0
  refine ⟨b, off, e, Nat.lt_of_lt_of_le hlt hb.size, fun i x hx => ?_⟩
  rw [hb.cell (p := ⟨b, off + i * 2, none⟩) hlt, hb.cell (p := ⟨b, off + i * 2 + 1, none⟩) hlt]
  exact hc i x hx
theorem Ls.nil (w : World) (ad : Option Addr) : Ls w ad [] := ⟨by simp, fun h => absurd rfl h⟩
theorem Ls.get {w : World} {ad : Option Addr} {l : List Lb} (h : Ls w ad l) {i : Nat} (hi : i < l.length) : ∃ b off x, ad = some ⟨b, off, none⟩ ∧ b < w.heap.size ∧ l[i]? = some x ∧ l[i] = x ∧ w.cell? ⟨b, off + i * 2, none⟩ = some (.string x.n) ∧ w.cell? ⟨b, off + i * 2 + 1, none⟩ = some (.string x.v) ∧ x.n.size ≤ 9223372036854775807 ∧ x.v.size ≤ 9223372036854775807 := by
  obtain ⟨b, off, e, hlt, hc⟩ := h.at' (by intro h0; rw [h0] at hi; simp at hi)
  have hx : l[i]? = some l[i] := by simp [hi]
  exact ⟨b, off, l[i], e, hlt, hx, rfl, (hc i _ hx).1, (hc i _ hx).2, h.sz _ (by simp)⟩

end Go.Proofs.YtanlgplgplncdaaGreatDoor.L

/-
  Get.
-/
namespace Go.Proofs.YtanlgplgplncdaaGreatDoor.L
open Go.RowKit
set_option linter.unusedVariables false
set_option linter.unusedSimpArgs false

set_option maxHeartbeats 2000000 in
theorem getP (ad : Option Addr) (c : Nat) (l : List Lb) (nm : ByteArray) (w : World) (hL : Ls w ad l) (hlen : l.length ≤ 9223372036854775807) :
    Calls Tryz.prog 25 #[.slice ad l.length c, .string nm] w fun e w' => ∃ r, e = .returned (.string r) ∧ bts r = getL l (bts nm) ∧ Below w.heap.size w w' := by
  obtain ⟨n, hn⟩ : ∃ n, l.length = n := ⟨_, rfl⟩
  rw [hn] at hlen ⊢
  obtain ⟨R, hR⟩ : ∃ R, getL l (bts nm) = R := ⟨_, rfl⟩
  have HR := hidden hR
  have HL := hidden hL
  have HN := hidden hn
  rw [hR]
  clear hR hL hn
  go_enter Tryz.func25, Tryz.ntmps25
  go_wp2
  go_loopw [9] (fun s0 wx => ∃ i : Nat, s0 = .int .i64 (i : Int) ∧ i ≤ n ∧ Hid (getL (l.drop i) (bts nm) = R) ∧ Hid (Below w.heap.size w wx)) (fun s0 _ => n - (intOf s0).toNat)
  case atStart => exact ⟨0, rfl, by omega, hidden (by simpa using HR.out), hidden (Below.refl _ _)⟩
  case round =>
    rename World => wr
    obtain ⟨i, rfl, hi, hrel, hbel⟩ := hrel
    by_cases hlt : i < n
    · have hltz : (i : Int) < (n : Int) := by omega
      obtain ⟨b, off, x, rfl, hb, hx, hx', c0, c1, z0, z1⟩ := (HL.out.later hbel.out).get (i := i) (by rw [HN.out]; exact hlt)
      have hdrop : Hid (l.drop i = x :: l.drop (i + 1)) := by rw [← hx']; exact List.drop_eq_getElem_cons _
      clear hx hx'
      by_cases he : bts x.n = bts nm
      · have hq : (x.n.toList == nm.toList) = true := by rw [toList_bts, toList_bts, he]; simp
        have hR2 : Hid (bts x.v = R) := by have := hrel.out; rw [hdrop.out, getL, if_pos he] at this; exact this
        clear he hrel hdrop
        go_wp2
        go_ret
        exact ⟨_, rfl, hR2.out, hbel.out.alloc hbel.out.size _⟩
      · have hq : (x.n.toList == nm.toList) = false := by rw [toList_bts, toList_bts]; simpa using he
        have hR2 : Hid (getL (l.drop (i + 1)) (bts nm) = R) := by have := hrel.out; rw [hdrop.out, getL, if_neg he] at this; exact this
        clear he hrel hdrop
        go_wp2
        refine ⟨⟨i + 1, by first | rfl | simp, by omega, hR2, hidden (hbel.out.alloc hbel.out.size _)⟩, ?_⟩
        simp [intOf]
        omega
    · have hltz : ¬ (i : Int) < (n : Int) := by omega
      go_wp2
      go_ret
      refine ⟨_, rfl, ?_, hbel.out⟩
      have := hrel.out
      rw [List.drop_of_length_le (by rw [HN.out]; omega)] at this
      rw [← this]; rfl

set_option maxHeartbeats 2000000 in
theorem letterP (x : UInt8) (w : World) : Calls Tryz.prog 113 #[.int .u8 (x.toNat : Int)] w fun e w' => e = .returned (.bool (lett x)) ∧ w' = w := by
  unfold lett
  generalize x.toNat = k
  by_cases h1 : 97 ≤ k <;> by_cases h2 : k ≤ 122 <;> by_cases h3 : 65 ≤ k <;> by_cases h4 : k ≤ 90 <;> by_cases h5 : k = 95 <;> first
    | (exfalso; omega)
    | (have z1 : (97 : Int) ≤ (k : Int) ↔ 97 ≤ k := by omega
       have z2 : (k : Int) ≤ 122 ↔ k ≤ 122 := by omega
       have z3 : (65 : Int) ≤ (k : Int) ↔ 65 ≤ k := by omega
       have z4 : (k : Int) ≤ 90 ↔ k ≤ 90 := by omega
       have z5 : ((k : Int) = 95) ↔ k = 95 := by omega
       have z6 : ((k : Int) == 95) = decide (k = 95) := by rw [Bool.eq_iff_iff]; simp; omega
       go_enter Tryz.func113, Tryz.ntmps113
       go_wp2
       go_ret
       simp [h1, h2, h3, h4, h5, z6])

set_option maxHeartbeats 2000000 in
theorem digitP (x : UInt8) (w : World) : Calls Tryz.prog 114 #[.int .u8 (x.toNat : Int)] w fun e w' => e = .returned (.bool (digi x)) ∧ w' = w := by
  unfold digi
  generalize x.toNat = k
  by_cases h1 : 48 ≤ k <;> by_cases h2 : k ≤ 57 <;> first
    | (exfalso; omega)
    | (have z1 : (48 : Int) ≤ (k : Int) ↔ 48 ≤ k := by omega
       have z2 : (k : Int) ≤ 57 ↔ k ≤ 57 := by omega
       go_enter Tryz.func114, Tryz.ntmps114
       go_wp2
       go_ret
       simp [h1, h2])

/-- A text's byte at a place. -/
theorem byte_at (s : ByteArray) {i : Nat} (h : i < s.size) : ∃ x, s[i] = x ∧ (bts s)[i]? = some x ∧ (bts s).drop i = x :: (bts s).drop (i + 1) := by
  have hl : i < (bts s).length := by rw [← size_bts]; exact h
  refine ⟨s[i], rfl, ?_, ?_⟩
  · rw [List.getElem?_eq_getElem hl]; rfl
  · rw [List.drop_eq_getElem_cons hl]; rfl

set_option maxHeartbeats 2000000 in
theorem wordSizeP (s : ByteArray) (w : World) (hs : s.size ≤ 9223372036854775807) : Calls Tryz.prog 101 #[.string s] w fun e w' => e = .returned (.int .i64 (wsz true (bts s) : Int)) ∧ w' = w := by
  obtain ⟨R, hR⟩ : ∃ R, wsz true (bts s) = R := ⟨_, rfl⟩
  have HR := hidden hR
  rw [hR]
  clear hR
  go_enter Tryz.func101, Tryz.ntmps101
  go_wp2
  go_loopw [3] (fun s0 wx => ∃ i : Nat, s0 = .int .i64 (i : Int) ∧ i ≤ s.size ∧ Hid (i + wsz (i == 0) ((bts s).drop i) = R) ∧ wx = w) (fun s0 _ => s.size - (intOf s0).toNat)
  case atStart => exact ⟨0, rfl, by omega, hidden (by simpa using HR.out), rfl⟩
  case round =>
    obtain ⟨i, rfl, hi, hrel, rfl⟩ := hrel
    by_cases hlt : i < s.size
    · have hltz : (i : Int) < (s.size : Int) := by omega
      obtain ⟨x, hx, hx2, hdr⟩ := byte_at s hlt
      have HD := hidden hdr
      clear hx2 hdr
      have HA : ∀ b : Bool, lead (i == 0) x = b → Hid ((b = true → (i + 1) + wsz false ((bts s).drop (i + 1)) = R) ∧ (b = false → i = R)) := by
        intro b hb
        have := hrel.out
        rw [HD.out, wsz, hb] at this
        refine hidden ⟨fun e => ?_, fun e => ?_⟩
        · rw [e, if_pos rfl] at this; omega
        · rw [e] at this; simpa using this
      cases h1 : lett x with
      | true =>
        have hA := hidden ((HA true (by simp [lead, h1])).out.1 rfl)
        clear HA
        go_wp2_with (go_at_call 113; refine (letterP x _).mono ?_; rintro e w' ⟨rfl, rfl⟩)
        refine ⟨⟨i + 1, by first | rfl | simp, by omega, hidden (by simpa using hA.out), by first | rfl | trivial⟩, ?_⟩
        simp [intOf]
        omega
      | false =>
        by_cases h0 : 0 < i
        · have h0z : (0 : Int) < (i : Int) := by omega
          cases h2 : digi x with
          | true =>
            have hA := hidden ((HA true (by simp [lead, h1, h2]; omega)).out.1 rfl)
            clear HA
            go_wp2_with (first
              | (go_at_call 113; refine (letterP x _).mono ?_; rintro e w' ⟨rfl, rfl⟩)
              | (go_at_call 114; refine (digitP x _).mono ?_; rintro e w' ⟨rfl, rfl⟩))
            refine ⟨⟨i + 1, by first | rfl | simp, by omega, hidden (by simpa using hA.out), by first | rfl | trivial⟩, ?_⟩
            simp [intOf]
            omega
          | false =>
            have hA := hidden ((HA false (by simp [lead, h1, h2])).out.2 rfl)
            clear HA
            go_wp2_with (first
              | (go_at_call 113; refine (letterP x _).mono ?_; rintro e w' ⟨rfl, rfl⟩)
              | (go_at_call 114; refine (digitP x _).mono ?_; rintro e w' ⟨rfl, rfl⟩))
            go_ret
            exact ⟨by rw [hA.out]; rfl, rfl⟩
        · have h0z : ¬ (0 : Int) < (i : Int) := by omega
          have hA := hidden ((HA false (by simp [lead, h1]; omega)).out.2 rfl)
          clear HA
          go_wp2_with (go_at_call 113; refine (letterP x _).mono ?_; rintro e w' ⟨rfl, rfl⟩)
          go_ret
          exact ⟨by rw [hA.out]; rfl, rfl⟩
    · have hltz : ¬ (i : Int) < (s.size : Int) := by omega
      go_wp2
      go_ret
      have := hrel.out
      rw [List.drop_of_length_le (by rw [← size_bts]; omega), wsz] at this
      exact ⟨by rw [← this]; rfl, rfl⟩

theorem empty_bts (s : ByteArray) : (s.toList == ([] : List UInt8)) = decide (bts s = []) := by rw [toList_bts]; cases h : bts s <;> simp
set_option maxHeartbeats 2000000 in
theorem isNameP (s : ByteArray) (w : World) (hs : s.size ≤ 9223372036854775807) : Calls Tryz.prog 92 #[.string s] w fun e w' => e = .returned (.bool (isName (bts s))) ∧ w' = w := by
  have hW := wordSizeP s w hs
  unfold isName
  rw [← size_bts]
  obtain ⟨k, hk⟩ : ∃ k, wsz true (bts s) = k := ⟨_, rfl⟩
  rw [hk] at hW ⊢
  have e0 := empty_bts s
  clear hk
  by_cases h1 : s.size ≤ 32
  · have z1 : (s.size : Int) ≤ 32 := by omega
    by_cases h2 : k = s.size
    · have z2 : ((k : Int) == (s.size : Int)) = true := by simp [h2]
      cases h3 : decide (bts s = []) with
      | true =>
        rw [h3] at e0
        have h3' := of_decide_eq_true h3
        go_enter Tryz.func92, Tryz.ntmps92
        go_wp2_with (go_at_call 101; refine hW.mono ?_; rintro e w' ⟨rfl, rfl⟩)
        go_ret
        simp [e0, h1, h2, h3']
      | false =>
        rw [h3] at e0
        have h3' := of_decide_eq_false h3
        go_enter Tryz.func92, Tryz.ntmps92
        go_wp2_with (go_at_call 101; refine hW.mono ?_; rintro e w' ⟨rfl, rfl⟩)
        go_ret
        simp [e0, h1, h2, h3']
    · have z2 : ((k : Int) == (s.size : Int)) = false := by simp; omega
      have z3 : ¬ ((k : Int) = (s.size : Int)) := by omega
      go_enter Tryz.func92, Tryz.ntmps92
      go_wp2_with (go_at_call 101; refine hW.mono ?_; rintro e w' ⟨rfl, rfl⟩)
      go_ret
      simp [h1, h2]
  · have z1 : ¬ (s.size : Int) ≤ 32 := by omega
    clear hW
    go_enter Tryz.func92, Tryz.ntmps92
    go_wp2
    go_ret
    simp [h1]

def orV (p q : Int) : Int := if p ≠ 0 then p else q
end Go.Proofs.YtanlgplgplncdaaGreatDoor.L

/-
  The shelf's contracts at this seat, in plain words (lay-plain.mjs, out of the seats of MatchBack and PatternParses, by their numbers).
-/
namespace Go.Proofs
open Go.Shelf
def Tryz.laysValid_ren : Go.Shelf.Ren := ⟨fun | 196 => 102 | 259 => 115 | n => n, fun | 9 => 9 | 4 => 4 | 3 => 3 | 5 => 5 | 12 => 12 | 119 => 183 | 0 => 0 | 46 => 184 | 139 => 187 | 138 => 186 | 53 => 160 | n => n, fun | 3 => 0 | 4 => 1 | n => n⟩
theorem Tryz.laysValid : Go.Proofs.Lays.n196 Tryz.prog Tryz.laysValid_ren := {
  mixed := by kernel_rfl
  f196 := Tryz.func102.trans (congrArg some (by kernel_rfl))
  f259 := Tryz.func115.trans (congrArg some (by kernel_rfl))
  t0 := Tryz.underlying0
  a0 := Tryz.isAgg0
  z0 := Tryz.sizeOf0
  v0 := Tryz.zeroValue0
  t3 := Tryz.underlying3
  a3 := Tryz.isAgg3
  z3 := Tryz.sizeOf3
  v3 := Tryz.zeroValue3
  t4 := Tryz.underlying4
  a4 := Tryz.isAgg4
  z4 := Tryz.sizeOf4
  v4 := Tryz.zeroValue4
  t5 := Tryz.underlying5
  a5 := Tryz.isAgg5
  z5 := Tryz.sizeOf5
  v5 := Tryz.zeroValue5
  t9 := Tryz.underlying9
  a9 := Tryz.isAgg9
  z9 := Tryz.sizeOf9
  v9 := Tryz.zeroValue9
  t12 := Tryz.underlying12
  a12 := Tryz.isAgg12
  z12 := Tryz.sizeOf12
  v12 := Tryz.zeroValue12
  t46 := Tryz.underlying184
  a46 := Tryz.isAgg184
  z46 := Tryz.sizeOf184
  v46 := Tryz.zeroValue184
  t53 := Tryz.underlying160
  a53 := Tryz.isAgg160
  z53 := Tryz.sizeOf160
  v53 := Tryz.zeroValue160
  t119 := Tryz.underlying183
  a119 := Tryz.isAgg183
  z119 := Tryz.sizeOf183
  t138 := Tryz.underlying186
  a138 := Tryz.isAgg186
  z138 := Tryz.sizeOf186
  v138 := Tryz.zeroValue186
  t139 := Tryz.underlying187
  a139 := Tryz.isAgg187
  z139 := Tryz.sizeOf187
  v139 := Tryz.zeroValue187
  g3 := by kernel_rfl
  g4 := by kernel_rfl }
def Tryz.lays169_ren : Go.Shelf.Ren := ⟨fun | 169 => 30 | n => n, fun | 70 => 72 | 9 => 9 | 0 => 0 | 72 => 75 | 37 => 73 | 127 => 103 | 3 => 3 | 5 => 5 | n => n, fun | n => n⟩
theorem Tryz.lays169 : Go.Proofs.Lays.n169 Tryz.prog Tryz.lays169_ren := {
  mixed := by kernel_rfl
  f169 := Tryz.func30.trans (congrArg some (by kernel_rfl))
  t0 := Tryz.underlying0
  a0 := Tryz.isAgg0
  z0 := Tryz.sizeOf0
  v0 := Tryz.zeroValue0
  t3 := Tryz.underlying3
  a3 := Tryz.isAgg3
  z3 := Tryz.sizeOf3
  v3 := Tryz.zeroValue3
  t9 := Tryz.underlying9
  a9 := Tryz.isAgg9
  z9 := Tryz.sizeOf9
  v9 := Tryz.zeroValue9
  t37 := Tryz.underlying73
  a37 := Tryz.isAgg73
  z37 := Tryz.sizeOf73
  v37 := Tryz.zeroValue73
  t70 := Tryz.underlying72
  a70 := Tryz.isAgg72
  z70 := Tryz.sizeOf72
  v70 := Tryz.zeroValue72
  t72 := Tryz.underlying75
  a72 := Tryz.isAgg75
  z72 := Tryz.sizeOf75
  v72 := Tryz.zeroValue75
  t127 := Tryz.underlying103
  a127 := Tryz.isAgg103
  z127 := Tryz.sizeOf103
  v127 := Tryz.zeroValue103 }
def Tryz.lays197_ren : Go.Shelf.Ren := ⟨fun | 197 => 77 | 260 => 94 | n => n, fun | 9 => 9 | 21 => 21 | 3 => 3 | 4 => 4 | 5 => 5 | 105 => 143 | 119 => 183 | 0 => 0 | 46 => 184 | 139 => 187 | 138 => 186 | n => n, fun | 3 => 0 | 4 => 1 | n => n⟩
theorem Tryz.lays197 : Go.Proofs.Lays.n197 Tryz.prog Tryz.lays197_ren := {
  mixed := by kernel_rfl
  f197 := Tryz.func77.trans (congrArg some (by kernel_rfl))
  f260 := Tryz.func94.trans (congrArg some (by kernel_rfl))
  t0 := Tryz.underlying0
  a0 := Tryz.isAgg0
  z0 := Tryz.sizeOf0
  v0 := Tryz.zeroValue0
  t3 := Tryz.underlying3
  a3 := Tryz.isAgg3
  z3 := Tryz.sizeOf3
  v3 := Tryz.zeroValue3
  t4 := Tryz.underlying4
  a4 := Tryz.isAgg4
  z4 := Tryz.sizeOf4
  v4 := Tryz.zeroValue4
  t5 := Tryz.underlying5
  a5 := Tryz.isAgg5
  z5 := Tryz.sizeOf5
  v5 := Tryz.zeroValue5
  t9 := Tryz.underlying9
  a9 := Tryz.isAgg9
  z9 := Tryz.sizeOf9
  v9 := Tryz.zeroValue9
  t21 := Tryz.underlying21
  a21 := Tryz.isAgg21
  z21 := Tryz.sizeOf21
  v21 := Tryz.zeroValue21
  t46 := Tryz.underlying184
  a46 := Tryz.isAgg184
  z46 := Tryz.sizeOf184
  v46 := Tryz.zeroValue184
  t105 := Tryz.underlying143
  a105 := Tryz.isAgg143
  z105 := Tryz.sizeOf143
  v105 := Tryz.zeroValue143
  t119 := Tryz.underlying183
  a119 := Tryz.isAgg183
  z119 := Tryz.sizeOf183
  t138 := Tryz.underlying186
  a138 := Tryz.isAgg186
  z138 := Tryz.sizeOf186
  v138 := Tryz.zeroValue186
  t139 := Tryz.underlying187
  a139 := Tryz.isAgg187
  z139 := Tryz.sizeOf187
  v139 := Tryz.zeroValue187
  g3 := by kernel_rfl
  g4 := by kernel_rfl }
end Go.Proofs

/-
  isValue, Right.
-/
namespace Go.Proofs.YtanlgplgplncdaaGreatDoor.L
open Go.RowKit
set_option linter.unusedVariables false
set_option linter.unusedSimpArgs false

/-- Go's tables of UTF-8 lie below B, as its text lays them. -/
def Tb (B : Nat) (w : World) : Prop := ∃ W0, W0.heap.size = B ∧ Lib.Utf8Tabs 0 1 W0 ∧ Below B W0 w
theorem Tb.size {B : Nat} {w : World} (h : Tb B w) : B ≤ w.heap.size := by
  obtain ⟨W0, e, _, hb⟩ := h
  rw [← e]; exact hb.size
theorem Tb.below {B B' : Nat} {w w' : World} (h : Tb B w) (hb : Below B' w w') (hB : B ≤ B') : Tb B w' := by
  obtain ⟨W0, e, ht, h0⟩ := h
  exact ⟨W0, e, ht, h0.trans (hb.mono hB)⟩
theorem Tb.later {B : Nat} {w w' : World} (h : Tb B w) (hb : Below w.heap.size w w') : Tb B w' := h.below hb h.size
theorem Tb.chg {B : Nat} {F : Nat → Prop} {w w' : World} (h : Tb B w) (hc : Chg F w w') (hF : ∀ i, F i → B ≤ i) : Tb B w' := h.below (hc.below h.size hF) (Nat.le_refl _)
theorem Tb.tabs {B : Nat} {w : World} (h : Tb B w) : Lib.Utf8Tabs 0 1 w := by
  obtain ⟨W0, e, ht, h0⟩ := h
  rw [← e] at h0
  exact Utf8Tabs_below ht h0
theorem Tb.new {w : World} (h : Lib.Utf8Tabs 0 1 w) : Tb w.heap.size w := ⟨w, rfl, h, Below.refl _ _⟩

theorem validP (B : Nat) (s : ByteArray) (w : World) (hs : s.size ≤ 9223372036854775807) (hT : Tb B w) : Calls Tryz.prog 102 #[.string s] w fun e w' => e = .returned (.bool (Lib.validD (bts s))) ∧ Below w.heap.size w w' :=
  Any.utf8_ValidString Tryz.laysValid s w hs hT.tabs

set_option maxHeartbeats 2000000 in
theorem isValueP (B : Nat) (s : ByteArray) (w : World) (hs : s.size ≤ 9223372036854775807) (hT : Tb B w) : Calls Tryz.prog 93 #[.string s] w fun e w' => e = .returned (.bool (isVal (bts s))) ∧ Below w.heap.size w w' := by
  have hV := validP B s w hs hT
  clear hT
  unfold isVal
  rw [← size_bts]
  obtain ⟨q, hq⟩ : ∃ q, Lib.validD (bts s) = q := ⟨_, rfl⟩
  rw [hq] at hV ⊢
  clear hq
  have e0 := empty_bts s
  cases h1 : decide (bts s = []) with
  | true =>
    rw [h1] at e0
    have h1' := of_decide_eq_true h1
    clear hV
    go_enter Tryz.func93, Tryz.ntmps93
    go_wp2
    go_ret
    refine ⟨?_, Below.refl _ _⟩
    simp [h1', e0]
  | false =>
    rw [h1] at e0
    have h1' := of_decide_eq_false h1
    by_cases h2 : s.size ≤ 64
    · have z2 : (s.size : Int) ≤ 64 := by omega
      go_enter Tryz.func93, Tryz.ntmps93
      go_wp2_with (go_at_call 102; refine hV.mono ?_; rintro e w' ⟨rfl, hb⟩)
      go_ret
      refine ⟨?_, hb⟩
      simp [h1', h2, e0]
    · have z2 : ¬ (s.size : Int) ≤ 64 := by omega
      clear hV
      go_enter Tryz.func93, Tryz.ntmps93
      go_wp2
      go_ret
      refine ⟨?_, Below.refl _ _⟩
      simp [h1', h2, e0]

def prevAt (l : List Lb) (i : Nat) : Option Lb := if i = 0 then none else l[i - 1]?
def ltO : Option Lb → Lb → Bool
  | none, _ => true
  | some p, x => ltN p x
theorem rightFrom_cons (o : Option Lb) (x : Lb) (t : List Lb) : rightFrom o (x :: t) = (x.fits && ltO o x && rightFrom (some x) t) := by
  cases o <;> simp [rightFrom, ltO]
theorem prevAt_succ (l : List Lb) (i : Nat) {x : Lb} (h : l[i]? = some x) : prevAt l (i + 1) = some x := by simp [prevAt, h]

/-- Right's answer. -/
def errL (b : Bool) : Int := bif b then 0 else 70

set_option maxHeartbeats 4000000 in
theorem rightP (B : Nat) (ad : Option Addr) (c : Nat) (l : List Lb) (w : World) (hL : Ls w ad l) (hlen : l.length ≤ 9223372036854775807) (hT : Tb B w) :
    Calls Tryz.prog 76 #[.slice ad l.length c] w fun e w' => e = .returned (.int .i64 (errL (right l))) ∧ Below w.heap.size w w' := by
  obtain ⟨n, hn⟩ : ∃ n, l.length = n := ⟨_, rfl⟩
  unfold right
  rw [hn] at hlen ⊢
  obtain ⟨R, hR⟩ : ∃ R, rightFrom none l = R := ⟨_, rfl⟩
  have HR := hidden hR
  have HL := hidden hL
  have HN := hidden hn
  have HT := hidden hT
  rw [hR]
  clear hR hL hn hT
  by_cases h1 : n = 0
  · have z1 : ((n : Int) == 0) = true := by simp [h1]
    have H1 := hidden h1
    clear h1
    go_enter Tryz.func76, Tryz.ntmps76
    go_wp2
    go_ret
    exact ⟨by rw [H1.out]; rfl, Below.refl _ _⟩
  · have z1 : ((n : Int) == 0) = false := by simp; omega
    by_cases h2 : 8 < n
    · have z2 : (8 : Int) < (n : Int) := by omega
      go_enter Tryz.func76, Tryz.ntmps76
      go_wp2
      go_ret
      exact ⟨by rw [show decide (n ≤ 8) = false from decide_eq_false (by omega)]; simp [errL], Below.refl _ _⟩
    · have z2 : ¬ (8 : Int) < (n : Int) := by omega
      have hend : Hid ((decide (1 ≤ n) && decide (n ≤ 8) && R) = R) := by
        show _ = _
        rw [decide_eq_true (by omega : 1 ≤ n), decide_eq_true (by omega : n ≤ 8)]; simp
      rw [hend.out]
      clear hend
      go_enter Tryz.func76, Tryz.ntmps76
      go_wp2
      go_loopw [15] (fun s0 wx => ∃ i : Nat, s0 = .int .i64 (i : Int) ∧ i ≤ n ∧ Hid (rightFrom (prevAt l i) (l.drop i) = R) ∧ Hid (Below w.heap.size w wx)) (fun s0 _ => n - (intOf s0).toNat)
      case atStart => exact ⟨0, rfl, by omega, hidden (by simpa [prevAt] using HR.out), hidden (Below.refl _ _)⟩
      case round =>
        rename World => wr
        obtain ⟨i, rfl, hi, hrel, hbel⟩ := hrel
        by_cases hlt : i < n
        · have hltz : (i : Int) < (n : Int) := by omega
          obtain ⟨b, off, x, rfl, hb, hx, hx', c0, c1, y0, y1⟩ := (HL.out.later hbel.out).get (i := i) (by rw [HN.out]; exact hlt)
          have hdrop : Hid (l.drop i = x :: l.drop (i + 1)) := by rw [← hx']; exact List.drop_eq_getElem_cons _
          have HX := hidden hx
          clear hx hx'
          have hR1 : Hid ((x.fits && ltO (prevAt l i) x && rightFrom (some x) (l.drop (i + 1))) = R) := by
            have := hrel.out; rw [hdrop.out, rightFrom_cons] at this; exact this
          have HBa := hidden (hbel.out.alloc hbel.out.size (.cells #[.string x.n, .string x.v] 56))
          cases hN : isName (bts x.n) with
          | false =>
            have kN : ∀ w, Calls Tryz.prog 92 #[.string x.n] w fun e w' => e = .returned (.bool false) ∧ w' = w := fun w => by rw [← hN]; exact isNameP x.n w y0
            have hR2 : Hid (R = false) := hidden (by have := hR1.out; rw [Lb.fits, hN] at this; rw [← this]; simp)
            clear hR1 hrel hdrop hN
            go_wp2_with (go_at_call 92; refine (kN _).mono ?_; rintro e w' ⟨rfl, rfl⟩)
            go_ret
            exact ⟨by rw [hR2.out]; rfl, HBa.out⟩
          | true =>
            have kN : ∀ w, Calls Tryz.prog 92 #[.string x.n] w fun e w' => e = .returned (.bool true) ∧ w' = w := fun w => by rw [← hN]; exact isNameP x.n w y0
            have kV := isValueP B x.v (wr.alloc (.cells #[.string x.n, .string x.v] 56)) y1 ((HT.out.later hbel.out).later ((Below.refl _ _).alloc (Nat.le_refl _) _))
            cases hV : isVal (bts x.v) with
            | false =>
              have hR2 : Hid (R = false) := hidden (by have := hR1.out; rw [Lb.fits, hV] at this; rw [← this]; simp)
              rw [hV] at kV
              clear hR1 hrel hdrop hN hV
              go_wp2_with (first
                | (go_at_call 92; refine (kN _).mono ?_; rintro e w' ⟨rfl, rfl⟩)
                | (go_at_call 93; refine kV.mono ?_))
              rintro e w5 ⟨rfl, hb5⟩
              have H5 := hidden hb5
              clear hb5
              go_wp2
              go_ret
              exact ⟨by rw [hR2.out]; rfl, HBa.out.trans (H5.out.mono HBa.out.size)⟩
            | true =>
              have hR2 : Hid ((ltO (prevAt l i) x && rightFrom (some x) (l.drop (i + 1))) = R) := hidden (by have := hR1.out; rw [Lb.fits, hN, hV] at this; simpa using this)
              rw [hV] at kV
              clear hR1 hrel hdrop hN hV
              go_wp2_with (first
                | (go_at_call 92; refine (kN _).mono ?_; rintro e w' ⟨rfl, rfl⟩)
                | (go_at_call 93; refine kV.mono ?_))
              rintro e w5 ⟨rfl, hb5⟩
              have H5 := hidden (HBa.out.trans (hb5.mono HBa.out.size))
              have g0 : w5.cell? ⟨wr.heap.size, 0, none⟩ = some (.string x.n) := by rw [hb5.cell (p := ⟨wr.heap.size, 0, none⟩) (by simp)]; simp
              have hbw : Hid (Below wr.heap.size wr w5) := ((Below.refl _ _).alloc (Nat.le_refl _) _).trans (hb5.mono (by simp))
              clear hb5
              by_cases h0 : i = 0
              · have z0 : ¬ (0 : Int) < (i : Int) := by omega
                have z0' : decide ((0 : Int) < (i : Int)) = false := decide_eq_false z0
                have hR3 : Hid (rightFrom (prevAt l (i + 1)) (l.drop (i + 1)) = R) := by
                  show rightFrom (prevAt l (i + 1)) (l.drop (i + 1)) = R
                  have := hR2.out
                  rw [show prevAt l i = none from if_pos h0] at this
                  rw [prevAt_succ l i HX.out]
                  simpa [ltO] using this
                subst h0
                clear hR2
                go_wp2
                go_quiet (fail)
                go_wp2
                refine ⟨⟨1, by first | rfl | simp, by omega, hR3, hidden (below_drewN H5.out _)⟩, ?_⟩
                simp [intOf]
                omega
              · have z0 : (0 : Int) < (i : Int) := by omega
                have z0' : decide ((0 : Int) < (i : Int)) = true := decide_eq_true z0
                obtain ⟨b2, off2, p, e2, hb2, hp, hp', p0, p1, q0, q1⟩ := (HL.out.later H5.out).get (i := i - 1) (by rw [HN.out]; omega)
                obtain ⟨rfl, rfl⟩ : b = b2 ∧ off = off2 := by injection e2 with e2; injection e2 with e3 e4; exact ⟨e3, e4⟩
                have hR3 : Hid ((ltN p x && rightFrom (prevAt l (i + 1)) (l.drop (i + 1))) = R) := by
                  have := hR2.out
                  rw [show prevAt l i = some p from by rw [prevAt, if_neg h0]; exact hp] at this
                  rw [prevAt_succ l i HX.out]
                  exact this
                obtain ⟨j, rfl⟩ : ∃ j, i = j + 1 := ⟨i - 1, by omega⟩
                simp only [Nat.add_sub_cancel] at p0 p1
                have eL : Op.bytesLess p.n.toList x.n.toList = ltN p x := by rw [bytesLess_lss, toList_bts, toList_bts]; rfl
                clear e2 hp hp' hR2 h0
                have z3 : ((j : Int) + 1 - 1) = (j : Int) := by omega
                have z4 : (j : Int) < (n : Int) := by omega
                have z5 : (0 : Int) ≤ (j : Int) := by omega
                have z6 : j < n := by omega
                cases hl : ltN p x with
                | true =>
                  rw [hl] at eL
                  have hR4 : Hid (rightFrom (prevAt l (j + 1 + 1)) (l.drop (j + 1 + 1)) = R) := hidden (by have := hR3.out; rw [hl] at this; simpa using this)
                  clear hR3 hl
                  go_wp2
                  go_quiet (fail)
                  go_wp2
                  refine ⟨⟨j + 1 + 1, by first | rfl | simp, by omega, hR4, hidden (below_drewN H5.out _)⟩, ?_⟩
                  simp [intOf]
                  omega
                | false =>
                  rw [hl] at eL
                  have hR4 : Hid (R = false) := hidden (by have := hR3.out; rw [hl] at this; rw [← this]; simp)
                  clear hR3 hl
                  go_wp2
                  go_quiet (fail)
                  go_wp2
                  go_ret
                  exact ⟨by rw [hR4.out]; rfl, below_drewN H5.out _⟩
        · have hltz : ¬ (i : Int) < (n : Int) := by omega
          go_wp2
          go_ret
          refine ⟨?_, hbel.out⟩
          have := hrel.out
          rw [List.drop_of_length_le (by rw [HN.out]; omega)] at this
          rw [← this]; cases prevAt l i <;> rfl

end Go.Proofs.YtanlgplgplncdaaGreatDoor.L
