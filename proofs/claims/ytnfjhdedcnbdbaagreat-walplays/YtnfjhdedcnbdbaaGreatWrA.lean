/-
  The document's log: numbers, what may be, a file whole.
-/
import Derived.Test.YtnfjhdedcnbdbaaGreatWlE
import Derived.Test.YtnfjhdedcnbdbaaGreatRkA
namespace Go.Proofs.YtnfjhdedcnbdbaaGreat
open Go.RowKit
set_option linter.unusedVariables false
set_option linter.unusedSimpArgs false

theorem num_step (l : List Int) (i : Nat) (hb : Byte l) (hi : i < l.length) (h8 : l.length ≤ 8) : IntKind.u64.wrap (IntKind.u64.wrap (256 * ((num (l.drop (i + 1)) : Nat) : Int)) + IntKind.u64.wrap (l[i]?.getD 0)) = ((num (l.drop i) : Nat) : Int) := by
  have hx := hb l[i] (List.getElem_mem hi)
  have e1 : l[i]?.getD 0 = l[i] := by simp [hi]
  have e2 : l.drop i = l[i] :: l.drop (i + 1) := List.drop_eq_getElem_cons hi
  have hlt := num_lt (l.drop (i + 1)) (fun z hz => hb z (List.mem_of_mem_drop hz))
  rw [List.length_drop] at hlt
  have hp : (256 : Nat) ^ (l.length - (i + 1)) ≤ 256 ^ 7 := Nat.pow_le_pow_right (by decide) (by omega)
  rw [e1, e2]
  simp only [num]
  generalize num (l.drop (i + 1)) = n at *
  rw [wrapU64 (256 * (n : Int)) (by omega) (by omega), wrapU64 l[i] (by omega) (by omega), wrapU64 _ (by omega) (by omega)]
  omega

set_option maxRecDepth 100000 in
theorem numberR (ad : Option Addr) (n c : Nat) (l : List Int) (w : World) (hs : Sl w ad n l) (hn : n ≤ 8) : Calls Tryz.prog 96 #[.slice ad n c] w fun e w' => e = .returned (.int .u64 (num l : Nat)) ∧ w' = w := by
  have HS := hidden hs
  have hl := hidden hs.len
  clear hs
  have hw : IntKind.i64.wrap ((n : Int) - 1) = (n : Int) - 1 := wrapI _ (by omega) (by omega)
  go_enter Tryz.func96, Tryz.ntmps96
  go_wp2_with fail
  go_loopw [3, 4] (fun v3 v4 wr => ∃ i : Nat, v4 = .int .i64 ((i : Int) - 1) ∧ i ≤ n ∧ v3 = .int .u64 ((num (l.drop i) : Nat) : Int) ∧ wr = w)
    (fun v3 v4 _ => match v4 with | .int _ k => (k + 1).toNat | _ => 0)
  case atStart => exact ⟨n, rfl, Nat.le_refl _, by rw [List.drop_of_length_le (by rw [hl.out]; exact Nat.le_refl _)]; rfl, rfl⟩
  case round =>
    obtain ⟨i, rfl, hi, rfl, rfl⟩ := hrel
    cases i with
    | succ i =>
      rw [show (((i + 1 : Nat) : Int) - 1) = (i : Int) by omega]
      obtain ⟨b, off, rfl, _, hcell⟩ := HS.out.at (by omega)
      have hc := hcell i (by omega)
      clear hcell
      have HO := hidden (num_step l i HS.out.byte (by rw [hl.out]; omega) (by rw [hl.out]; exact hn))
      have hin : i < n := by omega
      have hw2 : IntKind.i64.wrap ((i : Int) - 1) = (i : Int) - 1 := wrapI _ (by omega) (by omega)
      go_wp2_with fail
      refine ⟨⟨i, rfl, by omega, by rw [HO.out], trivial⟩, ?_⟩
      simp only []
      omega
    | zero =>
      rw [show (((0 : Nat) : Int) - 1) = -1 by omega]
      go_wp2_with fail
      go_ret
      exact ⟨rfl, rfl⟩

set_option maxRecDepth 100000 in
theorem mayR (cap slots : Int) (w : World) : Calls Tryz.prog 49 #[.int .i64 cap, .int .i64 slots] w fun e w' => e = .returned (.bool (okH 1 cap slots)) ∧ w' = w := by
  have hq : Hid (okH 1 cap slots = decide (0 < (1 : Int) ∧ 1024 ≤ cap ∧ cap ≤ 4194304 ∧ 1 ≤ slots ∧ slots ≤ 65536)) := rfl
  obtain ⟨q, hqq⟩ : ∃ q, okH 1 cap slots = q := ⟨_, rfl⟩
  rw [hqq] at hq ⊢
  clear hqq
  by_cases h2 : 1024 ≤ cap
  · by_cases h3 : cap ≤ 4194304
    · by_cases h4 : 1 ≤ slots
      · by_cases h5 : slots ≤ 65536
        · have hb : q = true := by rw [hq.out]; exact decide_eq_true ⟨by decide, h2, h3, h4, h5⟩
          subst hb
          go_enter Tryz.func49, Tryz.ntmps49
          go_wp2_with fail
          go_ret
          exact ⟨rfl, rfl⟩
        · have hb : q = false := by rw [hq.out]; exact decide_eq_false (fun h => h5 h.2.2.2.2)
          subst hb
          go_enter Tryz.func49, Tryz.ntmps49
          go_wp2_with fail
          go_ret
          exact ⟨rfl, rfl⟩
      · have hb : q = false := by rw [hq.out]; exact decide_eq_false (fun h => h4 h.2.2.2.1)
        subst hb
        go_enter Tryz.func49, Tryz.ntmps49
        go_wp2_with fail
        go_ret
        exact ⟨rfl, rfl⟩
    · have hb : q = false := by rw [hq.out]; exact decide_eq_false (fun h => h3 h.2.2.1)
      subst hb
      go_enter Tryz.func49, Tryz.ntmps49
      go_wp2_with fail
      go_ret
      exact ⟨rfl, rfl⟩
  · have hb : q = false := by rw [hq.out]; exact decide_eq_false (fun h => h2 h.2.1)
    subst hb
    go_enter Tryz.func49, Tryz.ntmps49
    go_wp2_with fail
    go_ret
    exact ⟨rfl, rfl⟩

theorem read_any {S : St} {i : Nat} (hon : S.on = true) : (S.read i 0 (max 0 (S.size i))).2 = S.file i := by
  by_cases hi : i < S.L.length
  · obtain ⟨x, hx⟩ : ∃ x, S.L[i]? = some x := ⟨_, List.getElem?_eq_getElem hi⟩
    have e1 : S.size i = (x.b.length : Int) := by
      unfold St.size
      rw [if_pos (by omega), Int.toNat_natCast, hx]
    have e2 : S.refuse i = 0 := by
      unfold St.refuse
      rw [if_neg (by rw [hon]; simp), if_pos (by omega)]
    unfold St.read St.file
    rw [e1, e2, if_neg (by simp), Int.toNat_natCast, hx]
    simp only
    rw [if_neg (by omega)]
    simp
  · have e2 : S.refuse i = 1 := by
      unfold St.refuse
      rw [if_neg (by rw [hon]; simp), if_neg (by omega)]
    unfold St.read St.file
    rw [e2, if_pos (by simp), List.getElem?_eq_none (by omega)]

set_option maxRecDepth 100000 in
theorem wholeR (p : Nat) (F : Nat → Prop) (S : St) (w : World) (i : Nat) (h : Dk 82 97 w p F S) (hon : S.on = true) : Calls Tryz.prog 84 #[.pointer (some ⟨p, 0, none⟩), .int .i64 (i : Int)] w fun e w' => ∃ ad m c, e = .returned (.slice ad m c) ∧ w'.ownsRow w.heap.size 5 1 (.slice ad m c) m (cells8 (S.file i)) ∧ Below w.heap.size w w' := by
  have H := hidden h
  have hsz := St.size_le h i
  have HRA := hidden (read_any (S := S) (i := i) hon)
  clear h hon
  go_enter Tryz.func84, Tryz.ntmps84
  go_wp2_with fail
  refine (sizeR p F S w i H.out).mono ?_
  rintro e w1 ⟨rfl, rfl⟩
  obtain ⟨z, hz⟩ : ∃ z, S.size i = z := ⟨_, rfl⟩
  rw [hz] at HRA hsz ⊢
  clear hz
  have key : ∀ zz : Int, max 0 z = zz → -9223372036854775808 ≤ zz ∧ zz ≤ 9223372036854775807 → Calls Tryz.prog 70 #[.pointer (some ⟨p, 0, none⟩), .int .i64 (i : Int), .int .i64 0, .int .i64 zz] w1 fun e w' => ∃ ad m c er, e = .returned (.tuple #[.slice ad m c, .int .i64 er]) ∧ w'.ownsRow w1.heap.size 5 1 (.slice ad m c) m (cells8 (S.file i)) ∧ Below w1.heap.size w1 w' := by
    intro zz hzz hb
    refine (readR p F S w1 i 0 zz H.out (by omega) hb).mono ?_
    rintro e w2 ⟨ad, m, c, rfl, h1, _, h3⟩
    rw [← hzz, HRA.out] at h1
    exact ⟨ad, m, c, _, rfl, h1, h3⟩
  have HKEY := hidden key
  clear key HRA
  go_wp2_with fail
  case inl =>
    rename_i hz
    refine (HKEY.out z (by omega) (by omega)).mono ?_
    rintro e w2 ⟨ad, m, c, er, rfl, ho, hb⟩
    have HO := hidden ho
    have HB := hidden hb
    clear ho hb
    go_wp2_with fail
    go_ret
    exact ⟨_, _, _, rfl, HO.out, HB.out⟩
  case inr =>
    rename_i hz
    refine (HKEY.out 0 (by omega) (by omega)).mono ?_
    rintro e w2 ⟨ad, m, c, er, rfl, ho, hb⟩
    have HO := hidden ho
    have HB := hidden hb
    clear ho hb
    go_wp2_with fail
    go_ret
    exact ⟨_, _, _, rfl, HO.out, HB.out⟩

end Go.Proofs.YtnfjhdedcnbdbaaGreat
