/-
  The data of a head.
-/
import Derived.Test.YtnfjhdedcnbdbaaGreatWlA
import Derived.Test.YtnfjhdedcnbdbaaGreatFrN
namespace Go.Proofs.YtnfjhdedcnbdbaaGreat
open Go.RowKit
set_option linter.unusedVariables false
set_option linter.unusedSimpArgs false

theorem byte_at (v i : Nat) : ((v : Int) / 2 ^ (8 * i) % 256) = ((v / 256 ^ i % 256 : Nat) : Int) := by
  have e : ((v : Int) / 2 ^ (8 * i)) = ((v / 2 ^ (8 * i) : Nat) : Int) := by simp
  rw [e, pow8]
  omega

theorem cells8_one1 (x : Int) : cells8 [x] = [.int .u8 x] := rfl
set_option maxRecDepth 100000 in
theorem appendNumberP (ad : Option Addr) (n c : Nat) (xs : List Int) (v k : Nat) (w0 w : World) (h : Bld w0 w (.slice ad n c) n xs) (hv : v < 18446744073709551616) (hk : k ≤ 8) (hb : n ≤ 140737488355000) :
    Calls Tryz.prog 81 #[.slice ad n c, .int .u64 (v : Int), .int .i64 (k : Int)] w fun e w' => ∃ ad' c', e = .returned (.slice ad' (n + k) c') ∧ Bld w0 w' (.slice ad' (n + k) c') (n + k) (xs ++ low k v) := by
  obtain ⟨i0, hi, hz0, hz1, hz2⟩ := info_parts info5
  have H := hidden h
  clear h
  go_enter Tryz.func81, Tryz.ntmps81
  go_wp2_with fail
  go_loopw [0, 7, 9] (fun v0 v7 v9 wr => ∃ (i : Nat) (a' : Option Addr) (c' : Nat), v9 = .int .i64 (i : Int) ∧ i ≤ k ∧ v0 = .slice a' (n + i) c' ∧ Bld w0 wr (.slice a' (n + i) c') (n + i) (xs ++ low i v))
    (fun v0 v7 v9 _ => match v9 with | .int _ j => k - j.toNat | _ => 0)
  case atStart => exact ⟨0, ad, c, rfl, Nat.zero_le _, rfl, by simpa [low] using H.out⟩
  case round =>
    obtain ⟨i, a', c', rfl, hik, rfl, hbl⟩ := hrel
    have HB := hidden hbl
    clear hbl
    by_cases hin : i < k
    · have hin' : (i : Int) < (k : Int) := by omega
      have HBX := hidden (byte_at v i)
      have HE : Hid (xs ++ low (i + 1) v = xs ++ low i v ++ [((v / 256 ^ i % 256 : Nat) : Int)]) := by
        show _ = _
        rw [low_snoc, List.append_assoc]
      go_wp2_with (at_builtin; refine wpList_appends _ rfl (.tmp 12) (.tmp 18) 28 rfl 5 i0 (.int .u8 0) Tryz.underlying28 hi hz0 hz1 hz2 rfl (.slice a' (n + i) c') (n + i) (xs ++ low i v) rfl (HB.out.row.alloc _) (some ⟨wr.heap.size, 0, none⟩) 1 1 [((v / 256 ^ i % 256 : Nat) : Int)] rfl (sl_lit wr [((v / 256 ^ i % 256 : Nat) : Int)] (fun z hz => by simp at hz; rw [hz]; omega) 5 (0, 0) 1 rfl _ (by rw [HBX.out]; rfl) _ rfl) (fun h => by cases h) (by omega) ?_; intro v3 w3 ho3 hc3 hm3; have H3 := hidden (HB.out.stepA ho3 hc3 hm3); obtain ⟨a3, c3, rfl⟩ := owns_form ho3; clear ho3 hc3 hm3)
      refine ⟨⟨i + 1, a3, c3, by simp, hin, rfl, by rw [HE.out]; exact H3.out⟩, ?_⟩
      simp only []
      omega
    · have hin' : ¬ (i : Int) < (k : Int) := by omega
      have e : i = k := by omega
      subst e
      go_wp2_with fail
      go_ret
      exact ⟨_, _, rfl, HB.out⟩

theorem strCells_mark : Lib.strCells ⟨#[116, 117, 114, 110, 107, 101, 121, 49]⟩ = cells8 mark := rfl
theorem owns_room {w : World} {g m b : Nat} {z : Value} (h : w.heap[g]? = some (.cells (List.replicate m z).toArray 5 (0, 0))) (hb : b ≤ g) (hm : m ≤ maxLen) : w.ownsRow b 5 1 (.slice (some ⟨g, 0, none⟩) 0 m) 0 (cells8 []) :=
  ⟨rfl, .inr ⟨g, m, _, rfl, hb, h, Nat.zero_le _, hm, by simp, by simp [cells8]⟩⟩

set_option maxRecDepth 100000 in
theorem withP (h : Hd) (ad : Option Addr) (n c : Nat) (l : List Int) (w : World) (hs : Sl w ad n l) (hno : ad = none → n = 0 ∧ c = 0) (hn : n ≤ 4194304) (hg : h.g < 18446744073709551616) (hc : h.cap ≤ 4194304) (hl : h.slots ≤ 65536) :
    Calls Tryz.prog 45 #[.agg #[.int .u64 (h.g : Int), .int .i64 (h.cap : Int), .int .i64 (h.slots : Int)], .slice ad n c] w fun e w' => ∃ ag c', e = .returned (.slice ag (24 + n) c') ∧ Bld w w' (.slice ag (24 + n) c') (24 + n) (hdata h l) := by
  obtain ⟨i0, hi, hz0, hz1, hz2⟩ := info_parts info5
  have HS := hidden hs
  have HNO := hidden hno
  clear hs hno
  obtain ⟨g, cap, slots⟩ := h
  dsimp only at hg hc hl
  go_enter Tryz.func45, Tryz.ntmps45
  go_wp2_with (first
    | (refine wpList_box_blk rfl 66 (.tmp 0) rfl [.int .u64 (g : Int), .int .i64 (cap : Int), .int .i64 (slots : Int)] rfl ?_; intro w2 B2 bl2 hz2; have HB := hidden B2; have HL := hidden bl2; clear B2 bl2 hz2)
    | (at_make; refine wpList_make_room _ rfl _ _ 28 rfl 5 i0 (.int .u8 0) Tryz.underlying28 hi hz0 hz1 hz2 rfl _ _ _ _ 0 (24 + n) rfl rfl (by omega) (by omega) (by omega) (by omega) ?_; intro w1 hr1 hs1 hb1; have HR1 := hidden (owns_room hr1 (Nat.le_refl _) (by unfold maxLen; omega)); have HB1 := hidden hb1; have HZ1 := hidden hs1; clear hr1 hb1 hs1)
    | (at_builtin; refine Go.Lib.wpList_append_own_string _ rfl (.tmp 10) (.const (.string ⟨#[116, 117, 114, 110, 107, 101, 121, 49]⟩)) 28 9 rfl w2.heap.size 5 i0 Tryz.underlying28 Tryz.underlying9 hi hz0 hz1 hz2 _ 0 _ rfl HR1.out _ rfl (by decide) (by decide) (by have := HZ1.out; omega) ?_; intro v3 w3 ho3 hg3 _; have H3 : Hid (Bld w2 w3 v3 8 mark) := ⟨owns_zero ho3, HB1.out.trans (grown_below hg3 HR1.out (by have := HZ1.out; omega)), fun k hk => (ho3.lt k hk).1⟩; obtain ⟨a3, c3, rfl⟩ := owns_form ho3; clear ho3 hg3; have B3 := HB.out.later H3.out.bel; have c0 := B3.cell 0; have c1 := B3.cell 1; have c2 := B3.cell 2; clear B3; simp only [List.getElem?_cons_succ, List.getElem?_cons_zero] at c0 c1 c2))
  refine (appendNumberP a3 8 c3 mark g 8 w2 w3 H3.out hg (by omega) (by omega)).mono ?_
  rintro e w4 ⟨a4, c4, rfl, h4⟩
  have H4 := hidden h4
  have B4 := HB.out.later H4.out.bel
  clear c0 c1 c2 h4
  have c1 := B4.cell 1
  clear B4
  simp only [List.getElem?_cons_succ, List.getElem?_cons_zero] at c1
  go_wp2_with fail
  refine (appendNumberP a4 16 c4 _ cap 4 w2 w4 H4.out (by omega) (by omega) (by omega)).mono ?_
  rintro e w5 ⟨a5, c5, rfl, h5⟩
  have H5 := hidden h5
  have B5 := HB.out.later H5.out.bel
  clear c1 h5
  have c2 := B5.cell 2
  clear B5
  simp only [List.getElem?_cons_succ, List.getElem?_cons_zero] at c2
  go_wp2_with fail
  refine (appendNumberP a5 20 c5 _ slots 4 w2 w5 H5.out (by omega) (by omega) (by omega)).mono ?_
  rintro e w6 ⟨a6, c6, rfl, h6⟩
  have H6 := hidden h6
  clear c2 h6
  go_wp2_with (at_builtin; refine wpList_appends _ rfl (.tmp 26) (.tmp 27) 28 rfl 5 i0 (.int .u8 0) Tryz.underlying28 hi hz0 hz1 hz2 rfl (.slice a6 24 c6) 24 _ rfl H6.out.row ad n c l rfl ((HS.out.later HL.out).later H6.out.bel) HNO.out (by omega) ?_; intro v7 w7 ho7 hc7 hm7; have H7 := hidden ((H6.out.step ho7 hc7 hm7).start HL.out); obtain ⟨a7, c7, rfl⟩ := owns_form ho7; clear ho7 hc7 hm7)
  go_ret
  exact ⟨_, _, rfl, H7.out⟩

end Go.Proofs.YtnfjhdedcnbdbaaGreat
