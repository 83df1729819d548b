import Derived.Test.YtfhhcpcedfgceaaNumF
namespace Go.Proofs.Ytfhhcpcedfgceaa
open Go.RowKit
set_option linter.unusedVariables false

theorem byte_of {l : List Int} (h : l.all (fun n => decide (0 ≤ n ∧ n ≤ 255)) = true) : Byte l := by
  intro n hn
  have := List.all_eq_true.1 h n hn
  simpa using this

theorem conv {w : World} {ad : Option Addr} {len cap : Nat} {l : List Int} (h : Sl w ad len l) : (convert 22 9 (.slice ad len cap)).run Try.prog w = .ok (.string (strOfNums l)) w :=
  run_string_of 22 5 9 Try.underlying22 Try.underlying5 Try.underlying9 h

/-- What comes out: a row of the call's own. -/
def Out (w : World) (e : Ending) (w' : World) (n : Nat) (L : List Int) : Prop :=
  ∃ g c, e = .returned (.slice (some ⟨g, 0, none⟩) n c) ∧ Sl w' (some ⟨g, 0, none⟩) n L ∧ n ≤ c ∧ c ≤ 281474976710656 ∧ w'.ownsRow w.heap.size 5 1 (.slice (some ⟨g, 0, none⟩) n c) n (cells8 L) ∧ Below w.heap.size w w'

theorem enc_len (N : Nat) : (enc N).length = grp N + 1 := enc_length N

theorem putUint_out (ad : Option Addr) (len cap N : Nat) (l : List Int) (w : World) (n : Nat) (L : List Int) (hs : Sl w ad len l) (hb : len ≤ 140737488355328) (h1 : N ≤ 18446744073709551615) (hn : len + grp N + 1 = n) (hL : l ++ enc N = L) :
    Calls Try.prog 11 #[.slice ad len cap, .int .u64 N] w fun e w' => Out w e w' n L := by
  subst hn; subst hL
  refine (putUint_any ad len cap N l w hs hb h1).mono ?_
  rintro e w' ⟨rfl, hown, hbel⟩
  have := grp_le N
  exact ⟨_, _, rfl, sl_of_owns hown (hs.byte.append (enc_byte N (by omega))), by omega, by omega, hown, hbel⟩

theorem putInt_out (ad : Option Addr) (len cap : Nat) (m : Int) (l : List Int) (w : World) (n : Nat) (L : List Int) (hs : Sl w ad len l) (hb : len ≤ 140737488355328) (h0 : -9223372036854775808 ≤ m) (h1 : m ≤ 9223372036854775807) (hn : len + grp (fold m) + 1 = n) (hL : l ++ enc (fold m) = L) :
    Calls Try.prog 12 #[.slice ad len cap, .int .i64 m] w fun e w' => Out w e w' n L := by
  subst hn; subst hL
  refine (putInt_any ad len cap m l w hs hb h0 h1).mono ?_
  rintro e w' ⟨rfl, hown, hbel⟩
  have := grp_le (fold m)
  have hf := fold_le m h0 h1
  exact ⟨_, _, rfl, sl_of_owns hown (hs.byte.append (enc_byte _ (by omega))), by omega, by omega, hown, hbel⟩

theorem putBytes_out (ad : Option Addr) (len cap : Nat) (l : List Int) (ae : Option Addr) (len2 cap2 : Nat) (s : List Int) (w : World) (n : Nat) (L : List Int) (hs : Sl w ad len l) (hs2 : Sl w ae len2 s) (hn2 : ae = none → len2 = 0 ∧ cap2 = 0)
    (hb : len + len2 ≤ 140737488355328) (hn : len + grp len2 + 1 + len2 = n) (hL : l ++ enc len2 ++ s = L) :
    Calls Try.prog 13 #[.slice ad len cap, .slice ae len2 cap2] w fun e w' => Out w e w' n L := by
  subst hn; subst hL
  refine (putBytes_any ad len cap l ae len2 cap2 s w hs hs2 hn2 hb).mono ?_
  rintro e w' ⟨rfl, hown, hbel⟩
  have := grp_le len2
  exact ⟨_, _, rfl, sl_of_owns hown ((hs.byte.append (enc_byte _ (by omega))).append hs2.byte), by omega, by omega, hown, hbel⟩

theorem str1 : strOfNums [1, 2, 172, 2] = ⟨#[1, 2, 172, 2]⟩ := by decide
theorem str2 : strOfNums [127] = ⟨#[127]⟩ := by decide
theorem str3 : strOfNums [2, 97, 98] = ⟨#[2, 97, 98]⟩ := by decide
theorem str4 : strOfNums [97, 98] = ⟨#[97, 98]⟩ := by decide

theorem constBytes (w : World) (C : Array Value) (n c g : Nat) (hg : g = w.heap.size) : (convert 22 22 (.slice (some ⟨g, 0, none⟩) n c)).run Try.prog (w.alloc (.cells C 5)) = .ok (.slice (some ⟨g, 0, none⟩) n c) (w.alloc (.cells C 5 (C.size, C.size + 1))) := by
  subst hg
  exact Lib.run_convert_bytes_const (P := Try.prog) w 22 5 C n c Try.underlying22 Try.underlying5

set_option maxHeartbeats 1000000 in
theorem shown_any (w : World) : Calls Try.prog 6 #[] w fun e w' => e = .returned (.bool true) ∧ Below w.heap.size w w' := by
  have kc := constBytes
  go_enter Try.func6, Try.ntmps6
  go_wp2_with fail
  refine (putUint_out (some ⟨w.heap.size, 0, none⟩) 2 2 300 [1, 2] _ 4 [1, 2, 172, 2] (sl_lit w [1, 2] (byte_of (by decide)) 5 (0, 0) 2 rfl _ rfl _ rfl) (by omega) (by omega) (by decide) (by decide)).mono ?_
  rintro e w1 ⟨g1, c1, rfl, hs1, _, _, _, hb1⟩
  have hB1 : Below w.heap.size w w1 := ((Below.refl w.heap.size w).alloc (Nat.le_refl _) _).trans (hb1.mono (by simp))
  clear hb1
  go_wp2_with fail
  refine (uint_any (some ⟨w1.heap.size, 0, none⟩) 3 3 [128, 1, 7] _ (sl_lit w1 [128, 1, 7] (byte_of (by decide)) 5 (0, 0) 3 rfl _ rfl _ rfl) (by omega)).mono ?_
  rw [show dec [128, 1, 7] = (128, 2) by decide]
  rintro e w2 ⟨rfl, rfl⟩
  go_wp2_with fail
  refine (uint_any (some ⟨w1.heap.size + 1, 0, none⟩) 2 2 [128, 0] _ (sl_lit _ [128, 0] (byte_of (by decide)) 5 (0, 0) 2 rfl _ rfl _ (by simp)) (by omega)).mono ?_
  rw [show dec [128, 0] = (0, 0) by decide]
  rintro e w3 ⟨rfl, rfl⟩
  go_wp2_with fail
  refine (putInt_out none 0 0 (-64) [] _ 1 [127] (Sl.nil _ _) (by omega) (by omega) (by omega) (by decide) (by decide)).mono ?_
  rintro e w4 ⟨g4, c4, rfl, hs4, _, _, _, hb4⟩
  have hB2 : Below w.heap.size w w4 := ((hB1.alloc hB1.size _).alloc (by have := hB1.size; simp; omega) _).trans (hb4.mono (by have := hB1.size; simp; omega))
  have hs1' : Sl w4 (some ⟨g1, 0, none⟩) 4 [1, 2, 172, 2] := (hs1.later ((((Below.refl _ w1).alloc (Nat.le_refl _) _).alloc (by simp) _).trans (hb4.mono (by simp; omega))))
  clear hb4 hs1
  go_wp2_with fail
  refine (int_any (some ⟨w4.heap.size, 0, none⟩) 2 2 [128, 1] _ (sl_lit w4 [128, 1] (byte_of (by decide)) 5 (0, 0) 2 rfl _ rfl _ rfl) (by omega)).mono ?_
  rw [show dec [128, 1] = (128, 2) by decide, show unfold' (128, 2).1 = 64 by decide]
  rintro e w5 ⟨rfl, rfl⟩
  go_wp2_with fail
  refine (putBytes_out none 0 0 [] (some ⟨w4.heap.size + 1, 0, none⟩) 2 2 [97, 98] _ 3 [2, 97, 98] (Sl.nil _ _) (sl_lit _ [97, 98] (byte_of (by decide)) 5 _ 2 rfl _ rfl _ (by simp)) (by simp) (by omega) (by decide) (by decide)).mono ?_
  rintro e w6 ⟨g6, c6, rfl, hs6, hc6, hd6, _, hb6⟩
  have hz2 := hB2.size
  have hb46 : Below w4.heap.size w4 w6 := (((Below.refl _ w4).alloc (Nat.le_refl _) _).alloc (by simp) _).trans (hb6.mono (by simp; omega))
  have hB3 : Below w.heap.size w w6 := hB2.trans (hb46.mono hz2)
  have hs1'' := hs1'.later hb46
  have hs4' := hs4.later hb46
  clear hb46 hb6 hs1' hs4
  clear kc
  go_wp2_with fail
  refine (bytes_good (some ⟨g6, 0, none⟩) 3 c6 2 [2, 97, 98] w6 hs6 hc6 (by omega) (by omega) (by omega) (by omega) (by decide)).mono ?_
  rw [show dec [2, 97, 98] = (2, 1) by decide]
  rintro e w7 ⟨rfl, hown7, hb7⟩
  have hs7 : Sl w7 (some ⟨w6.heap.size, 0, none⟩) 2 [97, 98] := sl_of_owns hown7 (byte_of (by decide))
  have hB4 : Below w.heap.size w w7 := hB3.trans (hb7.mono hB3.size)
  have hs1 := hs1''.later hb7
  have hs4 := hs4'.later hb7
  have hs6' := hs6.later hb7
  clear hs1'' hs4' hb7 hown7 hs6
  go_wp2_with fail
  refine (bytes_bad (some ⟨g6, 0, none⟩) 3 c6 1 [2, 97, 98] w7 hs6' (by omega) (by omega) (by omega) (by decide)).mono ?_
  rintro e w8 ⟨rfl, rfl⟩
  have k1 := conv (cap := c1) hs1
  have k2 := conv (cap := c4) hs4
  have k3 := conv (cap := c6) hs6'
  have k4 := conv (cap := 2) hs7
  rw [str1] at k1
  rw [str2] at k2
  rw [str3] at k3
  rw [str4] at k4
  go_wp2
  go_ret
  exact ⟨rfl, hB4⟩

end Go.Proofs.Ytfhhcpcedfgceaa
