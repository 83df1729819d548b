import Derived.Test.YtcgjmioncbihhaaDoorChD
import Derived.WalkKit
/-
  Package chunk: putFlips, putFirst.
-/
namespace Go.Proofs.YtcgjmioncbihhaaDoor
open Go.RowKit
set_option linter.unusedVariables false
set_option linter.unusedSimpArgs false

theorem i64_id {x : Int} (h0 : -9223372036854775808 ≤ x) (h1 : x ≤ 9223372036854775807) : IntKind.i64.wrap x = x := by
  simp [IntKind.wrap, IntKind.signed, IntKind.bits]
  omega

set_option maxRecDepth 100000 in
set_option maxHeartbeats 4000000 in
theorem putFlipsP (w : World) (p : Nat) (rb : Option Nat) (L : List Bool) (x : Nat) (h : WS w p rb L) (hG : Gv w) (hx : x < 18446744073709551616) (hL : L.length ≤ 1000000000) :
    Calls Tryd.prog 40 #[rwV p, .int .u64 (x : Int)] w fun e w' => e = .returned (.tuple #[]) ∧ WU w w' p rb (L ++ flB x) := by
  have HW := hidden h
  have HG := hidden hG
  unfold rwV
  clear h hG
  go_enter Tryd.func40, Tryd.ntmps40
  by_cases hx0 : x = 0
  · subst hx0
    go_wp2_with (refine wpList_box_blk rfl 56 (.tmp 0) rfl [.pointer (some ⟨p, 0, none⟩)] rfl ?_; intro w2 B2 bl2 hz2; have HB2 := hidden B2; have c2 := B2.cell 0; simp at c2; have HW2 := hidden (HW.out.chg (Chg.of_below (F := fun _ => False) bl2) (fun _ _ e => e)); have HC2 := hidden (Chg.of_below (F := fpt p rb) bl2); clear B2 bl2 hz2)
    refine ((WU.start HW2.out).put 0 1 (by omega) (by omega)).mono ?_
    rintro e w3 ⟨rfl, h3⟩
    have H3 := hidden (WU.more HC2.out (.inl rfl) h3)
    clear h3
    go_wp2
    refine bodyPost_ret (results_none rfl _ _ _) rfl ?_
    refine ⟨rfl, ?_⟩
    have h6 := H3.out
    rw [low0] at h6
    simpa [flB] using h6
  · have hx0z : ¬ (x : Int) = 0 := by omega
    obtain ⟨s1, s2, s3, s4, s5⟩ := span_lt hx (by omega)
    have SP := hidden (fun wx (hg : Gv wx) => spanP x wx hx (by omega) hg)
    have HFL := hidden (show flB x = [true] ++ low (ahd x) 6 ++ low (siz x - 1) 6 ++ low (x / 2 ^ bhd x) (siz x) by unfold flB; rw [if_neg hx0])
    generalize ahd x = a at *
    generalize siz x = s at *
    generalize bhd x = b at *
    have hz1 : (64 : Int) - (a : Int) - (s : Int) = (b : Int) := by omega
    have hz2 : (s : Int) - 1 = ((s - 1 : Nat) : Int) := by omega
    have hb63 : b ≤ 63 := by omega
    have hdiv : x / 2 ^ b < 18446744073709551616 := Nat.lt_of_le_of_lt (Nat.div_le_self _ _) hx
    go_wp2_with (refine wpList_box_blk rfl 56 (.tmp 0) rfl [.pointer (some ⟨p, 0, none⟩)] rfl ?_; intro w2 B2 bl2 hz2; have HB2 := hidden B2; have c2 := B2.cell 0; simp at c2; have HW2 := hidden (HW.out.chg (Chg.of_below (F := fun _ => False) bl2) (fun _ _ e => e)); have HG2 := hidden (HG.out.later bl2); have HC2 := hidden (Chg.of_below (F := fpt p rb) bl2); clear B2 bl2 hz2)
    have FIN := hidden (fun (w9 : World) (L9 : List Bool) (h9 : WU w2 w9 p rb L9) => WU.more HC2.out (.inl rfl) h9)
    generalize w.heap.size = bx at *
    refine (SP.out w2 HG2.out).mono ?_
    rintro e w3 ⟨rfl, rfl⟩
    go_wp2_with fail
    refine ((WU.start HW2.out).put 1 1 (by omega) (by omega)).mono ?_
    rintro e w4 ⟨rfl, h4⟩
    rw [low1] at h4
    have H4 := hidden h4
    have c4 := (h4.blk HW2.out HB2.out (by decide) (by decide)).cell 0
    simp at c4
    clear h4
    go_wp2_with fail
    refine (H4.out.put a 6 (by omega) (by simp; omega)).mono ?_
    rintro e w5 ⟨rfl, h5⟩
    rw [cl6] at h5
    have H5 := hidden h5
    have c5 := (h5.blk HW2.out HB2.out (by decide) (by decide)).cell 0
    simp at c5
    clear h5
    go_wp2_with fail
    refine (H5.out.put (s - 1) 6 (by omega) (by simp [low]; omega)).mono ?_
    rintro e w6 ⟨rfl, h6⟩
    rw [cl6] at h6
    have H6 := hidden h6
    have c6 := (h6.blk HW2.out HB2.out (by decide) (by decide)).cell 0
    simp at c6
    clear h6
    go_wp2_with fail
    have HL6 : Hid ((L ++ [true] ++ low a 6 ++ low (s - 1) 6).length ≤ 1099511627776) := hidden (by simp [low]; omega)
    have H6w := hidden (fun (wx : World) (hb : Below w6.heap.size w6 wx) => (H6.out.later hb).put (x / 2 ^ b) (s : Int) hdiv HL6.out)
    obtain ⟨c, hc⟩ : ∃ c, 64 - a = c := ⟨_, rfl⟩
    have hw1 : IntKind.i64.wrap (64 - (a : Int)) = (c : Int) := by rw [i64_id (by omega) (by omega)]; omega
    have hw2 : IntKind.i64.wrap ((c : Int) - (s : Int)) = (b : Int) := by rw [i64_id (by omega) (by omega)]; omega
    have hsh : Op.shift .shr .u64 (x : Int) .i64 (b : Int) = pure (.int .u64 ((x / 2 ^ b : Nat) : Int)) := by
      rw [shift_shr .u64 .i64 _ _ (by omega) (by simp [IntKind.bits]; omega), Int.toNat_natCast]
      congr 2
    clear hc hz1 hz2
    go_region_with (refine (H6w.out _ ((Below.refl _ _).drew)).mono ?_; rintro e w7 ⟨rfl, h7⟩)
    all_goals
      have H7 := hidden (FIN.out _ _ h7)
      clear h7
      go_wp2
      go_end0
      refine ⟨rfl, ?_⟩
      have h8 := H7.out
      rw [cl_of s3] at h8
      rw [HFL.out]
      simpa using h8

/-- A sample, as a value. -/
def smV (s : Sm) : Value := .agg #[.int .i64 s.t, .int .u64 (s.v : Int)]

set_option maxRecDepth 100000 in
set_option maxHeartbeats 4000000 in
theorem putFirstP (w : World) (p : Nat) (rb : Option Nat) (L : List Bool) (s : Sm) (h : WS w p rb L) (ht : I64 s.t) (hv : s.v < 18446744073709551616) (hL : L.length ≤ 1000000000) :
    Calls Tryd.prog 37 #[rwV p, smV s] w fun e w' => e = .returned (.tuple #[]) ∧ WU w w' p rb (L ++ fiB s) := by
  have HW := hidden h
  obtain ⟨t, v⟩ := s
  simp only at ht hv
  have hu : IntKind.u64.wrap t = (un t : Int) := by rw [u64w]; unfold un; omega
  have hul := un_lt t
  unfold I64 at ht
  unfold rwV smV
  simp only []
  clear h
  go_enter Tryd.func37, Tryd.ntmps37
  go_wp2_with (first
    | (refine wpList_box_blk rfl 56 (.tmp 0) rfl [.pointer (some ⟨p, 0, none⟩)] rfl ?_; intro w2 B2 bl2 hz2; have HB2 := hidden B2; have HL2 := hidden bl2; clear B2 bl2 hz2)
    | (refine wpList_box_blk rfl 32 (.tmp 1) rfl [.int .i64 t, .int .u64 (v : Int)] rfl ?_; intro w3 B3 bl3 hz3; have HB3 := hidden B3; have HB2' := hidden (HB2.out.later bl3); have HL3 := hidden (HL2.out.trans (bl3.mono HL2.out.size)); clear B3 bl3 hz3; have c2 := HB2'.out.cell 0; have c3 := HB3.out.cell 0; have c4 := HB3.out.cell 1; simp at c2 c3 c4))
  have HW3 := hidden (HW.out.chg (Chg.of_below (F := fun _ => False) HL3.out) (fun _ _ e => e))
  have HC3 := hidden (Chg.of_below (F := fpt p rb) HL3.out)
  have FIN := hidden (fun (w9 : World) (L9 : List Bool) (h9 : WU w3 w9 p rb L9) => WU.more HC3.out (.inl rfl) h9)
  refine ((WU.start HW3.out).put (un t) 64 hul (by omega)).mono ?_
  rintro e w4 ⟨rfl, h4⟩
  rw [cl64] at h4
  have H4 := hidden h4
  have d2 := (h4.blk HW3.out HB2'.out (by decide) (by decide)).cell 0
  have d3 := (h4.blk HW3.out HB3.out (by decide) (by decide)).cell 1
  simp at d2 d3
  clear h4 c2 c3 c4
  go_wp2_with fail
  refine (H4.out.put v 64 hv (by simp [low]; omega)).mono ?_
  rintro e w5 ⟨rfl, h5⟩
  rw [cl64] at h5
  have H5 := hidden (FIN.out _ _ h5)
  clear h5
  go_wp2
  go_end0
  refine ⟨rfl, ?_⟩
  have h8 := H5.out
  simpa [fiB] using h8

end Go.Proofs.YtcgjmioncbihhaaDoor

/-
  The plain mathematics of layer 1: how a number is written in groups of seven bits (enc), and how it is read (dec). Nothing of the program.
-/
namespace Go.Proofs.YtcgjmioncbihhaaDoor.Q
set_option linter.unusedVariables false

/-- How many groups stand ahead of the last one (with fuel). -/
def grpF : Nat → Nat → Nat
  | 0, _ => 0
  | f + 1, n => if n < 128 then 0 else grpF f (n / 128) + 1
def grp (n : Nat) : Nat := grpF 9 n

/-- k groups that go on, and the last one. -/
def encK : Nat → Nat → List Int
  | 0, n => [(n : Int)]
  | k + 1, n => ((n % 128 + 128 : Nat) : Int) :: encK k (n / 128)
def enc (n : Nat) : List Int := encK (grp n) n

theorem grpF_le : ∀ f n, grpF f n ≤ f
  | 0, _ => Nat.le_refl _
  | f + 1, n => by
    unfold grpF
    split
    · omega
    · have := grpF_le f (n / 128); omega
theorem grp_le (n : Nat) : grp n ≤ 9 := grpF_le 9 n

theorem grpF_fuel : ∀ f n, n < 128 ^ (f + 1) → grpF (f + 1) n = grpF f n
  | 0, n, h => by
    have : n < 128 := by simpa using h
    simp [grpF, this]
  | f + 1, n, h => by
    have e1 : grpF (f + 1 + 1) n = if n < 128 then 0 else grpF (f + 1) (n / 128) + 1 := rfl
    have e2 : grpF (f + 1) n = if n < 128 then 0 else grpF f (n / 128) + 1 := rfl
    rw [e1, e2]
    split
    · rfl
    · rw [grpF_fuel f (n / 128) (by rw [Nat.pow_succ] at h; omega)]

theorem grp_small (n : Nat) (h : n < 128) : grp n = 0 := by simp [grp, grpF, h]
theorem grp_step (n : Nat) (h : 128 ≤ n) (h1 : n < 18446744073709551616) : grp n = grp (n / 128) + 1 := by
  show grpF 9 n = grpF 9 (n / 128) + 1
  rw [grpF_fuel 8 (n / 128) (by omega), grpF, if_neg (by omega)]

theorem grpF_is : ∀ f k x, k ≤ f → (k = 0 ∨ 128 ^ k ≤ x) → x < 128 ^ (k + 1) → grpF f x = k
  | 0, k, x, h, _, _ => by simp [grpF]; omega
  | f + 1, 0, x, h, h1, h2 => by
    have : x < 128 := by simpa using h2
    simp [grpF, this]
  | f + 1, k + 1, x, h, h1, h2 => by
    have h1 : 128 ^ (k + 1) ≤ x := by omega
    have hp : 0 < 128 ^ k := Nat.pow_pos (by omega)
    rw [Nat.pow_succ] at h1 h2
    rw [grpF, if_neg (by omega), grpF_is f k (x / 128) (by omega) (by right; omega) (by omega)]

theorem encK_length : ∀ k n, (encK k n).length = k + 1
  | 0, _ => rfl
  | k + 1, n => by simp [encK, encK_length k]
theorem enc_length (n : Nat) : (enc n).length = grp n + 1 := encK_length _ _

/-- The first k bytes of a number that goes on. -/
def pre : Nat → Nat → List Int
  | 0, _ => []
  | k + 1, n => pre k n ++ [((n / 128 ^ k % 128 + 128 : Nat) : Int)]
theorem pre_length : ∀ k n, (pre k n).length = k
  | 0, _ => rfl
  | k + 1, n => by simp [pre, pre_length k]
theorem pre_cons : ∀ k n, pre (k + 1) n = ((n % 128 + 128 : Nat) : Int) :: pre k (n / 128)
  | 0, n => by simp [pre]
  | k + 1, n => by
    have e : pre (k + 1 + 1) n = pre (k + 1) n ++ [((n / 128 ^ (k + 1) % 128 + 128 : Nat) : Int)] := rfl
    rw [e, pre_cons k n, pre, Nat.pow_succ, Nat.mul_comm, Nat.div_div_eq_div_mul]
    rfl
theorem encK_pre : ∀ k n, encK k n = pre k n ++ [((n / 128 ^ k : Nat) : Int)]
  | 0, n => by simp [encK, pre]
  | k + 1, n => by
    rw [encK, pre_cons, encK_pre k, Nat.pow_succ, Nat.mul_comm (128 ^ k), ← Nat.div_div_eq_div_mul]
    rfl
theorem enc_pre (n : Nat) : enc n = pre (grp n) n ++ [((n / 128 ^ grp n : Nat) : Int)] := encK_pre _ _
theorem grpF_lt : ∀ f n, n < 128 ^ (f + 1) → n < 128 ^ (grpF f n + 1)
  | 0, n, h => by simpa [grpF] using h
  | f + 1, n, h => by
    rw [grpF]
    split
    · simpa
    · have := grpF_lt f (n / 128) (by rw [Nat.pow_succ] at h; omega)
      rw [Nat.pow_succ]
      omega
theorem grp_lt (n : Nat) (h : n < 18446744073709551616) : n < 128 ^ (grp n + 1) := grpF_lt 9 n (by omega)
theorem last_lt (n : Nat) (h : n < 18446744073709551616) : n / 128 ^ grp n < 128 := by
  have := grp_lt n h
  rw [Nat.pow_succ] at this
  exact Nat.div_lt_of_lt_mul this
theorem pre_byte : ∀ k n, ∀ c ∈ pre k n, 128 ≤ c ∧ c ≤ 255
  | 0, n, c, h => by simp [pre] at h
  | k + 1, n, c, h => by
    rw [pre, List.mem_append] at h
    rcases h with h | h
    · exact pre_byte k n c h
    · simp at h; omega

theorem pow128 (k : Nat) : 128 ^ k = 2 ^ (7 * k) := by rw [Nat.pow_mul]

/-- How a number is read: i bytes have been read, n is their number. -/
def decAt : List Int → Nat → Nat → Nat × Nat
  | [], _, _ => (0, 0)
  | c :: t, i, n =>
    if 10 ≤ i then (0, 0) else if i = 9 ∧ 1 < c then (0, 0)
    else if 128 ≤ c then decAt t (i + 1) (n + (c.toNat % 128) * 128 ^ i)
    else if c = 0 ∧ 0 < i then (0, 0)
    else (n + (c.toNat % 128) * 128 ^ i, i + 1)
def dec (l : List Int) : Nat × Nat := decAt l 0 0

/-- With a sign. -/
def fold (m : Int) : Nat := if m < 0 then (-2 * m - 1).toNat else (2 * m).toNat
def unfold' (n : Nat) : Int := if n % 2 = 1 then -((n / 2 : Nat) : Int) - 1 else ((n / 2 : Nat) : Int)

theorem unfold_fold (m : Int) : unfold' (fold m) = m := by
  unfold unfold' fold
  split <;> split <;> omega
theorem fold_unfold (n : Nat) : fold (unfold' n) = n := by
  unfold unfold' fold
  split <;> split <;> omega

end Go.Proofs.YtcgjmioncbihhaaDoor.Q
