/-
  The document's quota: a list of who is known; at, Get, Limits, Room.
-/
import Derived.Test.YthkmbodpboplfaaQuD
import Derived.Test.YthkmbodpboplfaaPshN
import Derived.Test.YthkmbodpboplfaaApp
import Derived.LoopTactic
namespace Go.Proofs.Ythkmbodpboplfaa
open Go.RowKit
set_option linter.unusedVariables false
set_option linter.unusedSimpArgs false

theorem str_eqR (s T : ByteArray) : (s.toList == T.toList) = decide (s = T) := by
  rw [Bool.eq_iff_iff]
  simp only [beq_iff_eq, decide_eq_true_eq]
  constructor
  · intro h
    rw [ByteArray.toList_eq, ByteArray.toList_eq] at h
    obtain ⟨⟨x⟩⟩ := s
    obtain ⟨⟨y⟩⟩ := T
    simpa using h
  · rintro rfl
    rfl

/-- Who is known, and its account. -/
abbrev Kn := ByteArray × Ac
def kC (x : Kn) : List Value := [.string x.1, .int .i64 x.2.ms, .int .i64 x.2.mx, .int .i64 x.2.se, .int .i64 x.2.wr, .int .i64 x.2.wi]
def kL (l : List Kn) : List Value := l.flatMap kC
theorem kL_length : ∀ l : List Kn, (kL l).length = l.length * 6
  | [] => rfl
  | x :: r => by
    have := kL_length r
    unfold kL at *
    simp [kC, this]
    omega
theorem kL_at : ∀ (l : List Kn) (i : Nat) (x : Kn), l[i]? = some x → ∀ j, j < 6 → (kL l)[i * 6 + j]? = (kC x)[j]?
  | [], i, x, h, j, hj => by simp at h
  | y :: r, 0, x, h, j, hj => by
    simp at h
    subst h
    unfold kL
    rw [List.flatMap_cons, Nat.zero_mul, Nat.zero_add, List.getElem?_append_left (by simp [kC]; omega)]
  | y :: r, i + 1, x, h, j, hj => by
    have := kL_at r i x (by simpa using h) j hj
    unfold kL at *
    rw [List.flatMap_cons, List.getElem?_append_right (by simp [kC]; omega)]
    rw [← this]
    congr 1
    simp [kC]
    omega
theorem kL_one (l : List Kn) : ∀ u ∈ kL l, u.oneCell' = true := by
  intro u hu
  unfold kL at hu
  obtain ⟨x, _, hx⟩ := List.mem_flatMap.1 hu
  simp [kC] at hx
  rcases hx with rfl | rfl | rfl | rfl | rfl | rfl <;> rfl
/-- The book as a function. -/
def fnd : List Kn → Gk
  | [], _ => none
  | x :: r, s => if x.1 = s then some x.2 else fnd r s
/-- A tenant's place. -/
def pos : List Kn → ByteArray → Nat
  | [], _ => 0
  | x :: r, s => if x.1 = s then 0 else pos r s + 1
theorem pos_le : ∀ (l : List Kn) (s : ByteArray), pos l s ≤ l.length
  | [], s => Nat.le_refl _
  | x :: r, s => by
    unfold pos
    split
    · simp
    · have := pos_le r s
      simp
      exact this
theorem pos_off : ∀ (l : List Kn) (s : ByteArray) (i : Nat) (x : Kn), i < pos l s → l[i]? = some x → ¬ x.1 = s
  | [], s, i, x, h, hx => by simp at hx
  | y :: r, s, i, x, h, hx => by
    unfold pos at h
    split at h
    · omega
    · next hy =>
      cases i with
      | zero => simp at hx; subst hx; exact hy
      | succ i => exact pos_off r s i x (by omega) (by simpa using hx)
theorem pos_at : ∀ (l : List Kn) (s : ByteArray) (h : pos l s < l.length), (l[pos l s]'h).1 = s ∧ fnd l s = some (l[pos l s]'h).2
  | [], s, h => by simp at h
  | y :: r, s, h => by
    by_cases hy : y.1 = s
    · have e : pos (y :: r) s = 0 := by simp [pos, hy]
      simp [e, fnd, hy]
    · have e : pos (y :: r) s = pos r s + 1 := by simp [pos, hy]
      have h' : pos r s < r.length := by rw [e] at h; simpa using h
      have := pos_at r s h'
      simp only [e, List.getElem_cons_succ, fnd, if_neg hy]
      exact this
theorem pos_none : ∀ (l : List Kn) (s : ByteArray), pos l s = l.length → fnd l s = none
  | [], s, h => rfl
  | y :: r, s, h => by
    by_cases hy : y.1 = s
    · simp [pos, hy] at h
    · have e : pos (y :: r) s = pos r s + 1 := by simp [pos, hy]
      rw [e] at h
      unfold fnd
      rw [if_neg hy]
      exact pos_none r s (by simpa using h)
/-- What 'at' answers. -/
def atI (l : List Kn) (s : ByteArray) : Int := if pos l s < l.length then (pos l s : Int) else -1

/-- The document's book in memory: its list's block. -/
structure Rb (w : World) (base p : Nat) (v : Value) (l : List Kn) : Prop where
  blk : Blk w p 57 [v]
  row : w.ownsRow base 67 6 v l.length (kL l)
  nodup : l.Pairwise (fun x y => ¬ x.1 = y.1)
  ok : ∀ x ∈ l, OkA x.2
def RF (p : Nat) (v : Value) : Nat → Prop := fun i => i = p ∨ v.ownBlock = some i
theorem Rb.chg {F : Nat → Prop} {w w' : World} {base p : Nat} {v : Value} {l : List Kn} (h : Rb w base p v l) (hc : Chg F w w') (hF : ∀ i, RF p v i → ¬ F i) : Rb w' base p v l :=
  ⟨hc.blk h.blk (hF p (.inl rfl)), hc.owns h.row (fun g hg => hF g (.inr hg)), h.nodup, h.ok⟩
theorem Rb.later {w w' : World} {base p : Nat} {v : Value} {l : List Kn} (h : Rb w base p v l) (hb : Below w.heap.size w w') : Rb w' base p v l :=
  ⟨h.blk.later hb, (Chg.of_below (F := fun _ => False) hb).owns h.row (fun _ _ hf => hf), h.nodup, h.ok⟩
theorem Rb.lt {w : World} {base p : Nat} {v : Value} {l : List Kn} (h : Rb w base p v l) : ∀ i, RF p v i → i < w.heap.size := by
  rintro i (rfl | hi)
  · exact h.blk.lt
  · exact owns_lt h.row i hi
/-- Its value. -/
theorem Rb.val {w : World} {base p : Nat} {v : Value} {l : List Kn} (h : Rb w base p v l) : ∃ (ad : Option Addr) (cap : Nat), v = .slice ad l.length cap ∧ ∀ i x, l[i]? = some x → ∃ g, ad = some ⟨g, 0, none⟩ ∧ g < w.heap.size ∧ ∀ j u, (kC x)[j]? = some u → w.cell? ⟨g, i * 6 + j, none⟩ = some u ∧ w.frozen? ⟨g, i * 6 + j, none⟩ = false := by
  rcases h.row.2 with ⟨h1, h0⟩ | ⟨g, c, cur, hv, hb, hg, hn, hc, hs, ht⟩
  · have hl : l = [] := List.eq_nil_of_length_eq_zero h0
    subst hl
    exact ⟨none, 0, by simpa using h1, fun i x hx => by simp at hx⟩
  · refine ⟨some ⟨g, 0, none⟩, c, by simpa using hv, fun i x hx => ⟨g, rfl, (Array.getElem?_eq_some_iff.1 hg).1, fun j u hu => ?_⟩⟩
    have hj : j < 6 := by
      have := (List.getElem?_eq_some_iff.1 hu).1
      simpa [kC] using this
    have hi : i < l.length := (List.getElem?_eq_some_iff.1 hx).1
    have hr := h.row
    rw [hv] at hr
    refine ⟨?_, frozen_of_row w g _ cur 67 hg⟩
    rw [hr.cellAt (i * 6 + j) (by omega), kL_at l i x hx j hj]
    exact hu

theorem atP (s : ByteArray) (base p : Nat) (v : Value) (l : List Kn) (w : World) (h : Rb w base p v l) (hn : l.length ≤ 9000) : Calls Try.prog 30 #[.pointer (some ⟨p, 0, none⟩), .string s] w fun e w' => e = .returned (.int .i64 (atI l s)) ∧ w' = w := by
  obtain ⟨ad, cap, rfl, hcell⟩ := h.val
  have c0 := h.blk.cell 0
  simp only [List.getElem?_cons_zero] at c0
  have HC := hidden hcell
  have HP := hidden (pos_le l s)
  clear h hcell
  obtain ⟨n, hn'⟩ : ∃ n, l.length = n := ⟨_, rfl⟩
  rw [hn'] at c0 hn
  have HN := hidden hn'
  clear hn'
  obtain ⟨AT, hAT⟩ : ∃ A, atI l s = A := ⟨_, rfl⟩
  rw [hAT]
  have HAT := hidden hAT
  clear hAT
  go_enter Try.func30, Try.ntmps30
  go_wp2_with fail
  go_loopw [5] (fun v5 wx => ∃ i : Nat, v5 = .int .i64 (i : Int) ∧ i ≤ n ∧ Hid (i ≤ pos l s) ∧ wx = w) (fun v5 _ => n - (intOf v5).toNat)
  case atStart => exact ⟨0, rfl, by omega, hidden (Nat.zero_le _), rfl⟩
  case round =>
    obtain ⟨i, rfl, hi, hp, rfl⟩ := hrel
    by_cases hlt : i < n
    · obtain ⟨⟨t, a⟩, hz⟩ : ∃ z, l[i]? = some z := ⟨l[i]'(by have := HN.out; omega), by simp⟩
      obtain ⟨g, rfl, hgl, hc⟩ := HC.out i _ hz
      have f0 := (hc 0 _ rfl).1
      simp only at f0
      rw [Nat.add_zero] at f0
      have HZ := hidden hz
      clear hc hz hgl
      by_cases hs : t = s
      · subst hs
        have he : atI l t = (i : Int) := by
          have h1 : i = pos l t := by
            rcases Nat.lt_or_ge i (pos l t) with h2 | h2
            · exact absurd rfl (pos_off l t i _ h2 HZ.out)
            · have := hp.out; omega
          unfold atI
          rw [← h1, if_pos (by rw [HN.out]; exact hlt)]
        have HE := hidden he
        clear he
        go_wp2_with fail
        go_ret
        exact ⟨by rw [← HAT.out, HE.out]; rfl, rfl⟩
      · have hs' : (t.toList == s.toList) = false := by rw [str_eqR]; simpa using hs
        have hp2 : i + 1 ≤ pos l s := by
          rcases Nat.lt_or_ge i (pos l s) with h2 | h2
          · exact h2
          · have h3 : i = pos l s := by have := hp.out; omega
            have h4 := pos_at l s (by rw [← h3, HN.out]; exact hlt)
            have h5 := HZ.out
            rw [h3, List.getElem?_eq_getElem (by rw [← h3, HN.out]; exact hlt)] at h5
            rw [Option.some.inj h5] at h4
            exact absurd h4.1 hs
        go_wp2_with fail
        refine ⟨⟨i + 1, by first | rfl | simp, by omega, hidden hp2, by first | rfl | trivial⟩, ?_⟩
        show n - ((i : Int) + 1).toNat < n - (i : Int).toNat
        omega
    · obtain rfl : i = n := by omega
      have he : atI l s = -1 := by
        unfold atI
        rw [if_neg (by have := HN.out; have := hp.out; omega)]
      have HE := hidden he
      clear he
      go_wp2_with fail
      go_ret
      exact ⟨by rw [← HAT.out, HE.out]; rfl, rfl⟩
theorem writtenP (a : Ac) (n : Int) (w : World) : Calls Try.prog 31 #[aV a, .int .i64 n] w fun e w' => e = .returned (.tuple #[.int .i64 (durA a n).wr, .int .i64 (durA a n).wi]) ∧ Below w.heap.size w w' := by
  obtain ⟨m1, m2, m3, m4, m5⟩ := a
  by_cases h : m5 < n
  · have e1 : durA ⟨m1, m2, m3, m4, m5⟩ n = ⟨m1, m2, m3, 0, n⟩ := by simp [durA, h]
    rw [e1]
    unfold aV aL
    clear e1
    go_enter Try.func31, Try.ntmps31
    go_wp2_with fail
    go_ret2
    exact ⟨rfl, below_alloc⟩
  · have e1 : durA ⟨m1, m2, m3, m4, m5⟩ n = ⟨m1, m2, m3, m4, m5⟩ := by simp [durA, h]
    rw [e1]
    unfold aV aL
    clear e1
    go_enter Try.func31, Try.ntmps31
    go_wp2_with fail
    go_quiet (fail)
    go_wp2_with fail
    go_ret2
    exact ⟨rfl, below_drewN below_alloc _⟩
theorem limitR (n : Int) (w : World) : Calls Try.prog 32 #[.int .i64 n] w fun e w' => e = .returned (.bool (limB n)) ∧ w' = w := by
  obtain ⟨b, hb⟩ : ∃ b, limB n = b := ⟨_, rfl⟩
  rw [hb]
  unfold limB at hb
  by_cases h0 : 1 ≤ n
  · by_cases h2 : n ≤ 1000000
    · have hb2 : b = true := by rw [← hb]; simp [h0, h2]
      subst hb2
      clear hb
      go_enter Try.func32, Try.ntmps32
      go_wp2_with fail
      go_ret
      exact ⟨rfl, rfl⟩
    · have hb2 : b = false := by rw [← hb]; simp [h2]
      subst hb2
      clear hb
      have h2' : 1000000 < n := by omega
      go_enter Try.func32, Try.ntmps32
      go_wp2_with fail
      go_ret
      exact ⟨rfl, rfl⟩
  · have hb2 : b = false := by rw [← hb]; simp [h0]
    subst hb2
    clear hb
    have h0' : n < 1 := by omega
    go_enter Try.func32, Try.ntmps32
    go_wp2_with fail
    go_ret
    exact ⟨rfl, rfl⟩

/-- 'at' tells. -/
theorem at_cases (l : List Kn) (s : ByteArray) : (atI l s = -1 ∧ fnd l s = none) ∨ ∃ (i : Nat) (x : Kn), atI l s = (i : Int) ∧ i = pos l s ∧ l[i]? = some x ∧ x.1 = s ∧ fnd l s = some x.2 := by
  unfold atI
  split
  · next h =>
    have := pos_at l s h
    exact .inr ⟨_, _, rfl, rfl, List.getElem?_eq_getElem h, this.1, this.2⟩
  · next h => exact .inl ⟨rfl, pos_none l s (by have := pos_le l s; omega)⟩

theorem getR (s : ByteArray) (base p : Nat) (v : Value) (l : List Kn) (w : World) (h : Rb w base p v l) (hn : l.length ≤ 9000) : Calls Try.prog 21 #[.pointer (some ⟨p, 0, none⟩), .string s] w fun e w' => e = .returned (.tuple #[aV (getA (fnd l) s), .bool (fnd l s).isSome]) ∧ Below w.heap.size w w' := by
  have HA := hidden (fun (o : Obj) => atP s base p v l (w.alloc o) (h.later below_alloc) hn)
  have hpl := h.blk.lt
  obtain ⟨ad, cap, rfl, hcell⟩ := h.val
  have c0 := h.blk.cell 0
  simp only [List.getElem?_cons_zero] at c0
  clear h
  rcases at_cases l s with ⟨e1, e2⟩ | ⟨i, ⟨t, a⟩, e1, ei, hx, et, e2⟩
  · rw [e1] at HA
    unfold getA
    rw [e2]
    clear e1 e2 hcell
    simp only [Option.getD_none, Option.isSome_none]
    unfold aV aL aZ
    go_enter Try.func21, Try.ntmps21
    go_wp2_with (refine (HA.out _).mono ?_; rintro e w3 ⟨rfl, rfl⟩)
    refine bodyPost_ret (results_cell_row_tmp rfl _ _ w.heap.size 32 _ (0, 0) _ rfl (heap_alloc_new _ _) Try.underlying32 rfl (by kernel_rfl)) rfl ?_
    exact ⟨rfl, below_alloc⟩
  · rw [e1] at HA
    unfold getA
    rw [e2]
    obtain ⟨g, rfl, hgl, hc⟩ := hcell i _ hx
    have hil : i < l.length := (List.getElem?_eq_some_iff.1 hx).1
    have f1 := (hc 1 _ rfl).1
    have f2 := (hc 2 _ rfl).1
    have f3 := (hc 3 _ rfl).1
    have f4 := (hc 4 _ rfl).1
    have f5 := (hc 5 _ rfl).1
    simp only at f1 f2 f3 f4 f5
    clear e1 e2 hcell hc hx et ei
    simp only [Option.getD_some, Option.isSome_some]
    obtain ⟨m1, m2, m3, m4, m5⟩ := a
    unfold aV aL
    generalize l.length = n at *
    go_enter Try.func21, Try.ntmps21
    go_wp2_with (refine (HA.out _).mono ?_; rintro e w3 ⟨rfl, rfl⟩)
    refine bodyPost_ret (results_cell_row_tmp rfl _ _ w.heap.size 32 _ (0, 0) _ rfl (heap_alloc_new _ _) Try.underlying32 rfl (by kernel_rfl)) rfl ?_
    exact ⟨rfl, below_alloc⟩

end Go.Proofs.Ythkmbodpboplfaa
