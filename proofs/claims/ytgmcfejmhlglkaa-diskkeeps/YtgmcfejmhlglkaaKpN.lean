/-
  More on what is meant: falls.
-/
import Derived.Test.YtgmcfejmhlglkaaKpM
import Derived.Test.YtgmcfejmhlglkaaKpS
namespace Go.Proofs.Ytgmcfejmhlglkaa
open Go.RowKit
set_option linter.unusedVariables false
set_option linter.unusedSimpArgs false

def mix (A B : List Fl) (j : Nat) : List Fl := A.take j ++ B.drop j
theorem mix_zero (A B : List Fl) : mix A B 0 = B := by simp [mix]
theorem mix_all {A B : List Fl} (h : A.length = 3) (h2 : B.length = 3) : mix A B 3 = A := by
  unfold mix
  rw [List.take_of_length_le (by omega), List.drop_eq_nil_of_le (by omega), List.append_nil]
theorem mix_at {A B : List Fl} (h : A.length = 3) {j : Nat} (hj : j < 3) : (mix A B j)[j]? = B[j]? := by
  unfold mix
  rw [List.getElem?_append_right (by simp; omega)]
  simp
  congr 1
  omega
theorem mix_step {A B : List Fl} (h : A.length = 3) (h2 : B.length = 3) {j : Nat} (hj : j < 3) {a : Fl} (ha : A[j]? = some a) : (mix A B j).set j a = mix A B (j + 1) := by
  unfold mix
  match A, B, h, h2 with
  | [a0, a1, a2], [b0, b1, b2], _, _ =>
    rcases (show j = 0 ∨ j = 1 ∨ j = 2 by omega) with rfl | rfl | rfl <;> simp at ha <;> subst ha <;> simp
theorem lose_nat (y : Fl) (k : Nat) (hy : y.n ≤ y.b.length) : y.lose (k : Int) = ⟨y.b.take (min y.b.length (y.n + k)), min y.b.length (y.n + k)⟩ := by
  unfold Fl.lose
  rw [Int.toNat_natCast, show y.n + min k (y.b.length - y.n) = min y.b.length (y.n + k) by omega]
theorem lose_len (y : Fl) (k : Int) : (y.lose k).b.length ≤ y.b.length := by
  unfold Fl.lose
  simp
  omega
theorem lose_bound {L : List Fl} {K : List Int} {bnd : Nat} (h : ∀ x ∈ L, x.b.length ≤ bnd) : ∀ x ∈ loseAll L K, x.b.length ≤ bnd := by
  intro x hx
  obtain ⟨i, hi, hxi⟩ := List.getElem_of_mem hx
  have h1 : (loseAll L K)[i]? = some x := by rw [List.getElem?_eq_getElem hi, hxi]
  rw [loseAll_at] at h1
  cases hL : L[i]? with
  | none => rw [hL] at h1; cases h1
  | some y =>
    rw [hL] at h1
    simp only [Option.map_some, Option.some.injEq] at h1
    subst h1
    exact Nat.le_trans (lose_len _ _) (h y (List.mem_of_getElem? hL))
theorem read_dead {S : St} {f a n : Int} (h : S.on = false) : S.read f a n = (40, []) := by
  unfold St.read St.refuse
  rw [h]
  rfl
theorem sync_dead {S : St} {f : Int} (h : S.on = false) : S.sync f = (40, S) := by
  unfold St.sync St.refuse
  rw [h]
  rfl
theorem crash_on {S : St} {K : List Int} (h : S.on = true) : S.crash K = S.fail K := by
  unfold St.crash
  rw [if_pos h]
theorem fuse_ok {S : St} {n : Nat} {K : List Int} (h : S.on = true) : S.setFuse (n : Int) K = (0, { S with fuse := some (n, K.take S.L.length) }) := by
  unfold St.setFuse
  rw [h, if_neg (by decide), if_neg (by omega), Int.toNat_natCast]
theorem append_fuse {S : St} {x : Fl} {l K : List Int} {q : Nat} (hon : S.on = true) (hfu : S.fuse = some (q + 1, K)) (hx : S.L[0]? = some x) (hl : x.b.length + l.length ≤ 16777216) : S.append 0 l = (0, { S with L := S.L.set 0 ⟨x.b ++ l, x.n⟩, fuse := some (q, K) }) := by
  unfold St.append
  rw [show (0 : Int) = ((0 : Nat) : Int) from rfl, refuse_ok hon hx, if_neg (by simp), Int.toNat_natCast, hx]
  simp only
  rw [if_neg (by omega)]
  unfold St.op
  rw [hfu]
  rfl
theorem append_burn {S : St} {x : Fl} {l K : List Int} (hon : S.on = true) (hfu : S.fuse = some (0, K)) (hx : S.L[0]? = some x) (hl : x.b.length + l.length ≤ 16777216) : S.append 0 l = (40, ({ S with L := S.L.set 0 ⟨x.b ++ l, x.n⟩ } : St).fail K) := by
  unfold St.append
  rw [show (0 : Int) = ((0 : Nat) : Int) from rfl, refuse_ok hon hx, if_neg (by simp), Int.toNat_natCast, hx]
  simp only
  rw [if_neg (by omega)]
  unfold St.op
  rw [hfu]
  first | done | rfl | simp [St.fail]

/-- The disk with a fuse, and what is told of it. -/
def KY (W wx : World) (p lb fl bnd q kk : Nat) : Prop := ∃ S : St, NB W wx p S (fun i => i = lb) ∧ Blk wx lb 48 (tcells S.L) ∧ S.L.length = 3 ∧ S.on = true ∧ S.fuse = some (q, [(kk : Int)]) ∧ S.falls = fl ∧ (∀ x ∈ S.L, x.b.length ≤ bnd) ∧ W.heap.size ≤ lb
/-- The disk that came back, and what is told of it so far. -/
def KZ (W wx : World) (p lb fl : Nat) (A B : List Fl) (j : Nat) : Prop := ∃ S : St, NB W wx p S (fun i => i = lb) ∧ S.L = A ∧ S.on = true ∧ S.fuse = none ∧ S.falls = fl ∧ Blk wx lb 48 (tcells (mix A B j))
theorem KZ.later {W w w' : World} {p lb fl : Nat} {A B : List Fl} {j : Nat} (h : KZ W w p lb fl A B j) (hb : Below w.heap.size w w') : KZ W w' p lb fl A B j := by
  obtain ⟨S, h1, h2, h3, h4, h5, h6⟩ := h
  exact ⟨S, h1.later hb, h2, h3, h4, h5, h6.later hb⟩
/-- Its next file is told. -/
theorem KZ.step {W w w' : World} {p lb fl : Nat} {A B : List Fl} {j : Nat} (h : KZ W w p lb fl A B j) (hA : A.length = 3) (hB : B.length = 3) (hj : j < 3) {a : Fl} (ha : A[j]? = some a) (hlb : W.heap.size ≤ lb) (hc : Chg (fun i => i = lb) w w') (hb : Blk w' lb 48 (((tcells (mix A B j)).set (j * 2) (.string (strOfNums a.b))).set (j * 2 + 1) (.int .i64 (a.n : Int)))) : KZ W w' p lb fl A B (j + 1) := by
  obtain ⟨S, h1, h2, h3, h4, h5, h6⟩ := h
  refine ⟨S, h1.chg hc (fun i hi => by subst hi; exact hlb), h2, h3, h4, h5, ?_⟩
  rw [← mix_step hA hB hj ha, tcells_set]
  exact hb
theorem below_fresh (w : World) (o : Obj) : Below w.heap.size w (w.alloc o) := (Below.refl _ w).alloc (Nat.le_refl _) o
theorem min_run (a b q : Nat) (h : min a b = q) (w : World) : (Builtin.min_ #[3, 3] 3 #[.int .i64 (a : Int), .int .i64 (b : Int)]).run Try.prog w = .ok (.int .i64 (q : Int)) w := by
  by_cases hab : a ≤ b
  · have : q = a := by omega
    subst this
    simp [go_sem, hab, show ¬ b < q by omega]
  · have : q = b := by omega
    subst this
    simp [go_sem, hab, show q < a by omega]
theorem slice_run (s : ByteArray) (q : Nat) (t : ByteArray) (hq : q ≤ s.size) (ht : s.extract 0 q = t) (w : World) : (Instr.sliceAt 9 (.string s) none (some (.int .i64 (q : Int))) none).run Try.prog w = .ok (.string t) w := by
  have hq2 : (q : Int) ≤ (s.size : Int) := by omega
  simp [go_sem, hq2, ht, Try.underlying9, hq]

end Go.Proofs.Ytgmcfejmhlglkaa
