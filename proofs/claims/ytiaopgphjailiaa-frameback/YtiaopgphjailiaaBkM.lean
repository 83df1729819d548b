/-
  FrameBack: frames in a row, and what it holds.
-/
import Derived.Test.YtiaopgphjailiaaFrL
import Derived.Test.YtiaopgphjailiaaScM
namespace Go.Proofs.Ytiaopgphjailiaa
open Go Go.RowKit
set_option linter.unusedVariables false

/-- A list of lists of bytes that came in. -/
def LL (w : World) (ad : Option Addr) (n : Nat) (A : Nat → Option Addr) (N C : Nat → Nat) (L : Nat → List Int) : Prop := 0 < n → ∃ b off, ad = some ⟨b, off, none⟩ ∧ ∀ i, i < n →
  w.cell? ⟨b, off + i, none⟩ = some (.slice (A i) (N i) (C i)) ∧ Sl w (A i) (N i) (L i) ∧ N i ≤ C i ∧ (A i = none → N i = 0 ∧ C i = 0)
theorem LL.bk {B : Nat} {w w' : World} {ad : Option Addr} {n : Nat} {A : Nat → Option Addr} {N C : Nat → Nat} {L : Nat → List Int} (h : LL w ad n A N C L) (hk : Bk B w w') : LL w' ad n A N C L := by
  intro hp
  obtain ⟨b, off, rfl, hi⟩ := h hp
  exact ⟨b, off, rfl, fun i hl => by obtain ⟨h1, h2, h3, h4⟩ := hi i hl; exact ⟨hk.cell h1, hk.sl h2, h3, h4⟩⟩
theorem LL.below {B : Nat} {w w' : World} {ad : Option Addr} {n : Nat} {A : Nat → Option Addr} {N C : Nat → Nat} {L : Nat → List Int} (h : LL w ad n A N C L) (hk : Below w.heap.size w w') : LL w' ad n A N C L := h.bk (B := B) (Bk.lat hk)

/-- What is put: as many bytes of each as are taken. -/
def cut5 (N : Nat → Nat) (L : Nat → List Int) (i : Nat) : List Int := (L i).take (min (N i) 100000)
def fsN (K : List Int) (N : Nat → Nat) (L : Nat → List Int) : Nat → List (Int × List Int)
  | 0 => []
  | i + 1 => fsN K N L i ++ [(K.getD i 0, cut5 N L i)]
def catF : List (Int × List Int) → List Int
  | [] => []
  | x :: r => made x.1 x.2 ++ catF r
theorem catF_append (a b : List (Int × List Int)) : catF (a ++ b) = catF a ++ catF b := by
  induction a with
  | nil => rfl
  | cons x r ih => simp only [List.cons_append, catF, ih, List.append_assoc]
theorem catF_len (a : List (Int × List Int)) : (catF a).length = fsz a := by
  induction a with
  | nil => rfl
  | cons x r ih => simp only [catF, fsz, List.length_append, made_length, ih]
theorem frames_cat (a : List (Int × List Int)) (j : List Int) (h : ∀ x ∈ a, x.2.length ≤ 4194304) : frames (catF a ++ j) = a ++ frames j := by
  induction a with
  | nil => rfl
  | cons x r ih =>
    have hx := h x (by simp)
    have hg := gett_made x.1 x.2 (catF r ++ j) hx
    simp only [catF, List.append_assoc]
    rw [frames_some (by rw [hg]; simp), hg]
    dsimp only
    rw [← made_length x.1 x.2, List.drop_left, ih (fun y hy => h y (by simp [hy]))]
    rfl
theorem fsN_len (K : List Int) (N : Nat → Nat) (L : Nat → List Int) : ∀ i, (fsN K N L i).length = i
  | 0 => rfl
  | i + 1 => by rw [fsN, List.length_append, fsN_len K N L i]; rfl
theorem fsN_at (K : List Int) (N : Nat → Nat) (L : Nat → List Int) : ∀ i j, j < i → (fsN K N L i)[j]? = some (K.getD j 0, cut5 N L j)
  | 0, _, h => by omega
  | i + 1, j, h => by
    rw [fsN]
    by_cases hj : j < i
    · rw [List.getElem?_append_left (by rw [fsN_len]; exact hj), fsN_at K N L i j hj]
    · obtain rfl : j = i := by omega
      rw [List.getElem?_append_right (by rw [fsN_len]; exact Nat.le_refl _), fsN_len, Nat.sub_self]
      rfl
theorem cut5_len (N : Nat → Nat) (L : Nat → List Int) (i : Nat) : (cut5 N L i).length ≤ 100000 := by rw [cut5, List.length_take]; omega
theorem fsN_short (K : List Int) (N : Nat → Nat) (L : Nat → List Int) : ∀ i, ∀ x ∈ fsN K N L i, x.2.length ≤ 100000
  | 0, x, h => by cases h
  | i + 1, x, h => by
    rcases List.mem_append.1 h with h | h
    · exact fsN_short K N L i x h
    · rw [List.mem_singleton.1 h]; exact cut5_len N L i
theorem fsN_sz (K : List Int) (N : Nat → Nat) (L : Nat → List Int) : ∀ i, fsz (fsN K N L i) ≤ 100009 * i
  | 0 => Nat.le_refl _
  | i + 1 => by
    have := fsN_sz K N L i
    have := cut5_len N L i
    rw [fsN, fsz_append]
    simp only [fsz]
    omega
theorem frames_more (j : List Int) : (0 < (gett j).2.2 ↔ 0 < (frames j).length) ∧ (0 < (gett j).2.2 ↔ 0 < fsz (frames j)) := by
  by_cases h : (gett j).2.2 = 0
  · rw [frames_none h, h]; simp [fsz]
  · rw [frames_some h]
    simp only [List.length_cons, fsz]
    omega

/-- The variables: kinds, lists, the answer, the count. -/
structure BkC (w : World) (S L1 R1 Bn : Nat) (vk vl : Value) (n : Nat) (A : World) : Prop where
  k : Blk A S 22 [vk]
  l : Blk A L1 46 [vl]
  r : Blk A R1 4 [.bool false]
  n : Blk A Bn 3 [.int .i64 (n : Int)]
  bel : Below w.heap.size w A
  lo : w.heap.size ≤ S ∧ S < L1 ∧ L1 < R1 ∧ R1 < Bn
variable {w : World} {S L1 R1 Bn : Nat} {vk vl : Value} {n : Nat} {A A' : World}
theorem BkC.chg {F : Nat → Prop} (h : BkC w S L1 R1 Bn vk vl n A) (hc : Chg F A A') (hF : ∀ g, F g → Bn < g) : BkC w S L1 R1 Bn vk vl n A' := by
  obtain ⟨l1, l2, l3, l4⟩ := h.lo
  have nF : ∀ g, g ≤ Bn → ¬ F g := fun g hg hf => by have := hF g hf; omega
  exact ⟨hc.blk h.k (nF _ (by omega)), hc.blk h.l (nF _ (by omega)), hc.blk h.r (nF _ (by omega)), hc.blk h.n (nF _ (by omega)), h.bel.trans (hc.below h.bel.size (fun g hg => by have := hF g hg; omega)), h.lo⟩
theorem BkC.lat (h : BkC w S L1 R1 Bn vk vl n A) (hb : Below A.heap.size A A') : BkC w S L1 R1 Bn vk vl n A' := h.chg (Chg.of_below (F := fun _ => False) hb) (fun _ h => h.elim)
theorem BkC.bk {B : Nat} (h : BkC w S L1 R1 Bn vk vl n A) (hk : Bk B A A') (hB : w.heap.size ≤ B) : BkC w S L1 R1 Bn vk vl n A' :=
  ⟨hk.blk h.k, hk.blk h.l, hk.blk h.r, hk.blk h.n, Bk.below h.bel hk hB (Nat.le_refl _), h.lo⟩
theorem BkC.set (h : BkC w S L1 R1 Bn vk vl n A) (m : Nat) (v : Value) (hv : v = .int .i64 (m : Int)) : BkC w S L1 R1 Bn vk vl m (A.setCell ⟨Bn, 0, none⟩ v) := by
  subst hv
  obtain ⟨l1, l2, l3, l4⟩ := h.lo
  have hc := Chg.set ⟨Bn, 0, none⟩ (.int .i64 (m : Int)) A
  exact ⟨hc.blk h.k (fun e => by dsimp only at e; omega), hc.blk h.l (fun e => by dsimp only at e; omega), hc.blk h.r (fun e => by dsimp only at e; omega), h.n.set 0 _, h.bel.trans (hc.below h.bel.size (fun g hg => by dsimp only at hg; omega)), h.lo⟩

end Go.Proofs.Ytiaopgphjailiaa
