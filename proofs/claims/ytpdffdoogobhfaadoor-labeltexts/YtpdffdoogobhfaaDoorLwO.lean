/-
  LabelSets: what is held through the walk.
-/
import Derived.Test.YtpdffdoogobhfaaDoorLwN
import Derived.Test.YtpdffdoogobhfaaDoorReH
import Derived.Test.YtpdffdoogobhfaaDoorReG
import Derived.Test.YtpdffdoogobhfaaDoorReF
import Derived.Test.YtpdffdoogobhfaaDoorLwD
namespace Go.Proofs.YtpdffdoogobhfaaDoor
open Go.RowKit
set_option linter.unusedVariables false
set_option linter.unusedSimpArgs false

/-- What Sort answers: the labels, and its number. -/
def srtO (l : List Lb) : List Lb := bif sortOk l then srt l else []
def eS (l : List Lb) : Int := errL (sortOk l)
theorem srtO_length (l : List Lb) : (bif sortOk l then l.length else 0) = (srtO l).length := by
  unfold srtO
  cases h : sortOk l
  · rfl
  · simp only [cond_true]; exact (srt_perm l).length_eq.symm
theorem srtO_len (l : List Lb) : (srtO l).length ≤ 8 := by
  rw [← srtO_length]
  cases h : sortOk l
  · simp
  · simp only [cond_true]
    unfold sortOk at h
    simp only [Bool.and_eq_true, decide_eq_true_eq] at h
    exact h.1
theorem srtO_szs {l : List Lb} (h : Szs l) : Szs (srtO l) := by
  unfold srtO
  cases sortOk l
  · intro x hx; cases hx
  · exact h.perm (srt_perm l)

theorem sortK (B : Nat) {w : World} {ad : Option Addr} {c : Nat} {l : List Lb} (h : Ar w ad c l) (hT : Tb B w) :
    Calls Tryd.prog 9 #[.slice ad l.length c] w fun e w' => ∃ a' c', e = .returned (.tuple #[.slice a' (srtO l).length c', .int .i64 (eS l)]) ∧ w'.ownsRow w.heap.size 35 2 (.slice a' (srtO l).length c') (srtO l).length (cL (srtO l)) ∧ Below w.heap.size w w' := by
  refine (sortP B ad c l w h.ls h.no (by have := h.len; omega) hT).mono ?_
  rintro e w' ⟨v, rfl, h1, h2⟩
  rw [srtO_length] at h1
  obtain ⟨a', c', rfl, _⟩ := owns_formL h1
  exact ⟨a', c', rfl, h1, h2⟩
theorem rsortK {w : World} {ad : Option Addr} {c : Nat} {l : List Lb} (h : Ar w ad c l) (hs : Sm l) :
    Calls Tryd.prog 11 #[.slice ad l.length c] w fun e w' => ∃ a' c', e = .returned (.tuple #[.slice a' (srtO l).length c', .int .i64 (eS l)]) ∧ w'.ownsRow w.heap.size 35 2 (.slice a' (srtO l).length c') (srtO l).length (cL (srtO l)) ∧ Below w.heap.size w w' := by
  refine (rsortP ad c l w h.ls (by have := h.len; omega) hs).mono ?_
  rintro e w' ⟨v, rfl, h1, h2⟩
  rw [srtO_length] at h1
  obtain ⟨a', c', rfl, _⟩ := owns_formL h1
  exact ⟨a', c', rfl, h1, h2⟩
theorem sameK {w : World} {b1 b2 : Nat} {a1 a2 : Option Addr} {c1 c2 : Nat} {l : List Lb} (hz : Szs l) (h8 : l.length ≤ 8) (h1 : w.ownsRow b1 35 2 (.slice a1 l.length c1) l.length (cL l)) (h2 : w.ownsRow b2 35 2 (.slice a2 l.length c2) l.length (cL l)) :
    Calls Tryd.prog 12 #[.slice a1 l.length c1, .slice a2 l.length c2] w fun e w' => e = .returned (.bool true) ∧ Below w.heap.size w w' := by
  have := (Ar.of h1 hz (by omega)).same (Ar.of h2 hz (by omega))
  rw [decide_eq_true rfl] at this
  exact this

/-- A list that came in, and the one that is lent for it. -/
structure LE (W w : World) (ad : Option Addr) (d : Nat) (l : List Lb) (g c : Nat) : Prop where
  ar : Ar w ad d l
  own : w.ownsRow W.heap.size 35 2 (.slice (some ⟨g, 0, none⟩) (l.length + 3) c) (l.length + 3) (cL (l ++ mk3))
  sm : Sm l
theorem LE.later {W w w' : World} {ad : Option Addr} {d : Nat} {l : List Lb} {g c : Nat} (h : LE W w ad d l g c) (hb : Below w.heap.size w w') : LE W w' ad d l g c :=
  ⟨h.ar.later hb, owl h.own hb, h.sm⟩
theorem LE.all {W w : World} {ad : Option Addr} {d : Nat} {l : List Lb} {g c : Nat} (h : LE W w ad d l g c) : Ls w (some ⟨g, 0, none⟩) (l ++ mk3) :=
  ls_of_owns h.own (fun x hx => by
    rcases List.mem_append.1 hx with hx | hx
    · exact h.sm.szs x hx
    · have : x = mkL 25 := by simpa [mk3] using hx
      rw [this]; exact mkL_sz 25)
theorem LE.cap {W w : World} {ad : Option Addr} {d : Nat} {l : List Lb} {g c : Nat} (h : LE W w ad d l g c) : l.length + 3 ≤ c := by
  obtain ⟨a', c', e, _, _, h3, _⟩ := owns_formL h.own
  injection e with e1 e2 e3
  subst e3
  exact h3
theorem LE.arg {W w : World} {ad : Option Addr} {d : Nat} {l : List Lb} {g c : Nat} (h : LE W w ad d l g c) : Ar w (some ⟨g, 0, none⟩) c l :=
  ⟨by have := h.all.take l.length; rwa [List.take_left] at this, (fun e => by cases e), h.ar.len, by have := h.cap; omega⟩
theorem LE.still {W w : World} {ad : Option Addr} {d : Nat} {l : List Lb} {g c : Nat} (h : LE W w ad d l g c) :
    Calls Tryd.prog 10 #[.slice (some ⟨g, 0, none⟩) l.length c, .slice ad l.length d] w fun e w' => e = .returned (.bool true) ∧ Below w.heap.size w w' :=
  stillP g c d ad l w h.ar.ls h.all (by have := h.ar.len; omega) h.cap
theorem LE.lent {W w : World} {ad : Option Addr} {d : Nat} {l : List Lb} (h : Ar w ad d l) (hs : Sm l) (hb : Below W.heap.size W w) :
    Calls Tryd.prog 8 #[.slice ad l.length d] w fun e w' => ∃ g c, e = .returned (.slice (some ⟨g, 0, none⟩) l.length c) ∧ LE W w' ad d l g c ∧ Below w.heap.size w w' := by
  refine (lentP ad d l w h.ls h.no h.len).mono ?_
  rintro e w' ⟨g, c, rfl, h1, h2⟩
  exact ⟨g, c, rfl, ⟨h.later h2, owns_base h1 (fun k hk => Nat.le_trans hb.size (h1.lt k hk).1), hs⟩, h2⟩

/-- Three rows that came out one behind the other. -/
def mk3R (a0 a1 a2 : Option Addr) (n0 n1 n2 c0 c1 c2 : Nat) : R3 :=
  ⟨fun j => if j = 0 then a0 else if j = 1 then a1 else a2, fun j => if j = 0 then n0 else if j = 1 then n1 else n2, fun j => if j = 0 then c0 else if j = 1 then c1 else c2⟩
theorem ownedK2 (B : Nat) (a0 a1 a2 : Option Addr) (n0 n1 n2 c0 c1 c2 b0 b1 b2 : Nat) (l0 l1 l2 : List Lb) (w : World) (h0 : w.ownsRow b0 35 2 (.slice a0 n0 c0) n0 (cL l0)) (h1 : w.ownsRow b1 35 2 (.slice a1 n1 c1) n1 (cL l1)) (h2 : w.ownsRow b2 35 2 (.slice a2 n2 c2) n2 (cL l2))
    (k0 : B ≤ b0) (k1 : b0 ≤ b1) (k2 : b1 ≤ b2) (m0 : ∀ g, (Value.slice a0 n0 c0).ownBlock = some g → g < b1) (m1 : ∀ g, (Value.slice a1 n1 c1).ownBlock = some g → g < b2) (hB : B ≤ w.heap.size) (z0 : n0 ≤ 8) (z1 : n1 ≤ 8) (z2 : n2 ≤ 8) :
    Calls Tryd.prog 13 #[.slice (some ⟨w.heap.size, 0, none⟩) 3 3] (w.alloc (.cells #[.slice a0 n0 c0, .slice a1 n1 c1, .slice a2 n2 c2] 22)) fun e w' => e = .returned (.bool true) ∧ Chg (fun b => (Value.slice a0 n0 c0).ownBlock = some b ∨ (Value.slice a1 n1 c1).ownBlock = some b ∨ (Value.slice a2 n2 c2).ownBlock = some b) w w' := by
  have hal : Below B w (w.alloc (.cells #[.slice a0 n0 c0, .slice a1 n1 c1, .slice a2 n2 c2] 22)) := (Below.refl _ _).alloc hB _
  have e0 : ∀ g, (Value.slice a0 n0 c0).ownBlock = some g → b0 ≤ g ∧ g < w.heap.size := fun g hg => ⟨(h0.lt g hg).1, owns_lt h0 g hg⟩
  have e1 : ∀ g, (Value.slice a1 n1 c1).ownBlock = some g → b1 ≤ g ∧ g < w.heap.size := fun g hg => ⟨(h1.lt g hg).1, owns_lt h1 g hg⟩
  have e2 : ∀ g, (Value.slice a2 n2 c2).ownBlock = some g → b2 ≤ g ∧ g < w.heap.size := fun g hg => ⟨(h2.lt g hg).1, owns_lt h2 g hg⟩
  refine (ownedP (mk3R a0 a1 a2 n0 n1 n2 c0 c1 c2) B w.heap.size _ ?_ ?_ (Blk.new w 22 [.slice a0 n0 c0, .slice a1 n1 c1, .slice a2 n2 c2]) (Nat.le_trans hB hal.size) ?_).mono ?_
  · intro j hj
    rcases (show j = 0 ∨ j = 1 ∨ j = 2 by omega) with rfl | rfl | rfl
    · exact ⟨l0, (owns_base h0 (fun g hg => Nat.le_trans k0 (e0 g hg).1)).alloc _⟩
    · exact ⟨l1, (owns_base h1 (fun g hg => by have := (e1 g hg).1; omega)).alloc _⟩
    · exact ⟨l2, (owns_base h2 (fun g hg => by have := (e2 g hg).1; omega)).alloc _⟩
  · refine ⟨fun j hj k hk hne g hg hg' => ?_, fun j hj hg => ?_⟩
    · rcases (show j = 0 ∨ j = 1 ∨ j = 2 by omega) with rfl | rfl | rfl <;> rcases (show k = 0 ∨ k = 1 ∨ k = 2 by omega) with rfl | rfl | rfl <;> first
        | exact hne rfl
        | (have q1 := m0 g hg; have q2 := (e1 g hg').1; omega)
        | (have q1 := m0 g hg; have q2 := (e2 g hg').1; omega)
        | (have q1 := m0 g hg'; have q2 := (e1 g hg).1; omega)
        | (have q1 := m0 g hg'; have q2 := (e2 g hg).1; omega)
        | (have q1 := m1 g hg; have q2 := (e2 g hg').1; omega)
        | (have q1 := m1 g hg'; have q2 := (e2 g hg).1; omega)
    · rcases (show j = 0 ∨ j = 1 ∨ j = 2 by omega) with rfl | rfl | rfl
      · have := (e0 _ hg).2; omega
      · have := (e1 _ hg).2; omega
      · have := (e2 _ hg).2; omega
  · intro j hj
    rcases (show j = 0 ∨ j = 1 ∨ j = 2 by omega) with rfl | rfl | rfl
    · show n0 ≤ _; omega
    · show n1 ≤ _; omega
    · show n2 ≤ _; omega
  · rintro e w' ⟨rfl, h⟩
    refine ⟨rfl, (Chg.alloc _ w _).trans h (fun b _ e => ?_)⟩
    obtain ⟨j, hj, e⟩ := e
    rcases (show j = 0 ∨ j = 1 ∨ j = 2 by omega) with rfl | rfl | rfl
    · exact Or.inl e
    · exact Or.inr (Or.inl e)
    · exact Or.inr (Or.inr e)

theorem ownedK (B : Nat) (a0 a1 a2 : Option Addr) (n0 n1 n2 c0 c1 c2 b0 b1 b2 : Nat) (l0 l1 l2 : List Lb) (w : World) (h0 : w.ownsRow b0 35 2 (.slice a0 n0 c0) n0 (cL l0)) (h1 : w.ownsRow b1 35 2 (.slice a1 n1 c1) n1 (cL l1)) (h2 : w.ownsRow b2 35 2 (.slice a2 n2 c2) n2 (cL l2))
    (k0 : B ≤ b0) (k1 : b0 ≤ b1) (k2 : b1 ≤ b2) (m0 : ∀ g, (Value.slice a0 n0 c0).ownBlock = some g → g < b1) (m1 : ∀ g, (Value.slice a1 n1 c1).ownBlock = some g → g < b2) (hB : B ≤ w.heap.size) (z0 : n0 ≤ 8) (z1 : n1 ≤ 8) (z2 : n2 ≤ 8) :
    Calls Tryd.prog 13 #[.slice (some ⟨w.heap.size, 0, none⟩) 3 3] (w.alloc (.cells #[.slice a0 n0 c0, .slice a1 n1 c1, .slice a2 n2 c2] 22)) fun e w' => e = .returned (.bool true) ∧ Below B w w' := by
  refine (ownedK2 B a0 a1 a2 n0 n1 n2 c0 c1 c2 b0 b1 b2 l0 l1 l2 w h0 h1 h2 k0 k1 k2 m0 m1 hB z0 z1 z2).mono ?_
  rintro e w' ⟨rfl, h⟩
  refine ⟨rfl, h.below hB (fun b e => ?_)⟩
  rcases e with e | e | e
  · have := (h0.lt b e).1; omega
  · have := (h1.lt b e).1; omega
  · have := (h2.lt b e).1; omega

/-! ### a list whose owner writes into it -/
theorem set_same {α : Type} {l : List α} {i : Nat} {x : α} (h : l[i]? = some x) : l.set i x = l := by
  have hi := (List.getElem?_eq_some_iff.1 h).1
  refine List.ext_getElem? fun j => ?_
  rw [List.getElem?_set]
  split
  · rename_i e
    subst e
    first | rw [h] | rw [if_pos hi, h]
  · rfl
theorem sm_set {l : List Lb} (h : Sm l) {k : Nat} {x : Lb} (hx : x.n.size ≤ 4611686018427387904 ∧ x.v.size ≤ 4611686018427387904) : Sm (l.set k x) := fun y hy => by
  rcases List.mem_or_eq_of_mem_set hy with hy | rfl
  · exact h y hy
  · exact hx
/-- A list of the call's own, something behind it. -/
structure LW (W w : World) (n g c : Nat) (l : List Lb) : Prop where
  len : l.length = n
  own : w.ownsRow W.heap.size 35 2 (.slice (some ⟨g, 0, none⟩) (n + 3) c) (n + 3) (cL (l ++ mk3))
  sm : Sm l
  small : n * 32 ≤ 140737488351232
  bel : Below W.heap.size W w
theorem LW.later {W w w' : World} {n g c : Nat} {l : List Lb} (h : LW W w n g c l) (hb : Below w.heap.size w w') : LW W w' n g c l :=
  ⟨h.len, owl h.own hb, h.sm, h.small, h.bel.trans (hb.mono h.bel.size)⟩
theorem LW.arg {W w : World} {n g c : Nat} {l : List Lb} (h : LW W w n g c l) : Ar w (some ⟨g, 0, none⟩) c l := by
  have hall : Ls w (some ⟨g, 0, none⟩) (l ++ mk3) := ls_of_owns h.own (fun x hx => by
    rcases List.mem_append.1 hx with hx | hx
    · exact h.sm.szs x hx
    · have : x = mkL 25 := by simpa [mk3] using hx
      rw [this]; exact mkL_sz 25)
  obtain ⟨a', c', e, _, _, h3, _⟩ := owns_formL h.own
  injection e with e1 e2 e3
  subst e3
  refine ⟨by have := hall.take l.length; rwa [List.take_left] at this, fun e => (by cases e), by rw [h.len]; exact h.small, by rw [h.len]; omega⟩
theorem LW.set {W w : World} {n g c k : Nat} {l : List Lb} {x : Lb} {v : ByteArray} (h : LW W w n g c l) (hx : l[k]? = some x) (hv : v.size ≤ 4611686018427387904) :
    LW W (w.setCell ⟨g, k * 2 + 1, none⟩ (.string v)) n g c (l.set k ⟨x.n, v⟩) := by
  have hk : k < l.length := (List.getElem?_eq_some_iff.1 hx).1
  have hg := (h.own.lt g (by simp [Value.ownBlock])).1
  refine ⟨by rw [List.length_set]; exact h.len, ?_, sm_set h.sm ⟨(h.sm x (List.mem_of_getElem? hx)).1, hv⟩, h.small, h.bel.setCell (p := ⟨g, k * 2 + 1, none⟩) hg _⟩
  have e : cL (l.set k ⟨x.n, v⟩ ++ mk3) = (cL (l ++ mk3)).set (k * 2 + 1) (.string v) := by
    rw [← List.set_append_left _ _ hk, cL_set]
    have hx2 : (l ++ mk3)[k]? = some x := by rw [List.getElem?_append_left hk]; exact hx
    have := (cL_get (l ++ mk3) k x hx2).1
    congr 1
    exact set_same this
  rw [e]
  refine owns_setV h.own (k * 2 + 1) _ ?_
  rw [cL_length, List.length_append]
  omega

end Go.Proofs.YtpdffdoogobhfaaDoor
