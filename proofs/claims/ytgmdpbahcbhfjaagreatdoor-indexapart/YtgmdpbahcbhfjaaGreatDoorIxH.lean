import Derived.Test.YtgmdpbahcbhfjaaGreatDoorIxF
import Derived.Test.YtgmdpbahcbhfjaaGreatDoorIxE
set_option linter.unusedSimpArgs false
set_option linter.unusedVariables false
set_option maxHeartbeats 40000000
set_option maxRecDepth 100000
/-
  Package index: a tenant's roll; an index in memory.
-/
namespace Go.Proofs.YtgmdpbahcbhfjaaGreatDoor.X
open Go.RowKit

def strs (l : List ByteArray) : List Value := l.map Value.string
/-- The values of a name. -/
def Vw (w : World) (c : Col) (j : Nat) (t n : ByteArray) (o : Option Value) (V : List ByteArray) : Prop :=
  (o = none ∧ V = []) ∨ ∃ v, o = some v ∧ V ≠ [] ∧ w.ownsRow 0 9 1 v V.length (strs V) ∧ ∀ g, v.ownBlock = some g → c g = some (j, .row t n)
/-- The series of a tenant. -/
structure Sr (w : World) (c : Col) (j : Nat) (t : ByteArray) (sv : Value) (S : List (List L.Lb)) : Prop where
  own : ∃ rows : List Value, w.ownsRow 0 36 1 sv S.length rows ∧ ∀ (i : Nat) (l : List L.Lb), S[i]? = some l → ∃ v, rows[i]? = some v ∧ w.ownsRow 0 75 2 v l.length (cLb l) ∧ ∀ g, v.ownBlock = some g → c g = some (j, .labs t)
  col : ∀ g, sv.ownBlock = some g → c g = some (j, .ser t)
/-- Which number a series has. -/
def Nu (S : List (List L.Lb)) (ln : List (St × Value)) : Prop := ∀ s : St, (∃ i : Nat, S[i]? = some s.l ∧ al ln s = some (.int .i64 (i : Int))) ∨ (¬ s.l ∈ S ∧ al ln s = none)
/-- A tenant's roll. -/
def Ro (w : World) (c : Col) (j : Nat) (t : ByteArray) (o : Option Value) (S : List (List L.Lb)) (V : ByteArray → List ByteArray) : Prop :=
  (o = none ∧ S = [] ∧ ∀ n, V n = []) ∨ ∃ sv nb vb, o = some (.agg #[sv, .map (some nb), .map (some vb)]) ∧ S ≠ [] ∧ Sr w c j t sv S ∧
    c nb = some (j, .nums t) ∧ (∃ ln, Ml St.val w nb ln ∧ Nu S ln) ∧ c vb = some (j, .vals t) ∧ ∃ lv, Ml Value.string w vb lv ∧ ∀ n, Vw w c j t n (al lv n) (V n)
def Rols (w : World) (c : Col) (j rb : Nat) (R : ByteArray → List (List L.Lb)) (V : ByteArray → ByteArray → List ByteArray) : Prop :=
  c rb = some (j, .rolls) ∧ ∃ l, Ml Value.string w rb l ∧ ∀ t, Ro w c j t (al l t) (R t) (V t)
/-- What is under a key. -/
def entF (R : ByteArray → List (List L.Lb)) (k : Kx) : List Nat := if k.n = em0 then (if k.v = em0 then List.range (R k.t).length else []) else hasX (R k.t) ⟨k.n, k.v⟩
/-- The values, each once. -/
def ValOk (R : ByteArray → List (List L.Lb)) (V : ByteArray → ByteArray → List ByteArray) : Prop := ∀ t n, (V t n).Nodup ∧ ∀ v, v ∈ V t n ↔ ∃ l ∈ R t, (⟨n, v⟩ : L.Lb) ∈ l
/-- The series are right, each once. -/
structure ROk (R : ByteArray → List (List L.Lb)) : Prop where
  right : ∀ t, ∀ l ∈ R t, L.right l = true
  one : ∀ t, (R t).Nodup
  len : ∀ t, (R t).length ≤ 1000
/-- An index. -/
structure Ix (w : World) (c : Col) (j x eb rb : Nat) (R : ByteArray → List (List L.Lb)) : Prop where
  blk : Blk w x 84 [.map (some eb), .map (some rb)]
  box : c x = some (j, .box)
  ents : Ents w c j eb (entF R)
  rols : ∃ V, Rols w c j rb R V ∧ ValOk R V
  ok : ROk R

section
variable {F : Nat → Prop} {w w' : World} {c c' : Col} {j : Nat}
theorem Vw.chg {t n : ByteArray} {o : Option Value} {V : List ByteArray} (h : Vw w c j t n o V) (hc : Chg F w w') (hF : ∀ i, i < w.heap.size → F i → ¬ c i = some (j, .row t n)) (hcc : ∀ i, i < w.heap.size → c' i = c i) : Vw w' c' j t n o V := by
  rcases h with h | ⟨v, h1, h2, h4, h5⟩
  · exact .inl h
  · exact .inr ⟨v, h1, h2, hc.owns h4 (fun g hg hf => hF g (owns_lt h4 g hg) hf (h5 g hg)), fun g hg => by rw [hcc g (owns_lt h4 g hg)]; exact h5 g hg⟩
theorem Sr.chg {t : ByteArray} {sv : Value} {S : List (List L.Lb)} (h : Sr w c j t sv S) (hc : Chg F w w') (hF : ∀ i, i < w.heap.size → F i → ¬ c i = some (j, .ser t) ∧ ¬ c i = some (j, .labs t)) (hcc : ∀ i, i < w.heap.size → c' i = c i) : Sr w' c' j t sv S := by
  obtain ⟨⟨rows, h1, h2⟩, h3⟩ := h
  refine ⟨⟨rows, hc.owns h1 (fun g hg hf => (hF g (owns_lt h1 g hg) hf).1 (h3 g hg)), fun i l hi => ?_⟩, fun g hg => by rw [hcc g (owns_lt h1 g hg)]; exact h3 g hg⟩
  obtain ⟨v, hv, ho, hg⟩ := h2 i l hi
  exact ⟨v, hv, hc.owns ho (fun g hg' hf => (hF g (owns_lt ho g hg') hf).2 (hg g hg')), fun g hg' => by rw [hcc g (owns_lt ho g hg')]; exact hg g hg'⟩
/-- What touches no block of a tenant's roll leaves it. -/
theorem Ro.chg {t : ByteArray} {o : Option Value} {S : List (List L.Lb)} {V : ByteArray → List ByteArray} (h : Ro w c j t o S V) (hc : Chg F w w')
    (hF : ∀ i, i < w.heap.size → F i → ¬ c i = some (j, .ser t) ∧ ¬ c i = some (j, .labs t) ∧ ¬ c i = some (j, .nums t) ∧ ¬ c i = some (j, .vals t) ∧ ∀ n, ¬ c i = some (j, .row t n)) (hcc : ∀ i, i < w.heap.size → c' i = c i) : Ro w' c' j t o S V := by
  rcases h with h | ⟨sv, nb, vb, h1, h2, h3, h4, ⟨ln, h5, h6⟩, h7, lv, h8, h9⟩
  · exact .inl h
  · refine .inr ⟨sv, nb, vb, h1, h2, h3.chg hc (fun i hi hf => ⟨(hF i hi hf).1, (hF i hi hf).2.1⟩) hcc, by rw [hcc nb h5.lt]; exact h4, ⟨ln, h5.chg hc (fun hf => (hF nb h5.lt hf).2.2.1 h4), h6⟩, by rw [hcc vb h8.lt]; exact h7, lv, h8.chg hc (fun hf => (hF vb h8.lt hf).2.2.2.1 h7), fun n => (h9 n).chg hc (fun i hi hf => (hF i hi hf).2.2.2.2 n) hcc⟩
/-- What touches no block of an index leaves it. -/
theorem Ix.chg {x eb rb : Nat} {R : ByteArray → List (List L.Lb)} (h : Ix w c j x eb rb R) (hc : Chg F w w') (hF : ∀ i, i < w.heap.size → F i → ∀ q, ¬ c i = some (j, q)) (hcc : ∀ i, i < w.heap.size → c' i = c i) : Ix w' c' j x eb rb R := by
  obtain ⟨h1, h2, h3, ⟨V, ⟨h4, l, h5, h6⟩, h7⟩, h8⟩ := h
  refine ⟨hc.blk h1 (fun hf => hF x h1.lt hf _ h2), by rw [hcc x h1.lt]; exact h2, h3.chg hc (fun hf => ?_) (fun k i hi hf => hF i hi hf _) hcc, ⟨V, ⟨by rw [hcc rb h5.lt]; exact h4, l, h5.chg hc (fun hf => hF rb h5.lt hf _ h4), fun t => (h6 t).chg hc (fun i hi hf => ⟨hF i hi hf _, hF i hi hf _, hF i hi hf _, hF i hi hf _, fun n => hF i hi hf _⟩) hcc⟩, h7⟩, h8⟩
  obtain ⟨q, le, hl, _⟩ := h3
  exact hF eb hl.lt hf _ q
theorem Ix.later {x eb rb : Nat} {R : ByteArray → List (List L.Lb)} (h : Ix w c j x eb rb R) (hb : Below w.heap.size w w') : Ix w' c j x eb rb R :=
  h.chg (Chg.of_below (F := fun _ => False) hb) (fun _ _ e => e.elim) (fun _ _ => rfl)
end
/-- What a look at the rolls gives. -/
def roV (o : Option Value) : Value := o.getD (.agg #[.slice none 0 0, .map none, .map none])
theorem zero103 (w : World) : (zeroValue 103).run Tryz.prog w = .ok (.agg #[.slice none 0 0, .map none, .map none]) w := by kernel_rfl
theorem zero3i (w : World) : (zeroValue 3).run Tryz.prog w = .ok (.int .i64 0) w := by kernel_rfl
theorem fld0 (w : World) (ad : Option Addr) (n cap : Nat) (nb vb : Option Nat) : (Instr.field 103 (.agg #[.slice ad n cap, .map nb, .map vb]) 0).run Tryz.prog w = .ok (.slice ad n cap) w := by kernel_rfl
theorem fld1 (w : World) (ad : Option Addr) (n cap : Nat) (nb vb : Option Nat) : (Instr.field 103 (.agg #[.slice ad n cap, .map nb, .map vb]) 1).run Tryz.prog w = .ok (.map nb) w := by kernel_rfl
theorem fld2 (w : World) (ad : Option Addr) (n cap : Nat) (nb vb : Option Nat) : (Instr.field 103 (.agg #[.slice ad n cap, .map nb, .map vb]) 2).run Tryz.prog w = .ok (.map vb) w := by kernel_rfl
/-- The parts of a roll that is looked up, or of the empty one. -/
theorem Ro.parts {w : World} {c : Col} {j : Nat} {t : ByteArray} {o : Option Value} {S : List (List L.Lb)} {V : ByteArray → List ByteArray} (h : Ro w c j t o S V) :
    ∃ ad cap nb vb, roV o = .agg #[.slice ad S.length cap, .map nb, .map vb] ∧ Sr w c j t (.slice ad S.length cap) S := by
  rcases h with ⟨rfl, rfl, _⟩ | ⟨sv, nb, vb, rfl, h2, h3, _⟩
  · exact ⟨none, 0, none, none, rfl, ⟨[], World.ownsRow_nil w 0 36 1, fun i l h => by simp at h⟩, fun g hg => by cases hg⟩
  · obtain ⟨rows, h4, h5⟩ := h3.own
    obtain ⟨ad, cap, e⟩ : ∃ ad cap, sv = .slice ad S.length cap := by
      obtain ⟨ad, cap, e, _⟩ := owns_form2 h4
      exact ⟨ad, cap, e⟩
    subst e
    exact ⟨ad, cap, some nb, some vb, rfl, h3⟩
theorem Ix.lookR {w : World} {c : Col} {j x eb rb : Nat} {R : ByteArray → List (List L.Lb)} (h : Ix w c j x eb rb R) (t : ByteArray) : ∃ ad cap nb vb, Hid (∀ w', Below w.heap.size w w' → (Instr.lookup 82 (.map (some rb)) (.string t) false).run Tryz.prog w' = .ok (.agg #[.slice ad (R t).length cap, .map nb, .map vb]) w') ∧ Sr w c j t (.slice ad (R t).length cap) (R t) := by
  obtain ⟨V, ⟨h4, l, h5, h6⟩, h7⟩ := h.rols
  obtain ⟨ad, cap, nb, vb, h8, h9⟩ := (h6 t).parts
  refine ⟨ad, cap, nb, vb, hidden (fun w' hb => ?_), h9⟩
  have := (h5.later hb).look ky9 Tryz.underlying82 (zero103 w') t false
  rw [this, ← h8]
  rfl
set_option maxRecDepth 100000 in
set_option maxHeartbeats 4000000 in
theorem lenP {w : World} {c : Col} {j x eb rb : Nat} {R : ByteArray → List (List L.Lb)} (h : Ix w c j x eb rb R) (t : ByteArray) : Calls Tryz.prog 19 #[.pointer (some ⟨x, 0, none⟩), .string t] w fun e w' => e = .returned (.int .i64 ((R t).length : Int)) ∧ Below w.heap.size w w' := by
  obtain ⟨ad, cap, nb, vb, HLK, _⟩ := h.lookR t
  have c1 := h.blk.cell 1
  simp only [List.getElem?_cons_zero, List.getElem?_cons_succ] at c1
  have lk := HLK.out w (Below.refl _ _)
  clear HLK h
  generalize (R t).length = n at *
  have hf0 := fld0 w ad n cap nb vb
  go_enter Tryz.func19, Tryz.ntmps19
  go_wp2_with fail
  go_ret
  exact ⟨rfl, Below.refl _ _⟩
end Go.Proofs.YtgmdpbahcbhfjaaGreatDoor.X
/-
  Package index: Labels, Find.
-/
namespace Go.Proofs.YtgmdpbahcbhfjaaGreatDoor.X
open Go.RowKit

theorem bts_len (s : ByteArray) : (L.bts s).length = s.size := by simp [L.bts]
theorem fits_name {x : L.Lb} (h : x.fits = true) : 1 ≤ x.n.size ∧ x.n.size ≤ 32 ∧ 1 ≤ x.v.size ∧ x.v.size ≤ 64 := by
  unfold L.Lb.fits at h
  rw [Bool.and_eq_true] at h
  have h1 := h.1
  have h2 := h.2
  unfold L.isName at h1
  unfold L.isVal at h2
  simp only [Bool.and_eq_true, decide_eq_true_eq] at h1 h2
  have n1 := List.length_pos_iff.2 h1.2
  have v1 := List.length_pos_iff.2 h2.1.1
  have n2 := h1.1.1
  have v2 := h2.1.2
  rw [bts_len] at n1 v1 n2 v2
  exact ⟨n1, n2, v1, v2⟩
theorem fits_ne {x : L.Lb} (h : x.fits = true) : ¬ x.n = em0 := fun e => by
  have := (fits_name h).1
  rw [e] at this
  exact absurd this (by decide)
theorem right_fits {l : List L.Lb} (h : L.right l = true) : l.length ≤ 8 ∧ 1 ≤ l.length ∧ (∀ x ∈ l, x.fits = true) := by
  obtain ⟨h1, h2, h3, _⟩ := (L.right_iff l).1 h
  exact ⟨h2, h1, h3⟩
/-- A right list as a key. -/
def stOf (l : List L.Lb) (h : L.right l = true) : St := ⟨l, (right_fits h).1, fun x hx => fits_ne ((right_fits h).2.2 x hx), fun x hx => by
  have := fits_name ((right_fits h).2.2 x hx)
  unfold maxLen
  omega⟩
theorem ls_of_owns {w : World} {ad : Option Addr} {c : Nat} {l : List L.Lb} (h : w.ownsRow 0 75 2 (.slice ad l.length c) l.length (cLb l)) (hs : ∀ x ∈ l, x.fits = true) : L.Ls w ad l ∧ (ad = none → l = [] ∧ c = 0) := by
  refine ⟨⟨fun x hx => ?_, fun h0 => ?_⟩, fun e => ?_⟩
  · have := fits_name (hs x hx)
    omega
  · rcases h.2 with ⟨_, h1⟩ | ⟨g, cap, cur, hv, _, hg, _⟩
    · exact absurd (List.eq_nil_of_length_eq_zero h1) h0
    · simp only [Value.slice.injEq] at hv
      obtain ⟨rfl, _, rfl⟩ := hv
      refine ⟨g, 0, rfl, (Array.getElem?_eq_some_iff.1 hg).1, fun i x hi => ?_⟩
      have hil := (List.getElem?_eq_some_iff.1 hi).1
      obtain ⟨g0, g1⟩ := cLb_get l i x hi
      rw [Nat.zero_add]
      exact ⟨by rw [h.cellAt (i * 2) (by omega)]; exact g0, by rw [h.cellAt (i * 2 + 1) (by omega)]; exact g1⟩
  · subst e
    rcases h.2 with ⟨h1, h2⟩ | ⟨g, cap, cur, hv, _⟩
    · simp only [Value.slice.injEq] at h1
      exact ⟨List.eq_nil_of_length_eq_zero h2, h1.2.2⟩
    · simp at hv
/-- A list of the series. -/
theorem Sr.get {w : World} {c : Col} {j : Nat} {t : ByteArray} {ad : Option Addr} {cap : Nat} {S : List (List L.Lb)} (h : Sr w c j t (.slice ad S.length cap) S) {i : Nat} {l : List L.Lb} (hi : S[i]? = some l) (hr : L.right l = true) :
    ∃ g al cl, ad = some ⟨g, 0, none⟩ ∧ g < w.heap.size ∧ w.cell? ⟨g, i, none⟩ = some (.slice al l.length cl) ∧ L.Ls w al l ∧ (al = none → l = [] ∧ cl = 0) := by
  obtain ⟨rows, h1, h2⟩ := h.own
  have hil := (List.getElem?_eq_some_iff.1 hi).1
  rcases h1.2 with ⟨_, h3⟩ | ⟨g, cap', cur, hv, _, hg, _⟩
  · omega
  · simp only [Value.slice.injEq] at hv
    obtain ⟨rfl, _, rfl⟩ := hv
    obtain ⟨v, hv, ho, _⟩ := h2 i l hi
    obtain ⟨al, cl, rfl, _⟩ := owns_form2 ho
    obtain ⟨h4, h5⟩ := ls_of_owns ho (right_fits hr).2.2
    refine ⟨g, al, cl, rfl, (Array.getElem?_eq_some_iff.1 hg).1, ?_, h4, h5⟩
    rw [h1.cellAt i (by omega)]
    exact hv
def labV (o : Option (List L.Lb)) (w : World) (e : Ending) (w' : World) : Prop :=
  (o = none ∧ e = .returned (.tuple #[.slice none 0 0, .bool false])) ∨ ∃ l v, o = some l ∧ e = .returned (.tuple #[v, .bool true]) ∧ w'.ownsRow w.heap.size 75 2 v l.length (cLb l)
def atI (S : List (List L.Lb)) (i : Int) : Option (List L.Lb) := if i < 0 then none else S[i.toNat]?
set_option maxRecDepth 100000 in
set_option maxHeartbeats 4000000 in
theorem labelsP {w : World} {c : Col} {j x eb rb : Nat} {R : ByteArray → List (List L.Lb)} (h : Ix w c j x eb rb R) (t : ByteArray) (id : Int) : Calls Tryz.prog 22 #[.pointer (some ⟨x, 0, none⟩), .string t, .int .i64 id] w fun e w' => labV (atI (R t) id) w e w' ∧ Below w.heap.size w w' := by
  obtain ⟨ad, cap, nb, vb, HLK, hS⟩ := h.lookR t
  have c1 := h.blk.cell 1
  simp only [List.getElem?_cons_zero, List.getElem?_cons_succ] at c1
  have lk := HLK.out w (Below.refl _ _)
  have hok := h.ok.right t
  have hlen := h.ok.len t
  clear HLK h
  generalize R t = S at *
  have hf0 := fld0 w ad S.length cap nb vb
  by_cases hneg : id < 0
  · have HF : Hid (atI S id = none) := hidden (by unfold atI; rw [if_pos hneg])
    clear hS hok
    generalize S.length = n at *
    go_enter Tryz.func22, Tryz.ntmps22
    go_wp2_with fail
    go_ret2
    exact ⟨.inl ⟨HF.out, rfl⟩, Below.refl _ _⟩
  · obtain ⟨i, rfl⟩ : ∃ i : Nat, id = (i : Int) := ⟨id.toNat, by omega⟩
    by_cases hge : S.length ≤ i
    · have HF : Hid (atI S (i : Int) = none) := hidden (by unfold atI; rw [if_neg hneg]; simpa using hge)
      clear hS hok
      generalize S.length = n at *
      have hge' : (n : Int) ≤ (i : Int) := by omega
      go_enter Tryz.func22, Tryz.ntmps22
      go_wp2_with fail
      go_ret2
      exact ⟨.inl ⟨HF.out, rfl⟩, Below.refl _ _⟩
    · obtain ⟨l, hl⟩ : ∃ l, S[i]? = some l := ⟨S[i]'(by omega), List.getElem?_eq_getElem _⟩
      have HF : Hid (atI S (i : Int) = some l) := hidden (by unfold atI; rw [if_neg hneg]; simpa using hl)
      have hr := hok l (List.mem_of_getElem? hl)
      obtain ⟨g, al, cl, rfl, hgl, hc, hLs, hno⟩ := hS.get hl hr
      have HC := hidden (cloneLP al cl l w hLs hno (by have := (right_fits hr).1; omega))
      clear hS hok hl hr hLs hno
      generalize S.length = n at *
      have hlt : (i : Int) < (n : Int) := by omega
      have hge' : ¬ (n : Int) ≤ (i : Int) := by omega
      have hi0 : (0 : Int) ≤ (i : Int) := by omega
      go_enter Tryz.func22, Tryz.ntmps22
      go_wp2_with (first | (refine HC.out.mono ?_; rintro e w2 ⟨v, rfl, ho, hb⟩; have HO := hidden ho; have HB2 := hidden hb; clear ho hb))
      go_ret2
      exact ⟨.inr ⟨l, v, HF.out, rfl, HO.out⟩, HB2.out⟩
end Go.Proofs.YtgmdpbahcbhfjaaGreatDoor.X
/-
  Package index, purely: a series more.
-/
namespace Go.Proofs.YtgmdpbahcbhfjaaGreatDoor.X
open Go.RowKit

abbrev Rr := ByteArray → List (List L.Lb)
/-- A series more. -/
def radd (R : Rr) (t : ByteArray) (l : List L.Lb) : Rr := fun t' => if t' = t then R t ++ [l] else R t'
/-- The entries while a series is put in. -/
def entI (R : Rr) (t : ByteArray) (A : List L.Lb) (k : Kx) : List Nat := if k.t = t ∧ ((k.n = em0 ∧ k.v = em0) ∨ (⟨k.n, k.v⟩ : L.Lb) ∈ A) then entF R k ++ [(R t).length] else entF R k
def tenK (t : ByteArray) (h : t.size ≤ maxLen) : Kx := ⟨t, em0, em0, h, Nat.zero_le _, Nat.zero_le _⟩
theorem entI_first (R : Rr) (t : ByteArray) (h : t.size ≤ maxLen) : eput (entF R) (tenK t h) (entF R (tenK t h) ++ [(R t).length]) = entI R t [] := by
  funext k
  unfold eput entI
  by_cases hk : k = tenK t h
  · subst hk
    simp [tenK]
  · rw [if_neg hk, if_neg]
    rintro ⟨h1, ⟨h2, h3⟩ | h2⟩
    · apply hk
      obtain ⟨a, b, d, _⟩ := k
      simp only at h1 h2 h3
      subst h1 h2 h3
      rfl
    · simp at h2
theorem entI_next (R : Rr) (t : ByteArray) (A : List L.Lb) (x : L.Lb) (k : Kx) (h1 : k.t = t) (h2 : k.n = x.n) (h3 : k.v = x.v) (hx : ¬ x ∈ A) (hne : ¬ x.n = em0) : entI R t A k = entF R k ∧ eput (entI R t A) k (entI R t A k ++ [(R t).length]) = entI R t (A ++ [x]) := by
  have h4 : entI R t A k = entF R k := by
    unfold entI
    rw [if_neg]
    rintro ⟨_, ⟨e, _⟩ | e⟩
    · exact hne (by rw [← h2]; exact e)
    · rw [h2, h3] at e
      exact hx e
  refine ⟨h4, ?_⟩
  rw [h4]
  funext k'
  unfold eput entI
  by_cases hk : k' = k
  · subst hk
    rw [if_pos rfl, if_pos ⟨h1, .inr (by rw [h2, h3]; simp)⟩]
  · rw [if_neg hk]
    have : (⟨k'.n, k'.v⟩ : L.Lb) = x → ¬ k'.t = t := fun e e2 => by
      apply hk
      obtain ⟨a, b, d, _⟩ := k
      obtain ⟨a', b', d', _⟩ := k'
      obtain ⟨xn, xv⟩ := x
      simp only [L.Lb.mk.injEq] at *
      obtain ⟨rfl, rfl⟩ := e
      subst h1 h2 h3 e2
      rfl
    congr 1
    simp only [List.mem_append, List.mem_singleton, eq_iff_iff]
    constructor
    · rintro ⟨a, b | b⟩
      · exact ⟨a, .inl b⟩
      · exact ⟨a, .inr (.inl b)⟩
    · rintro ⟨a, b | b | b⟩
      · exact ⟨a, .inl b⟩
      · exact ⟨a, .inr b⟩
      · exact absurd a (this b)
theorem entI_last (R : Rr) (t : ByteArray) (l : List L.Lb) (hne : ∀ x ∈ l, ¬ x.n = em0) : entI R t l = entF (radd R t l) := by
  funext k
  unfold entI entF radd
  by_cases ht : k.t = t
  · subst ht
    by_cases hn : k.n = em0
    · by_cases hv : k.v = em0
      · simp [hn, hv, List.range_succ]
      · have : ¬ (⟨em0, k.v⟩ : L.Lb) ∈ l := fun h => hne _ h rfl
        simp [hn, hv, this]
    · by_cases hm : (⟨k.n, k.v⟩ : L.Lb) ∈ l
      · simp [hn, hm, hasX_more]
      · simp [hn, hm, hasX_more]
  · simp [ht]
/-- The values of a name while a series is put in. -/
def valI (R : Rr) (V : List ByteArray) (t n : ByteArray) (A : List L.Lb) : List ByteArray := V ++ (A.filter fun x => decide (x.n = n) && decide (hasX (R t) x = [])).map (·.v)
theorem valI_old (R : Rr) (V : List ByteArray) (t n : ByteArray) (A : List L.Lb) (x : L.Lb) (h : ¬ (x.n = n ∧ hasX (R t) x = [])) : valI R V t n (A ++ [x]) = valI R V t n A := by
  unfold valI
  rw [List.filter_append]
  have : ([x].filter fun x => decide (x.n = n) && decide (hasX (R t) x = [])) = [] := by
    rw [List.filter_cons_of_neg (by simpa using h)]
    rfl
  rw [this, List.append_nil]
theorem valI_new (R : Rr) (V : List ByteArray) (t : ByteArray) (A : List L.Lb) (x : L.Lb) (h : hasX (R t) x = []) : valI R V t x.n (A ++ [x]) = valI R V t x.n A ++ [x.v] := by
  unfold valI
  rw [List.filter_append]
  have : ([x].filter fun y => decide (y.n = x.n) && decide (hasX (R t) y = [])) = [x] := by
    rw [List.filter_cons_of_pos (by simpa using h)]
    rfl
  rw [this, List.map_append, List.append_assoc]
  rfl
theorem hasX_nil {S : List (List L.Lb)} {x : L.Lb} : hasX S x = [] ↔ ∀ l ∈ S, ¬ x ∈ l := by
  constructor
  · intro h l hl hx
    obtain ⟨i, hi⟩ := List.getElem?_of_mem hl
    have : i ∈ hasX S x := hasX_mem.2 ⟨(List.getElem?_eq_some_iff.1 hi).1, by simp [List.getD, hi, hx]⟩
    rw [h] at this
    cases this
  · intro h
    refine List.eq_nil_iff_forall_not_mem.2 fun i hi => ?_
    obtain ⟨h1, h2⟩ := hasX_mem.1 hi
    refine h (S[i]) (List.getElem_mem h1) ?_
    simpa [List.getD, List.getElem?_eq_getElem h1] using h2
theorem valOk_add {R : Rr} {V : ByteArray → ByteArray → List ByteArray} {t : ByteArray} {l : List L.Lb} (h : ValOk R V) (ho : OneN l) : ValOk (radd R t l) (fun t' n => if t' = t then valI R (V t n) t n l else V t' n) := by
  intro t' n
  by_cases ht : t' = t
  · subst ht
    simp only [if_true, radd]
    refine ⟨?_, fun v => ?_⟩
    · unfold valI
      rw [List.nodup_append]
      refine ⟨(h t' n).1, ?_, ?_⟩
      · rw [List.Nodup, List.pairwise_map]
        refine (List.Pairwise.filter _ ho).imp_of_mem (fun {a b} ha hb hab e => hab ?_)
        rw [List.mem_filter] at ha hb
        simp at ha hb
        rw [ha.2.1, hb.2.1]
      · intro a ha b hb e
        subst e
        obtain ⟨y, hy, rfl⟩ := List.mem_map.1 hb
        rw [List.mem_filter] at hy
        simp at hy
        obtain ⟨l', hl', hm⟩ := ((h t' n).2 y.v).1 ha
        refine hasX_nil.1 hy.2.2 l' hl' ?_
        rw [← hy.2.1] at hm
        exact hm
    · unfold valI
      rw [List.mem_append, (h t' n).2 v, List.mem_map]
      constructor
      · rintro (⟨l', h1, h2⟩ | ⟨y, hy, rfl⟩)
        · exact ⟨l', by simp [h1], h2⟩
        · rw [List.mem_filter] at hy
          simp at hy
          refine ⟨l, by simp, ?_⟩
          rw [← hy.2.1]
          exact hy.1
      · rintro ⟨l', h1, h2⟩
        rw [List.mem_append, List.mem_singleton] at h1
        rcases h1 with h1 | rfl
        · exact .inl ⟨l', h1, h2⟩
        · by_cases hh : hasX (R t') ⟨n, v⟩ = []
          · exact .inr ⟨⟨n, v⟩, List.mem_filter.2 ⟨h2, by simp [hh]⟩, rfl⟩
          · rw [hasX_nil] at hh
            simp only [Classical.not_forall, Classical.not_not] at hh
            obtain ⟨l2, h3, h4⟩ := hh
            exact .inl ⟨l2, h3, h4⟩
  · simp only [if_neg ht, radd]
    exact h t' n
theorem rOk_add {R : Rr} {t : ByteArray} {l : List L.Lb} (h : ROk R) (hr : L.right l = true) (hn : ¬ l ∈ R t) (hlen : (R t).length < 1000) : ROk (radd R t l) := by
  refine ⟨fun t' => ?_, fun t' => ?_, fun t' => ?_⟩ <;> unfold radd <;> by_cases ht : t' = t
  · subst ht
    rw [if_pos rfl]
    intro l' hl'
    rcases List.mem_append.1 hl' with h1 | h1
    · exact h.right t' l' h1
    · rw [List.mem_singleton.1 h1]; exact hr
  · rw [if_neg ht]; exact h.right t'
  · subst ht
    rw [if_pos rfl, List.nodup_append]
    refine ⟨h.one t', by simp, fun a ha b hb e => ?_⟩
    rw [List.mem_singleton.1 hb] at e
    subst e
    exact hn ha
  · rw [if_neg ht]; exact h.one t'
  · subst ht
    rw [if_pos rfl, List.length_append, List.length_singleton]
    omega
  · rw [if_neg ht]; exact h.len t'
end Go.Proofs.YtgmdpbahcbhfjaaGreatDoor.X
/-
  Package index, purely: a name has no more values than there are series.
-/
namespace Go.Proofs.YtgmdpbahcbhfjaaGreatDoor.X
open Go.RowKit

theorem nodup_len {α : Type} [DecidableEq α] : ∀ (a b : List α), a.Nodup → (∀ x ∈ a, x ∈ b) → a.length ≤ b.length
  | [], b, _, _ => Nat.zero_le _
  | x :: t, b, hn, hs => by
    rw [List.nodup_cons] at hn
    have hx : x ∈ b := hs x (by simp)
    have h1 := nodup_len t (b.erase x) hn.2 (fun y hy => (List.mem_erase_of_ne (show y ≠ x from fun e => hn.1 (by rw [← e]; exact hy))).2 (hs y (by simp [hy])))
    rw [List.length_erase_of_mem hx] at h1
    have : 0 < b.length := List.length_pos_of_mem hx
    simp only [List.length_cons]
    omega
theorem val_len {R : Rr} {V : ByteArray → ByteArray → List ByteArray} (hv : ValOk R V) (hR : ∀ t, ∀ l ∈ R t, OneN l) (t n : ByteArray) : (V t n).length ≤ (R t).length := by
  refine Nat.le_trans (nodup_len (V t n) ((R t).map fun l => gotL l n) (hv t n).1 (fun v h => ?_)) (by simp)
  obtain ⟨l, hl, hm⟩ := ((hv t n).2 v).1 h
  exact List.mem_map.2 ⟨l, hl, got_mem (hR t l hl) hm⟩
theorem valI_len {R : Rr} {V : ByteArray → ByteArray → List ByteArray} (hv : ValOk R V) (hR : ∀ t, ∀ l ∈ R t, OneN l) (t n : ByteArray) (A : List L.Lb) : (valI R (V t n) t n A).length ≤ (R t).length + A.length := by
  unfold valI
  rw [List.length_append, List.length_map]
  have h1 := val_len hv hR t n
  have h2 := List.length_filter_le (fun x : L.Lb => decide (x.n = n) && decide (hasX (R t) x = [])) A
  omega
end Go.Proofs.YtgmdpbahcbhfjaaGreatDoor.X
/-
  Package index: Find.
-/
namespace Go.Proofs.YtgmdpbahcbhfjaaGreatDoor.X
open Go.RowKit

/-- What a search tells. -/
def FdR (S : List (List L.Lb)) (l : List L.Lb) (i : Int) (b : Bool) : Prop := (b = true ∧ ∃ n : Nat, i = (n : Int) ∧ S[n]? = some l) ∨ (b = false ∧ i = 0 ∧ ¬ l ∈ S)
theorem Ix.lookN {w : World} {c : Col} {j x eb rb : Nat} {R : ByteArray → List (List L.Lb)} (h : Ix w c j x eb rb R) (t : ByteArray) (s : St) : ∃ ad n cap nb vb i b, Hid (∀ w', Below w.heap.size w w' → (Instr.lookup 82 (.map (some rb)) (.string t) false).run Tryz.prog w' = .ok (.agg #[.slice ad n cap, .map nb, .map vb]) w') ∧ FdR (R t) s.l i b ∧
    Hid (∀ w', Below w.heap.size w w' → (Instr.lookup 100 (.map nb) s.val true).run Tryz.prog w' = .ok (.tuple #[.int .i64 i, .bool b]) w') := by
  obtain ⟨V, ⟨h4, l, h5, h6⟩, h7⟩ := h.rols
  have hlk : ∀ w', Below w.heap.size w w' → (Instr.lookup 82 (.map (some rb)) (.string t) false).run Tryz.prog w' = .ok (roV (al l t)) w' := fun w' hb => (h5.later hb).look ky9 Tryz.underlying82 (zero103 w') t false
  rcases h6 t with ⟨e, hS, _⟩ | ⟨sv, nb, vb, e, hS, hsr, _, ⟨ln, hml, hnu⟩, _⟩
  · refine ⟨none, 0, 0, none, none, 0, false, hidden (fun w' hb => by rw [hlk w' hb, e]; rfl), .inr ⟨rfl, rfl, by rw [hS]; simp⟩, hidden (fun w' hb => ?_)⟩
    exact ml_nil_look ky110 Tryz.underlying100 (zero3i w') s true
  · obtain ⟨rows, h8, _⟩ := hsr.own
    obtain ⟨ad, cap, rfl, _⟩ := owns_form2 h8
    have hb1 : Hid (∀ w', Below w.heap.size w w' → (Instr.lookup 82 (.map (some rb)) (.string t) false).run Tryz.prog w' = .ok (.agg #[.slice ad (R t).length cap, .map (some nb), .map (some vb)]) w') := hidden (fun w' hb => by rw [hlk w' hb, e]; rfl)
    rcases hnu s with ⟨i, h9, h10⟩ | ⟨h9, h10⟩
    · refine ⟨ad, _, cap, some nb, some vb, (i : Int), true, hb1, .inl ⟨rfl, i, rfl, h9⟩, hidden (fun w' hb => ?_)⟩
      have := (hml.later hb).look ky110 Tryz.underlying100 (zero3i w') s true
      rw [h10] at this
      exact this
    · refine ⟨ad, _, cap, some nb, some vb, 0, false, hb1, .inr ⟨rfl, rfl, h9⟩, hidden (fun w' hb => ?_)⟩
      have := (hml.later hb).look ky110 Tryz.underlying100 (zero3i w') s true
      rw [h10] at this
      exact this
set_option maxRecDepth 100000 in
set_option maxHeartbeats 4000000 in
theorem findP {w : World} {c : Col} {j x eb rb B : Nat} {R : ByteArray → List (List L.Lb)} (h : Ix w c j x eb rb R) (hT : L.Tb B w) (t : ByteArray) (ad : Option Addr) (cp : Nat) (l : List L.Lb) (hL : L.Ls w ad l) (hno : ad = none → l = [] ∧ cp = 0) (hlen : l.length ≤ 1000000) :
    Calls Tryz.prog 21 #[.pointer (some ⟨x, 0, none⟩), .string t, .slice ad l.length cp] w fun e w' => (∃ i b, FdR (R t) l i b ∧ e = .returned (.tuple #[.int .i64 i, .bool b])) ∧ Below w.heap.size w w' := by
  have HR := hidden (L.rightP B ad cp l w hL (by omega) hT)
  have HIX := hidden h
  by_cases hr : L.right l = true
  · obtain ⟨ad1, n1, cap1, nb, vb, i, b, HL1, hfd, HL2⟩ := h.lookN t (stOf l hr)
    have HFD : Hid (FdR (R t) l i b) := hidden hfd
    have HS : Hid (∀ w1, Below w.heap.size w w1 → Calls Tryz.prog 51 #[.slice ad l.length cp] w1 fun e w' => e = .returned (stOf l hr).val ∧ Below w1.heap.size w1 w') := hidden (fun w1 hb => setOfP ad cp (stOf l hr) w1 (hL.later hb) hno)
    have c1 := h.blk
    have HB := hidden c1
    have hf1 := fun w => fld1 w ad1 n1 cap1 nb vb
    rw [hr] at HR
    generalize (stOf l hr).val = V at *
    clear h hL hno hfd c1 hr HIX
    generalize l.length = n at *
    unfold L.errL at HR
    simp only [cond_true] at HR
    go_enter Tryz.func21, Tryz.ntmps21
    go_wp2_with (first | (refine HR.out.mono ?_; rintro e w1 ⟨rfl, b1⟩; have B1 := hidden b1; clear b1))
    have p0 := (HB.out.later B1.out).cell 1
    simp only [List.getElem?_cons_zero, List.getElem?_cons_succ] at p0
    have l1 := HL1.out _ B1.out.drew
    have B2 := hidden B1.out.drew
    go_region_with (refine (HS.out _ B2.out).mono ?_; rintro e w3 ⟨rfl, b3⟩; have B3 := hidden (B2.out.trans (Below.mono b3 B2.out.size)); have l2 := HL2.out _ B3.out; have l3 := HL1.out _ B3.out; have p3 := (HB.out.later B3.out).cell 1; simp only [List.getElem?_cons_zero, List.getElem?_cons_succ] at p3; clear b3)
    all_goals
      go_wp2_with fail
      go_ret2
      exact ⟨⟨i, b, HFD.out, rfl⟩, B3.out⟩
  · have hr' : L.right l = false := by simpa using hr
    have HFD : Hid (FdR (R t) l 0 false) := hidden (.inr ⟨rfl, rfl, fun hm => hr (h.ok.right t l hm)⟩)
    rw [hr'] at HR
    unfold L.errL at HR
    simp only [cond_false] at HR
    clear h hL hno hr hr' HIX
    generalize l.length = n at *
    go_enter Tryz.func21, Tryz.ntmps21
    go_wp2_with (first | (refine HR.out.mono ?_; rintro e w1 ⟨rfl, b1⟩; have B1 := hidden b1; clear b1))
    go_ret2
    exact ⟨⟨0, false, HFD.out, rfl⟩, B1.out⟩
end Go.Proofs.YtgmdpbahcbhfjaaGreatDoor.X
/-
  Package index: what stands in memory while a series is put in.
-/
namespace Go.Proofs.YtgmdpbahcbhfjaaGreatDoor.X
open Go.RowKit

/-- What changes is of these kinds, or nobody's. -/
def Kp (F : Nat → Prop) (w : World) (c : Col) (j : Nat) (G : Own → Prop) : Prop := ∀ i, i < w.heap.size → F i → c i = none ∨ ∃ q, G q ∧ c i = some (j, q)
theorem Kp.no {F : Nat → Prop} {w : World} {c : Col} {j : Nat} {G : Own → Prop} (h : Kp F w c j G) {q : Own} (hq : ¬ G q) : ∀ i, i < w.heap.size → F i → ¬ c i = some (j, q) := by
  intro i hi hf e
  rcases h i hi hf with e2 | ⟨q', g, e2⟩
  · rw [e] at e2; cases e2
  · rw [e] at e2
    simp only [Option.some.injEq, Prod.mk.injEq, true_and] at e2
    exact hq (e2 ▸ g)
/-- The index, but for its entries and one tenant's roll. -/
structure Oth (w : World) (c : Col) (j x eb rb : Nat) (t : ByteArray) (R : Rr) (V : ByteArray → ByteArray → List ByteArray) : Prop where
  blk : Blk w x 84 [.map (some eb), .map (some rb)]
  box : c x = some (j, .box)
  rol : c rb = some (j, .rolls) ∧ ∃ lr, Ml Value.string w rb lr ∧ ∀ t', ¬ t' = t → Ro w c j t' (al lr t') (R t') (V t')
def Nums (w : World) (c : Col) (j : Nat) (t : ByteArray) (nb : Nat) (S : List (List L.Lb)) : Prop := c nb = some (j, .nums t) ∧ ∃ ln, Ml St.val w nb ln ∧ Nu S ln
def Vals (w : World) (c : Col) (j : Nat) (t : ByteArray) (vb : Nat) (Vt : ByteArray → List ByteArray) : Prop := c vb = some (j, .vals t) ∧ ∃ lv, Ml Value.string w vb lv ∧ ∀ n, Vw w c j t n (al lv n) (Vt n)
section
variable {F : Nat → Prop} {w w' : World} {c c' : Col} {j : Nat} {G : Own → Prop}
theorem Oth.keep {x eb rb : Nat} {t : ByteArray} {R : Rr} {V : ByteArray → ByteArray → List ByteArray} (h : Oth w c j x eb rb t R V) (hc : Chg F w w') (hK : Kp F w c j G) (hcc : ∀ i, i < w.heap.size → c' i = c i)
    (h1 : ¬ G .box) (h2 : ¬ G .rolls) (h3 : ∀ t', ¬ t' = t → ¬ G (.ser t') ∧ ¬ G (.labs t') ∧ ¬ G (.nums t') ∧ ¬ G (.vals t') ∧ ∀ n, ¬ G (.row t' n)) : Oth w' c' j x eb rb t R V := by
  obtain ⟨a, b, d, lr, e, f⟩ := h
  refine ⟨hc.blk a (fun hf => hK.no h1 x a.lt hf b), by rw [hcc x a.lt]; exact b, by rw [hcc rb e.lt]; exact d, lr, e.chg hc (fun hf => hK.no h2 rb e.lt hf d), fun t' ht => ?_⟩
  obtain ⟨g1, g2, g3, g4, g5⟩ := h3 t' ht
  exact (f t' ht).chg hc (fun i hi hf => ⟨hK.no g1 i hi hf, hK.no g2 i hi hf, hK.no g3 i hi hf, hK.no g4 i hi hf, fun n => hK.no (g5 n) i hi hf⟩) hcc
theorem Sr.keep {t : ByteArray} {sv : Value} {S : List (List L.Lb)} (h : Sr w c j t sv S) (hc : Chg F w w') (hK : Kp F w c j G) (hcc : ∀ i, i < w.heap.size → c' i = c i) (h1 : ¬ G (.ser t)) (h2 : ¬ G (.labs t)) : Sr w' c' j t sv S :=
  h.chg hc (fun i hi hf => ⟨hK.no h1 i hi hf, hK.no h2 i hi hf⟩) hcc
theorem Nums.keep {t : ByteArray} {nb : Nat} {S : List (List L.Lb)} (h : Nums w c j t nb S) (hc : Chg F w w') (hK : Kp F w c j G) (hcc : ∀ i, i < w.heap.size → c' i = c i) (h1 : ¬ G (.nums t)) : Nums w' c' j t nb S := by
  obtain ⟨a, ln, b, d⟩ := h
  exact ⟨by rw [hcc nb b.lt]; exact a, ln, b.chg hc (fun hf => hK.no h1 nb b.lt hf a), d⟩
theorem Vals.keep {t : ByteArray} {vb : Nat} {Vt : ByteArray → List ByteArray} (h : Vals w c j t vb Vt) (hc : Chg F w w') (hK : Kp F w c j G) (hcc : ∀ i, i < w.heap.size → c' i = c i) (h1 : ¬ G (.vals t)) (h2 : ∀ n, ¬ G (.row t n)) : Vals w' c' j t vb Vt := by
  obtain ⟨a, lv, b, d⟩ := h
  exact ⟨by rw [hcc vb b.lt]; exact a, lv, b.chg hc (fun hf => hK.no h1 vb b.lt hf a), fun n => (d n).chg hc (hK.no (h2 n)) hcc⟩
theorem Ents.keep {eb : Nat} {E : Kx → List Nat} (h : Ents w c j eb E) (hc : Chg F w w') (hK : Kp F w c j G) (hcc : ∀ i, i < w.heap.size → c' i = c i) (h1 : ¬ G .ents) (h2 : ∀ k, ¬ G (.ids k)) : Ents w' c' j eb E :=
  h.chg hc (fun hf => by obtain ⟨a, l, b, _⟩ := h; exact hK.no h1 eb b.lt hf a) (fun k i hi hf => hK.no (h2 k) i hi hf) hcc
end
theorem sl_rm {l : List (ByteArray × Value)} {k k' : ByteArray} (h : ¬ k' = k) : al (rm l k) k' = al l k' := by
  unfold al rm
  congr 1
  rw [List.find?_filter]
  congr 1
  funext p
  by_cases e : p.1 = k'
  · subst e; simp [h]
  · simp [e]
theorem sl_put {l : List (ByteArray × Value)} {k k' : ByteArray} {v : Value} : al ((k, v) :: rm l k) k' = if k' = k then some v else al l k' := by
  by_cases h : k' = k
  · subst h; simp [al]
  · rw [if_neg h, ← sl_rm (l := l) h]
    have : ¬ k = k' := fun e => h e.symm
    simp [al, this]
theorem st_rm {l : List (St × Value)} {k k' : St} (h : ¬ k' = k) : al (rm l k) k' = al l k' := by
  unfold al rm
  congr 1
  rw [List.find?_filter]
  congr 1
  funext p
  by_cases e : p.1 = k'
  · subst e; simp [h]
  · simp [e]
theorem st_put {l : List (St × Value)} {k k' : St} {v : Value} : al ((k, v) :: rm l k) k' = if k' = k then some v else al l k' := by
  by_cases h : k' = k
  · subst h; simp [al]
  · rw [if_neg h, ← st_rm (l := l) h]
    have : ¬ k = k' := fun e => h e.symm
    simp [al, this]
theorem Vw.owns {w : World} {c : Col} {j : Nat} {t n : ByteArray} {o : Option Value} {V : List ByteArray} (h : Vw w c j t n o V) : w.ownsRow 0 9 1 (rwV o) V.length (strs V) ∧ ∀ g, (rwV o).ownBlock = some g → c g = some (j, .row t n) := by
  rcases h with ⟨rfl, rfl⟩ | ⟨v, rfl, _, h4, h5⟩
  · exact ⟨World.ownsRow_nil w 0 9 1, fun g hg => by cases hg⟩
  · exact ⟨h4, h5⟩
theorem zero69 (w : World) : (zeroValue 69).run Tryz.prog w = .ok (.slice none 0 0) w := by kernel_rfl
/-- A number more. -/
theorem nu_put {S : List (List L.Lb)} {ln : List (St × Value)} (h : Nu S ln) (s : St) (hs : ¬ s.l ∈ S) : Nu (S ++ [s.l]) ((s, .int .i64 (S.length : Int)) :: rm ln s) := by
  intro s'
  rw [st_put]
  by_cases e : s' = s
  · subst e
    rw [if_pos rfl]
    exact .inl ⟨S.length, by simp, rfl⟩
  · rw [if_neg e]
    rcases h s' with ⟨i, h1, h2⟩ | ⟨h1, h2⟩
    · exact .inl ⟨i, by rw [List.getElem?_append_left (List.getElem?_eq_some_iff.1 h1).1]; exact h1, h2⟩
    · refine .inr ⟨?_, h2⟩
      rw [List.mem_append, List.mem_singleton]
      rintro (h3 | h3)
      · exact h1 h3
      · exact e (St.ext' h3)
end Go.Proofs.YtgmdpbahcbhfjaaGreatDoor.X
/-
  Package index: the steps of put, in memory.
-/
namespace Go.Proofs.YtgmdpbahcbhfjaaGreatDoor.X
open Go.RowKit

/-- While a series is put in. -/
structure PI (w : World) (c : Col) (j x eb rb rv : Nat) (t : ByteArray) (sv : Value) (nb vb : Nat) (E : Kx → List Nat) (S S2 : List (List L.Lb)) (Vt : ByteArray → List ByteArray) (R : Rr) (V : ByteArray → ByteArray → List ByteArray) : Prop where
  oth : Oth w c j x eb rb t R V
  ents : Ents w c j eb E
  rvb : Blk w rv 103 [sv, .map (some nb), .map (some vb)]
  rvc : c rv = none
  sr : Sr w c j t sv S
  nums : Nums w c j t nb S2
  vals : Vals w c j t vb Vt
section
variable {w w' w0 : World} {c c' c0 : Col} {j x eb rb rv : Nat} {t : ByteArray} {sv : Value} {nb vb : Nat} {E E' : Kx → List Nat} {S S2 S3 : List (List L.Lb)} {Vt Vt' : ByteArray → List ByteArray} {R : Rr} {V : ByteArray → ByteArray → List ByteArray}
theorem PI.later (h : PI w c j x eb rb rv t sv nb vb E S S2 Vt R V) (hb : Below w.heap.size w w') : PI w' c j x eb rb rv t sv nb vb E S S2 Vt R V := by
  have hc : Chg (fun _ => False) w w' := Chg.of_below hb
  have hK : Kp (fun _ => False) w c j (fun _ => False) := fun i _ e => e.elim
  obtain ⟨a, b, d, e, f, g, i⟩ := h
  exact ⟨a.keep hc hK (fun _ _ => rfl) (fun e => e) (fun e => e) (fun _ _ => ⟨fun e => e, fun e => e, fun e => e, fun e => e, fun _ e => e⟩), b.later hb, d.later hb, e, f.keep hc hK (fun _ _ => rfl) (fun e => e) (fun e => e), g.keep hc hK (fun _ _ => rfl) (fun e => e), i.keep hc hK (fun _ _ => rfl) (fun e => e) (fun _ e => e)⟩
theorem PI.entered {k : Kx} (h : PI w c j x eb rb rv t sv nb vb E S S2 Vt R V) (he : Ents w' c' j eb E') (hcc : ∀ i, i < w.heap.size → c' i = c i) (hc : Chg (fun i => i = eb ∨ c i = some (j, .ids k)) w w') : PI w' c' j x eb rb rv t sv nb vb E' S S2 Vt R V := by
  have heb : c eb = some (j, .ents) := h.ents.1
  have hK : Kp (fun i => i = eb ∨ c i = some (j, .ids k)) w c j (fun q => q = .ents ∨ q = .ids k) := fun i _ hi => by
    rcases hi with e | e
    · exact .inr ⟨_, .inl rfl, by rw [e]; exact heb⟩
    · exact .inr ⟨_, .inr rfl, e⟩
  obtain ⟨a, b, d, e, f, g, i⟩ := h
  refine ⟨a.keep hc hK hcc ((by rintro (e | e) <;> cases e)) ((by rintro (e | e) <;> cases e)) (fun _ _ => ⟨(by rintro (e | e) <;> cases e), (by rintro (e | e) <;> cases e), (by rintro (e | e) <;> cases e), (by rintro (e | e) <;> cases e), fun _ => (by rintro (e | e) <;> cases e)⟩), he, hc.blk d ?_, by rw [hcc rv d.lt]; exact e,
    f.keep hc hK hcc ((by rintro (e | e) <;> cases e)) ((by rintro (e | e) <;> cases e)), g.keep hc hK hcc ((by rintro (e | e) <;> cases e)), i.keep hc hK hcc ((by rintro (e | e) <;> cases e)) (fun _ => (by rintro (e | e) <;> cases e))⟩
  rintro (e2 | e2)
  · rw [← e2, e] at heb; cases heb
  · rw [e] at e2; cases e2
theorem PI.valued {n : ByteArray} (h : PI w c j x eb rb rv t sv nb vb E S S2 Vt R V) (he : Vals w' c' j t vb Vt') (hcc : ∀ i, i < w.heap.size → c' i = c i) (hc : Chg (fun i => i = vb ∨ c i = some (j, .row t n)) w w') : PI w' c' j x eb rb rv t sv nb vb E S S2 Vt' R V := by
  have heb : c vb = some (j, .vals t) := h.vals.1
  have hK : Kp (fun i => i = vb ∨ c i = some (j, .row t n)) w c j (fun q => q = .vals t ∨ q = .row t n) := fun i _ hi => by
    rcases hi with e | e
    · exact .inr ⟨_, .inl rfl, by rw [e]; exact heb⟩
    · exact .inr ⟨_, .inr rfl, e⟩
  obtain ⟨a, b, d, e, f, g, i⟩ := h
  refine ⟨a.keep hc hK hcc ((by rintro (e | e) <;> cases e)) ((by rintro (e | e) <;> cases e)) (fun t' ht => ⟨(by rintro (e | e) <;> cases e), (by rintro (e | e) <;> cases e), (by rintro (e | e) <;> cases e), ?_, fun _ => ?_⟩), b.keep hc hK hcc ((by rintro (e | e) <;> cases e)) (fun _ => (by rintro (e | e) <;> cases e)), hc.blk d ?_, by rw [hcc rv d.lt]; exact e,
    f.keep hc hK hcc ((by rintro (e | e) <;> cases e)) ((by rintro (e | e) <;> cases e)), g.keep hc hK hcc ((by rintro (e | e) <;> cases e)), he⟩
  · rintro (e2 | e2)
    · exact ht (Own.vals.inj e2)
    · cases e2
  · rintro (e2 | e2)
    · cases e2
    · exact ht (Own.row.inj e2).1
  · rintro (e2 | e2)
    · rw [← e2, e] at heb; cases heb
    · rw [e] at e2; cases e2
theorem PI.numbered (h : PI w c j x eb rb rv t sv nb vb E S S2 Vt R V) (he : Nums w' c j t nb S3) (hc : Chg (fun i => i = nb) w w') : PI w' c j x eb rb rv t sv nb vb E S S3 Vt R V := by
  have heb : c nb = some (j, .nums t) := h.nums.1
  have hK : Kp (fun i => i = nb) w c j (fun q => q = .nums t) := fun i _ e => .inr ⟨_, rfl, by rw [e]; exact heb⟩
  obtain ⟨a, b, d, e, f, g, i⟩ := h
  refine ⟨a.keep hc hK (fun _ _ => rfl) ((by rintro e; cases e)) ((by rintro e; cases e)) (fun t' ht => ⟨(by rintro e; cases e), (by rintro e; cases e), fun e2 => ht (Own.nums.inj e2), (by rintro e; cases e), fun _ => (by rintro e; cases e)⟩), b.keep hc hK (fun _ _ => rfl) ((by rintro e; cases e)) (fun _ => (by rintro e; cases e)), hc.blk d ?_, e,
    f.keep hc hK (fun _ _ => rfl) ((by rintro e; cases e)) ((by rintro e; cases e)), he, i.keep hc hK (fun _ _ => rfl) ((by rintro e; cases e)) (fun _ => (by rintro e; cases e))⟩
  intro e2
  rw [← e2, e] at heb; cases heb
/-- What has been done so far. -/
def Acc (w0 : World) (c0 : Col) (j : Nat) (w : World) (c : Col) : Prop := (∀ i, i < w0.heap.size → c i = c0 i) ∧ Chg (fun i => ∃ q, c0 i = some (j, q)) w0 w
theorem Acc.step {F : Nat → Prop} (h : Acc w0 c0 j w c) (hcc : ∀ i, i < w.heap.size → c' i = c i) (hc : Chg F w w') (hF : ∀ i, i < w0.heap.size → F i → ∃ q, c i = some (j, q)) : Acc w0 c0 j w' c' := by
  refine ⟨fun i hi => ?_, h.2.trans hc (fun i hi hf => ?_)⟩
  · rw [hcc i (Nat.lt_of_lt_of_le hi h.2.size)]
    exact h.1 i hi
  · obtain ⟨q, hq⟩ := hF i hi hf
    rw [h.1 i hi] at hq
    exact ⟨q, hq⟩
theorem Acc.later (h : Acc w0 c0 j w c) (hb : Below w.heap.size w w') : Acc w0 c0 j w' c := h.step (F := fun _ => False) (fun _ _ => rfl) (Chg.of_below hb) (fun _ _ e => e.elim)
theorem ls_chg {F : Nat → Prop} {ad : Option Addr} {l : List L.Lb} (h : L.Ls w ad l) (hc : Chg F w w') (hF : ∀ a, ad = some a → ¬ F a.block) : L.Ls w' ad l := by
  refine ⟨h.sz, fun h0 => ?_⟩
  obtain ⟨b, off, e, hlt, hcell⟩ := h.at' h0
  refine ⟨b, off, e, Nat.lt_of_lt_of_le hlt hc.size, fun i y hy => ?_⟩
  have hb := hc.block b hlt (hF _ e)
  obtain ⟨q0, q1⟩ := hcell i y hy
  exact ⟨by rw [World.cell?_of_block (a := ⟨b, off + i * 2, none⟩) hb]; exact q0, by rw [World.cell?_of_block (a := ⟨b, off + i * 2 + 1, none⟩) hb]; exact q1⟩
/-- A tenant that has a roll. -/
theorem Ix.known (h : Ix w c j x eb rb R) (hS : ¬ R t = []) : ∃ V lr ad cap nb vb, Rols w c j rb R V ∧ ValOk R V ∧ Ml Value.string w rb lr ∧ al lr t = some (.agg #[.slice ad (R t).length cap, .map (some nb), .map (some vb)]) ∧ Oth w c j x eb rb t R V ∧ Sr w c j t (.slice ad (R t).length cap) (R t) ∧ Nums w c j t nb (R t) ∧ Vals w c j t vb (V t) := by
  obtain ⟨V, hr, hv⟩ := h.rols
  have hr0 := hr
  obtain ⟨h4, lr, h5, h6⟩ := hr
  rcases h6 t with ⟨_, e, _⟩ | ⟨sv, nb, vb, e, _, hsr, g1, g2, g3, g4⟩
  · exact absurd e hS
  · obtain ⟨rows, h8, _⟩ := hsr.own
    obtain ⟨ad, cap, rfl, _⟩ := owns_form2 h8
    exact ⟨V, lr, ad, cap, nb, vb, hr0, hv, h5, e, ⟨h.blk, h.box, h4, lr, h5, fun t' _ => h6 t'⟩, hsr, ⟨g1, g2⟩, ⟨g3, g4⟩⟩
theorem Ix.unknown (h : Ix w c j x eb rb R) (hS : R t = []) : ∃ V lr, ValOk R V ∧ Ml Value.string w rb lr ∧ al lr t = none ∧ Oth w c j x eb rb t R V ∧ ∀ n, V t n = [] := by
  obtain ⟨V, ⟨h4, lr, h5, h6⟩, hv⟩ := h.rols
  rcases h6 t with ⟨e, _, e2⟩ | ⟨sv, nb, vb, e, hne, _⟩
  · exact ⟨V, lr, hv, h5, e, ⟨h.blk, h.box, h4, lr, h5, fun t' _ => h6 t'⟩, e2⟩
  · exact absurd hS hne
end
end Go.Proofs.YtgmdpbahcbhfjaaGreatDoor.X
/-
  Package index: enter of one label, while a series is put in.
-/
namespace Go.Proofs.YtgmdpbahcbhfjaaGreatDoor.X
open Go.RowKit

theorem enterLb {w w0 : World} {c c0 : Col} {j x eb rb rv : Nat} {t : ByteArray} {sv : Value} {nb vb : Nat} {S S2 : List (List L.Lb)} {Vt : ByteArray → List ByteArray} {R : Rr} {V : ByteArray → ByteArray → List ByteArray} {A : List L.Lb}
    (h : PI w c j x eb rb rv t sv nb vb (entI R t A) S S2 Vt R V) (ha : Acc w0 c0 j w c) (y : L.Lb) (hy : y.fits = true) (hA : ¬ y ∈ A) (hlen : (R t).length < 1000) (ht : t.size ≤ maxLen) (N : Nat) (hN : (R t).length = N) :
    Calls Tryz.prog 69 #[.pointer (some ⟨x, 0, none⟩), .agg #[.string t, .string y.n, .string y.v], .int .i64 (N : Int)] w fun e w' => e = .returned (.bool (decide (hasX (R t) y = []))) ∧ ∃ c', PI w' c' j x eb rb rv t sv nb vb (entI R t (A ++ [y])) S S2 Vt R V ∧ Acc w0 c0 j w' c' ∧ Chg (fun i => ∃ q, c i = some (j, q)) w w' := by
  subst hN
  have hf := fits_name hy
  have hk : ∃ k : Kx, k.t = t ∧ k.n = y.n ∧ k.v = y.v := ⟨⟨t, y.n, y.v, ht, by unfold maxLen; omega, by unfold maxLen; omega⟩, rfl, rfl, rfl⟩
  obtain ⟨k, h1, h2, h3⟩ := hk
  obtain ⟨g1, g2⟩ := entI_next R t A y k h1 h2 h3 hA (fits_ne hy)
  have h9 : entF R k = hasX (R t) y := by
    unfold entF
    rw [h2, if_neg (fits_ne hy), h1, h3]
  have hl : (hasX (R t) y).length ≤ (R t).length := by
    unfold hasX
    exact Nat.le_trans (List.length_filter_le _ _) (by simp)
  have hE := enterP x eb rb c j (R t).length (entI R t A) k w h.oth.blk h.ents (fun i hi e => by
    have hb := h.oth.box
    rcases hi with e1 | e1
    · have he := h.ents.1
      rw [← e1, e, hb] at he
      cases he
    · rw [e, hb] at e1
      cases e1) (by omega) (by rw [g1, h9]; omega)
  have hu : Kx.val k = .agg #[.string t, .string y.n, .string y.v] := by unfold Kx.val; rw [h1, h2, h3]
  rw [hu] at hE
  refine hE.mono ?_
  rintro e w4 ⟨rfl, c4, q1, q2, q3⟩
  refine ⟨?_, c4, ?_, ha.step q1 q3 (fun i hi hf => ?_), q3.mono (fun i hi hf => ?_)⟩
  · rw [g1, h9]
    simp [List.length_eq_zero_iff]
  · rw [g2] at q2
    exact h.entered q2 q1 q3
  · rcases hf with e1 | e1
    · exact ⟨_, by rw [e1]; exact h.ents.1⟩
    · exact ⟨_, e1⟩
  · rcases hf with e1 | e1
    · exact ⟨_, by rw [e1]; exact h.ents.1⟩
    · exact ⟨_, e1⟩
/-- New blocks are nobody's. -/
theorem PI.recol {w w0 : World} {c c0 : Col} {j x eb rb rv : Nat} {t : ByteArray} {sv : Value} {nb vb : Nat} {E : Kx → List Nat} {S S2 : List (List L.Lb)} {Vt : ByteArray → List ByteArray} {R : Rr} {V : ByteArray → ByteArray → List ByteArray}
    (h : PI w c j x eb rb rv t sv nb vb E S S2 Vt R V) (ha : Acc w0 c0 j w c) : ∃ c', c' w.heap.size = none ∧ (∀ i, i < w.heap.size → c' i = c i) ∧ PI w c' j x eb rb rv t sv nb vb E S S2 Vt R V ∧ Acc w0 c0 j w c' := by
  have hcc : ∀ i, i < w.heap.size → (fun i => if i = w.heap.size then none else c i : Col) i = c i := fun i hi => by
    have : ¬ i = w.heap.size := by omega
    simp [this]
  have hc : Chg (fun _ => False) w w := Chg.refl _ _
  have hK : Kp (fun _ => False) w c j (fun _ => False) := fun i _ e => e.elim
  obtain ⟨a, b, d, e, f, g, i⟩ := h
  exact ⟨_, by simp, hcc, ⟨a.keep hc hK hcc (fun e => e) (fun e => e) (fun _ _ => ⟨fun e => e, fun e => e, fun e => e, fun e => e, fun _ e => e⟩), b.keep hc hK hcc (fun e => e) (fun _ e => e), d, (hcc rv d.lt).trans e, f.keep hc hK hcc (fun e => e) (fun e => e), g.keep hc hK hcc (fun e => e), i.keep hc hK hcc (fun e => e) (fun _ e => e)⟩, ha.step hcc hc (fun _ _ e => e.elim)⟩
end Go.Proofs.YtgmdpbahcbhfjaaGreatDoor.X
/-
  Package index: a list more in a tenant's series; the roll put back.
-/
namespace Go.Proofs.YtgmdpbahcbhfjaaGreatDoor.X
open Go.RowKit

theorem step_go {ops : Array Oper} {o : Oper} {a : Act} {w : World} {K : Act → World → Prop} {Q : Exit → Act → World → Prop} {E : Prop} (hgd : o.guard = none) (f : FuncId) (args : Array Value) (h : (execOp a.eval o).run Tryz.prog w = .ok (.enter f args) w) (R : Value → World → Prop) (hc : Calls Tryz.prog f args w fun e w' => ∃ v, e = .returned v ∧ R v w')
    (hK : ∀ v w', R v w' → K (a.put o.dst v) w') : if Region.wanted o (yielded ops a.tmps) = true then Oper.wp Tryz.prog o a w K Q else E := by
  have hw : Region.wanted o (yielded ops a.tmps) = true := by simp [Region.wanted, hgd]
  rw [if_pos hw]
  unfold Oper.wp
  rw [h]
  refine Calls.mono hc ?_
  rintro e w' ⟨v, rfl, h1⟩
  exact hK v w' h1
theorem info36s : (Tryz.prog.info? 36).map (fun i => (i.zero, i.size, i.bytes)) = some (some (.slice none 0 0), 1, 24) := by kernel_rfl
theorem strs_snoc (l : List ByteArray) (v : ByteArray) : strs l ++ [.string v] = strs (l ++ [v]) := by simp [strs]
section
variable {w w1 w6 w7 w0 : World} {c c' c0 : Col} {j x eb rb rv g cap : Nat} {t : ByteArray} {sv v : Value} {nb vb : Nat} {E : Kx → List Nat} {S S2 : List (List L.Lb)} {Vt : ByteArray → List ByteArray} {R : Rr} {V : ByteArray → ByteArray → List ByteArray} {l : List L.Lb} {rows : List Value}
/-- A list more. -/
theorem PI.rolled (h : PI w c j x eb rb rv t sv nb vb E S S2 Vt R V) (ha : Acc w0 c0 j w c) (hr0 : w0.heap.size ≤ rv)
    (hrow : w.ownsRow 0 36 1 sv S.length rows) (hcl : ∀ (i : Nat) (l : List L.Lb), S[i]? = some l → ∃ v, rows[i]? = some v ∧ w.ownsRow 0 75 2 v l.length (cLb l) ∧ ∀ g, v.ownBlock = some g → c g = some (j, .labs t))
    (h1 : w1.ownsRow w.heap.size 75 2 v l.length (cLb l)) (b1 : Below w.heap.size w w1)
    (o6 : w6.ownsRow 0 36 1 (.slice (some ⟨g, 0, none⟩) (S.length + 1) cap) (S.length + 1) (rows ++ [v])) (c6 : Chg (fun i => sv.ownBlock = some i) w1 w6) (mv : Moved w1 sv.ownBlock (some g))
    (c7 : Chg (fun i => i = rv) w6 w7) (hb7 : Blk w7 rv 103 [.slice (some ⟨g, 0, none⟩) (S.length + 1) cap, .map (some nb), .map (some vb)]) :
    ∃ c', PI w7 c' j x eb rb rv t (.slice (some ⟨g, 0, none⟩) (S.length + 1) cap) nb vb E (S ++ [l]) S2 Vt R V ∧ Acc w0 c0 j w7 c' := by
  have hsc := h.sr.col
  have hrl := h.rvb.lt
  have hvlo : ∀ i, v.ownBlock = some i → w.heap.size ≤ i ∧ i < w1.heap.size := fun i hi => by
    refine ⟨?_, owns_lt h1 i hi⟩
    rcases h1.2 with ⟨e, _⟩ | ⟨g', cap', cur, e, hb, _⟩
    · rw [e] at hi; cases hi
    · rw [e] at hi
      obtain rfl : g' = i := by simpa [Value.ownBlock] using hi
      exact hb
  have hgc : g < w.heap.size → c g = some (j, .ser t) := by
    intro hg
    rcases mv with e | ⟨g', e, hg'⟩
    · exact hsc g e.symm
    · obtain rfl := Option.some.inj e
      have := b1.size
      omega
  have hgv : ∀ i, v.ownBlock = some i → ¬ i = g := by
    intro i hi e
    subst e
    obtain ⟨a1, a2⟩ := hvlo i hi
    rcases mv with e | ⟨g', e, hg'⟩
    · have := owns_lt hrow i e.symm
      omega
    · obtain rfl := Option.some.inj e
      omega
  have hgr : ¬ g = rv := by
    intro e
    subst e
    have := hgc hrl
    rw [h.rvc] at this
    cases this
  have hch : Chg (fun i => i = rv ∨ sv.ownBlock = some i) w w7 := ((Chg.of_below (F := fun i => i = rv ∨ sv.ownBlock = some i) b1).trans c6 (fun i _ hi => .inr hi)).trans c7 (fun i _ hi => .inl hi)
  have hcc : ∀ i, i < w.heap.size → (fun i => if i = g then some (j, .ser t) else if v.ownBlock = some i then some (j, .labs t) else c i : Col) i = c i := by
    intro i hi
    by_cases e : i = g
    · subst e
      simp only [if_true]
      exact (hgc hi).symm
    · have : ¬ v.ownBlock = some i := fun e2 => by have := (hvlo i e2).1; omega
      simp only [if_neg e, if_neg this]
  have hK : Kp (fun i => i = rv ∨ sv.ownBlock = some i) w c j (fun q => q = .ser t) := fun i _ hi => by
    rcases hi with e | e
    · exact .inl (by rw [e]; exact h.rvc)
    · exact .inr ⟨_, rfl, hsc i e⟩
  refine ⟨fun i => if i = g then some (j, .ser t) else if v.ownBlock = some i then some (j, .labs t) else c i, ?_, ?_⟩
  · obtain ⟨a, b, d, e, f, gn, i⟩ := h
    refine ⟨a.keep hch hK hcc (by rintro e; cases e) (by rintro e; cases e) (fun t' ht => ⟨fun e2 => ht (Own.ser.inj e2), (by rintro e; cases e), (by rintro e; cases e), (by rintro e; cases e), fun _ => (by rintro e; cases e)⟩), b.keep hch hK hcc (by rintro e; cases e) (fun _ => (by rintro e; cases e)), hb7, (hcc rv hrl).trans e, ?_,
      gn.keep hch hK hcc (by rintro e; cases e), i.keep hch hK hcc (by rintro e; cases e) (fun _ => (by rintro e; cases e))⟩
    refine ⟨⟨rows ++ [v], ?_, fun k l' hk => ?_⟩, fun g' hg' => ?_⟩
    · rw [List.length_append, List.length_singleton]
      exact c7.owns o6 (fun g' hg' e2 => by cases hg'; exact hgr e2)
    · have hrl2 : rows.length = S.length := by have := hrow.1; omega
      by_cases hlt : k < S.length
      · rw [List.getElem?_append_left hlt] at hk
        obtain ⟨u, hu, ho, hg⟩ := hcl k l' hk
        refine ⟨u, by rw [List.getElem?_append_left (by omega)]; exact hu, hch.owns ho (fun g' hg' e2 => ?_), fun g' hg' => ?_⟩
        · have h9 := hg g' hg'
          rcases e2 with e2 | e2
          · rw [e2, e] at h9; cases h9
          · rw [hsc g' e2] at h9; cases h9
        · exact (hcc g' (owns_lt ho g' hg')).trans (hg g' hg')
      · have hk2 := (List.getElem?_eq_some_iff.1 hk).1
        rw [List.length_append, List.length_singleton] at hk2
        have hke : k = S.length := by omega
        subst hke
        rw [List.getElem?_append_right (Nat.le_refl _), Nat.sub_self] at hk
        simp at hk
        subst hk
        refine ⟨v, by rw [List.getElem?_append_right (by omega), hrl2, Nat.sub_self]; rfl, ?_, fun g' hg' => ?_⟩
        · refine c7.owns (c6.owns ⟨h1.1, ?_⟩ (fun g' hg' e2 => ?_)) (fun g' hg' e2 => ?_)
          · rcases h1.2 with hh | ⟨g', cap', cur, e2, _, r⟩
            · exact .inl hh
            · exact .inr ⟨g', cap', cur, e2, Nat.zero_le _, r⟩
          · have := owns_lt hrow g' e2
            have := (hvlo g' hg').1
            omega
          · have := (hvlo g' hg').1
            omega
        · have := hgv g' hg'
          simp only [if_neg this, if_pos hg']
    · cases hg'
      simp
  · refine ha.step hcc hch (fun i hi hf => ?_)
    rcases hf with e | e
    · omega
    · exact ⟨_, hsc i e⟩
/-- The roll is put back. -/
theorem PI.back {cap' : Nat} (h : PI w c j x eb rb rv t (.slice (some ⟨g, 0, none⟩) cap cap') nb vb (entI R t l) (R t ++ [l]) (R t ++ [l]) (fun n => valI R (V t n) t n l) R V) (ha : Acc w0 c0 j w c) (hv : ValOk R V) (hR : ROk R) (hr : L.right l = true) (hn : ¬ l ∈ R t) (hlen : (R t).length < 1000) {lr : List (ByteArray × Value)}
    (hlr : Ml Value.string w rb lr) (hoth : ∀ t', ¬ t' = t → Ro w c j t' (al lr t') (R t') (V t')) (m7 : Ml Value.string w7 rb ((t, .agg #[.slice (some ⟨g, 0, none⟩) cap cap', .map (some nb), .map (some vb)]) :: rm lr t)) (c7 : Chg (fun i => i = rb) w w7) :
    Ix w7 c j x eb rb (radd R t l) ∧ Acc w0 c0 j w7 c := by
  have hrb := h.oth.rol.1
  have hK : Kp (fun i => i = rb) w c j (fun q => q = .rolls) := fun i _ e => .inr ⟨_, rfl, by rw [e]; exact hrb⟩
  have hne : ∀ x ∈ l, ¬ x.n = em0 := fun y hy => fits_ne ((right_fits hr).2.2 y hy)
  refine ⟨?_, ha.step (fun _ _ => rfl) c7 (fun i hi hf => ⟨.rolls, by rw [show i = rb from hf]; exact hrb⟩)⟩
  have hsr := h.sr.keep c7 hK (fun _ _ => rfl) (by rintro e; cases e) (by rintro e; cases e)
  obtain ⟨n1, n2⟩ := h.nums.keep c7 hK (fun _ _ => rfl) (by rintro e; cases e)
  obtain ⟨v1, v2⟩ := h.vals.keep c7 hK (fun _ _ => rfl) (by rintro e; cases e) (fun _ => (by rintro e; cases e))
  refine ⟨c7.blk h.oth.blk (fun e => by have := h.oth.box; rw [e, hrb] at this; cases this), h.oth.box, ?_, ⟨fun t' n => if t' = t then valI R (V t n) t n l else V t' n, ⟨hrb, _, m7, fun t' => ?_⟩, valOk_add hv (right_oneN hr)⟩, rOk_add hR hr hn hlen⟩
  · have := h.ents.keep c7 hK (fun _ _ => rfl) (by rintro e; cases e) (fun _ => (by rintro e; cases e))
    rw [entI_last R t l hne] at this
    exact this
  · rw [sl_put]
    by_cases ht : t' = t
    · subst ht
      simp only [if_true, radd]
      exact .inr ⟨_, nb, vb, rfl, by simp, hsr, n1, n2, v1, v2⟩
    · simp only [if_neg ht, radd]
      refine (hoth t' ht).chg c7 (fun i hi hf => ?_) (fun _ _ => rfl)
      rw [show i = rb from hf, hrb]
      exact ⟨(by rintro e; cases e), (by rintro e; cases e), (by rintro e; cases e), (by rintro e; cases e), fun _ => (by rintro e; cases e)⟩
end
end Go.Proofs.YtgmdpbahcbhfjaaGreatDoor.X
/-
  Package index: the region of put that enters a new value.
-/
namespace Go.Proofs.YtgmdpbahcbhfjaaGreatDoor.X
open Go.RowKit

/-- A value behind the others, told in one world. -/
theorem Vals.put2 {w w7 : World} {c : Col} {j vb g : Nat} {cap : Nat} {t n v : ByteArray} {Vt : ByteArray → List ByteArray} {l : List (ByteArray × Value)} (hc : c vb = some (j, .vals t)) (hl : Ml Value.string w vb l) (hR : ∀ n, Vw w c j t n (al l n) (Vt n))
    (o7 : w7.ownsRow 0 9 1 (.slice (some ⟨g, 0, none⟩) ((Vt n).length + 1) cap) ((Vt n).length + 1) (strs (Vt n ++ [v]))) (c7 : Chg (fun i => i = vb ∨ (rwV (al l n)).ownBlock = some i) w w7) (mv : Moved w (rwV (al l n)).ownBlock (some g))
    (m7 : Ml Value.string w7 vb ((n, .slice (some ⟨g, 0, none⟩) ((Vt n).length + 1) cap) :: rm l n)) :
    ∃ c', (∀ i, i < w.heap.size → c' i = c i) ∧ Vals w7 c' j t vb (fun n' => if n' = n then Vt n ++ [v] else Vt n') ∧ Chg (fun i => i = vb ∨ c i = some (j, .row t n)) w w7 := by
  have hown := (hR n).owns
  have hgc : g < w.heap.size → c g = some (j, .row t n) := by
    intro hg
    rcases mv with e | ⟨g', e, hg'⟩
    · exact hown.2 g e.symm
    · obtain rfl := Option.some.inj e
      omega
  have hch : Chg (fun i => i = vb ∨ c i = some (j, .row t n)) w w7 := c7.mono (fun i _ hi => hi.imp (fun e => e) (fun e => hown.2 i e))
  have hcc : ∀ i, i < w.heap.size → (fun i => if i = g then some (j, Own.row t n) else c i) i = c i := by
    intro i hi
    by_cases e : i = g
    · subst e
      simp only [if_true]
      exact (hgc hi).symm
    · simp only [if_neg e]
  refine ⟨fun i => if i = g then some (j, .row t n) else c i, hcc, ⟨by rw [hcc vb hl.lt]; exact hc, _, m7, fun n' => ?_⟩, hch⟩
  rw [sl_put]
  show Vw w7 _ j t n' _ (if n' = n then Vt n ++ [v] else Vt n')
  by_cases hk : n' = n
  · subst hk
    rw [if_pos rfl, if_pos rfl]
    refine .inr ⟨_, rfl, by simp, ?_, fun g' hg' => ?_⟩
    · rw [List.length_append, List.length_singleton]
      exact o7
    · cases hg'
      simp
  · rw [if_neg hk, if_neg hk]
    refine (hR n').chg hch (fun i _ hi hq => ?_) hcc
    rcases hi with e | e
    · rw [e, hc] at hq
      cases hq
    · rw [e] at hq
      simp only [Option.some.injEq, Prod.mk.injEq, true_and, Own.row.injEq] at hq
      exact hk hq.symm
/-- What the region leaves. -/
theorem PI.newval2 {w w0 w9 : World} {c c0 : Col} {j x eb rb rv M g8 c8 cq : Nat} {ad0 : Option Addr} {t : ByteArray} {sv : Value} {nb vb : Nat} {E : Kx → List Nat} {S S2 : List (List L.Lb)} {R : Rr} {V : ByteArray → ByteArray → List ByteArray} {A : List L.Lb} {y : L.Lb} {lv : List (ByteArray × Value)}
    (h : PI w c j x eb rb rv t sv nb vb E S S2 (fun nm => valI R (V t nm) t nm A) R V) (ha : Acc w0 c0 j w c) (hx : hasX (R t) y = []) (hml : Ml Value.string w vb lv) (hvw : ∀ n, Vw w c j t n (al lv n) (valI R (V t n) t n A)) (hM : (valI R (V t y.n) t y.n A).length = M) (hv0 : rwV (al lv y.n) = .slice ad0 M cq)
    (o8 : w9.ownsRow 0 9 1 (.slice (some ⟨g8, 0, none⟩) (M + 1) c8) (M + 1) (strs (valI R (V t y.n) t y.n A) ++ [.string y.v])) (k9 : Chg (fun i => i = vb ∨ (Value.slice ad0 M cq).ownBlock = some i) w w9) (mv : Moved w (Value.slice ad0 M cq).ownBlock (some g8))
    (m9 : Ml Value.string w9 vb ((y.n, .slice (some ⟨g8, 0, none⟩) (M + 1) c8) :: rm lv y.n)) :
    ∃ c', PI w9 c' j x eb rb rv t sv nb vb E S S2 (fun nm => valI R (V t nm) t nm (A ++ [y])) R V ∧ Acc w0 c0 j w9 c' := by
  subst hM
  rw [strs_snoc] at o8
  obtain ⟨c', q1, q2, q3⟩ := Vals.put2 (w := w) (w7 := w9) (n := y.n) (v := y.v) (Vt := fun nm => valI R (V t nm) t nm A) h.vals.1 hml hvw o8 (by rw [hv0]; exact k9) (by rw [hv0]; exact mv) m9
  refine ⟨c', ?_, ha.step q1 q3 (fun i hi hf => ?_)⟩
  · have e : (fun nm => valI R (V t nm) t nm (A ++ [y])) = fun n' => if n' = y.n then valI R (V t y.n) t y.n A ++ [y.v] else valI R (V t n') t n' A := by
      funext nm
      by_cases hn : nm = y.n
      · subst hn
        rw [if_pos rfl]
        exact valI_new R (V t y.n) t A y hx
      · rw [if_neg hn]
        exact valI_old R (V t nm) t nm A y (fun h => hn h.1.symm)
    rw [e]
    exact h.valued q2 q1 q3
  · rcases hf with e | e
    · exact ⟨_, by rw [e]; exact h.vals.1⟩
    · exact ⟨_, e⟩

def noS10 (_ : Nat) : Bool := false
/-- What each operation does to the world. -/
def Ls10 (vb : Nat) (rw0 : Value) (j : Nat) (w w' : World) : Prop := if j = 13 then Chg (fun i => i = vb) w w' else if j = 12 then Chg (fun i => rw0.ownBlock = some i) w w' else w' = w ∨ ∃ o, w' = w.alloc o
def Lt10 (vb : Nat) (rw0 : Value) (w w' : World) : Prop := Chg (fun i => i = vb ∨ rw0.ownBlock = some i) w w'
def Ea10 (vb M : Nat) (rw0 : Value) (xs : List Value) (lv : List (ByteArray × Value)) (i : Nat) (w : World) : Prop := if i = 12 then w.ownsRow 0 9 1 rw0 M xs else if i = 13 ∨ i = 8 then Ml Value.string w vb lv else True
def Tt10 (w0 : World) (rv lb vb M : Nat) (rw0 : Value) (xs : List Value) (yn yv : ByteArray) (Fin : World → Prop) (i : Nat) (v : Value) (w : World) : Prop :=
  match i with
  | 0 => v = .pointer (some ⟨rv, 2, none⟩)
  | 1 => v = .map (some vb)
  | 2 => v = .pointer (some ⟨lb, 0, none⟩)
  | 3 => v = .string yn
  | 4 => v = .pointer (some ⟨rv, 2, none⟩)
  | 5 => v = .map (some vb)
  | 6 => v = .pointer (some ⟨lb, 0, none⟩)
  | 7 => v = .string yn
  | 8 => v = rw0
  | 9 => v = .pointer (some ⟨lb, 1, none⟩)
  | 10 => v = .string yv
  | 11 => ∃ p, v = .slice (some ⟨p, 0, none⟩) 1 1 ∧ w.cell? ⟨p, 0, none⟩ = some (.string yv) ∧ w0.heap.size ≤ p ∧ p < w.heap.size
  | 12 => ∃ g c, v = .slice (some ⟨g, 0, none⟩) (M + 1) c ∧ w.ownsRow 0 9 1 v (M + 1) (xs ++ [.string yv]) ∧ Moved w0 rw0.ownBlock (some g) ∧ ¬ g = vb
  | 13 => Fin w
  | _ => True

set_option maxRecDepth 100000 in
set_option maxHeartbeats 4000000 in
theorem put_r10 (rv lb vb M cq : Nat) (ad0 : Option Addr) (yn yv : ByteArray) (xs : List Value) (lv : List (ByteArray × Value)) (w : World) (a0 : Act) (Q : Exit → Act → World → Prop) (hsz : a0.tmps.size = 80)
    (s7 : a0.tmps.getD 7 undef = .pointer (some ⟨rv, 0, none⟩)) (s11 : a0.tmps.getD 11 undef = .pointer (some ⟨lb, 0, none⟩))
    (hC : ∀ w', Chg (fun i => i = vb ∨ (Value.slice ad0 M cq).ownBlock = some i) w w' → w'.cell? ⟨rv, 2, none⟩ = some (.map (some vb)) ∧ w'.cell? ⟨lb, 0, none⟩ = some (.string yn) ∧ w'.cell? ⟨lb, 1, none⟩ = some (.string yv))
    (hM : Ml Value.string w vb lv) (hlk : rwV (al lv yn) = .slice ad0 M cq) (hrow : w.ownsRow 0 9 1 (.slice ad0 M cq) M xs) (hM9 : M ≤ 2000) (hvb : ¬ (Value.slice ad0 M cq).ownBlock = some vb)
    (Fin : World → Prop) (hfl : ∀ w1 o, Fin w1 → Fin (w1.alloc o))
    (hfin : ∀ g c w9, w9.ownsRow 0 9 1 (.slice (some ⟨g, 0, none⟩) (M + 1) c) (M + 1) (xs ++ [.string yv]) → Chg (fun i => i = vb ∨ (Value.slice ad0 M cq).ownBlock = some i) w w9 → Moved w (Value.slice ad0 M cq).ownBlock (some g) → Ml Value.string w9 vb ((yn, .slice (some ⟨g, 0, none⟩) (M + 1) c) :: rm lv yn) → Fin w9)
    (hQ : ∀ (v47 v48 v49 v50 v51 v52 v53 v54 v55 v56 v57 v58 v59 : Value) (w1 : World), Fin w1 → Q .normal (((((((((((((a0.put (some 47) v47).put (some 48) v48).put (some 49) v49).put (some 50) v50).put (some 51) v51).put (some 52) v52).put (some 53) v53).put (some 54) v54).put (some 55) v55).put (some 56) v56).put (some 57) v57).put (some 58) v58).put (some 59) v59) w1) :
    Code.wp Tryz.prog ((Tryz.f48.body.bind (findRegion 10)).getD .skip) Q a0 w := by
  conv => arg 2; whnf
  have hlt := hM.lt
  have hrl := fun g hg => owns_lt hrow g hg
  obtain ⟨i0, hi9, hz9, hs9, hb9⟩ := ix_info_parts (show (Tryz.prog.info? 9).map (fun i => (i.zero, i.size, i.bytes)) = some (some (.string ⟨#[]⟩), 1, 16) by kernel_rfl)
  refine wp_region_invE (Lt10 vb (.slice ad0 M cq)) (Ls10 vb (.slice ad0 M cq)) (Ea10 vb M (.slice ad0 M cq) xs lv) (Tt10 w rv lb vb M (.slice ad0 M cq) xs yn yv Fin) noS10 (by kernel_rfl) (by kernel_rfl) (by kernel_rfl) (by rw [hsz]; kernel_rfl) ?hrl ?htr ?hsub ?hE ?hst ?hls ?hdr ?hE0 ?hop ?hdone
  case hrl =>
    intro i a
    unfold Ls10
    split
    · exact Chg.refl _ _
    · split
      · exact Chg.refl _ _
      · exact .inl rfl
  case htr => exact fun a b c h k => h.trans k (fun _ _ e => e)
  case hsub =>
    intro i w1 w2 h
    unfold Ls10 at h
    split at h
    · exact h.mono (fun _ _ e => .inl e)
    · split at h
      · exact h.mono (fun _ _ e => .inr e)
      · rcases h with rfl | ⟨o, rfl⟩
        · exact Chg.refl _ _
        · exact Chg.of_below ((Below.refl _ _).alloc (Nat.le_refl _) _)
  case hE =>
    intro i j oj w1 w2 hj hij hdep h he
    unfold Ea10 at he ⊢
    unfold Ls10 at h
    by_cases h12 : i = 12
    · rw [if_pos h12] at he ⊢
      by_cases j13 : j = 13
      · rw [if_pos j13] at h
        exact h.owns he (fun g hg e => hvb (by rw [hg, e]))
      · rw [if_neg j13, if_neg (fun e => hij (e.trans h12.symm))] at h
        rcases h with rfl | ⟨o, rfl⟩
        · exact he
        · exact he.alloc _
    · rw [if_neg h12] at he ⊢
      by_cases h13 : i = 13 ∨ i = 8
      · rw [if_pos h13] at he ⊢
        by_cases j13 : j = 13
        · subst j13
          obtain rfl := Option.some.inj hj
          rcases h13 with h | h
          · exact absurd h.symm hij
          · exact absurd h.symm ((hdep ⟨12, .data⟩ (by simp) rfl).2 _ rfl ⟨8, .data⟩ (by simp) rfl)
        · rw [if_neg j13] at h
          by_cases j12 : j = 12
          · rw [if_pos j12] at h
            exact he.chg h hvb
          · rw [if_neg j12] at h
            rcases h with rfl | ⟨o, rfl⟩
            · exact he
            · exact he.later ((Below.refl _ _).alloc (Nat.le_refl _) _)
      · rw [if_neg h13]
        trivial
  case hst =>
    intro i j oi hi hij hdep v w1 w2 hT hL
    have hlt14 : i < 14 := (Array.getElem?_eq_some_iff.1 hi).1
    unfold Ls10 at hL
    rcases (show i = 11 ∨ i = 12 ∨ i = 13 ∨ (¬ i = 11 ∧ ¬ i = 12 ∧ ¬ i = 13) by omega) with rfl | rfl | rfl | ⟨n1, n2, n3⟩
    · obtain ⟨p, e1, e2, e3, e4⟩ := hT
      have key : ∀ F : Nat → Prop, Chg F w1 w2 → ¬ F p → Tt10 w rv lb vb M (.slice ad0 M cq) xs yn yv Fin 11 v w2 := fun F hc hF => ⟨p, e1, by rw [World.cell?_of_block (a := ⟨p, 0, none⟩) (hc.block p e4 hF)]; exact e2, e3, Nat.lt_of_lt_of_le e4 hc.size⟩
      split at hL
      · exact key _ hL (fun e => by have e' : p = vb := e; omega)
      · split at hL
        · exact key _ hL (fun e => by have := hrl p e; omega)
        · rcases hL with rfl | ⟨o, rfl⟩
          · exact ⟨p, e1, e2, e3, e4⟩
          · exact key (fun _ => False) (Chg.of_below ((Below.refl _ _).alloc (Nat.le_refl _) _)) (fun e => e)
    · obtain ⟨g, c, e1, e2, e3, e4⟩ := hT
      split at hL
      · exact ⟨g, c, e1, hL.owns e2 (fun g' hg' e => by rw [e1] at hg'; cases hg'; exact e4 e), e3, e4⟩
      · split at hL
        · rename_i h12
          exact absurd h12.symm hij
        · rcases hL with rfl | ⟨o, rfl⟩
          · exact ⟨g, c, e1, e2, e3, e4⟩
          · exact ⟨g, c, e1, e2.alloc _, e3, e4⟩
    · split at hL
      · rename_i h13
        exact absurd h13.symm hij
      · split at hL
        · rename_i h12
          obtain rfl := Option.some.inj hi
          exact absurd h12.symm (hdep ⟨12, .data⟩ (by simp) rfl)
        · rcases hL with rfl | ⟨o, rfl⟩
          · exact hT
          · exact hfl _ _ hT
    · have hc : ∀ w', Tt10 w rv lb vb M (.slice ad0 M cq) xs yn yv Fin i v w1 → Tt10 w rv lb vb M (.slice ad0 M cq) xs yn yv Fin i v w' := by
        intro w' h
        rcases (show i = 0 ∨ i = 1 ∨ i = 2 ∨ i = 3 ∨ i = 4 ∨ i = 5 ∨ i = 6 ∨ i = 7 ∨ i = 8 ∨ i = 9 ∨ i = 10 by omega) with rfl | rfl | rfl | rfl | rfl | rfl | rfl | rfl | rfl | rfl | rfl <;> exact h
      exact hc w2 hT
  case hls => exact fun w1 w2 h => h.size
  case hdr => exact Chg.drew _ _
  case hE0 =>
    intro i
    unfold Ea10
    split
    · exact hrow
    · split
      · exact hM
      · trivial
  case hdone =>
    intro a w1 hL hS hT
    have he := same_puts hS
    rw [he]
    exact hQ (a.tmps.getD 47 undef) (a.tmps.getD 48 undef) (a.tmps.getD 49 undef) (a.tmps.getD 50 undef) (a.tmps.getD 51 undef) (a.tmps.getD 52 undef) (a.tmps.getD 53 undef) (a.tmps.getD 54 undef) (a.tmps.getD 55 undef) (a.tmps.getD 56 undef) (a.tmps.getD 57 undef) (a.tmps.getD 58 undef) (a.tmps.getD 59 undef) w1 (hT 13 _ rfl)
  case hop =>
    have hrl0 : ∀ i a, Ls10 vb (.slice ad0 M cq) i a a := by
      intro i a
      unfold Ls10
      split
      · exact Chg.refl _ _
      · split
        · exact Chg.refl _ _
        · exact .inl rfl
    intro i o hi
    have hlt14 : i < 14 := (Array.getElem?_eq_some_iff.1 hi).1
    rcases (show i = 0 ∨ i = 1 ∨ i = 2 ∨ i = 3 ∨ i = 4 ∨ i = 5 ∨ i = 6 ∨ i = 7 ∨ i = 8 ∨ i = 9 ∨ i = 10 ∨ i = 11 ∨ i = 12 ∨ i = 13 by omega) with rfl | rfl | rfl | rfl | rfl | rfl | rfl | rfl | rfl | rfl | rfl | rfl | rfl | rfl
    · obtain rfl := Option.some.inj hi
      clear hi hlt14
      intro a w1 hL hEa hU hS hD hA
      have e := (hS.slot 7 (by kernel_rfl)).trans s7
      refine stepE_yes rfl ?_
      exact okE_value hrl0 rfl (.pointer (some ⟨rv, 2, none⟩)) (by simp [execOp, Act.eval, e, go_sem]) rfl
    · obtain rfl := Option.some.inj hi
      clear hi hlt14
      intro a w1 hL hEa hU hS hD hA
      have e : a.tmps.getD 47 undef = .pointer (some ⟨rv, 2, none⟩) := hD ⟨0, .data⟩ (by simp) rfl _ rfl
      have hc := (hC w1 hL).1
      refine stepE_yes rfl ?_
      exact okE_value hrl0 rfl (.map (some vb)) (by simp [execOp, Act.eval, e, hc, go_sem]) rfl
    · obtain rfl := Option.some.inj hi
      clear hi hlt14
      intro a w1 hL hEa hU hS hD hA
      have e := (hS.slot 11 (by kernel_rfl)).trans s11
      refine stepE_yes rfl ?_
      exact okE_value hrl0 rfl (.pointer (some ⟨lb, 0, none⟩)) (by simp [execOp, Act.eval, e, go_sem]) rfl
    · obtain rfl := Option.some.inj hi
      clear hi hlt14
      intro a w1 hL hEa hU hS hD hA
      have e : a.tmps.getD 49 undef = .pointer (some ⟨lb, 0, none⟩) := hD ⟨2, .data⟩ (by simp) rfl _ rfl
      have hc := (hC w1 hL).2.1
      refine stepE_yes rfl ?_
      exact okE_value hrl0 rfl (.string yn) (by simp [execOp, Act.eval, e, hc, go_sem]) rfl
    · obtain rfl := Option.some.inj hi
      clear hi hlt14
      intro a w1 hL hEa hU hS hD hA
      have e := (hS.slot 7 (by kernel_rfl)).trans s7
      refine stepE_yes rfl ?_
      exact okE_value hrl0 rfl (.pointer (some ⟨rv, 2, none⟩)) (by simp [execOp, Act.eval, e, go_sem]) rfl
    · obtain rfl := Option.some.inj hi
      clear hi hlt14
      intro a w1 hL hEa hU hS hD hA
      have e : a.tmps.getD 51 undef = .pointer (some ⟨rv, 2, none⟩) := hD ⟨4, .data⟩ (by simp) rfl _ rfl
      have hc := (hC w1 hL).1
      refine stepE_yes rfl ?_
      exact okE_value hrl0 rfl (.map (some vb)) (by simp [execOp, Act.eval, e, hc, go_sem]) rfl
    · obtain rfl := Option.some.inj hi
      clear hi hlt14
      intro a w1 hL hEa hU hS hD hA
      have e := (hS.slot 11 (by kernel_rfl)).trans s11
      refine stepE_yes rfl ?_
      exact okE_value hrl0 rfl (.pointer (some ⟨lb, 0, none⟩)) (by simp [execOp, Act.eval, e, go_sem]) rfl
    · obtain rfl := Option.some.inj hi
      clear hi hlt14
      intro a w1 hL hEa hU hS hD hA
      have e : a.tmps.getD 53 undef = .pointer (some ⟨lb, 0, none⟩) := hD ⟨6, .data⟩ (by simp) rfl _ rfl
      have hc := (hC w1 hL).2.1
      refine stepE_yes rfl ?_
      exact okE_value hrl0 rfl (.string yn) (by simp [execOp, Act.eval, e, hc, go_sem]) rfl
    · obtain rfl := Option.some.inj hi
      clear hi hlt14
      intro a w1 hL hEa hU hS hD hA
      have e1 : a.tmps.getD 52 undef = .map (some vb) := hD ⟨5, .data⟩ (by simp) rfl _ rfl
      have e2 : a.tmps.getD 54 undef = .string yn := hD ⟨7, .data⟩ (by simp) rfl _ rfl
      have hm : Ml Value.string w1 vb lv := hEa
      have hr := hm.look (P := Tryz.prog) ky9 Tryz.underlying101 (zero69 w1) yn false
      rw [show (al lv yn).getD (.slice none 0 0) = .slice ad0 M cq from hlk] at hr
      refine stepE_yes rfl ?_
      exact okE_value hrl0 rfl (.slice ad0 M cq) (by simp [execOp, Act.eval, e1, e2]; simp at hr; simp [hr, Result.andThen]) rfl
    · obtain rfl := Option.some.inj hi
      clear hi hlt14
      intro a w1 hL hEa hU hS hD hA
      have e := (hS.slot 11 (by kernel_rfl)).trans s11
      refine stepE_yes rfl ?_
      exact okE_value hrl0 rfl (.pointer (some ⟨lb, 1, none⟩)) (by simp [execOp, Act.eval, e, go_sem]) rfl
    · obtain rfl := Option.some.inj hi
      clear hi hlt14
      intro a w1 hL hEa hU hS hD hA
      have e : a.tmps.getD 56 undef = .pointer (some ⟨lb, 1, none⟩) := hD ⟨9, .data⟩ (by simp) rfl _ rfl
      have hc := (hC w1 hL).2.2
      refine stepE_yes rfl ?_
      exact okE_value hrl0 rfl (.string yv) (by simp [execOp, Act.eval, e, hc, go_sem]) rfl
    · obtain rfl := Option.some.inj hi
      clear hi hlt14
      intro a w1 hL hEa hU hS hD hA
      have e1 : a.tmps.getD 57 undef = .string yv := hD ⟨10, .data⟩ (by simp) rfl _ rfl
      refine stepE_yes rfl ?_
      have e1' : a.tmps[57]?.getD undef = .string yv := by simpa using e1
      have hz : (zeroValue 9).run Tryz.prog w1 = .ok (.string ⟨#[]⟩) w1 := by kernel_rfl
      have hsz9 : (sizeOf 9).run Tryz.prog w1 = .ok 1 w1 := by kernel_rfl
      unfold Oper.wp
      simp [execOp, Act.eval, e1', go_sem, hz, hsz9]
      exact ⟨_, rfl, .inr ⟨_, rfl⟩, ⟨w1.heap.size, rfl, (Blk.new w1 9 [.string yv]).cell 0, hL.size, by simp⟩, fun e => by cases e⟩
    · obtain rfl := Option.some.inj hi
      clear hi hlt14
      intro a w1 hL hEa hU hS hD hA
      have e1 : a.tmps.getD 55 undef = .slice ad0 M cq := hD ⟨8, .data⟩ (by simp) rfl _ rfl
      obtain ⟨p, e2', e3, e4, e5⟩ := hD ⟨11, .data⟩ (by simp) rfl _ rfl
      have e2 : a.tmps.getD 58 undef = .slice (some ⟨p, 0, none⟩) 1 1 := e2'
      have hO : w1.ownsRow 0 9 1 (.slice ad0 M cq) M xs := hEa
      refine stepE_yes rfl ?_
      refine wp_push w1 (.tmp 55) (.tmp 58) 69 rfl 9 i0 (.string ⟨#[]⟩) 16 Tryz.underlying69 hi9 hz9 hs9 hb9 rfl 0 (.slice ad0 M cq) M xs (by simpa [Act.eval] using e1) hO ⟨p, 0, none⟩ (.string yv) (by simpa [Act.eval] using e2) e3 rfl (by unfold maxLen; omega) (by omega) (Nat.zero_le _) ?_
      intro g' c' w2 o2 hp
      have hch : Chg (fun i => (Value.slice ad0 M cq).ownBlock = some i) w1 w2 ∧ Moved w (Value.slice ad0 M cq).ownBlock (some g') := by
        rcases hp with ⟨h1, h2⟩ | ⟨h1, h2⟩
        · exact ⟨Chg.of_grown (F := fun i => (Value.slice ad0 M cq).ownBlock = some i) h2 (fun i hi => by rw [h1]; exact hi), .inl h1.symm⟩
        · exact ⟨Chg.of_grown (F := fun i => (Value.slice ad0 M cq).ownBlock = some i) h2 (fun i hi => by cases hi), .inr ⟨g', rfl, Nat.le_trans hL.size h1⟩⟩
      refine ⟨_, rfl, hch.1, ⟨g', c', rfl, o2, hch.2, fun e => ?_⟩, fun e => by cases e⟩
      rcases hch.2 with h1 | ⟨g2, h1, h2⟩
      · exact hvb (by rw [← h1, e])
      · obtain rfl := Option.some.inj h1
        omega
    · obtain rfl := Option.some.inj hi
      clear hi hlt14
      intro a w1 hL hEa hU hS hD hA
      have e1 : a.tmps.getD 48 undef = .map (some vb) := hD ⟨1, .data⟩ (by simp) rfl _ rfl
      have e2 : a.tmps.getD 50 undef = .string yn := hD ⟨3, .data⟩ (by simp) rfl _ rfl
      obtain ⟨g, c, e3', e4, e5, e6⟩ := hD ⟨12, .data⟩ (by simp) rfl _ rfl
      rw [e3'] at e4
      have e3 : a.tmps.getD 59 undef = .slice (some ⟨g, 0, none⟩) (M + 1) c := e3'
      have hm : Ml Value.string w1 vb lv := hEa
      obtain ⟨w9, r9, m9, k9, _⟩ := hm.store (P := Tryz.prog) ky9 Tryz.underlying101 yn (.slice (some ⟨g, 0, none⟩) (M + 1) c)
      have hf := hfin g c w9 (k9.owns e4 (fun g' hg' e => by cases hg'; exact e6 e)) (Chg.trans hL k9 (fun _ _ e => .inl e)) e5 m9
      refine stepE_yes rfl ?_
      unfold Oper.wp
      simp [execOp, Act.eval, e1, e2, e3, r9, Result.andThen]
      exact ⟨_, rfl, k9, hf, fun e => by cases e⟩
end Go.Proofs.YtgmdpbahcbhfjaaGreatDoor.X
