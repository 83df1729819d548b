import Derived.Test.YtgmdpbahcbhfjaaGreatDoorIyE
import Derived.Test.YtgmdpbahcbhfjaaGreatDoorIxT
set_option linter.unusedSimpArgs false
set_option linter.unusedVariables false
set_option maxHeartbeats 40000000
set_option maxRecDepth 100000
/-
  An index in the law: how it has come from w0.
-/
namespace Go.Proofs.YtgmdpbahcbhfjaaGreatDoor.X
open Go.RowKit

/-- An index that stood at w0, as it is now. -/
def XS (w0 : World) (c0 : Col) (w : World) (j x eb rb : Nat) (R : Rr) : Prop := ∃ c, Ix w c j x eb rb R ∧ Acc w0 c0 j w c
section
variable {w0 w w' wq : World} {c0 : Col} {j x eb rb B : Nat} {R : Rr}
theorem XS.new {c : Col} (h : Ix w c j x eb rb R) : XS w c w j x eb rb R := ⟨c, h, fun _ _ => rfl, Chg.refl _ _⟩
theorem XS.later (h : XS w0 c0 w j x eb rb R) (hb : Below w.heap.size w w') : XS w0 c0 w' j x eb rb R := by
  obtain ⟨c, h1, h2⟩ := h
  exact ⟨c, h1.later hb, h2.later hb⟩
theorem XS.chg (h : XS w0 c0 w j x eb rb R) : Chg (fun i => ∃ q, c0 i = some (j, q)) w0 w := by
  obtain ⟨c, h1, h2⟩ := h
  exact h2.2
theorem XS.tb (h : XS w0 c0 w j x eb rb R) (hT : L.Tb B w0) (hB : ∀ i q, c0 i = some (j, q) → B ≤ i) : L.Tb B w := hT.chg h.chg (fun i ⟨q, hq⟩ => hB i q hq)
theorem XS.ok (h : XS w0 c0 w j x eb rb R) : ROk R := by
  obtain ⟨c, h1, _⟩ := h
  exact h1.ok
theorem XS.str {F : Nat → Prop} {s : Nat} {ms : List Mt} (h : XS w0 c0 w j x eb rb R) (hs : StR F w0 s ms) (hF : ∀ b, F b → ∀ q, ¬ c0 b = some (j, q)) : StR F w s ms := hs.keep h.chg (fun b hb ⟨q, hq⟩ => hF b hb q hq)
/-- Add. -/
theorem XS.add (h : XS w0 c0 wq j x eb rb R) (hb : Below wq.heap.size wq w) (hT : L.Tb B w) (t : ByteArray) (ht : t.size ≤ maxLen) (ad : Option Addr) (cp : Nat) (l : List L.Lb) (hL : L.Ls w ad l) (hno : ad = none → l = [] ∧ cp = 0) (hlen : l.length ≤ 1000000) (hN : (R t).length < 1000)
    (hap : ¬ l = [] → ∀ a, ad = some a → (a.block < w0.heap.size ∧ ∀ q, ¬ c0 a.block = some (j, q)) ∨ wq.heap.size ≤ a.block) :
    Calls Tryz.prog 16 #[.pointer (some ⟨x, 0, none⟩), .string t, .slice ad l.length cp] w fun e w' => e = .returned (.tuple #[.int .i64 (addI (R t) l), .bool (addB (R t) l), .int .i64 (L.errL (L.right l))]) ∧ XS w0 c0 w' j x eb rb (addR R t l) := by
  obtain ⟨c, h1, h2⟩ := h
  obtain ⟨c', h3, h4, h5⟩ := h1.fresh
  have h6 : Acc w0 c0 j wq c' := h2.step h4 (Chg.refl (fun _ => False) wq) (fun _ _ e => e.elim)
  refine (addP (h3.later hb) hT t ht ad cp l hL hno hlen hN (fun hne a ha q e => ?_)).mono ?_
  · rcases hap hne a ha with ⟨hlt, hc⟩ | hge
    · rw [h6.1 a.block hlt] at e
      exact hc q e
    · rw [h5 a.block hge] at e
      cases e
  · rintro e w' ⟨rfl, c2, h7, h8⟩
    have h9 := h6.later hb
    exact ⟨rfl, c2, h7, h9.step (F := fun i => ∃ q, c' i = some (j, q)) (fun i hi => h8.1 i hi) h8.2 (fun i hi hf => hf)⟩
theorem XS.find (h : XS w0 c0 w j x eb rb R) (hT : L.Tb B w) (t : ByteArray) (ad : Option Addr) (cp : Nat) (l : List L.Lb) (hL : L.Ls w ad l) (hno : ad = none → l = [] ∧ cp = 0) (hlen : l.length ≤ 1000000) :
    Calls Tryz.prog 21 #[.pointer (some ⟨x, 0, none⟩), .string t, .slice ad l.length cp] w fun e w' => (∃ i b, FdR (R t) l i b ∧ e = .returned (.tuple #[.int .i64 i, .bool b])) ∧ Below w.heap.size w w' := by
  obtain ⟨c, h1, _⟩ := h
  exact findP h1 hT t ad cp l hL hno hlen
theorem XS.labels (h : XS w0 c0 w j x eb rb R) (t : ByteArray) (id : Int) : Calls Tryz.prog 22 #[.pointer (some ⟨x, 0, none⟩), .string t, .int .i64 id] w fun e w' => labV (atI (R t) id) w e w' ∧ Below w.heap.size w w' := by
  obtain ⟨c, h1, _⟩ := h
  exact labelsP h1 t id
theorem XS.len (h : XS w0 c0 w j x eb rb R) (t : ByteArray) : Calls Tryz.prog 19 #[.pointer (some ⟨x, 0, none⟩), .string t] w fun e w' => e = .returned (.int .i64 ((R t).length : Int)) ∧ Below w.heap.size w w' := by
  obtain ⟨c, h1, _⟩ := h
  exact lenP h1 t
theorem XS.select (h : XS w0 c0 w j x eb rb R) (hT : L.Tb B w) (t : ByteArray) (ht : t.size ≤ maxLen) (s : Nat) (ms : List Mt) (hS : ∃ F, StR F w s ms) (hms : ∀ m ∈ ms, m.may = true ∧ OkM m) (hml : ms.length ≤ 1000) :
    Calls Tryz.prog 24 #[.pointer (some ⟨x, 0, none⟩), .string t, .pointer (some ⟨s, 0, none⟩)] w (SelV w (selF (R t) ms)) := by
  obtain ⟨c, h1, _⟩ := h
  exact selectP h1 hT t ht s ms hS hms hml
theorem XS.names (h : XS w0 c0 w j x eb rb R) (hT : L.Tb B w) (t : ByteArray) (ht : t.size ≤ maxLen) (s : Nat) (ms : List Mt) (hS : ∃ F, StR F w s ms) (hms : ∀ m ∈ ms, m.may = true ∧ OkM m) (hml : ms.length ≤ 1000) :
    Calls Tryz.prog 25 #[.pointer (some ⟨x, 0, none⟩), .string t, .pointer (some ⟨s, 0, none⟩)] w (NamV w (NamQ (R t) (selF (R t) ms))) := by
  obtain ⟨c, h1, _⟩ := h
  exact namesP h1 hT t ht s ms hS hms hml
theorem XS.values (h : XS w0 c0 w j x eb rb R) (hT : L.Tb B w) (t : ByteArray) (ht : t.size ≤ maxLen) (s : Nat) (ms : List Mt) (hS : ∃ F, StR F w s ms) (hms : ∀ m ∈ ms, m.may = true ∧ OkM m) (hml : ms.length ≤ 1000) (nm : ByteArray) :
    Calls Tryz.prog 26 #[.pointer (some ⟨x, 0, none⟩), .string t, .pointer (some ⟨s, 0, none⟩), .string nm] w (NamV w (ValQ (R t) (selF (R t) ms) nm)) := by
  obtain ⟨c, h1, _⟩ := h
  exact valuesP h1 hT t ht s ms hS hms hml nm
theorem XS.sizes (h : XS w0 c0 w j x eb rb R) (hb : ∀ a b, SzR (entF R) a b → b ≤ 4000000000000000000) : Calls Tryz.prog 18 #[.pointer (some ⟨x, 0, none⟩)] w fun e w' => (∃ a b : Nat, SzR (entF R) a b ∧ e = .returned (.tuple #[.int .i64 (a : Int), .int .i64 (b : Int)])) ∧ Below w.heap.size w w' := by
  obtain ⟨c, h1, _⟩ := h
  exact sizeP h1 hb
end
/-- How much there is at most, of so many tenants. -/
theorem sz_bound {R : Rr} (h : ROk R) (T : List ByteArray) (hT : ∀ t, ¬ t ∈ T → R t = []) (h9 : T.length ≤ 10) : ∀ a b, SzR (entF R) a b → b ≤ 4000000000000000000 := by
  rintro a b ⟨ks, n, m, _, rfl⟩
  have hlen : ∀ k, (entF R k).length ≤ 1000 := fun k => by
    unfold entF
    split
    · split
      · rw [List.length_range]; exact h.len k.t
      · simp
    · exact (hasX_wrd (h.len k.t) _).2
  have hmem : ∀ k ∈ ks, k.t ∈ T ∧ ((k.n = em0 ∧ k.v = em0) ∨ (⟨k.n, k.v⟩ : L.Lb) ∈ (R k.t).flatten) := fun k hk => by
    have hne := (m k).1 hk
    unfold entF at hne
    constructor
    · refine Classical.byContradiction fun hno => hne ?_
      rw [hT k.t hno]
      split
      · split <;> rfl
      · rfl
    · by_cases h1 : k.n = em0
      · by_cases h2 : k.v = em0
        · exact .inl ⟨h1, h2⟩
        · rw [if_pos h1, if_neg h2] at hne; exact absurd rfl hne
      · rw [if_neg h1] at hne
        obtain ⟨i, hi⟩ := List.exists_mem_of_ne_nil _ hne
        obtain ⟨h3, h4⟩ := hasX_mem.1 hi
        refine .inr (List.mem_flatten.2 ⟨(R k.t)[i], List.getElem_mem h3, ?_⟩)
        simpa [List.getD, List.getElem?_eq_getElem h3] using h4
  have hk := nodup_len (ks.map fun k => (k.t, k.n, k.v)) (T.flatMap fun t => (t, em0, em0) :: (R t).flatten.map fun y => (t, y.n, y.v)) (by
    rw [List.Nodup, List.pairwise_map]
    refine n.imp (fun {a b} hne e => hne ?_)
    obtain ⟨a1, a2, a3, _⟩ := a
    obtain ⟨b1, b2, b3, _⟩ := b
    simp only [Prod.mk.injEq] at e
    obtain ⟨rfl, rfl, rfl⟩ := e
    rfl) (fun z hz => by
    obtain ⟨k, hk, rfl⟩ := List.mem_map.1 hz
    obtain ⟨h1, h2⟩ := hmem k hk
    refine List.mem_flatMap.2 ⟨k.t, h1, ?_⟩
    rcases h2 with ⟨h2, h3⟩ | h2
    · rw [h2, h3]; simp
    · exact List.mem_cons_of_mem _ (List.mem_map.2 ⟨_, h2, rfl⟩))
  have hT8 : ∀ T : List ByteArray, (T.flatMap fun t => (t, em0, em0) :: (R t).flatten.map fun y => (t, y.n, y.v)).length ≤ T.length * 8001 := by
    intro T
    induction T with
    | nil => simp
    | cons t u ih =>
      have := flat_len8 (h.right t) (h.len t)
      simp only [List.flatMap_cons, List.length_append, List.length_cons, List.length_map] at ih ⊢
      omega
  have h1 := hT8 T
  rw [List.length_map] at hk
  have hs : ∀ l : List Kx, (l.map fun k => (entF R k).length).sum ≤ l.length * 1000 := by
    intro l
    induction l with
    | nil => simp
    | cons k u ih =>
      have := hlen k
      simp only [List.map_cons, List.sum_cons, List.length_cons]
      omega
  have h2 := hs ks
  omega
end Go.Proofs.YtgmdpbahcbhfjaaGreatDoor.X
/-
  The law's head: the document's examples.
-/
namespace Go.Proofs.YtgmdpbahcbhfjaaGreatDoor.X
open Go.RowKit

/-- One tenant's series, and no other's. -/
def RS (t : ByteArray) (S : List (List L.Lb)) : Rr := fun t' => if t' = t then S else []
theorem rs_at (t : ByteArray) (S : List (List L.Lb)) : RS t S t = S := by simp [RS]
theorem rs_nil (t : ByteArray) : (fun _ => [] : Rr) = RS t [] := by funext t'; simp [RS]
def addS (S : List (List L.Lb)) (l : List L.Lb) : List (List L.Lb) := if L.right l = true ∧ ¬ l ∈ S then S ++ [l] else S
theorem rs_add (t : ByteArray) (S : List (List L.Lb)) (l : List L.Lb) : addR (RS t S) t l = RS t (addS S l) := by
  unfold addR addS
  rw [rs_at]
  by_cases h : L.right l = true ∧ ¬ l ∈ S
  · rw [if_pos h, if_pos h]
    funext t'
    unfold radd
    rw [rs_at]
    by_cases e : t' = t <;> simp [RS, e]
  · rw [if_neg h, if_neg h]
theorem rs_out (t : ByteArray) (S : List (List L.Lb)) : ∀ t', ¬ t' ∈ [t] → RS t S t' = [] := fun t' h => by
  have : ¬ t' = t := fun e => h (by simp [e])
  simp [RS, this]
theorem ls_blk {w : World} {g : Nat} {l : List L.Lb} (h : Blk w g 75 (cLb l)) (hs : ∀ x ∈ l, x.n.size ≤ 9223372036854775807 ∧ x.v.size ≤ 9223372036854775807) : L.Ls w (some ⟨g, 0, none⟩) l :=
  ⟨hs, fun _ => ⟨g, 0, rfl, h.lt, fun i x hi => by
    obtain ⟨g0, g1⟩ := cLb_get l i x hi
    rw [Nat.zero_add]
    exact ⟨by rw [h.cell]; exact g0, by rw [h.cell]; exact g1⟩⟩⟩
def tT : ByteArray := ⟨#[116]⟩
def lA : L.Lb := ⟨⟨#[97]⟩, ⟨#[120]⟩⟩
def lB : L.Lb := ⟨⟨#[98]⟩, ⟨#[121]⟩⟩
def lC : L.Lb := ⟨⟨#[99]⟩, ⟨#[122]⟩⟩
def mB : Mt := ⟨⟨#[98]⟩, 2, ⟨#[]⟩⟩
theorem ex1 : addS [] [lA, lB] = [[lA, lB]] ∧ addI [] [lA, lB] = 0 ∧ addB [] [lA, lB] = true ∧ L.right [lA, lB] = true := by refine ⟨?_, ?_, ?_, ?_⟩ <;> kernel_rfl
theorem ex2 : addS [[lA, lB]] [lA] = [[lA, lB], [lA]] ∧ addI [[lA, lB]] [lA] = 1 ∧ addB [[lA, lB]] [lA] = true ∧ L.right [lA] = true := by refine ⟨?_, ?_, ?_, ?_⟩ <;> kernel_rfl
theorem ex3 : addS [[lA, lB], [lA]] [lB, lC] = [[lA, lB], [lA], [lB, lC]] ∧ addI [[lA, lB], [lA]] [lB, lC] = 2 ∧ addB [[lA, lB], [lA]] [lB, lC] = true ∧ L.right [lB, lC] = true := by refine ⟨?_, ?_, ?_, ?_⟩ <;> kernel_rfl
theorem ex4 : addS [[lA, lB], [lA], [lB, lC]] [lA] = [[lA, lB], [lA], [lB, lC]] ∧ addI [[lA, lB], [lA], [lB, lC]] [lA] = 1 ∧ addB [[lA, lB], [lA], [lB, lC]] [lA] = false ∧ L.right [lA] = true := by refine ⟨?_, ?_, ?_, ?_⟩ <;> kernel_rfl
theorem ex5 : addS [[lA, lB], [lA], [lB, lC]] [] = [[lA, lB], [lA], [lB, lC]] ∧ addI [[lA, lB], [lA], [lB, lC]] [] = 0 ∧ addB [[lA, lB], [lA], [lB, lC]] [] = false ∧ L.right [] = false := by refine ⟨?_, ?_, ?_, ?_⟩ <;> kernel_rfl
abbrev S3 : List (List L.Lb) := [[lA, lB], [lA], [lB, lC]]
theorem ex_set : setL [mB] = [mB] := by
  unfold setL
  rw [if_pos (by kernel_rfl)]
theorem hold_mB (v : ByteArray) : mB.hold v = !decide (v = em0) := by
  unfold Mt.hold
  rw [if_neg (show ¬ mB.op = 1 by decide), if_pos (show mB.op = 2 from rfl)]
  congr
theorem ex_sel : selF S3 [mB] = [0, 2] := by
  have h0 : gotL [lA, lB] mB.n = ⟨#[121]⟩ := by kernel_rfl
  have h1 : gotL [lA] mB.n = em0 := by kernel_rfl
  have h2 : gotL [lB, lC] mB.n = ⟨#[121]⟩ := by kernel_rfl
  have hh : ∀ l : List L.Lb, holdsL [mB] l = !decide (gotL l mB.n = em0) := fun l => by
    unfold holdsL
    rw [List.all_cons, List.all_nil, Bool.and_true, hold_mB]
  unfold selF
  rw [show List.range S3.length = [0, 1, 2] from rfl]
  have g0 : holdsL [mB] (S3.getD 0 []) = true := by rw [hh]; show (!decide (gotL [lA, lB] mB.n = em0)) = true; rw [h0]; rfl
  have g1 : holdsL [mB] (S3.getD 1 []) = false := by rw [hh]; show (!decide (gotL [lA] mB.n = em0)) = false; rw [h1]; rfl
  have g2 : holdsL [mB] (S3.getD 2 []) = true := by rw [hh]; show (!decide (gotL [lB, lC] mB.n = em0)) = true; rw [h2]; rfl
  simp only [List.filter_cons, g0, g1, g2, if_true, Bool.false_eq_true, if_false, List.filter_nil]
theorem ex_names {l : List ByteArray} (h : Asc l) (hm : ∀ n, n ∈ l ↔ NamQ S3 [0, 2] n) : l = [⟨#[97]⟩, ⟨#[98]⟩, ⟨#[99]⟩] := by
  refine asc_ext h ?_ (fun n => ?_)
  · unfold Asc
    simp only [List.pairwise_cons, List.mem_cons, List.not_mem_nil, or_false]
    refine ⟨?_, ?_, by simp, List.Pairwise.nil⟩
    · rintro x (rfl | rfl) <;> kernel_rfl
    · rintro x rfl; kernel_rfl
  · rw [hm]
    unfold NamQ
    simp only [List.mem_cons, List.not_mem_nil, or_false]
    constructor
    · rintro ⟨i, rfl | rfl, y, hy, rfl⟩
      · have hy' : y ∈ [lA, lB] := hy
        simp at hy'
        rcases hy' with rfl | rfl
        · exact .inl rfl
        · exact .inr (.inl rfl)
      · have hy' : y ∈ [lB, lC] := hy
        simp at hy'
        rcases hy' with rfl | rfl
        · exact .inr (.inl rfl)
        · exact .inr (.inr rfl)
    · rintro (rfl | rfl | rfl)
      · exact ⟨0, .inl rfl, lA, by simp [S3], rfl⟩
      · exact ⟨0, .inl rfl, lB, by simp [S3], rfl⟩
      · exact ⟨2, .inr rfl, lC, by simp [S3], rfl⟩
theorem ex_values {l : List ByteArray} (h : Asc l) (hm : ∀ n, n ∈ l ↔ ValQ S3 [0, 2] ⟨#[99]⟩ n) : l = [⟨#[122]⟩] := by
  refine asc_ext h (by simp [Asc]) (fun n => ?_)
  rw [hm]
  unfold ValQ
  simp only [List.mem_cons, List.not_mem_nil, or_false]
  constructor
  · rintro ⟨i, rfl | rfl, hy⟩
    · have hy' : (⟨⟨#[99]⟩, n⟩ : L.Lb) ∈ [lA, lB] := hy
      simp [lA, lB] at hy'
    · have hy' : (⟨⟨#[99]⟩, n⟩ : L.Lb) ∈ [lB, lC] := hy
      simp [lB, lC] at hy'
      exact hy'
  · rintro rfl
    exact ⟨2, .inr rfl, by show lC ∈ [lB, lC]; simp⟩
theorem k_ok (a b c : ByteArray) (h : a.size ≤ 1 ∧ b.size ≤ 1 ∧ c.size ≤ 1) : a.size ≤ maxLen ∧ b.size ≤ maxLen ∧ c.size ≤ maxLen := by unfold maxLen; omega
theorem ex_size : SzR (entF (RS tT S3)) 4 8 := by
  refine ⟨[⟨tT, em0, em0, k_ok _ _ _ (by decide)⟩, ⟨tT, lA.n, lA.v, k_ok _ _ _ (by decide)⟩, ⟨tT, lB.n, lB.v, k_ok _ _ _ (by decide)⟩, ⟨tT, lC.n, lC.v, k_ok _ _ _ (by decide)⟩], ?_, fun k => ?_, rfl, by kernel_rfl⟩
  · simp only [List.nodup_cons, List.mem_cons, List.not_mem_nil, or_false, Kx.mk.injEq, not_or, List.nodup_nil, and_true, not_false_eq_true]
    decide
  · obtain ⟨t, n, v, hf⟩ := k
    simp only [List.mem_cons, List.not_mem_nil, or_false, Kx.mk.injEq]
    unfold entF
    simp only
    by_cases ht : t = tT
    · subst ht
      rw [rs_at]
      by_cases hn : n = em0
      · subst hn
        by_cases hv : v = em0
        · subst hv
          simp
        · simp only [if_true, if_neg hv]
          have hv' : ¬ v = ⟨#[]⟩ := hv
          simp [hv', lA, lB, lC, em0]
      · rw [if_neg hn]
        have h1 : (¬ hasX S3 ⟨n, v⟩ = []) ↔ ∃ l ∈ S3, (⟨n, v⟩ : L.Lb) ∈ l := by
          rw [hasX_nil]
          exact ⟨fun h => Classical.byContradiction fun h2 => h (fun l hl hm => h2 ⟨l, hl, hm⟩), fun ⟨l, hl, hm⟩ h => h l hl hm⟩
        rw [h1]
        constructor
        · rintro (⟨_, rfl, _⟩ | ⟨_, rfl, rfl⟩ | ⟨_, rfl, rfl⟩ | ⟨_, rfl, rfl⟩)
          · exact absurd rfl hn
          · exact ⟨[lA], by simp, by show lA ∈ [lA]; simp⟩
          · exact ⟨[lA, lB], by simp, by show lB ∈ [lA, lB]; simp⟩
          · exact ⟨[lB, lC], by simp, by show lC ∈ [lB, lC]; simp⟩
        · rintro ⟨l, hl, hm⟩
          have key : (⟨n, v⟩ : L.Lb) = lA ∨ (⟨n, v⟩ : L.Lb) = lB ∨ (⟨n, v⟩ : L.Lb) = lC := by
            simp only [List.mem_cons, List.not_mem_nil, or_false] at hl
            rcases hl with rfl | rfl | rfl <;> simp only [List.mem_cons, List.not_mem_nil, or_false] at hm
            · rcases hm with h | h <;> simp [h]
            · simp [hm]
            · rcases hm with h | h <;> simp [h]
          rcases key with e | e | e
          · refine .inr (.inl ⟨rfl, ?_, ?_⟩) <;> rw [← e]
          · refine .inr (.inr (.inl ⟨rfl, ?_, ?_⟩)) <;> rw [← e]
          · refine .inr (.inr (.inr ⟨rfl, ?_, ?_⟩)) <;> rw [← e]
    · have h0 : RS tT S3 t = [] := by simp [RS, ht]
      rw [h0]
      have h1 : hasX [] (⟨n, v⟩ : L.Lb) = [] := rfl
      simp [ht, h1]
end Go.Proofs.YtgmdpbahcbhfjaaGreatDoor.X
/-
  The law's head: shown.
-/
namespace Go.Proofs.YtgmdpbahcbhfjaaGreatDoor.X
open Go.RowKit

theorem built78 : Tryz.prog.built 78 [(0, .string ⟨#[98]⟩), (1, .int .i64 2)] = some #[.string ⟨#[98]⟩, .int .i64 2, .string ⟨#[]⟩] := by kernel_rfl
theorem zrs_blk {w : World} {g : Nat} {l : List Nat} (h : Blk w g 3 (zs l)) : Zrs w (some ⟨g, 0, none⟩) l := fun i v hi => ⟨g, 0, rfl, h.lt, by rw [Nat.zero_add, h.cell]; simp [zs, hi]⟩
theorem txs_blk {w : World} {g : Nat} {l : List ByteArray} (h : Blk w g 9 (strs l)) : Txs w (some ⟨g, 0, none⟩) l := fun i v hi => ⟨g, 0, rfl, h.lt, by rw [Nat.zero_add, h.cell]; simp [strs, hi]⟩
section
variable {w0 w w' wq : World} {c0 : Col} {j x eb rb B : Nat}
theorem show_add1 (h : XS w0 c0 w j x eb rb (RS tT ([]))) (hT : L.Tb B w) (hw' : Below w.heap.size w w') (ad : Option Addr) (hL : L.Ls w' ad [lA, lB]) (hno : ad = none → ([lA, lB] : List L.Lb) = [] ∧ 2 = 0) (hap : ∀ a, ad = some a → w.heap.size ≤ a.block) :
    Calls Tryz.prog 16 #[.pointer (some ⟨x, 0, none⟩), .string ⟨#[116]⟩, .slice ad 2 2] w' fun e w2 => e = .returned (.tuple #[.int .i64 0, .bool true, .int .i64 0]) ∧ XS w0 c0 w2 j x eb rb (RS tT ([[lA, lB]])) := by
  have hA := h.add hw' (hT.later hw') tT (by decide) ad 2 [lA, lB] hL hno (by decide) (by rw [rs_at]; decide) (fun _ a ha => .inr (hap a ha))
  obtain ⟨e1, e2, e3, e4⟩ := ex1
  rw [rs_add, rs_at, e1, e2, e3, e4] at hA
  exact hA
theorem show_add2 (h : XS w0 c0 w j x eb rb (RS tT ([[lA, lB]]))) (hT : L.Tb B w) (hw' : Below w.heap.size w w') (ad : Option Addr) (hL : L.Ls w' ad [lA]) (hno : ad = none → ([lA] : List L.Lb) = [] ∧ 1 = 0) (hap : ∀ a, ad = some a → w.heap.size ≤ a.block) :
    Calls Tryz.prog 16 #[.pointer (some ⟨x, 0, none⟩), .string ⟨#[116]⟩, .slice ad 1 1] w' fun e w2 => e = .returned (.tuple #[.int .i64 1, .bool true, .int .i64 0]) ∧ XS w0 c0 w2 j x eb rb (RS tT ([[lA, lB], [lA]])) := by
  have hA := h.add hw' (hT.later hw') tT (by decide) ad 1 [lA] hL hno (by decide) (by rw [rs_at]; decide) (fun _ a ha => .inr (hap a ha))
  obtain ⟨e1, e2, e3, e4⟩ := ex2
  rw [rs_add, rs_at, e1, e2, e3, e4] at hA
  exact hA
theorem show_add3 (h : XS w0 c0 w j x eb rb (RS tT ([[lA, lB], [lA]]))) (hT : L.Tb B w) (hw' : Below w.heap.size w w') (ad : Option Addr) (hL : L.Ls w' ad [lB, lC]) (hno : ad = none → ([lB, lC] : List L.Lb) = [] ∧ 2 = 0) (hap : ∀ a, ad = some a → w.heap.size ≤ a.block) :
    Calls Tryz.prog 16 #[.pointer (some ⟨x, 0, none⟩), .string ⟨#[116]⟩, .slice ad 2 2] w' fun e w2 => e = .returned (.tuple #[.int .i64 2, .bool true, .int .i64 0]) ∧ XS w0 c0 w2 j x eb rb (RS tT (S3)) := by
  have hA := h.add hw' (hT.later hw') tT (by decide) ad 2 [lB, lC] hL hno (by decide) (by rw [rs_at]; decide) (fun _ a ha => .inr (hap a ha))
  obtain ⟨e1, e2, e3, e4⟩ := ex3
  rw [rs_add, rs_at, e1, e2, e3, e4] at hA
  exact hA
theorem show_add4 (h : XS w0 c0 w j x eb rb (RS tT (S3))) (hT : L.Tb B w) (hw' : Below w.heap.size w w') (ad : Option Addr) (hL : L.Ls w' ad [lA]) (hno : ad = none → ([lA] : List L.Lb) = [] ∧ 1 = 0) (hap : ∀ a, ad = some a → w.heap.size ≤ a.block) :
    Calls Tryz.prog 16 #[.pointer (some ⟨x, 0, none⟩), .string ⟨#[116]⟩, .slice ad 1 1] w' fun e w2 => e = .returned (.tuple #[.int .i64 1, .bool false, .int .i64 0]) ∧ XS w0 c0 w2 j x eb rb (RS tT (S3)) := by
  have hA := h.add hw' (hT.later hw') tT (by decide) ad 1 [lA] hL hno (by decide) (by rw [rs_at]; decide) (fun _ a ha => .inr (hap a ha))
  obtain ⟨e1, e2, e3, e4⟩ := ex4
  rw [rs_add, rs_at, e1, e2, e3, e4] at hA
  exact hA
theorem show_add5 (h : XS w0 c0 w j x eb rb (RS tT (S3))) (hT : L.Tb B w) (hw' : Below w.heap.size w w') (ad : Option Addr) (hL : L.Ls w' ad []) (hno : ad = none → ([] : List L.Lb) = [] ∧ 0 = 0) (hap : ∀ a, ad = some a → w.heap.size ≤ a.block) :
    Calls Tryz.prog 16 #[.pointer (some ⟨x, 0, none⟩), .string ⟨#[116]⟩, .slice ad 0 0] w' fun e w2 => e = .returned (.tuple #[.int .i64 0, .bool false, .int .i64 70]) ∧ XS w0 c0 w2 j x eb rb (RS tT (S3)) := by
  have hA := h.add hw' (hT.later hw') tT (by decide) ad 0 [] hL hno (by decide) (by rw [rs_at]; decide) (fun _ a ha => .inr (hap a ha))
  obtain ⟨e1, e2, e3, e4⟩ := ex5
  rw [rs_add, rs_at, e1, e2, e3, e4] at hA
  exact hA
end
set_option maxRecDepth 100000 in
set_option maxHeartbeats 16000000 in
theorem shownP (B : Nat) (w : World) (hT : L.Tb B w) : Calls Tryz.prog 6 #[] w fun e w' => e = .returned (.bool true) ∧ Below w.heap.size w w' := by
  have HT := hidden hT
  have hB := hT.size
  clear hT
  go_enter Tryz.func6, Tryz.ntmps6
  go_wp2_with fail
  refine (newIxP2 w (fun _ => none) 0).mono ?_
  rintro e w1 ⟨x, eb, rb, c1, rfl, h1, h2, h3, h4, h5, h6, h7, b1⟩
  have hcol : ∀ i q, c1 i = some (0, q) → i = x ∨ i = eb ∨ i = rb := fun i q e => by
    by_cases hi : i < w.heap.size
    · rw [h2 i hi] at e; cases e
    · refine Classical.byContradiction fun hno => ?_
      simp only [not_or] at hno
      exact h3 i _ (by omega) hno.1 hno.2.1 hno.2.2 e
  have HCOL := hidden hcol
  have HB1 := hidden b1
  rw [rs_nil tT] at h1
  have HI1 := hidden h1
  have HORD : Hid (w.heap.size ≤ eb ∧ eb < rb ∧ rb < x ∧ x < w1.heap.size) := hidden ⟨h4, h5, h6, h7⟩
  clear h1 h2 h3 h4 h5 h6 h7 b1 hcol
  go_wp2_with (refine wpList_build_to rfl 78 #[(0, .const (.string ⟨#[98]⟩)), (1, .const (.int .i64 2))] rfl [(0, .string ⟨#[98]⟩), (1, .int .i64 2)] #[.string ⟨#[98]⟩, .int .i64 2, .string ⟨#[]⟩] rfl built78 ?_)
  have hal1 : Below w1.heap.size w1 (w1.alloc (.cells #[.string ⟨#[98]⟩, .int .i64 2, .string ⟨#[]⟩] 78)) := (Below.refl w1.heap.size w1).alloc (Nat.le_refl _) _
  have HAL1 := hidden hal1
  have hbk1 : Blk (w1.alloc (.cells #[.string ⟨#[98]⟩, .int .i64 2, .string ⟨#[]⟩] 78)) w1.heap.size 78 [.string ⟨#[98]⟩, .int .i64 2, .string ⟨#[]⟩] := Blk.new w1 78 [.string ⟨#[98]⟩, .int .i64 2, .string ⟨#[]⟩]
  have hset := setP B (some ⟨w1.heap.size, 0, none⟩) 1 [mB] (w1.alloc (.cells #[.string ⟨#[98]⟩, .int .i64 2, .string ⟨#[]⟩] 78)) ⟨fun y hy => by
      rw [List.mem_singleton.1 hy]
      exact ⟨by decide, by decide, by decide, by decide⟩, fun _ => ⟨w1.heap.size, 0, rfl, hbk1.lt, fun k y hk => by
      cases k with
      | zero =>
        simp at hk
        subst hk
        exact ⟨hbk1.cell 0, hbk1.cell 1, hbk1.cell 2⟩
      | succ k => simp at hk⟩⟩ (by decide) ((HT.out.later HB1.out).later hal1)
  rw [ex_set] at hset
  refine hset.mono ?_
  clear hset hbk1 hal1
  rintro e w3 ⟨s, F, rfl, hs, hF, hb3⟩
  have HB3 : Hid (Below w.heap.size w w3) := hidden ((HB1.out.trans (HAL1.out.mono HB1.out.size)).trans (hb3.mono (Nat.le_trans HB1.out.size HAL1.out.size)))
  have X3 : Hid (XS w3 c1 w3 0 x eb rb (RS tT [])) := hidden (XS.new ((HI1.out.later HAL1.out).later hb3))
  have HSTR := hidden hs
  have HFN : Hid (∀ b, F b → ∀ q, ¬ c1 b = some (0, q)) := hidden (fun b hb q e => by
    have h1 := (hF b hb).1
    have h2 := HCOL.out b q e
    have h3 := HORD.out
    rw [World.size_alloc] at h1
    omega)
  have HT3 : Hid (L.Tb B w3) := hidden (HT.out.below HB3.out hB)
  have HCB : Hid (∀ i q, c1 i = some (0, q) → B ≤ i) := hidden (fun i q e => by
    have h2 := HCOL.out i q e
    have h3 := HORD.out
    omega)
  clear hs hF hb3 HI1 HAL1
  go_wp2_with (first | (refine wpList_build_to rfl 75 #[(0, .const (.string ⟨#[97]⟩)), (1, .const (.string ⟨#[120]⟩))] rfl [(0, .string ⟨#[97]⟩), (1, .string ⟨#[120]⟩)] #[.string ⟨#[97]⟩, .string ⟨#[120]⟩] rfl (built75f ⟨#[97]⟩ ⟨#[120]⟩) ?_) | (refine wpList_build_to rfl 75 #[(0, .const (.string ⟨#[98]⟩)), (1, .const (.string ⟨#[121]⟩))] rfl [(0, .string ⟨#[98]⟩), (1, .string ⟨#[121]⟩)] #[.string ⟨#[98]⟩, .string ⟨#[121]⟩] rfl (built75f ⟨#[98]⟩ ⟨#[121]⟩) ?_) | (refine wpList_build_to rfl 75 #[(0, .const (.string ⟨#[99]⟩)), (1, .const (.string ⟨#[122]⟩))] rfl [(0, .string ⟨#[99]⟩), (1, .string ⟨#[122]⟩)] #[.string ⟨#[99]⟩, .string ⟨#[122]⟩] rfl (built75f ⟨#[99]⟩ ⟨#[122]⟩) ?_))
  have hbk4 : Blk (w3.alloc (.cells #[.string ⟨#[97]⟩, .string ⟨#[120]⟩, .string ⟨#[98]⟩, .string ⟨#[121]⟩] 75)) w3.heap.size 75 (cLb [lA, lB]) := Blk.new w3 75 (cLb [lA, lB])
  refine (show_add1 (w' := w3.alloc (.cells #[.string ⟨#[97]⟩, .string ⟨#[120]⟩, .string ⟨#[98]⟩, .string ⟨#[121]⟩] 75)) X3.out (X3.out.tb HT3.out HCB.out) ((Below.refl w3.heap.size w3).alloc (Nat.le_refl _) _) (some ⟨w3.heap.size, 0, none⟩) (ls_blk hbk4 (by decide)) (fun e => by cases e) (fun a ha => by cases ha; exact Nat.le_refl _)).mono ?_
  clear hbk4
  rintro e w4 ⟨rfl, hx4⟩
  have X4 := hidden hx4
  clear hx4 X3
  go_wp2_with (first | (refine wpList_build_to rfl 75 #[(0, .const (.string ⟨#[97]⟩)), (1, .const (.string ⟨#[120]⟩))] rfl [(0, .string ⟨#[97]⟩), (1, .string ⟨#[120]⟩)] #[.string ⟨#[97]⟩, .string ⟨#[120]⟩] rfl (built75f ⟨#[97]⟩ ⟨#[120]⟩) ?_) | (refine wpList_build_to rfl 75 #[(0, .const (.string ⟨#[98]⟩)), (1, .const (.string ⟨#[121]⟩))] rfl [(0, .string ⟨#[98]⟩), (1, .string ⟨#[121]⟩)] #[.string ⟨#[98]⟩, .string ⟨#[121]⟩] rfl (built75f ⟨#[98]⟩ ⟨#[121]⟩) ?_) | (refine wpList_build_to rfl 75 #[(0, .const (.string ⟨#[99]⟩)), (1, .const (.string ⟨#[122]⟩))] rfl [(0, .string ⟨#[99]⟩), (1, .string ⟨#[122]⟩)] #[.string ⟨#[99]⟩, .string ⟨#[122]⟩] rfl (built75f ⟨#[99]⟩ ⟨#[122]⟩) ?_))
  have hbk5 : Blk (w4.alloc (.cells #[.string ⟨#[97]⟩, .string ⟨#[120]⟩] 75)) w4.heap.size 75 (cLb [lA]) := Blk.new w4 75 (cLb [lA])
  refine (show_add2 (w' := w4.alloc (.cells #[.string ⟨#[97]⟩, .string ⟨#[120]⟩] 75)) X4.out (X4.out.tb HT3.out HCB.out) ((Below.refl w4.heap.size w4).alloc (Nat.le_refl _) _) (some ⟨w4.heap.size, 0, none⟩) (ls_blk hbk5 (by decide)) (fun e => by cases e) (fun a ha => by cases ha; exact Nat.le_refl _)).mono ?_
  clear hbk5
  rintro e w5 ⟨rfl, hx5⟩
  have X5 := hidden hx5
  clear hx5 X4
  go_wp2_with (first | (refine wpList_build_to rfl 75 #[(0, .const (.string ⟨#[97]⟩)), (1, .const (.string ⟨#[120]⟩))] rfl [(0, .string ⟨#[97]⟩), (1, .string ⟨#[120]⟩)] #[.string ⟨#[97]⟩, .string ⟨#[120]⟩] rfl (built75f ⟨#[97]⟩ ⟨#[120]⟩) ?_) | (refine wpList_build_to rfl 75 #[(0, .const (.string ⟨#[98]⟩)), (1, .const (.string ⟨#[121]⟩))] rfl [(0, .string ⟨#[98]⟩), (1, .string ⟨#[121]⟩)] #[.string ⟨#[98]⟩, .string ⟨#[121]⟩] rfl (built75f ⟨#[98]⟩ ⟨#[121]⟩) ?_) | (refine wpList_build_to rfl 75 #[(0, .const (.string ⟨#[99]⟩)), (1, .const (.string ⟨#[122]⟩))] rfl [(0, .string ⟨#[99]⟩), (1, .string ⟨#[122]⟩)] #[.string ⟨#[99]⟩, .string ⟨#[122]⟩] rfl (built75f ⟨#[99]⟩ ⟨#[122]⟩) ?_))
  have hbk6 : Blk (w5.alloc (.cells #[.string ⟨#[98]⟩, .string ⟨#[121]⟩, .string ⟨#[99]⟩, .string ⟨#[122]⟩] 75)) w5.heap.size 75 (cLb [lB, lC]) := Blk.new w5 75 (cLb [lB, lC])
  refine (show_add3 (w' := w5.alloc (.cells #[.string ⟨#[98]⟩, .string ⟨#[121]⟩, .string ⟨#[99]⟩, .string ⟨#[122]⟩] 75)) X5.out (X5.out.tb HT3.out HCB.out) ((Below.refl w5.heap.size w5).alloc (Nat.le_refl _) _) (some ⟨w5.heap.size, 0, none⟩) (ls_blk hbk6 (by decide)) (fun e => by cases e) (fun a ha => by cases ha; exact Nat.le_refl _)).mono ?_
  clear hbk6
  rintro e w6 ⟨rfl, hx6⟩
  have X6 := hidden hx6
  clear hx6 X5
  go_wp2_with (first | (refine wpList_build_to rfl 75 #[(0, .const (.string ⟨#[97]⟩)), (1, .const (.string ⟨#[120]⟩))] rfl [(0, .string ⟨#[97]⟩), (1, .string ⟨#[120]⟩)] #[.string ⟨#[97]⟩, .string ⟨#[120]⟩] rfl (built75f ⟨#[97]⟩ ⟨#[120]⟩) ?_) | (refine wpList_build_to rfl 75 #[(0, .const (.string ⟨#[98]⟩)), (1, .const (.string ⟨#[121]⟩))] rfl [(0, .string ⟨#[98]⟩), (1, .string ⟨#[121]⟩)] #[.string ⟨#[98]⟩, .string ⟨#[121]⟩] rfl (built75f ⟨#[98]⟩ ⟨#[121]⟩) ?_) | (refine wpList_build_to rfl 75 #[(0, .const (.string ⟨#[99]⟩)), (1, .const (.string ⟨#[122]⟩))] rfl [(0, .string ⟨#[99]⟩), (1, .string ⟨#[122]⟩)] #[.string ⟨#[99]⟩, .string ⟨#[122]⟩] rfl (built75f ⟨#[99]⟩ ⟨#[122]⟩) ?_))
  have hbk7 : Blk (w6.alloc (.cells #[.string ⟨#[97]⟩, .string ⟨#[120]⟩] 75)) w6.heap.size 75 (cLb [lA]) := Blk.new w6 75 (cLb [lA])
  refine (show_add4 (w' := w6.alloc (.cells #[.string ⟨#[97]⟩, .string ⟨#[120]⟩] 75)) X6.out (X6.out.tb HT3.out HCB.out) ((Below.refl w6.heap.size w6).alloc (Nat.le_refl _) _) (some ⟨w6.heap.size, 0, none⟩) (ls_blk hbk7 (by decide)) (fun e => by cases e) (fun a ha => by cases ha; exact Nat.le_refl _)).mono ?_
  clear hbk7
  rintro e w7 ⟨rfl, hx7⟩
  have X7 := hidden hx7
  clear hx7 X6
  go_wp2_with (first | (refine wpList_build_to rfl 75 #[(0, .const (.string ⟨#[97]⟩)), (1, .const (.string ⟨#[120]⟩))] rfl [(0, .string ⟨#[97]⟩), (1, .string ⟨#[120]⟩)] #[.string ⟨#[97]⟩, .string ⟨#[120]⟩] rfl (built75f ⟨#[97]⟩ ⟨#[120]⟩) ?_) | (refine wpList_build_to rfl 75 #[(0, .const (.string ⟨#[98]⟩)), (1, .const (.string ⟨#[121]⟩))] rfl [(0, .string ⟨#[98]⟩), (1, .string ⟨#[121]⟩)] #[.string ⟨#[98]⟩, .string ⟨#[121]⟩] rfl (built75f ⟨#[98]⟩ ⟨#[121]⟩) ?_) | (refine wpList_build_to rfl 75 #[(0, .const (.string ⟨#[99]⟩)), (1, .const (.string ⟨#[122]⟩))] rfl [(0, .string ⟨#[99]⟩), (1, .string ⟨#[122]⟩)] #[.string ⟨#[99]⟩, .string ⟨#[122]⟩] rfl (built75f ⟨#[99]⟩ ⟨#[122]⟩) ?_))
  refine (show_add5 (w' := w7) X7.out (X7.out.tb HT3.out HCB.out) (Below.refl _ _) none (L.Ls.nil _ _) (fun _ => ⟨rfl, rfl⟩) (fun a ha => by cases ha)).mono ?_
  rintro e w8 ⟨rfl, hx8⟩
  have X8 := hidden hx8
  clear hx8 X7
  have hms : ∀ m ∈ [mB], m.may = true ∧ OkM m := fun m hm => by
    rw [List.mem_singleton.1 hm]
    exact ⟨by kernel_rfl, by decide, by decide, by decide, by decide⟩
  have HMS := hidden hms
  clear hms
  go_wp2_with fail
  have hse := X8.out.select (X8.out.tb HT3.out HCB.out) tT (by decide) s [mB] ⟨F, X8.out.str HSTR.out HFN.out⟩ HMS.out (by decide)
  rw [rs_at, ex_sel] at hse
  refine hse.mono ?_
  clear hse
  rintro e w9 ⟨a9, c9, rfl, ho9, hb9⟩
  have X9 := hidden (X8.out.later hb9)
  have HZ9 := hidden (zrs_of_owns ho9)
  clear ho9 hb9 X8
  go_wp2_with fail
  have hna := X9.out.names (X9.out.tb HT3.out HCB.out) tT (by decide) s [mB] ⟨F, X9.out.str HSTR.out HFN.out⟩ HMS.out (by decide)
  rw [rs_at, ex_sel] at hna
  refine hna.mono ?_
  clear hna
  rintro e w10 ⟨l10, a10, c10, rfl, ho10, ha10, hm10, hb10⟩
  obtain rfl := ex_names ha10 hm10
  have X10 := hidden (X9.out.later hb10)
  have HZ10 := hidden (HZ9.out.later hb10)
  have HN10 := hidden (txs_of_owns ho10)
  clear ho10 ha10 hm10 hb10 X9 HZ9
  go_wp2_with fail
  have hva := X10.out.values (X10.out.tb HT3.out HCB.out) tT (by decide) s [mB] ⟨F, X10.out.str HSTR.out HFN.out⟩ HMS.out (by decide) ⟨#[99]⟩
  rw [rs_at, ex_sel] at hva
  refine hva.mono ?_
  clear hva
  rintro e w11 ⟨l11, a11, c11, rfl, ho11, ha11, hm11, hb11⟩
  obtain rfl := ex_values ha11 hm11
  have X11 := hidden (X10.out.later hb11)
  have HZ11 := hidden (HZ10.out.later hb11)
  have HN11 := hidden (HN10.out.later hb11)
  have HV11 := hidden (txs_of_owns ho11)
  clear ho11 ha11 hm11 hb11 X10 HZ10 HN10
  go_wp2_with fail
  refine (X11.out.sizes (sz_bound X11.out.ok [tT] (rs_out tT S3) (by decide))).mono ?_
  rintro e w12 ⟨⟨ka, kb, hsz, rfl⟩, hb12⟩
  obtain ⟨rfl, rfl⟩ := hsz.eq ex_size
  have X12 := hidden (X11.out.later hb12)
  have HZ12 := hidden (HZ11.out.later hb12)
  have HN12 := hidden (HN11.out.later hb12)
  have HV12 := hidden (HV11.out.later hb12)
  clear hsz hb12 X11 HZ11 HN11 HV11
  go_wp2_with fail
  have hal12 : Below w12.heap.size w12 (w12.alloc (.cells #[.int .i64 0, .int .i64 2] 3)) := (Below.refl w12.heap.size w12).alloc (Nat.le_refl _) _
  refine (numbersP (w12.alloc (.cells #[.int .i64 0, .int .i64 2] 3)) a9 (some ⟨w12.heap.size, 0, none⟩) c9 2 [0, 2] (HZ12.out.later hal12) (zrs_blk (Blk.new w12 3 (zs [0, 2]))) (by decide)).mono ?_
  rintro e w13 ⟨rfl, hb13⟩
  have hb13' := hal12.trans (hb13.mono hal12.size)
  have X13 := hidden (X12.out.later hb13')
  have HN13 := hidden (HN12.out.later hb13')
  have HV13 := hidden (HV12.out.later hb13')
  clear hal12 hb13 hb13' X12 HZ12 HN12 HV12
  go_wp2_with fail
  have hal13 : Below w13.heap.size w13 (w13.alloc (.cells #[.string ⟨#[97]⟩, .string ⟨#[98]⟩, .string ⟨#[99]⟩] 9)) := (Below.refl w13.heap.size w13).alloc (Nat.le_refl _) _
  refine (textsP (w13.alloc (.cells #[.string ⟨#[97]⟩, .string ⟨#[98]⟩, .string ⟨#[99]⟩] 9)) a10 (some ⟨w13.heap.size, 0, none⟩) c10 3 [⟨#[97]⟩, ⟨#[98]⟩, ⟨#[99]⟩] (HN13.out.later hal13) (txs_blk (Blk.new w13 9 (strs [⟨#[97]⟩, ⟨#[98]⟩, ⟨#[99]⟩]))) (by decide)).mono ?_
  rintro e w14 ⟨rfl, hb14⟩
  have hb14' := hal13.trans (hb14.mono hal13.size)
  have X14 := hidden (X13.out.later hb14')
  have HV14 := hidden (HV13.out.later hb14')
  clear hal13 hb14 hb14' X13 HN13 HV13
  go_wp2_with fail
  have hal14 : Below w14.heap.size w14 (w14.alloc (.cells #[.string ⟨#[122]⟩] 9)) := (Below.refl w14.heap.size w14).alloc (Nat.le_refl _) _
  refine (textsP (w14.alloc (.cells #[.string ⟨#[122]⟩] 9)) a11 (some ⟨w14.heap.size, 0, none⟩) c11 1 [⟨#[122]⟩] (HV14.out.later hal14) (txs_blk (Blk.new w14 9 (strs [⟨#[122]⟩]))) (by decide)).mono ?_
  rintro e w15 ⟨rfl, hb15⟩
  have X15 := hidden (X14.out.later (hal14.trans (hb15.mono hal14.size)))
  clear hal14 hb15 X14 HV14
  go_wp2_with (first
    | (go_at_call 19
       have hle := X15.out.len tT
       rw [rs_at] at hle
       refine hle.mono ?_
       rintro e w16 ⟨rfl, hb16⟩
       have X16 := hidden (X15.out.later hb16)
       clear hle hb16))
  go_ret
  refine ⟨by rfl, HB3.out.trans (X16.out.chg.below HB3.out.size (fun i ⟨q, hq⟩ => ?_))⟩
  have h2 := HCOL.out i q hq
  have h3 := HORD.out
  omega
end Go.Proofs.YtgmdpbahcbhfjaaGreatDoor.X
