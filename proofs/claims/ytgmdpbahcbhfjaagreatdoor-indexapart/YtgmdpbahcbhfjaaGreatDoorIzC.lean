import Derived.Test.YtgmdpbahcbhfjaaGreatDoorIyE
import Derived.Test.YtgmdpbahcbhfjaaGreatDoorIxT
set_option linter.unusedSimpArgs false
set_option linter.unusedVariables false
set_option maxHeartbeats 40000000
set_option maxRecDepth 100000
/-
  An index in the law: how it has come from w0.
-/
namespace Go.Proofs.YtgmdpbahcbhfjaaGreatDoor.X
open Go.RowKit

/-- An index that stood at w0, as it is now. -/
def XS (w0 : World) (c0 : Col) (w : World) (j x eb rb : Nat) (R : Rr) : Prop := ∃ c, Ix w c j x eb rb R ∧ Acc w0 c0 j w c
section
variable {w0 w w' wq : World} {c0 : Col} {j x eb rb B : Nat} {R : Rr}
theorem XS.new {c : Col} (h : Ix w c j x eb rb R) : XS w c w j x eb rb R := ⟨c, h, fun _ _ => rfl, Chg.refl _ _⟩
theorem XS.later (h : XS w0 c0 w j x eb rb R) (hb : Below w.heap.size w w') : XS w0 c0 w' j x eb rb R := by
  obtain ⟨c, h1, h2⟩ := h
  exact ⟨c, h1.later hb, h2.later hb⟩
theorem XS.chg (h : XS w0 c0 w j x eb rb R) : Chg (fun i => ∃ q, c0 i = some (j, q)) w0 w := by
  obtain ⟨c, h1, h2⟩ := h
  exact h2.2
theorem XS.tb (h : XS w0 c0 w j x eb rb R) (hT : L.Tb B w0) (hB : ∀ i q, c0 i = some (j, q) → B ≤ i) : L.Tb B w := hT.chg h.chg (fun i ⟨q, hq⟩ => hB i q hq)
theorem XS.ok (h : XS w0 c0 w j x eb rb R) : ROk R := by
  obtain ⟨c, h1, _⟩ := h
  exact h1.ok
theorem XS.str {F : Nat → Prop} {s : Nat} {ms : List Mt} (h : XS w0 c0 w j x eb rb R) (hs : StR F w0 s ms) (hF : ∀ b, F b → ∀ q, ¬ c0 b = some (j, q)) : StR F w s ms := hs.keep h.chg (fun b hb ⟨q, hq⟩ => hF b hb q hq)
/-- Add. -/
theorem XS.add (h : XS w0 c0 wq j x eb rb R) (hb : Below wq.heap.size wq w) (hT : L.Tb B w) (t : ByteArray) (ht : t.size ≤ maxLen) (ad : Option Addr) (cp : Nat) (l : List L.Lb) (hL : L.Ls w ad l) (hno : ad = none → l = [] ∧ cp = 0) (hlen : l.length ≤ 1000000) (hN : (R t).length < 1000)
    (hap : ¬ l = [] → ∀ a, ad = some a → (a.block < w0.heap.size ∧ ∀ q, ¬ c0 a.block = some (j, q)) ∨ wq.heap.size ≤ a.block) :
    Calls Tryz.prog 16 #[.pointer (some ⟨x, 0, none⟩), .string t, .slice ad l.length cp] w fun e w' => e = .returned (.tuple #[.int .i64 (addI (R t) l), .bool (addB (R t) l), .int .i64 (L.errL (L.right l))]) ∧ XS w0 c0 w' j x eb rb (addR R t l) := by
  obtain ⟨c, h1, h2⟩ := h
  obtain ⟨c', h3, h4, h5⟩ := h1.fresh
  have h6 : Acc w0 c0 j wq c' := h2.step h4 (Chg.refl (fun _ => False) wq) (fun _ _ e => e.elim)
  refine (addP (h3.later hb) hT t ht ad cp l hL hno hlen hN (fun hne a ha q e => ?_)).mono ?_
  · rcases hap hne a ha with ⟨hlt, hc⟩ | hge
    · rw [h6.1 a.block hlt] at e
      exact hc q e
    · rw [h5 a.block hge] at e
      cases e
  · rintro e w' ⟨rfl, c2, h7, h8⟩
    have h9 := h6.later hb
    exact ⟨rfl, c2, h7, h9.step (F := fun i => ∃ q, c' i = some (j, q)) (fun i hi => h8.1 i hi) h8.2 (fun i hi hf => hf)⟩
theorem XS.len (h : XS w0 c0 w j x eb rb R) (t : ByteArray) : Calls Tryz.prog 19 #[.pointer (some ⟨x, 0, none⟩), .string t] w fun e w' => e = .returned (.int .i64 ((R t).length : Int)) ∧ Below w.heap.size w w' := by
  obtain ⟨c, h1, _⟩ := h
  exact lenP h1 t
theorem XS.select (h : XS w0 c0 w j x eb rb R) (hT : L.Tb B w) (t : ByteArray) (ht : t.size ≤ maxLen) (s : Nat) (ms : List Mt) (hS : ∃ F, StR F w s ms) (hms : ∀ m ∈ ms, m.may = true ∧ OkM m) (hml : ms.length ≤ 1000) :
    Calls Tryz.prog 24 #[.pointer (some ⟨x, 0, none⟩), .string t, .pointer (some ⟨s, 0, none⟩)] w (SelV w (selF (R t) ms)) := by
  obtain ⟨c, h1, _⟩ := h
  exact selectP h1 hT t ht s ms hS hms hml
theorem XS.names (h : XS w0 c0 w j x eb rb R) (hT : L.Tb B w) (t : ByteArray) (ht : t.size ≤ maxLen) (s : Nat) (ms : List Mt) (hS : ∃ F, StR F w s ms) (hms : ∀ m ∈ ms, m.may = true ∧ OkM m) (hml : ms.length ≤ 1000) :
    Calls Tryz.prog 25 #[.pointer (some ⟨x, 0, none⟩), .string t, .pointer (some ⟨s, 0, none⟩)] w (NamV w (NamQ (R t) (selF (R t) ms))) := by
  obtain ⟨c, h1, _⟩ := h
  exact namesP h1 hT t ht s ms hS hms hml
theorem XS.values (h : XS w0 c0 w j x eb rb R) (hT : L.Tb B w) (t : ByteArray) (ht : t.size ≤ maxLen) (s : Nat) (ms : List Mt) (hS : ∃ F, StR F w s ms) (hms : ∀ m ∈ ms, m.may = true ∧ OkM m) (hml : ms.length ≤ 1000) (nm : ByteArray) :
    Calls Tryz.prog 26 #[.pointer (some ⟨x, 0, none⟩), .string t, .pointer (some ⟨s, 0, none⟩), .string nm] w (NamV w (ValQ (R t) (selF (R t) ms) nm)) := by
  obtain ⟨c, h1, _⟩ := h
  exact valuesP h1 hT t ht s ms hS hms hml nm
theorem XS.sizes (h : XS w0 c0 w j x eb rb R) (hb : ∀ a b, SzR (entF R) a b → b ≤ 4000000000000000000) : Calls Tryz.prog 18 #[.pointer (some ⟨x, 0, none⟩)] w fun e w' => (∃ a b : Nat, SzR (entF R) a b ∧ e = .returned (.tuple #[.int .i64 (a : Int), .int .i64 (b : Int)])) ∧ Below w.heap.size w w' := by
  obtain ⟨c, h1, _⟩ := h
  exact sizeP h1 hb
end
/-- How much there is at most, of so many tenants. -/
theorem sz_bound {R : Rr} (h : ROk R) (T : List ByteArray) (hT : ∀ t, ¬ t ∈ T → R t = []) (h9 : T.length ≤ 10) : ∀ a b, SzR (entF R) a b → b ≤ 4000000000000000000 := by
  rintro a b ⟨ks, n, m, _, rfl⟩
  have hlen : ∀ k, (entF R k).length ≤ 1000 := fun k => by
    unfold entF
    split
    · split
      · rw [List.length_range]; exact h.len k.t
      · simp
    · exact (hasX_wrd (h.len k.t) _).2
  have hmem : ∀ k ∈ ks, k.t ∈ T ∧ ((k.n = em0 ∧ k.v = em0) ∨ (⟨k.n, k.v⟩ : L.Lb) ∈ (R k.t).flatten) := fun k hk => by
    have hne := (m k).1 hk
    unfold entF at hne
    constructor
    · refine Classical.byContradiction fun hno => hne ?_
      rw [hT k.t hno]
      split
      · split <;> rfl
      · rfl
    · by_cases h1 : k.n = em0
      · by_cases h2 : k.v = em0
        · exact .inl ⟨h1, h2⟩
        · rw [if_pos h1, if_neg h2] at hne; exact absurd rfl hne
      · rw [if_neg h1] at hne
        obtain ⟨i, hi⟩ := List.exists_mem_of_ne_nil _ hne
        obtain ⟨h3, h4⟩ := hasX_mem.1 hi
        refine .inr (List.mem_flatten.2 ⟨(R k.t)[i], List.getElem_mem h3, ?_⟩)
        simpa [List.getD, List.getElem?_eq_getElem h3] using h4
  have hk := nodup_len (ks.map fun k => (k.t, k.n, k.v)) (T.flatMap fun t => (t, em0, em0) :: (R t).flatten.map fun y => (t, y.n, y.v)) (by
    rw [List.Nodup, List.pairwise_map]
    refine n.imp (fun {a b} hne e => hne ?_)
    obtain ⟨a1, a2, a3, _⟩ := a
    obtain ⟨b1, b2, b3, _⟩ := b
    simp only [Prod.mk.injEq] at e
    obtain ⟨rfl, rfl, rfl⟩ := e
    rfl) (fun z hz => by
    obtain ⟨k, hk, rfl⟩ := List.mem_map.1 hz
    obtain ⟨h1, h2⟩ := hmem k hk
    refine List.mem_flatMap.2 ⟨k.t, h1, ?_⟩
    rcases h2 with ⟨h2, h3⟩ | h2
    · rw [h2, h3]; simp
    · exact List.mem_cons_of_mem _ (List.mem_map.2 ⟨_, h2, rfl⟩))
  have hT8 : ∀ T : List ByteArray, (T.flatMap fun t => (t, em0, em0) :: (R t).flatten.map fun y => (t, y.n, y.v)).length ≤ T.length * 8001 := by
    intro T
    induction T with
    | nil => simp
    | cons t u ih =>
      have := flat_len8 (h.right t) (h.len t)
      simp only [List.flatMap_cons, List.length_append, List.length_cons, List.length_map] at ih ⊢
      omega
  have h1 := hT8 T
  rw [List.length_map] at hk
  have hs : ∀ l : List Kx, (l.map fun k => (entF R k).length).sum ≤ l.length * 1000 := by
    intro l
    induction l with
    | nil => simp
    | cons k u ih =>
      have := hlen k
      simp only [List.map_cons, List.sum_cons, List.length_cons]
      omega
  have h2 := hs ks
  omega
end Go.Proofs.YtgmdpbahcbhfjaaGreatDoor.X
/-
  The law's head: the document's examples.
-/
namespace Go.Proofs.YtgmdpbahcbhfjaaGreatDoor.X
open Go.RowKit

/-- One tenant's series, and no other's. -/
def RS (t : ByteArray) (S : List (List L.Lb)) : Rr := fun t' => if t' = t then S else []
theorem rs_at (t : ByteArray) (S : List (List L.Lb)) : RS t S t = S := by simp [RS]
theorem rs_nil (t : ByteArray) : (fun _ => [] : Rr) = RS t [] := by funext t'; simp [RS]
def addS (S : List (List L.Lb)) (l : List L.Lb) : List (List L.Lb) := if L.right l = true ∧ ¬ l ∈ S then S ++ [l] else S
theorem rs_add (t : ByteArray) (S : List (List L.Lb)) (l : List L.Lb) : addR (RS t S) t l = RS t (addS S l) := by
  unfold addR addS
  rw [rs_at]
  by_cases h : L.right l = true ∧ ¬ l ∈ S
  · rw [if_pos h, if_pos h]
    funext t'
    unfold radd
    rw [rs_at]
    by_cases e : t' = t <;> simp [RS, e]
  · rw [if_neg h, if_neg h]
theorem rs_out (t : ByteArray) (S : List (List L.Lb)) : ∀ t', ¬ t' ∈ [t] → RS t S t' = [] := fun t' h => by
  have : ¬ t' = t := fun e => h (by simp [e])
  simp [RS, this]
theorem ls_blk {w : World} {g : Nat} {l : List L.Lb} (h : Blk w g 75 (cLb l)) (hs : ∀ x ∈ l, x.n.size ≤ 9223372036854775807 ∧ x.v.size ≤ 9223372036854775807) : L.Ls w (some ⟨g, 0, none⟩) l :=
  ⟨hs, fun _ => ⟨g, 0, rfl, h.lt, fun i x hi => by
    obtain ⟨g0, g1⟩ := cLb_get l i x hi
    rw [Nat.zero_add]
    exact ⟨by rw [h.cell]; exact g0, by rw [h.cell]; exact g1⟩⟩⟩
def tT : ByteArray := ⟨#[116]⟩
def lA : L.Lb := ⟨⟨#[97]⟩, ⟨#[120]⟩⟩
def lB : L.Lb := ⟨⟨#[98]⟩, ⟨#[121]⟩⟩
def lC : L.Lb := ⟨⟨#[99]⟩, ⟨#[122]⟩⟩
def mB : Mt := ⟨⟨#[98]⟩, 2, ⟨#[]⟩⟩
theorem ex1 : addS [] [lA, lB] = [[lA, lB]] ∧ addI [] [lA, lB] = 0 ∧ addB [] [lA, lB] = true ∧ L.right [lA, lB] = true := by refine ⟨?_, ?_, ?_, ?_⟩ <;> kernel_rfl
theorem ex2 : addS [[lA, lB]] [lA] = [[lA, lB], [lA]] ∧ addI [[lA, lB]] [lA] = 1 ∧ addB [[lA, lB]] [lA] = true ∧ L.right [lA] = true := by refine ⟨?_, ?_, ?_, ?_⟩ <;> kernel_rfl
theorem ex3 : addS [[lA, lB], [lA]] [lB, lC] = [[lA, lB], [lA], [lB, lC]] ∧ addI [[lA, lB], [lA]] [lB, lC] = 2 ∧ addB [[lA, lB], [lA]] [lB, lC] = true ∧ L.right [lB, lC] = true := by refine ⟨?_, ?_, ?_, ?_⟩ <;> kernel_rfl
theorem ex4 : addS [[lA, lB], [lA], [lB, lC]] [lA] = [[lA, lB], [lA], [lB, lC]] ∧ addI [[lA, lB], [lA], [lB, lC]] [lA] = 1 ∧ addB [[lA, lB], [lA], [lB, lC]] [lA] = false ∧ L.right [lA] = true := by refine ⟨?_, ?_, ?_, ?_⟩ <;> kernel_rfl
theorem ex5 : addS [[lA, lB], [lA], [lB, lC]] [] = [[lA, lB], [lA], [lB, lC]] ∧ addI [[lA, lB], [lA], [lB, lC]] [] = 0 ∧ addB [[lA, lB], [lA], [lB, lC]] [] = false ∧ L.right [] = false := by refine ⟨?_, ?_, ?_, ?_⟩ <;> kernel_rfl
abbrev S3 : List (List L.Lb) := [[lA, lB], [lA], [lB, lC]]
theorem ex_set : setL [mB] = [mB] := by
  unfold setL
  rw [if_pos (by kernel_rfl)]
theorem hold_mB (v : ByteArray) : mB.hold v = !decide (v = em0) := by
  unfold Mt.hold
  rw [if_neg (show ¬ mB.op = 1 by decide), if_pos (show mB.op = 2 from rfl)]
  congr
theorem ex_sel : selF S3 [mB] = [0, 2] := by
  have h0 : gotL [lA, lB] mB.n = ⟨#[121]⟩ := by kernel_rfl
  have h1 : gotL [lA] mB.n = em0 := by kernel_rfl
  have h2 : gotL [lB, lC] mB.n = ⟨#[121]⟩ := by kernel_rfl
  have hh : ∀ l : List L.Lb, holdsL [mB] l = !decide (gotL l mB.n = em0) := fun l => by
    unfold holdsL
    rw [List.all_cons, List.all_nil, Bool.and_true, hold_mB]
  unfold selF
  rw [show List.range S3.length = [0, 1, 2] from rfl]
  have g0 : holdsL [mB] (S3.getD 0 []) = true := by rw [hh]; show (!decide (gotL [lA, lB] mB.n = em0)) = true; rw [h0]; rfl
  have g1 : holdsL [mB] (S3.getD 1 []) = false := by rw [hh]; show (!decide (gotL [lA] mB.n = em0)) = false; rw [h1]; rfl
  have g2 : holdsL [mB] (S3.getD 2 []) = true := by rw [hh]; show (!decide (gotL [lB, lC] mB.n = em0)) = true; rw [h2]; rfl
  simp only [List.filter_cons, g0, g1, g2, if_true, Bool.false_eq_true, if_false, List.filter_nil]
theorem ex_names {l : List ByteArray} (h : Asc l) (hm : ∀ n, n ∈ l ↔ NamQ S3 [0, 2] n) : l = [⟨#[97]⟩, ⟨#[98]⟩, ⟨#[99]⟩] := by
  refine asc_ext h ?_ (fun n => ?_)
  · unfold Asc
    simp only [List.pairwise_cons, List.mem_cons, List.not_mem_nil, or_false]
    refine ⟨?_, ?_, by simp, List.Pairwise.nil⟩
    · rintro x (rfl | rfl) <;> kernel_rfl
    · rintro x rfl; kernel_rfl
  · rw [hm]
    unfold NamQ
    simp only [List.mem_cons, List.not_mem_nil, or_false]
    constructor
    · rintro ⟨i, rfl | rfl, y, hy, rfl⟩
      · have hy' : y ∈ [lA, lB] := hy
        simp at hy'
        rcases hy' with rfl | rfl
        · exact .inl rfl
        · exact .inr (.inl rfl)
      · have hy' : y ∈ [lB, lC] := hy
        simp at hy'
        rcases hy' with rfl | rfl
        · exact .inr (.inl rfl)
        · exact .inr (.inr rfl)
    · rintro (rfl | rfl | rfl)
      · exact ⟨0, .inl rfl, lA, by simp [S3], rfl⟩
      · exact ⟨0, .inl rfl, lB, by simp [S3], rfl⟩
      · exact ⟨2, .inr rfl, lC, by simp [S3], rfl⟩
theorem ex_values {l : List ByteArray} (h : Asc l) (hm : ∀ n, n ∈ l ↔ ValQ S3 [0, 2] ⟨#[99]⟩ n) : l = [⟨#[122]⟩] := by
  refine asc_ext h (by simp [Asc]) (fun n => ?_)
  rw [hm]
  unfold ValQ
  simp only [List.mem_cons, List.not_mem_nil, or_false]
  constructor
  · rintro ⟨i, rfl | rfl, hy⟩
    · have hy' : (⟨⟨#[99]⟩, n⟩ : L.Lb) ∈ [lA, lB] := hy
      simp [lA, lB] at hy'
    · have hy' : (⟨⟨#[99]⟩, n⟩ : L.Lb) ∈ [lB, lC] := hy
      simp [lB, lC] at hy'
      exact hy'
  · rintro rfl
    exact ⟨2, .inr rfl, by show lC ∈ [lB, lC]; simp⟩
theorem k_ok (a b c : ByteArray) (h : a.size ≤ 1 ∧ b.size ≤ 1 ∧ c.size ≤ 1) : a.size ≤ maxLen ∧ b.size ≤ maxLen ∧ c.size ≤ maxLen := by unfold maxLen; omega
theorem ex_size : SzR (entF (RS tT S3)) 4 8 := by
  refine ⟨[⟨tT, em0, em0, k_ok _ _ _ (by decide)⟩, ⟨tT, lA.n, lA.v, k_ok _ _ _ (by decide)⟩, ⟨tT, lB.n, lB.v, k_ok _ _ _ (by decide)⟩, ⟨tT, lC.n, lC.v, k_ok _ _ _ (by decide)⟩], ?_, fun k => ?_, rfl, by kernel_rfl⟩
  · simp only [List.nodup_cons, List.mem_cons, List.not_mem_nil, or_false, Kx.mk.injEq, not_or, List.nodup_nil, and_true, not_false_eq_true]
    decide
  · obtain ⟨t, n, v, hf⟩ := k
    simp only [List.mem_cons, List.not_mem_nil, or_false, Kx.mk.injEq]
    unfold entF
    simp only
    by_cases ht : t = tT
    · subst ht
      rw [rs_at]
      by_cases hn : n = em0
      · subst hn
        by_cases hv : v = em0
        · subst hv
          simp
        · simp only [if_true, if_neg hv]
          have hv' : ¬ v = ⟨#[]⟩ := hv
          simp [hv', lA, lB, lC, em0]
      · rw [if_neg hn]
        have h1 : (¬ hasX S3 ⟨n, v⟩ = []) ↔ ∃ l ∈ S3, (⟨n, v⟩ : L.Lb) ∈ l := by
          rw [hasX_nil]
          exact ⟨fun h => Classical.byContradiction fun h2 => h (fun l hl hm => h2 ⟨l, hl, hm⟩), fun ⟨l, hl, hm⟩ h => h l hl hm⟩
        rw [h1]
        constructor
        · rintro (⟨_, rfl, _⟩ | ⟨_, rfl, rfl⟩ | ⟨_, rfl, rfl⟩ | ⟨_, rfl, rfl⟩)
          · exact absurd rfl hn
          · exact ⟨[lA], by simp, by show lA ∈ [lA]; simp⟩
          · exact ⟨[lA, lB], by simp, by show lB ∈ [lA, lB]; simp⟩
          · exact ⟨[lB, lC], by simp, by show lC ∈ [lB, lC]; simp⟩
        · rintro ⟨l, hl, hm⟩
          have key : (⟨n, v⟩ : L.Lb) = lA ∨ (⟨n, v⟩ : L.Lb) = lB ∨ (⟨n, v⟩ : L.Lb) = lC := by
            simp only [List.mem_cons, List.not_mem_nil, or_false] at hl
            rcases hl with rfl | rfl | rfl <;> simp only [List.mem_cons, List.not_mem_nil, or_false] at hm
            · rcases hm with h | h <;> simp [h]
            · simp [hm]
            · rcases hm with h | h <;> simp [h]
          rcases key with e | e | e
          · refine .inr (.inl ⟨rfl, ?_, ?_⟩) <;> rw [← e]
          · refine .inr (.inr (.inl ⟨rfl, ?_, ?_⟩)) <;> rw [← e]
          · refine .inr (.inr (.inr ⟨rfl, ?_, ?_⟩)) <;> rw [← e]
    · have h0 : RS tT S3 t = [] := by simp [RS, ht]
      rw [h0]
      have h1 : hasX [] (⟨n, v⟩ : L.Lb) = [] := rfl
      simp [ht, h1]
end Go.Proofs.YtgmdpbahcbhfjaaGreatDoor.X
/-
  The law's head: shown.
-/
namespace Go.Proofs.YtgmdpbahcbhfjaaGreatDoor.X
open Go.RowKit

theorem built78 : Tryz.prog.built 78 [(0, .string ⟨#[98]⟩), (1, .int .i64 2)] = some #[.string ⟨#[98]⟩, .int .i64 2, .string ⟨#[]⟩] := by kernel_rfl
theorem zrs_blk {w : World} {g : Nat} {l : List Nat} (h : Blk w g 3 (zs l)) : Zrs w (some ⟨g, 0, none⟩) l := fun i v hi => ⟨g, 0, rfl, h.lt, by rw [Nat.zero_add, h.cell]; simp [zs, hi]⟩
theorem txs_blk {w : World} {g : Nat} {l : List ByteArray} (h : Blk w g 9 (strs l)) : Txs w (some ⟨g, 0, none⟩) l := fun i v hi => ⟨g, 0, rfl, h.lt, by rw [Nat.zero_add, h.cell]; simp [strs, hi]⟩
section
variable {w0 w w' wq : World} {c0 : Col} {j x eb rb B : Nat}
theorem show_add1 (h : XS w0 c0 w j x eb rb (RS tT ([]))) (hT : L.Tb B w) (hw' : Below w.heap.size w w') (ad : Option Addr) (hL : L.Ls w' ad [lA, lB]) (hno : ad = none → ([lA, lB] : List L.Lb) = [] ∧ 2 = 0) (hap : ∀ a, ad = some a → w.heap.size ≤ a.block) :
    Calls Tryz.prog 16 #[.pointer (some ⟨x, 0, none⟩), .string ⟨#[116]⟩, .slice ad 2 2] w' fun e w2 => e = .returned (.tuple #[.int .i64 0, .bool true, .int .i64 0]) ∧ XS w0 c0 w2 j x eb rb (RS tT ([[lA, lB]])) := by
  have hA := h.add hw' (hT.later hw') tT (by decide) ad 2 [lA, lB] hL hno (by decide) (by rw [rs_at]; decide) (fun _ a ha => .inr (hap a ha))
  obtain ⟨e1, e2, e3, e4⟩ := ex1
  rw [rs_add, rs_at, e1, e2, e3, e4] at hA
  exact hA
theorem show_add2 (h : XS w0 c0 w j x eb rb (RS tT ([[lA, lB]]))) (hT : L.Tb B w) (hw' : Below w.heap.size w w') (ad : Option Addr) (hL : L.Ls w' ad [lA]) (hno : ad = none → ([lA] : List L.Lb) = [] ∧ 1 = 0) (hap : ∀ a, ad = some a → w.heap.size ≤ a.block) :
    Calls Tryz.prog 16 #[.pointer (some ⟨x, 0, none⟩), .string ⟨#[116]⟩, .slice ad 1 1] w' fun e w2 => e = .returned (.tuple #[.int .i64 1, .bool true, .int .i64 0]) ∧ XS w0 c0 w2 j x eb rb (RS tT ([[lA, lB], [lA]])) := by
  have hA := h.add hw' (hT.later hw') tT (by decide) ad 1 [lA] hL hno (by decide) (by rw [rs_at]; decide) (fun _ a ha => .inr (hap a ha))
  obtain ⟨e1, e2, e3, e4⟩ := ex2
  rw [rs_add, rs_at, e1, e2, e3, e4] at hA
  exact hA
theorem show_add3 (h : XS w0 c0 w j x eb rb (RS tT ([[lA, lB], [lA]]))) (hT : L.Tb B w) (hw' : Below w.heap.size w w') (ad : Option Addr) (hL : L.Ls w' ad [lB, lC]) (hno : ad = none → ([lB, lC] : List L.Lb) = [] ∧ 2 = 0) (hap : ∀ a, ad = some a → w.heap.size ≤ a.block) :
    Calls Tryz.prog 16 #[.pointer (some ⟨x, 0, none⟩), .string ⟨#[116]⟩, .slice ad 2 2] w' fun e w2 => e = .returned (.tuple #[.int .i64 2, .bool true, .int .i64 0]) ∧ XS w0 c0 w2 j x eb rb (RS tT (S3)) := by
  have hA := h.add hw' (hT.later hw') tT (by decide) ad 2 [lB, lC] hL hno (by decide) (by rw [rs_at]; decide) (fun _ a ha => .inr (hap a ha))
  obtain ⟨e1, e2, e3, e4⟩ := ex3
  rw [rs_add, rs_at, e1, e2, e3, e4] at hA
  exact hA
theorem show_add4 (h : XS w0 c0 w j x eb rb (RS tT (S3))) (hT : L.Tb B w) (hw' : Below w.heap.size w w') (ad : Option Addr) (hL : L.Ls w' ad [lA]) (hno : ad = none → ([lA] : List L.Lb) = [] ∧ 1 = 0) (hap : ∀ a, ad = some a → w.heap.size ≤ a.block) :
    Calls Tryz.prog 16 #[.pointer (some ⟨x, 0, none⟩), .string ⟨#[116]⟩, .slice ad 1 1] w' fun e w2 => e = .returned (.tuple #[.int .i64 1, .bool false, .int .i64 0]) ∧ XS w0 c0 w2 j x eb rb (RS tT (S3)) := by
  have hA := h.add hw' (hT.later hw') tT (by decide) ad 1 [lA] hL hno (by decide) (by rw [rs_at]; decide) (fun _ a ha => .inr (hap a ha))
  obtain ⟨e1, e2, e3, e4⟩ := ex4
  rw [rs_add, rs_at, e1, e2, e3, e4] at hA
  exact hA
theorem show_add5 (h : XS w0 c0 w j x eb rb (RS tT (S3))) (hT : L.Tb B w) (hw' : Below w.heap.size w w') (ad : Option Addr) (hL : L.Ls w' ad []) (hno : ad = none → ([] : List L.Lb) = [] ∧ 0 = 0) (hap : ∀ a, ad = some a → w.heap.size ≤ a.block) :
    Calls Tryz.prog 16 #[.pointer (some ⟨x, 0, none⟩), .string ⟨#[116]⟩, .slice ad 0 0] w' fun e w2 => e = .returned (.tuple #[.int .i64 0, .bool false, .int .i64 70]) ∧ XS w0 c0 w2 j x eb rb (RS tT (S3)) := by
  have hA := h.add hw' (hT.later hw') tT (by decide) ad 0 [] hL hno (by decide) (by rw [rs_at]; decide) (fun _ a ha => .inr (hap a ha))
  obtain ⟨e1, e2, e3, e4⟩ := ex5
  rw [rs_add, rs_at, e1, e2, e3, e4] at hA
  exact hA
end
set_option maxRecDepth 100000 in
set_option maxHeartbeats 16000000 in
theorem shownP (B : Nat) (w : World) (hT : L.Tb B w) : Calls Tryz.prog 6 #[] w fun e w' => e = .returned (.bool true) ∧ Below w.heap.size w w' := by
  have HT := hidden hT
  have hB := hT.size
  clear hT
  go_enter Tryz.func6, Tryz.ntmps6
  go_wp2_with fail
  refine (newIxP2 w (fun _ => none) 0).mono ?_
  rintro e w1 ⟨x, eb, rb, c1, rfl, h1, h2, h3, h4, h5, h6, h7, b1⟩
  have hcol : ∀ i q, c1 i = some (0, q) → i = x ∨ i = eb ∨ i = rb := fun i q e => by
    by_cases hi : i < w.heap.size
    · rw [h2 i hi] at e; cases e
    · refine Classical.byContradiction fun hno => ?_
      simp only [not_or] at hno
      exact h3 i _ (by omega) hno.1 hno.2.1 hno.2.2 e
  have HCOL := hidden hcol
  have HB1 := hidden b1
  rw [rs_nil tT] at h1
  have HI1 := hidden h1
  have HORD : Hid (w.heap.size ≤ eb ∧ eb < rb ∧ rb < x ∧ x < w1.heap.size) := hidden ⟨h4, h5, h6, h7⟩
  clear h1 h2 h3 h4 h5 h6 h7 b1 hcol
  go_wp2_with (refine wpList_build_to rfl 78 #[(0, .const (.string ⟨#[98]⟩)), (1, .const (.int .i64 2))] rfl [(0, .string ⟨#[98]⟩), (1, .int .i64 2)] #[.string ⟨#[98]⟩, .int .i64 2, .string ⟨#[]⟩] rfl built78 ?_)
  have hal1 : Below w1.heap.size w1 (w1.alloc (.cells #[.string ⟨#[98]⟩, .int .i64 2, .string ⟨#[]⟩] 78)) := (Below.refl w1.heap.size w1).alloc (Nat.le_refl _) _
  have HAL1 := hidden hal1
  have hbk1 : Blk (w1.alloc (.cells #[.string ⟨#[98]⟩, .int .i64 2, .string ⟨#[]⟩] 78)) w1.heap.size 78 [.string ⟨#[98]⟩, .int .i64 2, .string ⟨#[]⟩] := Blk.new w1 78 [.string ⟨#[98]⟩, .int .i64 2, .string ⟨#[]⟩]
  have hset := setP B (some ⟨w1.heap.size, 0, none⟩) 1 [mB] (w1.alloc (.cells #[.string ⟨#[98]⟩, .int .i64 2, .string ⟨#[]⟩] 78)) ⟨fun y hy => by
      rw [List.mem_singleton.1 hy]
      exact ⟨by decide, by decide, by decide, by decide⟩, fun _ => ⟨w1.heap.size, 0, rfl, hbk1.lt, fun k y hk => by
      cases k with
      | zero =>
        simp at hk
        subst hk
        exact ⟨hbk1.cell 0, hbk1.cell 1, hbk1.cell 2⟩
      | succ k => simp at hk⟩⟩ (by decide) ((HT.out.later HB1.out).later hal1)
  rw [ex_set] at hset
  refine hset.mono ?_
  clear hset hbk1 hal1
  rintro e w3 ⟨s, F, rfl, hs, hF, hb3⟩
  have HB3 : Hid (Below w.heap.size w w3) := hidden ((HB1.out.trans (HAL1.out.mono HB1.out.size)).trans (hb3.mono (Nat.le_trans HB1.out.size HAL1.out.size)))
  have X3 : Hid (XS w3 c1 w3 0 x eb rb (RS tT [])) := hidden (XS.new ((HI1.out.later HAL1.out).later hb3))
  have HSTR := hidden hs
  have HFN : Hid (∀ b, F b → ∀ q, ¬ c1 b = some (0, q)) := hidden (fun b hb q e => by
    have h1 := (hF b hb).1
    have h2 := HCOL.out b q e
    have h3 := HORD.out
    rw [World.size_alloc] at h1
    omega)
  have HT3 : Hid (L.Tb B w3) := hidden (HT.out.below HB3.out hB)
  have HCB : Hid (∀ i q, c1 i = some (0, q) → B ≤ i) := hidden (fun i q e => by
    have h2 := HCOL.out i q e
    have h3 := HORD.out
    omega)
  clear hs hF hb3 HI1 HAL1
  go_wp2_with (first | (refine wpList_build_to rfl 75 #[(0, .const (.string ⟨#[97]⟩)), (1, .const (.string ⟨#[120]⟩))] rfl [(0, .string ⟨#[97]⟩), (1, .string ⟨#[120]⟩)] #[.string ⟨#[97]⟩, .string ⟨#[120]⟩] rfl (built75f ⟨#[97]⟩ ⟨#[120]⟩) ?_) | (refine wpList_build_to rfl 75 #[(0, .const (.string ⟨#[98]⟩)), (1, .const (.string ⟨#[121]⟩))] rfl [(0, .string ⟨#[98]⟩), (1, .string ⟨#[121]⟩)] #[.string ⟨#[98]⟩, .string ⟨#[121]⟩] rfl (built75f ⟨#[98]⟩ ⟨#[121]⟩) ?_) | (refine wpList_build_to rfl 75 #[(0, .const (.string ⟨#[99]⟩)), (1, .const (.string ⟨#[122]⟩))] rfl [(0, .string ⟨#[99]⟩), (1, .string ⟨#[122]⟩)] #[.string ⟨#[99]⟩, .string ⟨#[122]⟩] rfl (built75f ⟨#[99]⟩ ⟨#[122]⟩) ?_))
  have hbk4 : Blk (w3.alloc (.cells #[.string ⟨#[97]⟩, .string ⟨#[120]⟩, .string ⟨#[98]⟩, .string ⟨#[121]⟩] 75)) w3.heap.size 75 (cLb [lA, lB]) := Blk.new w3 75 (cLb [lA, lB])
  refine (show_add1 (w' := w3.alloc (.cells #[.string ⟨#[97]⟩, .string ⟨#[120]⟩, .string ⟨#[98]⟩, .string ⟨#[121]⟩] 75)) X3.out (X3.out.tb HT3.out HCB.out) ((Below.refl w3.heap.size w3).alloc (Nat.le_refl _) _) (some ⟨w3.heap.size, 0, none⟩) (ls_blk hbk4 (by decide)) (fun e => by cases e) (fun a ha => by cases ha; exact Nat.le_refl _)).mono ?_
  clear hbk4
  rintro e w4 ⟨rfl, hx4⟩
  have X4 := hidden hx4
  clear hx4 X3
  go_wp2_with (first | (refine wpList_build_to rfl 75 #[(0, .const (.string ⟨#[97]⟩)), (1, .const (.string ⟨#[120]⟩))] rfl [(0, .string ⟨#[97]⟩), (1, .string ⟨#[120]⟩)] #[.string ⟨#[97]⟩, .string ⟨#[120]⟩] rfl (built75f ⟨#[97]⟩ ⟨#[120]⟩) ?_) | (refine wpList_build_to rfl 75 #[(0, .const (.string ⟨#[98]⟩)), (1, .const (.string ⟨#[121]⟩))] rfl [(0, .string ⟨#[98]⟩), (1, .string ⟨#[121]⟩)] #[.string ⟨#[98]⟩, .string ⟨#[121]⟩] rfl (built75f ⟨#[98]⟩ ⟨#[121]⟩) ?_) | (refine wpList_build_to rfl 75 #[(0, .const (.string ⟨#[99]⟩)), (1, .const (.string ⟨#[122]⟩))] rfl [(0, .string ⟨#[99]⟩), (1, .string ⟨#[122]⟩)] #[.string ⟨#[99]⟩, .string ⟨#[122]⟩] rfl (built75f ⟨#[99]⟩ ⟨#[122]⟩) ?_))
  have hbk5 : Blk (w4.alloc (.cells #[.string ⟨#[97]⟩, .string ⟨#[120]⟩] 75)) w4.heap.size 75 (cLb [lA]) := Blk.new w4 75 (cLb [lA])
  refine (show_add2 (w' := w4.alloc (.cells #[.string ⟨#[97]⟩, .string ⟨#[120]⟩] 75)) X4.out (X4.out.tb HT3.out HCB.out) ((Below.refl w4.heap.size w4).alloc (Nat.le_refl _) _) (some ⟨w4.heap.size, 0, none⟩) (ls_blk hbk5 (by decide)) (fun e => by cases e) (fun a ha => by cases ha; exact Nat.le_refl _)).mono ?_
  clear hbk5
  rintro e w5 ⟨rfl, hx5⟩
  have X5 := hidden hx5
  clear hx5 X4
  go_wp2_with (first | (refine wpList_build_to rfl 75 #[(0, .const (.string ⟨#[97]⟩)), (1, .const (.string ⟨#[120]⟩))] rfl [(0, .string ⟨#[97]⟩), (1, .string ⟨#[120]⟩)] #[.string ⟨#[97]⟩, .string ⟨#[120]⟩] rfl (built75f ⟨#[97]⟩ ⟨#[120]⟩) ?_) | (refine wpList_build_to rfl 75 #[(0, .const (.string ⟨#[98]⟩)), (1, .const (.string ⟨#[121]⟩))] rfl [(0, .string ⟨#[98]⟩), (1, .string ⟨#[121]⟩)] #[.string ⟨#[98]⟩, .string ⟨#[121]⟩] rfl (built75f ⟨#[98]⟩ ⟨#[121]⟩) ?_) | (refine wpList_build_to rfl 75 #[(0, .const (.string ⟨#[99]⟩)), (1, .const (.string ⟨#[122]⟩))] rfl [(0, .string ⟨#[99]⟩), (1, .string ⟨#[122]⟩)] #[.string ⟨#[99]⟩, .string ⟨#[122]⟩] rfl (built75f ⟨#[99]⟩ ⟨#[122]⟩) ?_))
  have hbk6 : Blk (w5.alloc (.cells #[.string ⟨#[98]⟩, .string ⟨#[121]⟩, .string ⟨#[99]⟩, .string ⟨#[122]⟩] 75)) w5.heap.size 75 (cLb [lB, lC]) := Blk.new w5 75 (cLb [lB, lC])
  refine (show_add3 (w' := w5.alloc (.cells #[.string ⟨#[98]⟩, .string ⟨#[121]⟩, .string ⟨#[99]⟩, .string ⟨#[122]⟩] 75)) X5.out (X5.out.tb HT3.out HCB.out) ((Below.refl w5.heap.size w5).alloc (Nat.le_refl _) _) (some ⟨w5.heap.size, 0, none⟩) (ls_blk hbk6 (by decide)) (fun e => by cases e) (fun a ha => by cases ha; exact Nat.le_refl _)).mono ?_
  clear hbk6
  rintro e w6 ⟨rfl, hx6⟩
  have X6 := hidden hx6
  clear hx6 X5
  go_wp2_with (first | (refine wpList_build_to rfl 75 #[(0, .const (.string ⟨#[97]⟩)), (1, .const (.string ⟨#[120]⟩))] rfl [(0, .string ⟨#[97]⟩), (1, .string ⟨#[120]⟩)] #[.string ⟨#[97]⟩, .string ⟨#[120]⟩] rfl (built75f ⟨#[97]⟩ ⟨#[120]⟩) ?_) | (refine wpList_build_to rfl 75 #[(0, .const (.string ⟨#[98]⟩)), (1, .const (.string ⟨#[121]⟩))] rfl [(0, .string ⟨#[98]⟩), (1, .string ⟨#[121]⟩)] #[.string ⟨#[98]⟩, .string ⟨#[121]⟩] rfl (built75f ⟨#[98]⟩ ⟨#[121]⟩) ?_) | (refine wpList_build_to rfl 75 #[(0, .const (.string ⟨#[99]⟩)), (1, .const (.string ⟨#[122]⟩))] rfl [(0, .string ⟨#[99]⟩), (1, .string ⟨#[122]⟩)] #[.string ⟨#[99]⟩, .string ⟨#[122]⟩] rfl (built75f ⟨#[99]⟩ ⟨#[122]⟩) ?_))
  have hbk7 : Blk (w6.alloc (.cells #[.string ⟨#[97]⟩, .string ⟨#[120]⟩] 75)) w6.heap.size 75 (cLb [lA]) := Blk.new w6 75 (cLb [lA])
  refine (show_add4 (w' := w6.alloc (.cells #[.string ⟨#[97]⟩, .string ⟨#[120]⟩] 75)) X6.out (X6.out.tb HT3.out HCB.out) ((Below.refl w6.heap.size w6).alloc (Nat.le_refl _) _) (some ⟨w6.heap.size, 0, none⟩) (ls_blk hbk7 (by decide)) (fun e => by cases e) (fun a ha => by cases ha; exact Nat.le_refl _)).mono ?_
  clear hbk7
  rintro e w7 ⟨rfl, hx7⟩
  have X7 := hidden hx7
  clear hx7 X6
  go_wp2_with (first | (refine wpList_build_to rfl 75 #[(0, .const (.string ⟨#[97]⟩)), (1, .const (.string ⟨#[120]⟩))] rfl [(0, .string ⟨#[97]⟩), (1, .string ⟨#[120]⟩)] #[.string ⟨#[97]⟩, .string ⟨#[120]⟩] rfl (built75f ⟨#[97]⟩ ⟨#[120]⟩) ?_) | (refine wpList_build_to rfl 75 #[(0, .const (.string ⟨#[98]⟩)), (1, .const (.string ⟨#[121]⟩))] rfl [(0, .string ⟨#[98]⟩), (1, .string ⟨#[121]⟩)] #[.string ⟨#[98]⟩, .string ⟨#[121]⟩] rfl (built75f ⟨#[98]⟩ ⟨#[121]⟩) ?_) | (refine wpList_build_to rfl 75 #[(0, .const (.string ⟨#[99]⟩)), (1, .const (.string ⟨#[122]⟩))] rfl [(0, .string ⟨#[99]⟩), (1, .string ⟨#[122]⟩)] #[.string ⟨#[99]⟩, .string ⟨#[122]⟩] rfl (built75f ⟨#[99]⟩ ⟨#[122]⟩) ?_))
  refine (show_add5 (w' := w7) X7.out (X7.out.tb HT3.out HCB.out) (Below.refl _ _) none (L.Ls.nil _ _) (fun _ => ⟨rfl, rfl⟩) (fun a ha => by cases ha)).mono ?_
  rintro e w8 ⟨rfl, hx8⟩
  have X8 := hidden hx8
  clear hx8 X7
  have hms : ∀ m ∈ [mB], m.may = true ∧ OkM m := fun m hm => by
    rw [List.mem_singleton.1 hm]
    exact ⟨by kernel_rfl, by decide, by decide, by decide, by decide⟩
  have HMS := hidden hms
  clear hms
  go_wp2_with fail
  have hse := X8.out.select (X8.out.tb HT3.out HCB.out) tT (by decide) s [mB] ⟨F, X8.out.str HSTR.out HFN.out⟩ HMS.out (by decide)
  rw [rs_at, ex_sel] at hse
  refine hse.mono ?_
  clear hse
  rintro e w9 ⟨a9, c9, rfl, ho9, hb9⟩
  have X9 := hidden (X8.out.later hb9)
  have HZ9 := hidden (zrs_of_owns ho9)
  clear ho9 hb9 X8
  go_wp2_with fail
  have hna := X9.out.names (X9.out.tb HT3.out HCB.out) tT (by decide) s [mB] ⟨F, X9.out.str HSTR.out HFN.out⟩ HMS.out (by decide)
  rw [rs_at, ex_sel] at hna
  refine hna.mono ?_
  clear hna
  rintro e w10 ⟨l10, a10, c10, rfl, ho10, ha10, hm10, hb10⟩
  obtain rfl := ex_names ha10 hm10
  have X10 := hidden (X9.out.later hb10)
  have HZ10 := hidden (HZ9.out.later hb10)
  have HN10 := hidden (txs_of_owns ho10)
  clear ho10 ha10 hm10 hb10 X9 HZ9
  go_wp2_with fail
  have hva := X10.out.values (X10.out.tb HT3.out HCB.out) tT (by decide) s [mB] ⟨F, X10.out.str HSTR.out HFN.out⟩ HMS.out (by decide) ⟨#[99]⟩
  rw [rs_at, ex_sel] at hva
  refine hva.mono ?_
  clear hva
  rintro e w11 ⟨l11, a11, c11, rfl, ho11, ha11, hm11, hb11⟩
  obtain rfl := ex_values ha11 hm11
  have X11 := hidden (X10.out.later hb11)
  have HZ11 := hidden (HZ10.out.later hb11)
  have HN11 := hidden (HN10.out.later hb11)
  have HV11 := hidden (txs_of_owns ho11)
  clear ho11 ha11 hm11 hb11 X10 HZ10 HN10
  go_wp2_with fail
  refine (X11.out.sizes (sz_bound X11.out.ok [tT] (rs_out tT S3) (by decide))).mono ?_
  rintro e w12 ⟨⟨ka, kb, hsz, rfl⟩, hb12⟩
  obtain ⟨rfl, rfl⟩ := hsz.eq ex_size
  have X12 := hidden (X11.out.later hb12)
  have HZ12 := hidden (HZ11.out.later hb12)
  have HN12 := hidden (HN11.out.later hb12)
  have HV12 := hidden (HV11.out.later hb12)
  clear hsz hb12 X11 HZ11 HN11 HV11
  go_wp2_with fail
  have hal12 : Below w12.heap.size w12 (w12.alloc (.cells #[.int .i64 0, .int .i64 2] 3)) := (Below.refl w12.heap.size w12).alloc (Nat.le_refl _) _
  refine (numbersP (w12.alloc (.cells #[.int .i64 0, .int .i64 2] 3)) a9 (some ⟨w12.heap.size, 0, none⟩) c9 2 [0, 2] (HZ12.out.later hal12) (zrs_blk (Blk.new w12 3 (zs [0, 2]))) (by decide)).mono ?_
  rintro e w13 ⟨rfl, hb13⟩
  have hb13' := hal12.trans (hb13.mono hal12.size)
  have X13 := hidden (X12.out.later hb13')
  have HN13 := hidden (HN12.out.later hb13')
  have HV13 := hidden (HV12.out.later hb13')
  clear hal12 hb13 hb13' X12 HZ12 HN12 HV12
  go_wp2_with fail
  have hal13 : Below w13.heap.size w13 (w13.alloc (.cells #[.string ⟨#[97]⟩, .string ⟨#[98]⟩, .string ⟨#[99]⟩] 9)) := (Below.refl w13.heap.size w13).alloc (Nat.le_refl _) _
  refine (textsP (w13.alloc (.cells #[.string ⟨#[97]⟩, .string ⟨#[98]⟩, .string ⟨#[99]⟩] 9)) a10 (some ⟨w13.heap.size, 0, none⟩) c10 3 [⟨#[97]⟩, ⟨#[98]⟩, ⟨#[99]⟩] (HN13.out.later hal13) (txs_blk (Blk.new w13 9 (strs [⟨#[97]⟩, ⟨#[98]⟩, ⟨#[99]⟩]))) (by decide)).mono ?_
  rintro e w14 ⟨rfl, hb14⟩
  have hb14' := hal13.trans (hb14.mono hal13.size)
  have X14 := hidden (X13.out.later hb14')
  have HV14 := hidden (HV13.out.later hb14')
  clear hal13 hb14 hb14' X13 HN13 HV13
  go_wp2_with fail
  have hal14 : Below w14.heap.size w14 (w14.alloc (.cells #[.string ⟨#[122]⟩] 9)) := (Below.refl w14.heap.size w14).alloc (Nat.le_refl _) _
  refine (textsP (w14.alloc (.cells #[.string ⟨#[122]⟩] 9)) a11 (some ⟨w14.heap.size, 0, none⟩) c11 1 [⟨#[122]⟩] (HV14.out.later hal14) (txs_blk (Blk.new w14 9 (strs [⟨#[122]⟩]))) (by decide)).mono ?_
  rintro e w15 ⟨rfl, hb15⟩
  have X15 := hidden (X14.out.later (hal14.trans (hb15.mono hal14.size)))
  clear hal14 hb15 X14 HV14
  go_wp2_with (first
    | (go_at_call 19
       have hle := X15.out.len tT
       rw [rs_at] at hle
       refine hle.mono ?_
       rintro e w16 ⟨rfl, hb16⟩
       have X16 := hidden (X15.out.later hb16)
       clear hle hb16))
  go_ret
  refine ⟨by rfl, HB3.out.trans (X16.out.chg.below HB3.out.size (fun i ⟨q, hq⟩ => ?_))⟩
  have h2 := HCOL.out i q hq
  have h3 := HORD.out
  omega
end Go.Proofs.YtgmdpbahcbhfjaaGreatDoor.X
/-
  IndexSees.
-/
namespace Go.Proofs.YtgmdpbahcbhfjaaGreatDoor.X
open Go.RowKit

theorem ls_take {w : World} {ad : Option Addr} {l : List L.Lb} (h : L.Ls w ad l) (k : Nat) : L.Ls w ad (l.take k) := by
  refine ⟨fun x hx => h.sz x (List.mem_of_mem_take hx), fun hne => ?_⟩
  obtain ⟨b, o, e, h1, h2⟩ := h.at' (fun e => hne (by rw [e]; simp))
  refine ⟨b, o, e, h1, fun i x hi => h2 i x ?_⟩
  rw [List.getElem?_take] at hi
  split at hi
  · exact hi
  · cases hi
theorem ms_take {w : World} {ad : Option Addr} {l : List Mt} (h : Ms w ad l) (k : Nat) : Ms w ad (l.take k) := by
  refine ⟨fun x hx => h.sz x (List.mem_of_mem_take hx), fun hne => ?_⟩
  obtain ⟨b, o, e, h1, h2⟩ := h.at' (fun e => hne (by rw [e]; simp))
  refine ⟨b, o, e, h1, fun i x hi => h2 i x ?_⟩
  rw [List.getElem?_take] at hi
  split at hi
  · exact hi
  · cases hi
end Go.Proofs.YtgmdpbahcbhfjaaGreatDoor.X
/-
  The law: two indexes that hold the same of a tenant are alike; name.
-/
namespace Go.Proofs.YtgmdpbahcbhfjaaGreatDoor.X
open Go.RowKit

theorem asc_nodup {l : List ByteArray} (h : Asc l) : l.Nodup := h.imp (fun {a b} h e => by rw [e, L.lss_irr] at h; cases h)
theorem nam_len {S : List (List L.Lb)} {ids : List Nat} {l : List ByteArray} (h : Asc l) (hl : ∀ n, n ∈ l → NamQ S ids n) (hr : ∀ l ∈ S, L.right l = true) (hn : S.length ≤ 1000) : l.length ≤ 8000 := by
  have h1 := nodup_len l (S.flatten.map (·.n)) (asc_nodup h) (fun n hm => by
    obtain ⟨i, hi, y, hy, e⟩ := hl n hm
    have hil : i < S.length := by
      rcases Nat.lt_or_ge i S.length with h | h
      · exact h
      · simp [List.getD, List.getElem?_eq_none h] at hy
    refine List.mem_map.2 ⟨y, List.mem_flatten.2 ⟨S[i], List.getElem_mem hil, ?_⟩, e⟩
    simpa [List.getD, List.getElem?_eq_getElem hil] using hy)
  rw [List.length_map] at h1
  exact Nat.le_trans h1 (flat_len8 hr hn)
theorem valQ_len {S : List (List L.Lb)} {ids : List Nat} {nm : ByteArray} {l : List ByteArray} (h : Asc l) (hl : ∀ v, v ∈ l → ValQ S ids nm v) (hr : ∀ l ∈ S, L.right l = true) (hn : S.length ≤ 1000) : l.length ≤ 8000 := by
  have h1 := nodup_len l (S.flatten.map (·.v)) (asc_nodup h) (fun v hm => by
    obtain ⟨i, hi, hy⟩ := hl v hm
    have hil : i < S.length := by
      rcases Nat.lt_or_ge i S.length with h | h
      · exact h
      · simp [List.getD, List.getElem?_eq_none h] at hy
    refine List.mem_map.2 ⟨(⟨nm, v⟩ : L.Lb), List.mem_flatten.2 ⟨S[i], List.getElem_mem hil, ?_⟩, rfl⟩
    simpa [List.getD, List.getElem?_eq_getElem hil] using hy)
  rw [List.length_map] at h1
  exact Nat.le_trans h1 (flat_len8 hr hn)
/-- An index that is read only: what its calls tell. -/
structure RX (w : World) (x : Nat) (t : ByteArray) (S : List (List L.Lb)) (s : Nat) (ms : List Mt) (nm : ByteArray) : Prop where
  right : ∀ l ∈ S, L.right l = true
  n9 : S.length ≤ 1000
  len : ∀ wx, Below w.heap.size w wx → Calls Tryz.prog 19 #[.pointer (some ⟨x, 0, none⟩), .string t] wx fun e w' => e = .returned (.int .i64 (S.length : Int)) ∧ Below wx.heap.size wx w'
  lab : ∀ wx, Below w.heap.size w wx → ∀ id, Calls Tryz.prog 22 #[.pointer (some ⟨x, 0, none⟩), .string t, .int .i64 id] wx fun e w' => labV (atI S id) wx e w' ∧ Below wx.heap.size wx w'
  sel : ∀ wx, Below w.heap.size w wx → Calls Tryz.prog 24 #[.pointer (some ⟨x, 0, none⟩), .string t, .pointer (some ⟨s, 0, none⟩)] wx (SelV wx (selF S ms))
  nam : ∀ wx, Below w.heap.size w wx → Calls Tryz.prog 25 #[.pointer (some ⟨x, 0, none⟩), .string t, .pointer (some ⟨s, 0, none⟩)] wx (NamV wx (NamQ S (selF S ms)))
  val : ∀ wx, Below w.heap.size w wx → Calls Tryz.prog 26 #[.pointer (some ⟨x, 0, none⟩), .string t, .pointer (some ⟨s, 0, none⟩), .string nm] wx (NamV wx (ValQ S (selF S ms) nm))
theorem Ix.rx {w : World} {c : Col} {j x eb rb B : Nat} {R : Rr} (h : Ix w c j x eb rb R) (hT : L.Tb B w) (t : ByteArray) (ht : t.size ≤ maxLen) (s : Nat) (ms : List Mt) (hS : ∃ F, StR F w s ms) (hms : ∀ m ∈ ms, m.may = true ∧ OkM m) (hml : ms.length ≤ 1000) (nm : ByteArray) : RX w x t (R t) s ms nm where
  right := h.ok.right t
  n9 := h.ok.len t
  len wx hb := lenP (h.later hb) t
  lab wx hb id := labelsP (h.later hb) t id
  sel wx hb := selectP (h.later hb) (hT.later hb) t ht s ms (by obtain ⟨F, hs⟩ := hS; exact ⟨F, hs.later hb⟩) hms hml
  nam wx hb := namesP (h.later hb) (hT.later hb) t ht s ms (by obtain ⟨F, hs⟩ := hS; exact ⟨F, hs.later hb⟩) hms hml
  val wx hb := valuesP (h.later hb) (hT.later hb) t ht s ms (by obtain ⟨F, hs⟩ := hS; exact ⟨F, hs.later hb⟩) hms hml nm
/-- What labels tells, read. -/
theorem lab_read {S : List (List L.Lb)} (hr : ∀ l ∈ S, L.right l = true) {i : Int} {w w' : World} {e : Ending} (h : labV (atI S i) w e w') : ∃ (ad : Option Addr) (c : Nat) (l : List L.Lb), l = (atI S i).getD [] ∧ e = .returned (.tuple #[.slice ad l.length c, .bool (decide (0 ≤ i ∧ i < (S.length : Int)))]) ∧ L.Ls w' ad l ∧ l.length ≤ 1000000 := by
  rcases h with ⟨h1, rfl⟩ | ⟨l, v, h1, rfl, h3⟩
  · refine ⟨none, 0, [], by rw [h1]; rfl, ?_, ⟨by simp, fun h => absurd rfl h⟩, by simp⟩
    have : ¬ (0 ≤ i ∧ i < (S.length : Int)) := fun hh => by
      unfold atI at h1
      rw [if_neg (by omega), List.getElem?_eq_none_iff] at h1
      omega
    simp [this]
  · have hin : 0 ≤ i ∧ i < (S.length : Int) := by
      unfold atI at h1
      split at h1
      · cases h1
      · have := (List.getElem?_eq_some_iff.1 h1).1
        omega
    have hm : l ∈ S := by
      unfold atI at h1
      rw [if_neg (by omega)] at h1
      exact List.mem_of_getElem? h1
    have hf := right_fits (hr l hm)
    obtain ⟨ad, c, rfl, _⟩ := owns_form2 h3
    exact ⟨ad, c, l, by rw [h1]; rfl, by simp [hin], (ls_of_owns (J.owns_rebase h3 (Nat.zero_le _)) hf.2.2).1, by omega⟩
set_option maxRecDepth 100000 in
set_option maxHeartbeats 8000000 in
theorem alikeP {w : World} {x1 x2 s : Nat} {t nm : ByteArray} {S : List (List L.Lb)} {ms : List Mt} (h1 : RX w x1 t S s ms nm) (h2 : RX w x2 t S s ms nm) :
    Calls Tryz.prog 17 #[.pointer (some ⟨x1, 0, none⟩), .pointer (some ⟨x2, 0, none⟩), .string t, .pointer (some ⟨s, 0, none⟩), .string nm] w fun e w' => e = .returned (.bool true) ∧ Below w.heap.size w w' := by
  have H1 := hidden h1
  have H2 := hidden h2
  obtain ⟨n, hn⟩ : ∃ n, S.length = n := ⟨_, rfl⟩
  have HN := hidden hn
  have hn9 : n ≤ 1000 := by rw [← hn]; exact h1.n9
  clear h1 h2 hn
  go_enter Tryz.func17, Tryz.ntmps17
  go_wp2_with fail
  refine (H1.out.len w (Below.refl _ _)).mono ?_
  rw [HN.out]
  rintro e wa ⟨rfl, ba⟩
  have BA := hidden ba
  clear ba
  go_wp2_with fail
  refine (H2.out.len wa BA.out).mono ?_
  rw [HN.out]
  rintro e wb ⟨rfl, bb⟩
  have BB := hidden (BA.out.trans (bb.mono BA.out.size))
  clear bb BA
  go_wp2_with fail
  go_loopw [12] (fun s12 wx => ∃ i : Int, s12 = .int .i64 i ∧ -1 ≤ i ∧ i ≤ (n : Int) + 1 ∧ Hid (Below w.heap.size w wx)) (fun s12 _ => ((n : Int) + 1 - intOf s12).toNat)
  case atStart => exact ⟨-1, rfl, by omega, by omega, hidden BB.out⟩
  case round =>
    rename World => wx
    obtain ⟨i, rfl, hi1, hi2, HB⟩ := hrel
    by_cases hle : i ≤ (n : Int)
    · go_wp2_with fail
      refine (H1.out.lab wx HB.out i).mono ?_
      rintro e w1 ⟨hl1, b1⟩
      obtain ⟨a1, c1, l, hl, rfl, hL1, hl9⟩ := lab_read H1.out.right hl1
      have B1 := hidden (HB.out.trans (b1.mono HB.out.size))
      have HL1 := hidden hL1
      have HL := hidden hl
      rw [HN.out]
      clear hL1 hl1 b1 hl
      go_wp2_with fail
      refine (H2.out.lab w1 B1.out i).mono ?_
      rintro e w2 ⟨hl2, b2⟩
      obtain ⟨a2, c2, l', hl', rfl, hL2, _⟩ := lab_read H2.out.right hl2
      obtain rfl : l' = l := by rw [hl', HL.out]
      have B2 := hidden (B1.out.trans (b2.mono B1.out.size))
      have HL2 := hidden hL2
      have HL1' := hidden (HL1.out.later b2)
      rw [HN.out]
      clear hL2 hl2 b2 hl' HL HL1
      go_wp2_with fail
      refine (sameP w2 a1 a2 c1 c2 l' HL1'.out HL2.out hl9).mono ?_
      rintro e w3 ⟨rfl, b3⟩
      have B3 := hidden (B2.out.trans (b3.mono B2.out.size))
      clear b3 HL1' HL2
      by_cases h0 : 0 ≤ i
      · by_cases hlt : i < (n : Int)
        · have hd : decide (0 ≤ i ∧ i < (n : Int)) = true := by simp [h0, hlt]
          simp only [hd]
          go_wp2_with fail
          refine ⟨⟨i + 1, rfl, by omega, by omega, hidden B3.out⟩, ?_⟩
          simp [intOf]
          omega
        · have hd : decide (0 ≤ i ∧ i < (n : Int)) = false := by simp [hlt]
          simp only [hd]
          go_wp2_with fail
          refine ⟨⟨i + 1, rfl, by omega, by omega, hidden B3.out⟩, ?_⟩
          simp [intOf]
          omega
      · have hd : decide (0 ≤ i ∧ i < (n : Int)) = false := by simp [h0]
        simp only [hd]
        go_wp2_with fail
        refine ⟨⟨i + 1, rfl, by omega, by omega, hidden B3.out⟩, ?_⟩
        simp [intOf]
        omega
    · go_wp2_with fail
      refine (H1.out.sel wx HB.out).mono ?_
      rintro e w1 ⟨a1, c1, rfl, ho1, b1⟩
      have Z1 := hidden (zrs_of_owns ho1)
      have B1 := hidden (HB.out.trans (b1.mono HB.out.size))
      clear ho1 b1
      go_wp2_with fail
      refine (H2.out.sel w1 B1.out).mono ?_
      rintro e w2 ⟨a2, c2, rfl, ho2, b2⟩
      have Z2 := hidden (zrs_of_owns ho2)
      have Z1' := hidden (Z1.out.later b2)
      have B2 := hidden (B1.out.trans (b2.mono B1.out.size))
      clear ho2 b2 Z1
      go_wp2_with fail
      refine (numbersP w2 a1 a2 c1 c2 (selF S ms) Z1'.out Z2.out (by have := selF_len S ms; have := HN.out; omega)).mono ?_
      rintro e w3 ⟨rfl, b3⟩
      have B3 := hidden (B2.out.trans (b3.mono B2.out.size))
      clear b3 Z1' Z2 B1 B2
      go_wp2_with fail
      refine (H1.out.nam w3 B3.out).mono ?_
      rintro e w4 ⟨l4, a4, c4, rfl, ho4, ha4, hm4, b4⟩
      have Z4 := hidden (txs_of_owns ho4)
      have B4 := hidden (B3.out.trans (b4.mono B3.out.size))
      have HA4 := hidden (And.intro ha4 hm4)
      clear ho4 b4 ha4 hm4
      go_wp2_with fail
      refine (H2.out.nam w4 B4.out).mono ?_
      rintro e w5 ⟨l5, a5, c5, rfl, ho5, ha5, hm5, b5⟩
      obtain rfl : l5 = l4 := asc_ext ha5 HA4.out.1 (fun x => by rw [hm5, HA4.out.2])
      have Z5 := hidden (txs_of_owns ho5)
      have Z4' := hidden (Z4.out.later b5)
      have B5 := hidden (B4.out.trans (b5.mono B4.out.size))
      clear ho5 b5 ha5 hm5 Z4
      go_wp2_with fail
      refine (textsP w5 a4 a5 c4 c5 l5 Z4'.out Z5.out (by have := nam_len HA4.out.1 (fun n hn => (HA4.out.2 n).1 hn) H1.out.right H1.out.n9; omega)).mono ?_
      rintro e w6 ⟨rfl, b6⟩
      have B6 := hidden (B5.out.trans (b6.mono B5.out.size))
      clear b6 Z4' Z5 B4 B5 HA4
      go_wp2_with fail
      refine (H1.out.val w6 B6.out).mono ?_
      rintro e w7 ⟨l7, a7, c7, rfl, ho7, ha7, hm7, b7⟩
      have Z7 := hidden (txs_of_owns ho7)
      have B7 := hidden (B6.out.trans (b7.mono B6.out.size))
      have HA7 := hidden (And.intro ha7 hm7)
      clear ho7 b7 ha7 hm7
      go_wp2_with fail
      refine (H2.out.val w7 B7.out).mono ?_
      rintro e w8 ⟨l8, a8, c8, rfl, ho8, ha8, hm8, b8⟩
      obtain rfl : l8 = l7 := asc_ext ha8 HA7.out.1 (fun x => by rw [hm8, HA7.out.2])
      have Z8 := hidden (txs_of_owns ho8)
      have Z7' := hidden (Z7.out.later b8)
      have B8 := hidden (B7.out.trans (b8.mono B7.out.size))
      clear ho8 b8 ha8 hm8 Z7
      go_wp2_with fail
      refine (textsP w8 a7 a8 c7 c8 l8 Z7'.out Z8.out (by have := valQ_len HA7.out.1 (fun n hn => (HA7.out.2 n).1 hn) H1.out.right H1.out.n9; omega)).mono ?_
      rintro e w9 ⟨rfl, b9⟩
      have B9 := hidden (B8.out.trans (b9.mono B8.out.size))
      clear b9 Z7' Z8 HA7
      go_wp2_with fail
      go_ret
      exact ⟨by rfl, B9.out⟩
/-- The names of the tenants. -/
def nmAt (r : Int) : ByteArray := if r = 0 then ⟨#[97]⟩ else if r = 1 then ⟨#[98]⟩ else ⟨#[99]⟩
def nmK (i : Int) : Int := if i < 0 then - (i + 1) else i
set_option maxRecDepth 100000 in
set_option maxHeartbeats 4000000 in
theorem nameP (w : World) (i : Int) (h1 : -9223372036854775808 ≤ i) (h2 : i ≤ 9223372036854775807) : Calls Tryz.prog 14 #[.int .i64 i] w fun e w' => e = .returned (.string (nmAt (nmK i % 3))) ∧ Below w.heap.size w w' := by
  have hal : ∀ o, Below w.heap.size w (w.alloc o) := fun o => (Below.refl _ _).alloc (Nat.le_refl _) _
  unfold nmK
  by_cases hn : i < 0
  · rw [if_pos hn]
    obtain ⟨k, hk⟩ : ∃ k : Int, - (i + 1) = k := ⟨_, rfl⟩
    have hk0 : 0 ≤ k := by omega
    have hk9 : k ≤ 9223372036854775807 := by omega
    have hr : k % 3 = 0 ∨ k % 3 = 1 ∨ k % 3 = 2 := by omega
    rw [hk]
    have hm : k.tmod 3 = k % 3 := Int.tmod_eq_emod_of_nonneg hk0
    rcases hr with hr | hr | hr
    all_goals
      rw [hr] at hm ⊢
      go_enter Tryz.func14, Tryz.ntmps14
      go_wp2_with fail
      go_ret
      exact ⟨rfl, hal _⟩
  · rw [if_neg hn]
    have hk0 : 0 ≤ i := by omega
    have hr : i % 3 = 0 ∨ i % 3 = 1 ∨ i % 3 = 2 := by omega
    have hm : i.tmod 3 = i % 3 := Int.tmod_eq_emod_of_nonneg hk0
    rcases hr with hr | hr | hr
    all_goals
      rw [hr] at hm ⊢
      go_enter Tryz.func14, Tryz.ntmps14
      go_wp2_with fail
      go_ret
      exact ⟨rfl, hal _⟩
end Go.Proofs.YtgmdpbahcbhfjaaGreatDoor.X
/-
  The law: five indexes side by side.
-/
namespace Go.Proofs.YtgmdpbahcbhfjaaGreatDoor.X
open Go.RowKit

/-- The tenants. -/
def tN (k : Nat) : ByteArray := if k = 0 then ⟨#[97]⟩ else if k = 1 then ⟨#[98]⟩ else ⟨#[99]⟩
theorem tn_size (k : Nat) : (tN k).size ≤ maxLen := by
  unfold tN
  split
  · decide
  · split <;> decide
theorem tn01 : ¬ tN 0 = tN 1 := by decide
theorem tn02 : ¬ tN 0 = tN 2 := by decide
theorem tn12 : ¬ tN 1 = tN 2 := by decide
theorem nm_nat {k : Nat} (h : k < 3) : nmAt (nmK (k : Int) % 3) = tN k := by
  have : k = 0 ∨ k = 1 ∨ k = 2 := by omega
  rcases this with rfl | rfl | rfl <;> rfl
theorem nm_any (i : Int) : ∃ k, k < 3 ∧ nmAt (nmK i % 3) = tN k := by
  have hk : 0 ≤ nmK i := by unfold nmK; split <;> omega
  have : nmK i % 3 = 0 ∨ nmK i % 3 = 1 ∨ nmK i % 3 = 2 := by omega
  rcases this with e | e | e
  · exact ⟨0, by omega, by rw [e]; rfl⟩
  · exact ⟨1, by omega, by rw [e]; rfl⟩
  · exact ⟨2, by omega, by rw [e]; rfl⟩
def fset {α : Type} (f : Nat → α) (j : Nat) (v : α) : Nat → α := fun q => if q = j then v else f q
theorem fset_at {α : Type} (f : Nat → α) (j : Nat) (v : α) : fset f j v j = v := by simp [fset]
theorem fset_off {α : Type} (f : Nat → α) {j q : Nat} (v : α) (h : ¬ q = j) : fset f j v q = f q := by simp [fset, h]
/-- What the five hold: all, each alone, all but the first. -/
def RM (R : Rr) (j : Nat) : Rr := if j = 0 then R else if j = 4 then rdrop R (tN 0) else RS (tN (j - 1)) (R (tN (j - 1)))
theorem addR_at (R : Rr) (t : ByteArray) (l : List L.Lb) : addR R t l t = addS (R t) l := by
  unfold addR addS
  split <;> simp [radd]
theorem addR_off (R : Rr) {t t' : ByteArray} (l : List L.Lb) (h : ¬ t' = t) : addR R t l t' = R t' := by
  unfold addR
  split <;> simp [radd, h]
theorem rm_add_one (R : Rr) (t : ByteArray) (l : List L.Lb) : addR (RS t (R t)) t l = RS t (addR R t l t) := by rw [rs_add, addR_at]
theorem rm_add_off (R : Rr) {t t' : ByteArray} (l : List L.Lb) (h : ¬ t' = t) : RS t' (addR R t l t') = RS t' (R t') := by rw [addR_off R l h]
theorem rm_add_rest (R : Rr) {t a : ByteArray} (l : List L.Lb) (h : ¬ t = a) : addR (rdrop R a) t l = rdrop (addR R t l) a := by
  funext t'
  by_cases h1 : t' = t
  · subst h1
    rw [addR_at]
    unfold rdrop
    rw [if_neg h, if_neg h, addR_at]
  · rw [addR_off _ l h1]
    unfold rdrop
    split
    · rfl
    · rw [addR_off R l h1]
theorem rm_add_gone (R : Rr) (a : ByteArray) (l : List L.Lb) : rdrop (addR R a l) a = rdrop R a := by
  funext t'
  unfold rdrop
  split
  · rfl
  · next h => rw [addR_off R l h]
theorem rm_drop_one (R : Rr) (t : ByteArray) : rdrop (RS t (R t)) t = RS t (rdrop R t t) := by
  funext t'
  unfold rdrop RS
  by_cases h : t' = t <;> simp [h]
theorem rm_drop_off (R : Rr) {t t' : ByteArray} (h : ¬ t' = t) : RS t' (rdrop R t t') = RS t' (R t') := by
  unfold rdrop
  rw [if_neg h]
theorem rm_drop_rest (R : Rr) (t a : ByteArray) : rdrop (rdrop R a) t = rdrop (rdrop R t) a := by
  funext t'
  unfold rdrop
  by_cases h : t' = t <;> by_cases h2 : t' = a <;> simp [h, h2]
theorem rm_drop_gone (R : Rr) (a : ByteArray) : rdrop (rdrop R a) a = rdrop R a := by
  funext t'
  unfold rdrop
  by_cases h : t' = a <;> simp [h]
theorem rm_add (R : Rr) (l : List L.Lb) {k : Nat} (hk : k < 3) : ∀ j, j < 5 → RM (addR R (tN k) l) j = (if k = 0 then fset (fset (RM R) 0 (addR (RM R 0) (tN k) l)) (k + 1) (addR (RM R (k + 1)) (tN k) l) else fset (fset (fset (RM R) 0 (addR (RM R 0) (tN k) l)) (k + 1) (addR (RM R (k + 1)) (tN k) l)) 4 (addR (RM R 4) (tN k) l)) j := by
  have hk3 : k = 0 ∨ k = 1 ∨ k = 2 := by omega
  intro j hj
  have hj5 : j = 0 ∨ j = 1 ∨ j = 2 ∨ j = 3 ∨ j = 4 := by omega
  have n01 := tn01
  have n02 := tn02
  have n12 := tn12
  have n10 : ¬ tN 1 = tN 0 := fun e => n01 e.symm
  have n20 : ¬ tN 2 = tN 0 := fun e => n02 e.symm
  have n21 : ¬ tN 2 = tN 1 := fun e => n12 e.symm
  rcases hk3 with rfl | rfl | rfl <;> rcases hj5 with rfl | rfl | rfl | rfl | rfl <;>
    simp [fset, RM, rm_add_one, rm_add_gone, rm_add_off, rm_add_rest, n01, n02, n12, n10, n20, n21]
theorem rm_drop (R : Rr) {k : Nat} (hk : k < 3) : ∀ j, j < 5 → RM (rdrop R (tN k)) j = (if k = 0 then fset (fset (RM R) 0 (rdrop (RM R 0) (tN k))) (k + 1) (rdrop (RM R (k + 1)) (tN k)) else fset (fset (fset (RM R) 0 (rdrop (RM R 0) (tN k))) (k + 1) (rdrop (RM R (k + 1)) (tN k))) 4 (rdrop (RM R 4) (tN k))) j := by
  have hk3 : k = 0 ∨ k = 1 ∨ k = 2 := by omega
  intro j hj
  have hj5 : j = 0 ∨ j = 1 ∨ j = 2 ∨ j = 3 ∨ j = 4 := by omega
  have n01 := tn01
  have n02 := tn02
  have n12 := tn12
  have n10 : ¬ tN 1 = tN 0 := fun e => n01 e.symm
  have n20 : ¬ tN 2 = tN 0 := fun e => n02 e.symm
  have n21 : ¬ tN 2 = tN 1 := fun e => n12 e.symm
  rcases hk3 with rfl | rfl | rfl <;> rcases hj5 with rfl | rfl | rfl | rfl | rfl <;>
    simp [fset, RM, rm_drop_one, rm_drop_gone, rm_drop_off, n01, n02, n12, n10, n20, n21]
  · exact (rm_drop_rest R (tN 1) (tN 0)).symm
  · exact (rm_drop_rest R (tN 2) (tN 0)).symm
theorem rm_at (R : Rr) {k : Nat} (hk : k < 3) : RM R (k + 1) (tN k) = R (tN k) := by
  have h1 : ¬ k + 1 = 0 := by omega
  have h2 : ¬ k + 1 = 4 := by omega
  unfold RM
  rw [if_neg h1, if_neg h2, Nat.add_sub_cancel, rs_at]
theorem rm_rest (R : Rr) {k : Nat} (hk : k < 3) (h0 : ¬ k = 0) : RM R 4 (tN k) = R (tN k) := by
  show rdrop R (tN 0) (tN k) = R (tN k)
  unfold rdrop
  have : k = 1 ∨ k = 2 := by omega
  rcases this with rfl | rfl
  · rw [if_neg (fun e => tn01 e.symm)]
  · rw [if_neg (fun e => tn02 e.symm)]
/-- The five in memory. -/
def XM (B : Nat) (w : World) (arr : Nat) (cs : List Value) (P : Nat → Prop) (X : Nat → Nat × Nat × Nat) (R : Nat → Rr) : Prop :=
  ∃ c : Col, (∀ j, P j → Ix w c j (X j).1 (X j).2.1 (X j).2.2 (R j)) ∧ (∀ i, i < B → c i = none) ∧ c arr = none ∧ Blk w arr 49 cs
section
variable {B D arr : Nat} {w w' : World} {cs cs' : List Value} {P P' : Nat → Prop} {X : Nat → Nat × Nat × Nat} {R R' : Nat → Rr}
theorem XM.later (h : XM B w arr cs P X R) (hb : Below w.heap.size w w') : XM B w' arr cs P X R := by
  obtain ⟨c, h1, h2, h3, h4⟩ := h
  exact ⟨c, fun j hj => (h1 j hj).later hb, h2, h3, h4.later hb⟩
theorem XM.congr (h : XM B w arr cs P X R) (hR : ∀ j, P' j → P j ∧ R' j = R j) : XM B w arr cs P' X R' := by
  obtain ⟨c, h1, h2, h3, h4⟩ := h
  exact ⟨c, fun j hj => by rw [(hR j hj).2]; exact h1 j (hR j hj).1, h2, h3, h4⟩
theorem XM.blk (h : XM B w arr cs P X R) : Blk w arr 49 cs := by
  obtain ⟨c, h1, h2, h3, h4⟩ := h
  exact h4
theorem XM.set (h : XM B w arr cs P X R) (hc : Chg (fun i => i = arr) w w') (hb : Blk w' arr 49 cs') : XM B w' arr cs' P X R := by
  obtain ⟨c, h1, h2, h3, h4⟩ := h
  exact ⟨c, fun j hj => (h1 j hj).chg hc (fun i _ hi q e => by rw [hi, h3] at e; cases e) (fun _ _ => rfl), h2, h3, hb⟩
theorem XM.op {c c' : Col} {j : Nat} {Rj : Rr} (hI : ∀ j, P j → Ix w c j (X j).1 (X j).2.1 (X j).2.2 (R j)) (hn : ∀ i, i < B → c i = none) (ha : c arr = none) (hb : Blk w arr 49 cs) (hB : B ≤ w.heap.size) (h1 : Ix w' c' j (X j).1 (X j).2.1 (X j).2.2 Rj) (h2 : Acc w c j w' c') : XM B w' arr cs P X (fset R j Rj) ∧ Below B w w' := by
  refine ⟨⟨c', fun q hq => ?_, fun i hi => by rw [h2.1 i (by omega)]; exact hn i hi, by rw [h2.1 arr hb.lt]; exact ha, h2.2.blk hb (fun ⟨q, e⟩ => by rw [ha] at e; cases e)⟩, h2.2.below hB (fun i ⟨q, e⟩ => ?_)⟩
  · by_cases e : q = j
    · subst e
      rw [fset_at]
      exact h1
    · rw [fset_off _ _ e]
      refine (hI q hq).chg h2.2 (fun i _ ⟨p, hp⟩ p' e' => ?_) h2.1
      rw [hp] at e'
      simp only [Option.some.injEq, Prod.mk.injEq] at e'
      exact e e'.1.symm
  · rcases Nat.lt_or_ge i B with h | h
    · rw [hn i h] at e; cases e
    · exact h
theorem XM.add (h : XM B w arr cs P X R) (hB : B ≤ w.heap.size) {j : Nat} (hj : P j) (hT : L.Tb D w) (t : ByteArray) (ht : t.size ≤ maxLen) (ad : Option Addr) (cp : Nat) (l : List L.Lb) (hL : L.Ls w ad l) (hno : ad = none → l = [] ∧ cp = 0) (hlen : l.length ≤ 1000000) (hN : (R j t).length < 1000) (hap : ¬ l = [] → ∀ a, ad = some a → a.block < B) :
    Calls Tryz.prog 16 #[.pointer (some ⟨(X j).1, 0, none⟩), .string t, .slice ad l.length cp] w fun e w' => e = .returned (.tuple #[.int .i64 (addI (R j t) l), .bool (addB (R j t) l), .int .i64 (L.errL (L.right l))]) ∧ XM B w' arr cs P X (fset R j (addR (R j) t l)) ∧ Below B w w' := by
  obtain ⟨c, h1, h2, h3, h4⟩ := h
  refine (addP (h1 j hj) hT t ht ad cp l hL hno hlen hN (fun hne a ha q e => by rw [h2 a.block (hap hne a ha)] at e; cases e)).mono ?_
  rintro e w' ⟨rfl, c', k1, k2⟩
  exact ⟨rfl, XM.op h1 h2 h3 h4 hB k1 k2⟩
theorem XM.drop (h : XM B w arr cs P X R) (hB : B ≤ w.heap.size) {j : Nat} (hj : P j) (t : ByteArray) (ht : t.size ≤ maxLen) :
    Calls Tryz.prog 15 #[.pointer (some ⟨(X j).1, 0, none⟩), .string t] w fun e w' => e = .returned (.int .i64 ((R j t).length : Int)) ∧ XM B w' arr cs P X (fset R j (rdrop (R j) t)) ∧ Below B w w' := by
  obtain ⟨c, h1, h2, h3, h4⟩ := h
  refine (dropP (h1 j hj) t ht).mono ?_
  rintro e w' ⟨rfl, c', k1, k2⟩
  exact ⟨rfl, XM.op h1 h2 h3 h4 hB k1 k2⟩
theorem XM.len (h : XM B w arr cs P X R) {j : Nat} (hj : P j) (t : ByteArray) : Calls Tryz.prog 19 #[.pointer (some ⟨(X j).1, 0, none⟩), .string t] w fun e w' => e = .returned (.int .i64 ((R j t).length : Int)) ∧ Below w.heap.size w w' := by
  obtain ⟨c, h1, h2, h3, h4⟩ := h
  exact lenP (h1 j hj) t
theorem XM.ok (h : XM B w arr cs P X R) {j : Nat} (hj : P j) : ROk (R j) := by
  obtain ⟨c, h1, h2, h3, h4⟩ := h
  exact (h1 j hj).ok
theorem XM.sizes (h : XM B w arr cs P X R) {j : Nat} (hj : P j) (hb : ∀ a b, SzR (entF (R j)) a b → b ≤ 4000000000000000000) : Calls Tryz.prog 18 #[.pointer (some ⟨(X j).1, 0, none⟩)] w fun e w' => (∃ a b : Nat, SzR (entF (R j)) a b ∧ e = .returned (.tuple #[.int .i64 (a : Int), .int .i64 (b : Int)])) ∧ Below w.heap.size w w' := by
  obtain ⟨c, h1, h2, h3, h4⟩ := h
  exact sizeP (h1 j hj) hb
theorem XM.rx (h : XM B w arr cs P X R) {j : Nat} (hj : P j) (hT : L.Tb D w) (t : ByteArray) (ht : t.size ≤ maxLen) (s : Nat) (ms : List Mt) (hS : ∃ F, StR F w s ms) (hms : ∀ m ∈ ms, m.may = true ∧ OkM m) (hml : ms.length ≤ 1000) (nm : ByteArray) : RX w (X j).1 t (R j t) s ms nm := by
  obtain ⟨c, h1, h2, h3, h4⟩ := h
  exact (h1 j hj).rx hT t ht s ms hS hms hml nm
theorem XM.new (h : XM B w arr cs P X R) (hB : B ≤ w.heap.size) (j : Nat) (hj : ¬ P j) : Calls Tryz.prog 7 #[] w fun e w' => ∃ p : Nat × Nat × Nat, e = .returned (.pointer (some ⟨p.1, 0, none⟩)) ∧ XM B w' arr cs (fun q => q = j ∨ P q) (fset X j p) (fset R j (fun _ => [])) ∧ Below w.heap.size w w' := by
  obtain ⟨c, h1, h2, h3, h4⟩ := h
  refine (newIxP2 w c j).mono ?_
  rintro e w' ⟨x, eb, rb, c', rfl, k1, k2, k3, k4, k5, k6, k7, kb⟩
  refine ⟨(x, eb, rb), rfl, ⟨c', fun q hq => ?_, fun i hi => by rw [k2 i (by omega)]; exact h2 i hi, by rw [k2 arr h4.lt]; exact h3, h4.later kb⟩, kb⟩
  rcases hq with e | hq
  · subst e
    rw [fset_at, fset_at]
    exact k1
  · have hne : ¬ q = j := fun e => hj (e ▸ hq)
    rw [fset_off _ _ hne, fset_off _ _ hne]
    exact (h1 q hq).chg (Chg.of_below (F := fun _ => False) kb) (fun _ _ e => e.elim) k2
end
theorem XM.start {B x eb rb arr : Nat} {w w' : World} {c : Col} {cs : List Value} {R : Rr} (h : Ix w c 0 x eb rb R) (hc : ∀ i, i < B → c i = none) (hB : B ≤ w.heap.size) (ha : w.heap.size ≤ arr) (hb : Below w.heap.size w w') (hk : Blk w' arr 49 cs) : XM B w' arr cs (fun q => q = 0) (fun _ => (x, eb, rb)) (fun _ => R) := by
  obtain ⟨c', h1, h2, h3⟩ := h.fresh
  refine ⟨c', fun j hj => by rw [hj]; exact h1.later hb, fun i hi => by rw [h2 i (by omega)]; exact hc i hi, h3 arr ha, hk⟩
/-- How much there is at most, of three tenants. -/
theorem sz_small {R : Rr} (h : ROk R) (T : List ByteArray) (hT : ∀ t, ¬ t ∈ T → R t = []) (h9 : T.length ≤ 10) : ∀ a b, SzR (entF R) a b → a ≤ 1000000 ∧ b ≤ 1000000000 := by
  rintro a b ⟨ks, n, m, rfl, rfl⟩
  have hlen : ∀ k, (entF R k).length ≤ 1000 := fun k => by
    unfold entF
    split
    · split
      · rw [List.length_range]; exact h.len k.t
      · simp
    · exact (hasX_wrd (h.len k.t) _).2
  have hmem : ∀ k ∈ ks, k.t ∈ T ∧ ((k.n = em0 ∧ k.v = em0) ∨ (⟨k.n, k.v⟩ : L.Lb) ∈ (R k.t).flatten) := fun k hk => by
    have hne := (m k).1 hk
    unfold entF at hne
    constructor
    · refine Classical.byContradiction fun hno => hne ?_
      rw [hT k.t hno]
      split
      · split <;> rfl
      · rfl
    · by_cases h1 : k.n = em0
      · by_cases h2 : k.v = em0
        · exact .inl ⟨h1, h2⟩
        · rw [if_pos h1, if_neg h2] at hne; exact absurd rfl hne
      · rw [if_neg h1] at hne
        obtain ⟨i, hi⟩ := List.exists_mem_of_ne_nil _ hne
        obtain ⟨h3, h4⟩ := hasX_mem.1 hi
        refine .inr (List.mem_flatten.2 ⟨(R k.t)[i], List.getElem_mem h3, ?_⟩)
        simpa [List.getD, List.getElem?_eq_getElem h3] using h4
  have hk := nodup_len (ks.map fun k => (k.t, k.n, k.v)) (T.flatMap fun t => (t, em0, em0) :: (R t).flatten.map fun y => (t, y.n, y.v)) (by
    rw [List.Nodup, List.pairwise_map]
    refine n.imp (fun {a b} hne e => hne ?_)
    obtain ⟨a1, a2, a3, _⟩ := a
    obtain ⟨b1, b2, b3, _⟩ := b
    simp only [Prod.mk.injEq] at e
    obtain ⟨rfl, rfl, rfl⟩ := e
    rfl) (fun z hz => by
    obtain ⟨k, hk, rfl⟩ := List.mem_map.1 hz
    obtain ⟨h1, h2⟩ := hmem k hk
    refine List.mem_flatMap.2 ⟨k.t, h1, ?_⟩
    rcases h2 with ⟨h2, h3⟩ | h2
    · rw [h2, h3]; simp
    · exact List.mem_cons_of_mem _ (List.mem_map.2 ⟨_, h2, rfl⟩))
  have hT8 : ∀ T : List ByteArray, (T.flatMap fun t => (t, em0, em0) :: (R t).flatten.map fun y => (t, y.n, y.v)).length ≤ T.length * 8001 := by
    intro T
    induction T with
    | nil => simp
    | cons t u ih =>
      have := flat_len8 (h.right t) (h.len t)
      simp only [List.flatMap_cons, List.length_append, List.length_cons, List.length_map] at ih ⊢
      omega
  have h1 := hT8 T
  rw [List.length_map] at hk
  have hs : ∀ l : List Kx, (l.map fun k => (entF R k).length).sum ≤ l.length * 1000 := by
    intro l
    induction l with
    | nil => simp
    | cons k u ih =>
      have := hlen k
      simp only [List.map_cons, List.sum_cons, List.length_cons]
      omega
  have h2 := hs ks
  omega
theorem ent_rs (R : Rr) (t : ByteArray) (k : Kx) : entF (RS t (R t)) k = if k.t = t then entF R k else [] := by
  unfold entF RS
  by_cases h : k.t = t
  · simp [h]
  · simp only [if_neg h]
    split
    · split <;> rfl
    · rfl
end Go.Proofs.YtgmdpbahcbhfjaaGreatDoor.X
/-
  IndexApart: the third loop's drawn region (by genivg.py).
-/
namespace Go.Proofs.YtgmdpbahcbhfjaaGreatDoor.X
open Go.RowKit

set_option maxRecDepth 100000 in
set_option maxHeartbeats 2000000 in
theorem apart_r33 (x p arr s kk : Nat) (nm of : ByteArray) (w : World) (a0 : Act) (Q : Exit → Act → World → Prop) (hsz : a0.tmps.size = 238)
    (s9 : a0.tmps.getD 9 undef = .pointer (some ⟨x, 0, none⟩))
    (s24 : a0.tmps.getD 24 undef = .int .i64 (kk : Int))
    (s10 : a0.tmps.getD 10 undef = .pointer (some ⟨arr, 0, none⟩))
    (s8 : a0.tmps.getD 8 undef = .pointer (some ⟨s, 0, none⟩))
    (s2 : a0.tmps.getD 2 undef = .string of)
    (hk3 : (kk : Int) < 3) (hk0 : (0 : Int) ≤ (kk : Int))
    (cp : ∀ w1, Lat w w1 → w1.cell? ⟨arr, kk, none⟩ = some (.pointer (some ⟨p, 0, none⟩)))
    (h14 : ∀ w1, Lat w w1 → Calls Tryz.prog 14 #[.int .i64 (kk : Int)] w1 fun e w2 => e = .returned (.string nm) ∧ Below w1.heap.size w1 w2)
    (h17 : ∀ w1, Lat w w1 → Calls Tryz.prog 17 #[.pointer (some ⟨x, 0, none⟩), .pointer (some ⟨p, 0, none⟩), .string nm, .pointer (some ⟨s, 0, none⟩), .string of] w1 fun e w2 => e = .returned (.bool true) ∧ Below w1.heap.size w1 w2)
    (hQ : ∀ (v162 v163 v164 v165 v166 v167 v168 v169 v170 : Value) (w1 : World), Lat w w1 → Q .normal ((((((((((a0.put (some 162) v162).put (some 163) v163).put (some 164) v164).put (some 165) v165).put (some 166) v166).put (some 167) v167).put (some 168) v168).put (some 169) v169).put (some 170) v170).put (some 25) (.bool true)) w1) :
    Code.wp Tryz.prog ((Tryz.f4.body.bind (findRegion 33)).getD .skip) Q a0 w := by
  conv => arg 2; whnf
  refine wp_region_inv Lat (TV [.pointer (some ⟨x, 0, none⟩), .int .i64 (kk : Int), .pointer (some ⟨arr, kk, none⟩), .pointer (some ⟨p, 0, none⟩), .int .i64 (kk : Int), .string nm, .pointer (some ⟨s, 0, none⟩), .string of, .bool true, .bool true]) (by kernel_rfl) (by kernel_rfl) (by kernel_rfl) (by rw [hsz]; kernel_rfl) (by kernel_rfl) Lat.refl Lat.trans (TV.stable _) (Lat.draw w) ?hop ?hdone
  case hdone =>
    intro a w1 hL hS hT
    have k25 : a.tmps.getD 25 undef = .bool true := hT 9 _ rfl _ rfl
    have he := same_puts hS
    have hQ2 := hQ (a.tmps.getD 162 undef) (a.tmps.getD 163 undef) (a.tmps.getD 164 undef) (a.tmps.getD 165 undef) (a.tmps.getD 166 undef) (a.tmps.getD 167 undef) (a.tmps.getD 168 undef) (a.tmps.getD 169 undef) (a.tmps.getD 170 undef) w1 hL
    rw [← k25] at hQ2
    rw [he]
    exact hQ2
  case hop =>
    intro i o hi
    have hlt : i < 10 := (Array.getElem?_eq_some_iff.1 hi).1
    rcases (show i = 0 ∨ i = 1 ∨ i = 2 ∨ i = 3 ∨ i = 4 ∨ i = 5 ∨ i = 6 ∨ i = 7 ∨ i = 8 ∨ i = 9 by omega) with rfl | rfl | rfl | rfl | rfl | rfl | rfl | rfl | rfl | rfl
    · obtain rfl := Option.some.inj hi
      clear hi hlt
      intro a w1 hL hS hD
      have e9 : a.tmps.getD 9 undef = .pointer (some ⟨x, 0, none⟩) := (hS.slot 9 (by kernel_rfl)).trans s9
      refine step_yes rfl ?_
      exact ok_value Lat.refl (.pointer (some ⟨x, 0, none⟩)) (by simp [execOp, Act.eval, e9, go_sem]) (TV.mk rfl)
    · obtain rfl := Option.some.inj hi
      clear hi hlt
      intro a w1 hL hS hD
      have e24 : a.tmps.getD 24 undef = .int .i64 (kk : Int) := (hS.slot 24 (by kernel_rfl)).trans s24
      refine step_yes rfl ?_
      exact ok_value Lat.refl (.int .i64 (kk : Int)) (by simp [execOp, Act.eval, e24, go_sem]) (TV.mk rfl)
    · obtain rfl := Option.some.inj hi
      clear hi hlt
      intro a w1 hL hS hD
      have e10 : a.tmps.getD 10 undef = .pointer (some ⟨arr, 0, none⟩) := (hS.slot 10 (by kernel_rfl)).trans s10
      have d1 : a.tmps.getD 163 undef = .int .i64 (kk : Int) := hD ⟨1, .data⟩ (by simp) rfl _ rfl _ rfl
      refine step_yes rfl ?_
      exact ok_value Lat.refl (.pointer (some ⟨arr, kk, none⟩)) (by simp [execOp, Act.eval, e10, d1, hk3, hk0, go_sem]) (TV.mk rfl)
    · obtain rfl := Option.some.inj hi
      clear hi hlt
      intro a w1 hL hS hD
      have d2 : a.tmps.getD 164 undef = .pointer (some ⟨arr, kk, none⟩) := hD ⟨2, .data⟩ (by simp) rfl _ rfl _ rfl
      refine step_yes rfl ?_
      exact ok_value Lat.refl (.pointer (some ⟨p, 0, none⟩)) (by simp [execOp, Act.eval, d2, cp w1 hL, go_sem]) (TV.mk rfl)
    · obtain rfl := Option.some.inj hi
      clear hi hlt
      intro a w1 hL hS hD
      have e24 : a.tmps.getD 24 undef = .int .i64 (kk : Int) := (hS.slot 24 (by kernel_rfl)).trans s24
      refine step_yes rfl ?_
      exact ok_value Lat.refl (.int .i64 (kk : Int)) (by simp [execOp, Act.eval, e24, go_sem]) (TV.mk rfl)
    · obtain rfl := Option.some.inj hi
      clear hi hlt
      intro a w1 hL hS hD
      have d4 : a.tmps.getD 166 undef = .int .i64 (kk : Int) := hD ⟨4, .data⟩ (by simp) rfl _ rfl _ rfl
      refine step_yes rfl ?_
      refine ok_call (f := 14) (args := #[.int .i64 (kk : Int)]) (by simp [execOp, resolve, Act.eval, d4, go_sem]) ?_
      refine (h14 w1 hL).mono ?_
      rintro e w2 ⟨rfl, hb⟩
      exact ⟨_, rfl, hb, TV.mk rfl⟩
    · obtain rfl := Option.some.inj hi
      clear hi hlt
      intro a w1 hL hS hD
      have e8 : a.tmps.getD 8 undef = .pointer (some ⟨s, 0, none⟩) := (hS.slot 8 (by kernel_rfl)).trans s8
      refine step_yes rfl ?_
      exact ok_value Lat.refl (.pointer (some ⟨s, 0, none⟩)) (by simp [execOp, Act.eval, e8, go_sem]) (TV.mk rfl)
    · obtain rfl := Option.some.inj hi
      clear hi hlt
      intro a w1 hL hS hD
      have e2 : a.tmps.getD 2 undef = .string of := (hS.slot 2 (by kernel_rfl)).trans s2
      refine step_yes rfl ?_
      exact ok_value Lat.refl (.string of) (by simp [execOp, Act.eval, e2, go_sem]) (TV.mk rfl)
    · obtain rfl := Option.some.inj hi
      clear hi hlt
      intro a w1 hL hS hD
      have d0 : a.tmps.getD 162 undef = .pointer (some ⟨x, 0, none⟩) := hD ⟨0, .data⟩ (by simp) rfl _ rfl _ rfl
      have d3 : a.tmps.getD 165 undef = .pointer (some ⟨p, 0, none⟩) := hD ⟨3, .data⟩ (by simp) rfl _ rfl _ rfl
      have d5 : a.tmps.getD 167 undef = .string nm := hD ⟨5, .data⟩ (by simp) rfl _ rfl _ rfl
      have d6 : a.tmps.getD 168 undef = .pointer (some ⟨s, 0, none⟩) := hD ⟨6, .data⟩ (by simp) rfl _ rfl _ rfl
      have d7 : a.tmps.getD 169 undef = .string of := hD ⟨7, .data⟩ (by simp) rfl _ rfl _ rfl
      refine step_yes rfl ?_
      refine ok_call (f := 17) (args := #[.pointer (some ⟨x, 0, none⟩), .pointer (some ⟨p, 0, none⟩), .string nm, .pointer (some ⟨s, 0, none⟩), .string of]) (by simp [execOp, resolve, Act.eval, d0, d3, d5, d6, d7, go_sem]) ?_
      refine (h17 w1 hL).mono ?_
      rintro e w2 ⟨rfl, hb⟩
      exact ⟨_, rfl, hb, TV.mk rfl⟩
    · obtain rfl := Option.some.inj hi
      clear hi hlt
      intro a w1 hL hS hD
      have d8 : a.tmps.getD 170 undef = .bool true := hD ⟨8, .data⟩ (by simp) rfl _ rfl _ rfl
      refine step_yes rfl ?_
      exact ok_value Lat.refl (.bool true) (by simp [execOp, Act.eval, d8, go_sem]) (TV.mk rfl)
end Go.Proofs.YtgmdpbahcbhfjaaGreatDoor.X
