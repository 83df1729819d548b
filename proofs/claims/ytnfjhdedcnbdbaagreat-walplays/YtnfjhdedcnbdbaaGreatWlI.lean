/-
  look: what lies in a file.
-/
import Derived.Test.YtnfjhdedcnbdbaaGreatWlP
import Derived.Test.YtnfjhdedcnbdbaaGreatScA
import Derived.OwnWalkIn
import Derived.WalkMore
namespace Go.Proofs.YtnfjhdedcnbdbaaGreat
open Go Go.RowKit Go.Shelf
set_option linter.unusedVariables false
set_option linter.unusedSimpArgs false
attribute [local go_sem] Oper.semAt_some

/-- Two lists that lie apart. -/
def ApartE (x y : El) : Prop := ∀ g, x.2.1.ownBlock = some g → y.2.1.ownBlock ≠ some g
/-- The state that a head's data holds. -/
def StV (x : El) (sv : Value) : Prop := ∃ g n c off, x.2.1 = .slice (some ⟨g, 0, none⟩) n c ∧ n = x.2.2.length ∧ 24 ≤ n ∧ (0 < n - 24 → off = 24) ∧ sv = .slice (some ⟨g, off, none⟩) (n - 24) (c - 24)
/-- A state and records in memory. -/
def FdM (B : Nat) (A : World) (x : El) (r : List El) (sv rv : Value) : Prop :=
  RowX B A x ∧ (∀ y ∈ r, RowX B A y) ∧ (x :: r).Pairwise ApartE ∧ StV x sv ∧ (∃ a n c, rv = .slice a n c) ∧ A.ownsRow B 28 1 rv r.length (r.map (·.2.1))
def fcell (h : Hd) (sv rv : Value) (n : Nat) (e : Int) : List Value := [.int .u64 (h.g : Int), .int .i64 (h.cap : Int), .int .i64 (h.slots : Int), sv, rv, .int .i64 (n : Int), .int .i64 e]
def h0 : Hd := ⟨0, 0, 0⟩
def nilS : Value := .slice none 0 0
/-- What look tells. -/
def LookL (B : Nat) (l : List Int) (A : World) (L : List Value) : Prop :=
  (headAt l = none ∧ ∃ n, n ≤ 16777216 ∧ L = fcell h0 nilS nilS n 61) ∨
  (∃ h st a n c a' n' c' m, headAt l = some (h, st) ∧ good h (frames l) = false ∧ m ≤ 16777216 ∧ L = fcell h (.slice a n c) (.slice a' n' c') m 62) ∨
  (∃ h st x r sv rv, headAt l = some (h, st) ∧ good h (frames l) = true ∧ frames l = (x :: r).map fr ∧ FdM B A x r sv rv ∧ L = fcell h sv rv (fsz (frames l)) 0)
/-- What stands while the frames are gone through. -/
structure LkC (w : World) (rb B10 bx : Nat) (ag : Option Addr) (len c : Nat) (l : List Int) (A : World) : Prop where
  r : Blk A rb 68 (fcell h0 nilS nilS 0 0)
  b : Blk A bx 28 [.slice ag len c]
  row : A.ownsRow 0 5 1 (.slice ag len c) len (cells8 l)
  bel : Below w.heap.size w A
  sz : B10 ≤ A.heap.size
  lo : w.heap.size ≤ rb ∧ rb < B10 ∧ bx < B10 ∧ (∀ g, (Value.slice ag len c).ownBlock = some g → g < B10)
theorem LkC.chg {w : World} {rb B10 bx : Nat} {ag : Option Addr} {len c : Nat} {l : List Int} {A A' : World} {F : Nat → Prop} (h : LkC w rb B10 bx ag len c l A) (hc : Chg F A A') (hF : ∀ i, F i → B10 ≤ i ∨ (i ≠ rb ∧ i ≠ bx ∧ (Value.slice ag len c).ownBlock ≠ some i ∧ w.heap.size ≤ i)) : LkC w rb B10 bx ag len c l A' := by
  have hlo := h.lo
  refine ⟨hc.blk h.r (fun k => ?_), hc.blk h.b (fun k => ?_), hc.owns h.row (fun g hg k => ?_), h.bel.trans (hc.below h.bel.size (fun i hi => ?_)), Nat.le_trans h.sz hc.size, hlo⟩
  · rcases hF _ k with e | e
    · omega
    · exact e.1 rfl
  · rcases hF _ k with e | e
    · omega
    · exact e.2.1 rfl
  · rcases hF _ k with e | e
    · have := hlo.2.2.2 g hg; omega
    · exact e.2.2.1 hg
  · rcases hF _ hi with e | e
    · omega
    · exact e.2.2.2
theorem LkC.bk {w : World} {rb B10 bx : Nat} {ag : Option Addr} {len c : Nat} {l : List Int} {A A' : World} {B : Nat} (h : LkC w rb B10 bx ag len c l A) (hk : Bk B A A') (hB : w.heap.size ≤ B) : LkC w rb B10 bx ag len c l A' :=
  ⟨hk.blk h.r, hk.blk h.b, hk.owns h.row, hk.below h.bel hB (Nat.le_refl _), Nat.le_trans h.sz hk.size, h.lo⟩
theorem LkC.lat {w : World} {rb B10 bx : Nat} {ag : Option Addr} {len c : Nat} {l : List Int} {A A' : World} (h : LkC w rb B10 bx ag len c l A) (hb : Lat A A') : LkC w rb B10 bx ag len c l A' := h.chg (Chg.of_below (F := fun _ => False) hb) (fun _ h => h.elim)
theorem FdM.chg {B : Nat} {A A' : World} {x : El} {r : List El} {sv rv : Value} {F : Nat → Prop} (h : FdM B A x r sv rv) (hc : Chg F A A') (hF : ∀ i, F i → ¬ Tg A i 5 ∧ ¬ Tg A i 28) : FdM B A' x r sv rv := by
  obtain ⟨h1, h2, h3, h4, h5, h6⟩ := h
  refine ⟨h1.chg hc (fun g hg k => (hF g k).1 (owns_tg h1.2 g hg)), fun y hy => (h2 y hy).chg hc (fun g hg k => (hF g k).1 (owns_tg (h2 y hy).2 g hg)), h3, h4, h5, hc.owns h6 (fun g hg k => (hF g k).2 (owns_tg h6 g hg))⟩
theorem FdM.bk {B B' : Nat} {A A' : World} {x : El} {r : List El} {sv rv : Value} (h : FdM B A x r sv rv) (hk : Bk B' A A') : FdM B A' x r sv rv := by
  obtain ⟨h1, h2, h3, h4, h5, h6⟩ := h
  exact ⟨⟨h1.1, hk.owns h1.2⟩, fun y hy => ⟨(h2 y hy).1, hk.owns (h2 y hy).2⟩, h3, h4, h5, hk.owns h6⟩
theorem FdM.lat {B : Nat} {A A' : World} {x : El} {r : List El} {sv rv : Value} (h : FdM B A x r sv rv) (hb : Lat A A') : FdM B A' x r sv rv := h.chg (Chg.of_below (F := fun _ => False) hb) (fun _ h => h.elim)
/-- What has been found so far. -/
def LkI (fb B10 : Nat) (pre : List El) (A : World) : Prop :=
  (pre = [] ∧ Blk A fb 68 (fcell h0 nilS nilS 0 61)) ∨
  (∃ x r h st sv rv, pre = x :: r ∧ headIn x.1 x.2.2 = some (h, st) ∧ good h (pre.map fr) = true ∧ FdM B10 A x r sv rv ∧ Blk A fb 68 (fcell h sv rv (fsz (pre.map fr)) 0))
/-- Where it was left. -/
def LkX (fb : Nat) (pre : List El) (A : World) : Prop :=
  (∃ x m, pre = [x] ∧ headIn x.1 x.2.2 = none ∧ m ≤ 16777216 ∧ Blk A fb 68 (fcell h0 nilS nilS m 61)) ∨
  (∃ x r h st a n c a' n' c' m, pre = x :: r ∧ headIn x.1 x.2.2 = some (h, st) ∧ good h (pre.map fr) = false ∧ m ≤ 16777216 ∧ Blk A fb 68 (fcell h (.slice a n c) (.slice a' n' c') m 62))
/-- What lies there at the end. -/
def LkP (fb B10 : Nat) (l : List Int) (A : World) : Prop := ∃ L, Blk A fb 68 L ∧ LookL B10 l A L
theorem fcell_one (h : Hd) (a : Option Addr) (n c : Nat) (a' : Option Addr) (n' c' m : Nat) (e : Int) : (fcell h (.slice a n c) (.slice a' n' c') m e).length = 7 ∧ ∀ v ∈ fcell h (.slice a n c) (.slice a' n' c') m e, v.oneCell' = true := by
  simp [fcell, Value.oneCell']
theorem LookL.seven {B : Nat} {l : List Int} {A : World} {L : List Value} (h : LookL B l A L) : L.length = 7 ∧ ∀ v ∈ L, v.oneCell' = true := by
  rcases h with ⟨_, n, _, rfl⟩ | ⟨h, st, a, n, c, a', n', c', m, _, _, _, rfl⟩ | ⟨h, st, x, r, sv, rv, _, _, _, hm, rfl⟩
  · exact fcell_one _ _ _ _ _ _ _ _ _
  · exact fcell_one _ _ _ _ _ _ _ _ _
  · obtain ⟨_, _, _, ⟨g, n, c, off, _, _, _, _, rfl⟩, ⟨a', n', c', rfl⟩, _⟩ := hm
    exact fcell_one _ _ _ _ _ _ _ _ _
theorem LookL.chg {B : Nat} {l : List Int} {A A' : World} {L : List Value} {F : Nat → Prop} (h : LookL B l A L) (hc : Chg F A A') (hF : ∀ i, F i → ¬ Tg A i 5 ∧ ¬ Tg A i 28) : LookL B l A' L := by
  rcases h with h | h | ⟨h, st, x, r, sv, rv, e1, e2, e3, e4, e5⟩
  · exact .inl h
  · exact .inr (.inl h)
  · exact .inr (.inr ⟨h, st, x, r, sv, rv, e1, e2, e3, e4.chg hc hF, e5⟩)
theorem LookL.bk {B B' : Nat} {l : List Int} {A A' : World} {L : List Value} (h : LookL B l A L) (hk : Bk B' A A') : LookL B l A' L := by
  rcases h with h | h | ⟨h, st, x, r, sv, rv, e1, e2, e3, e4, e5⟩
  · exact .inl h
  · exact .inr (.inl h)
  · exact .inr (.inr ⟨h, st, x, r, sv, rv, e1, e2, e3, e4.bk hk, e5⟩)
theorem FdM.low {B C : Nat} {A : World} {x : El} {r : List El} {sv rv : Value} (h : FdM B A x r sv rv) (hc : C ≤ B) : FdM C A x r sv rv := by
  obtain ⟨h1, h2, h3, h4, h5, h6⟩ := h
  exact ⟨⟨h1.1, owns_lower h1.2 hc⟩, fun y hy => ⟨(h2 y hy).1, owns_lower (h2 y hy).2 hc⟩, h3, h4, h5, owns_baseG (owns_zero h6) (fun g hg => Nat.le_trans hc (h6.lt g hg).1)⟩
theorem LookL.low {B C : Nat} {l : List Int} {A : World} {L : List Value} (h : LookL B l A L) (hc : C ≤ B) : LookL C l A L := by
  rcases h with h | h | ⟨h, st, x, r, sv, rv, e1, e2, e3, e4, e5⟩
  · exact .inl h
  · exact .inr (.inl h)
  · exact .inr (.inr ⟨h, st, x, r, sv, rv, e1, e2, e3, e4.low hc, e5⟩)
theorem found_set {A : World} {fb m : Nat} (h : Blk A fb 68 (fcell h0 nilS nilS m 61)) (G cp sl : Int) (sv : Value) (e : Int) :
    Blk (((((A.setCell ⟨fb, 0, none⟩ (.int .u64 G)).setCell ⟨fb, 1, none⟩ (.int .i64 cp)).setCell ⟨fb, 2, none⟩ (.int .i64 sl)).setCell ⟨fb, 3, none⟩ sv).setCell ⟨fb, 6, none⟩ (.int .i64 e)) fb 68 [.int .u64 G, .int .i64 cp, .int .i64 sl, sv, nilS, .int .i64 (m : Int), .int .i64 e] ∧
    Chg (fun i => i = fb) A (((((A.setCell ⟨fb, 0, none⟩ (.int .u64 G)).setCell ⟨fb, 1, none⟩ (.int .i64 cp)).setCell ⟨fb, 2, none⟩ (.int .i64 sl)).setCell ⟨fb, 3, none⟩ sv).setCell ⟨fb, 6, none⟩ (.int .i64 e)) := by
  refine ⟨?_, ?_⟩
  · have := ((((h.set 0 (.int .u64 G)).set 1 (.int .i64 cp)).set 2 (.int .i64 sl)).set 3 sv).set 6 (.int .i64 e)
    exact this
  · exact ((((Chg.set ⟨fb, 0, none⟩ (.int .u64 G) A).trans (Chg.set ⟨fb, 1, none⟩ _ _) (fun _ _ h => h)).trans (Chg.set ⟨fb, 2, none⟩ _ _) (fun _ _ h => h)).trans (Chg.set ⟨fb, 3, none⟩ _ _) (fun _ _ h => h)).trans (Chg.set ⟨fb, 6, none⟩ _ _) (fun _ _ h => h)
theorem info22 : (Tryz.prog.info? 28).map (fun i => (i.zero, i.size, i.bytes)) = some (some (.slice none 0 0), 1, 24) := by kernel_rfl
theorem new_one (w : World) (v : Value) (t : TypeId) : ∀ j u, [v][j]? = some u → (w.alloc (.cells #[v] t)).cell? ((⟨w.heap.size, 0, none⟩ : Addr).add j) = some u := by
  intro j u h
  cases j with
  | zero =>
    simp at h
    subst h
    rw [Addr.add_lit]
    exact (Blk.new w t [v]).cell 0
  | succ j => simp at h
theorem owns_cells {w : World} {B e s : Nat} {v : Value} {n : Nat} {xs : List Value} (h : w.ownsRow B e s v n xs) {g : Nat} (hg : v.ownBlock = some g) {o : Obj} (ho : w.heap[g]? = some o) : o.isCells = true := by
  rcases h.2 with ⟨h0, _⟩ | ⟨g', cap', cur, hv, hb, hh, _⟩
  · rw [h0] at hg
    cases hg
  · rw [hv] at hg
    have : g' = g := by simpa [Value.ownBlock] using hg
    subst this
    rw [ho] at hh
    cases hh
    rfl
theorem owns_formG {w : World} {B e s : Nat} {v : Value} {n : Nat} {xs : List Value} (h : w.ownsRow B e s v n xs) : ∃ a c, v = .slice a n c := by
  rcases h.2 with ⟨h0, h1⟩ | ⟨g, cap, cur, h0, _⟩
  · subst h1
    exact ⟨_, _, h0⟩
  · exact ⟨_, _, h0⟩
theorem FdM.push {B b : Nat} {A A' : World} {x y : El} {r : List El} {sv rv rv' : Value} {F : Nat → Prop} (h : FdM B A x r sv rv) (hc : Chg F A A') (hF : ∀ i, F i → ¬ Tg A i 5) (hy : (∃ ad c, y.2.1 = .slice ad y.2.2.length c) ∧ A'.ownsRow b 5 1 y.2.1 y.2.2.length (cells8 y.2.2)) (hB : B ≤ b)
    (hlt : ∀ z ∈ x :: r, ∀ g, z.2.1.ownBlock = some g → g < b) (ho : A'.ownsRow B 28 1 rv' (r.length + 1) (r.map (·.2.1) ++ [y.2.1])) : FdM B A' x (r ++ [y]) sv rv' := by
  obtain ⟨h1, h2, h3, h4, h5, h6⟩ := h
  obtain ⟨a, c, hv⟩ := owns_formG ho
  refine ⟨h1.chg hc (fun g hg k => (hF g k) (owns_tg h1.2 g hg)), ?_, ?_, h4, ⟨a, _, c, hv⟩, by simpa using ho⟩
  · intro z hz
    rcases List.mem_append.1 hz with hz | hz
    · exact (h2 z hz).chg hc (fun g hg k => (hF g k) (owns_tg (h2 z hz).2 g hg))
    · simp at hz
      subst hz
      exact ⟨hy.1, owns_lower hy.2 hB⟩
  · rw [← List.cons_append, List.pairwise_append]
    refine ⟨h3, by simp, ?_⟩
    intro z hz u hu g hg hgu
    simp at hu
    subst hu
    have q1 := hlt z hz g hg
    have q2 := (hy.2.lt g hgu).1
    omega
theorem zero89 : (Tryz.prog.info? 68).map (fun i => i.zero.map (·.cells)) = some (some (fcell h0 nilS nilS 0 0).toArray) := by kernel_rfl
theorem zero89' : (Tryz.prog.info? 68).map (fun i => (i.zero.map (·.cells.size), i.size)) = some (some 7, 7) := by kernel_rfl
theorem size89 : (Tryz.prog.info? 68).map (·.size) = some 7 := by kernel_rfl
theorem built89 : Tryz.prog.built 68 [(4, .int .i64 61)] = some (fcell h0 nilS nilS 0 61).toArray := by kernel_rfl

set_option maxRecDepth 100000 in
set_option maxHeartbeats 1000000 in
theorem lookP (ad : Option Addr) (len cap : Nat) (l : List Int) (w : World) (hs : Sl w ad len l) (hno : ad = none → len = 0 ∧ cap = 0) (hb : len ≤ 16777216) :
    Calls Tryz.prog 77 #[.slice ad len cap] w fun e w' => Below w.heap.size w w' ∧ ∃ L, e = .returned (.agg L.toArray) ∧ LookL w.heap.size l w' L := by
  have HS := hidden hs
  have HBY := hidden hs.byte
  have HL := hidden hs.len
  have HNO := hidden hno
  clear hs hno
  refine (callsIn_wide (n := 3)).1 (callsIn_of_wp_marks Tryz.func77 rfl trivial (wpIn_wide.2 ?_) rfl)
  simp only [Tryz.ntmps77, List.size_toArray, List.length_cons, List.length_nil, Nat.reduceAdd, Nat.reduceSub, Array.replicate_succ, Array.replicate_zero, List.push_toArray, List.append_toArray, List.nil_append, List.cons_append]
  go_wp2_with (first
    | (refine wpList_build_to rfl 68 #[(4, .const (.int .i64 61))] rfl [(4, .int .i64 61)] (fcell h0 nilS nilS 0 61).toArray ?_ built89 ?_; kernel_rfl)
    | (refine wpList_new_var rfl rfl 68 3 (.tmp 10) rfl rfl rfl rfl 7 zero89' (fcell h0 nilS nilS 0 61) rfl (by simp [fcell, nilS, Value.oneCell']) (by simp) rfl ?_; intro w3 B3 bl3 hz3; have HB3 := hidden B3; have HL3 := hidden bl3; have HZ3 := hidden hz3; clear B3 bl3 hz3)
    | (refine wpList_alloc_blk rfl 68 rfl 2 rfl (fcell h0 nilS nilS 0 0) zero89 ?_; intro w2 B2 bl2 hz2; have HB2 := hidden B2; have HL2 := hidden bl2; have HZ2 := hidden hz2; clear B2 bl2 hz2))
  go_step3
  go_wp2_with (first
    | (refine wpList_build_to rfl 68 #[(4, .const (.int .i64 61))] rfl [(4, .int .i64 61)] (fcell h0 nilS nilS 0 61).toArray ?_ built89 ?_; kernel_rfl)
    | (refine wpList_new_var rfl rfl 68 3 (.tmp 10) rfl rfl rfl rfl 7 zero89' (fcell h0 nilS nilS 0 61) rfl (by simp [fcell, nilS, Value.oneCell']) (by simp) rfl ?_; intro w3 B3 bl3 hz3; have HB3 := hidden B3; have HL3 := hidden bl3; have HZ3 := hidden hz3; clear B3 bl3 hz3)
    | (refine wpList_alloc_blk rfl 68 rfl 2 rfl (fcell h0 nilS nilS 0 0) zero89 ?_; intro w2 B2 bl2 hz2; have HB2 := hidden B2; have HL2 := hidden bl2; have HZ2 := hidden hz2; clear B2 bl2 hz2))
  go_step3
  go_wp2_with fail
  rw [HZ2.out]
  refine (scan_any ad len cap l w3 ((HS.out.later HL2.out).later HL3.out) HNO.out (by omega)).mono ?_
  rintro e w10 ⟨bx, ag, c, rfl, hbx, hbs, ho, hbel⟩
  have HBX := hidden hbx
  have HBS := hidden hbs
  have HO := hidden ho
  have HL10 := hidden hbel
  clear hbx hbs ho hbel
  have HCC : Hid (len ≤ c ∧ (ag = none → c = 0)) := ⟨(owns_cap HO.out).2.1, fun h => ((owns_cap HO.out).2.2.2 h).2⟩
  have HLW : Hid (Below w.heap.size w w3) := HL2.out.trans (HL3.out.mono HL2.out.size)
  have hC : LkC w w.heap.size w10.heap.size bx ag len c l w10 := ⟨(HB2.out.later HL3.out).later HL10.out, HBX.out, owns_zero HO.out, HLW.out.trans (HL10.out.mono HLW.out.size), Nat.le_refl _, Nat.le_refl _, by have := HZ2.out; have := HL3.out.size; have := HL10.out.size; omega, HBX.out.lt, fun g hg => (HO.out.lt g hg).2⟩
  have hFB : Blk w10 (w.heap.size + 1) 68 (fcell h0 nilS nilS 0 61) := by
    have := HB3.out.later HL10.out
    rw [HZ2.out] at this
    exact this
  have hfl : w.heap.size + 1 < w10.heap.size := by have := HZ2.out; have := HZ3.out; have := HL10.out.size; omega
  have HC := hidden hC
  have HFB := hidden hFB
  have HBX2 : Hid (w.heap.size + 1 ≠ bx) := by have := HBS.out; have := HZ2.out; have := HZ3.out; show _ ≠ _; omega
  have HRW : Hid (∀ g, (Value.slice ag len c).ownBlock = some g → w.heap.size + 1 ≠ g) := fun g hg => by have := (HO.out.lt g hg).1; have := HZ2.out; have := HZ3.out; omega
  clear hC hFB HB2 HB3
  go_wp2_with fail
  obtain ⟨fb, hfb⟩ : ∃ fb, w.heap.size + 1 = fb := ⟨_, rfl⟩
  rw [hfb] at HFB hfl HBX2 HRW ⊢
  have HFBE := hidden hfb
  clear hfb
  refine wp_range2 (a := { tmps := _, defers := [] }) (gf := 98) (lb := #[.pointer (some ⟨bx, 0, none⟩)]) 0 rfl (enters_of Tryz.func98 (by kernel_rfl) rfl) (scan1_seqs bx ag len c l w10 HCC.out.1 (by omega) HCC.out.2) (Below.refl _ _) (fun _ => rfl)
    (fun pre A => LkC w w.heap.size w10.heap.size bx ag len c l A ∧ LkI fb w10.heap.size pre A)
    (fun pre A => LkC w w.heap.size w10.heap.size bx ag len c l A ∧ LkX fb pre A)
    ?hI ?hIx (fun b pre x A B h hk => h.bk hk) ?hT ?h0 ?a1 ?hexit
    (fun A => LkC w w.heap.size w10.heap.size bx ag len c l A ∧ LkP fb w10.heap.size l A) ?hp1 ?hp2 ?assign ?body ?hend
  case assign =>
    intro n lp x A K hK
    simp only [encE]
    gi_wp2
    exact hK
  case hexit =>
    intro a A h
    simpa [Exit.inBlock] using h
  case hI =>
    rintro pre A B ⟨h1, h2⟩ hk
    refine ⟨h1.bk hk HC.out.bel.size, ?_⟩
    rcases h2 with ⟨e, hB⟩ | ⟨x, r, h, st, sv, rv, e, e1, e2, e3, e4⟩
    · exact .inl ⟨e, hk.blk hB⟩
    · exact .inr ⟨x, r, h, st, sv, rv, e, e1, e2, e3.bk hk, hk.blk e4⟩
  case hIx =>
    rintro pre A B ⟨h1, h2⟩ hk
    refine ⟨h1.bk hk HC.out.bel.size, ?_⟩
    rcases h2 with ⟨x, m, e, e1, e2, hB⟩ | ⟨x, r, h, st, a, n, c, a', n', c', m, e, e1, e2, e3, e4⟩
    · exact .inl ⟨x, m, e, e1, e2, hk.blk hB⟩
    · exact .inr ⟨x, r, h, st, a, n, c, a', n', c', m, e, e1, e2, e3, hk.blk e4⟩
  case hT => exact fun pre A h => ⟨h.1.b.cell 0, sl_of_owns h.1.row HBY.out, h.1.sz⟩
  case h0 => exact ⟨HC.out, .inl ⟨rfl, HFB.out⟩⟩
  case hp1 =>
    rintro xs A hS ⟨h1, h2⟩
    refine ⟨h1, ?_⟩
    rcases h2 with ⟨e, hB⟩ | ⟨x, r, h, st, sv, rv, e, e1, e2, e3, e4⟩
    · refine ⟨_, hB, .inl ⟨?_, 0, by omega, rfl⟩⟩
      subst e
      unfold headAt
      rw [← hS]
      rfl
    · subst e
      refine ⟨_, e4, .inr (.inr ⟨h, st, x, r, sv, rv, ?_, by rw [← hS]; exact e2, hS.symm, e3, by rw [hS]⟩)⟩
      unfold headAt
      rw [← hS]
      exact e1
  case hp2 =>
    rintro pre A ⟨rest, hrest⟩ ⟨h1, h2⟩
    refine ⟨h1, ?_⟩
    rcases h2 with ⟨x, m, e, e1, e2, hB⟩ | ⟨x, r, h, st, a, n, c, a', n', c', m, e, e1, e2, e3, e4⟩
    · refine ⟨_, hB, .inl ⟨?_, m, e2, rfl⟩⟩
      subst e
      unfold headAt
      rw [hrest]
      exact e1
    · refine ⟨_, e4, .inr (.inl ⟨h, st, a, n, c, a', n', c', m, ?_, ?_, e3, rfl⟩)⟩
      · subst e
        unfold headAt
        rw [hrest]
        exact e1
      · rw [Bool.eq_false_iff]
        intro hg
        rw [hrest] at hg
        have := good_pre (by rw [e]; simp) hg
        rw [e2] at this
        cases this
  case hend =>
    rintro D A hD ⟨h1, L, h2, h3⟩ hK
    obtain ⟨hL7, hL1⟩ := h3.seven
    have H1 := hidden h1
    have H2 := hidden h2
    have H3 := hidden h3
    have HK := hidden hK
    have HD := hidden hD
    clear h1 h2 h3 hK hD
    simp only [Exit.inBlock, Exit.then]
    go_wp2_with (first
      | refine wpList_load_blk rfl 68 (.tmp 3) rfl fb H2.out rfl Tryz.underlying68 rfl (by rw [hL7]; exact size89) ?_
      | refine wpList_store_blk rfl 68 (.tmp 2) (.tmp 64) rfl rfl w.heap.size (l := L) H1.out.r rfl rfl (by rw [hL7]; rfl) (by rw [hL7]; exact size89) hL1 ?_)
    rw [Exit.noGoto_ret]
    have hcs := chg_sets (fun i => i = w.heap.size) w.heap.size rfl L 0 A
    have hrb := blk_stored H1.out.r (l := L) (by rw [hL7]; rfl)
    have hlo := H1.out.lo
    have hk1 : (A.setCells w.heap.size 0 L).heap[D]? = some (.deferred (some [])) := (hcs.block D (Array.getElem?_eq_some_iff.1 HK.out).1 (fun e => by have := HD.out; omega)).trans HK.out
    have htg : Tg A w.heap.size 68 := H1.out.r.tg
    have hlk := (H3.out.chg hcs (fun i hi => by subst hi; exact ⟨fun h => absurd (htg.one h) (by decide), fun h => absurd (htg.one h) (by decide)⟩)).low (C := w.heap.size) HC.out.bel.size
    have hb0 := H1.out.bel.trans (hcs.below H1.out.bel.size (fun g hg => by omega))
    have q1 : Bk w10.heap.size (A.setCells w.heap.size 0 L) ((A.setCells w.heap.size 0 L).putObj D (.deferred none)) := Bk.put _ hk1 rfl HD.out
    refine ⟨by simp, .inl ⟨_, _, rfl, run_takeDeferred hk1, ?_⟩⟩
    refine ⟨.agg L.toArray, results_cell_row rfl _ _ w.heap.size 68 _ (0, 0) _ rfl (q1.blk hrb) Tryz.underlying68 rfl (by rw [List.size_toArray, hL7]; exact size89), ?_⟩
    exact ⟨Bk.below hb0 q1 HC.out.bel.size (Nat.le_refl _), L, rfl, hlk.bk q1⟩
  case body =>
    rintro n lp b pre ⟨k, v, d⟩ A ⟨A0, hA0, hAb⟩ ⟨h1, h2⟩ ⟨⟨rest, hrest⟩, ⟨ax, cx, hv⟩, hrow⟩
    dsimp only at hv hrow
    subst hv
    have hfs : fsz (pre.map fr) + (d.length + 9) ≤ len := by
      have h3 := fsz_pre hrest
      simp only [fsz, fr] at h3
      rw [HL.out] at h3
      omega
    have hdb := frames_byte HBY.out (k, d) (by rw [hrest]; simp [fr])
    have HDB := hidden hdb.1
    have hk1 : 0 ≤ k ∧ k ≤ 255 := ⟨hdb.2.1, hdb.2.2.1⟩
    have hdl : d.length ≤ 4194304 := hdb.2.2.2
    have hcx : d.length ≤ cx := (owns_cap hrow).2.1
    have HC1 := hidden h1
    have HROW := hidden hrow
    have HREST := hidden hrest
    clear h1 hrow hrest hdb
    obtain ⟨m, hm⟩ : ∃ m, d.length + 9 = m := ⟨_, rfl⟩
    rw [hm] at hfs
    have HM := hidden hm
    clear hm
    have hz : IntKind.i64.wrap (((fsz (pre.map fr) : Nat) : Int) + ((m : Nat) : Int)) = ((fsz (pre.map fr) : Nat) : Int) + ((m : Nat) : Int) := wrapI _ (by omega) (by omega)
    have HSZ : Hid (∀ w1, Lat A w1 → Calls Tryz.prog 47 #[.int .i64 (d.length : Int)] w1 fun e w2 => e = .returned (.int .i64 ((m : Nat) : Int)) ∧ Lat w1 w2) := fun w1 _ => (size_any d.length w1 (by omega)).mono (fun e w2 h => ⟨by rw [h.1, sizeN_ok _ hdl, HM.out], by rw [h.2]; exact Lat.refl _⟩)
    have HFL : Hid (w.heap.size < fb) := by have := HFBE.out; show _ < _; omega
    have HB10 : Hid (w10.heap.size ≤ b) := by have := hA0.1.sz; show _ ≤ _; omega
    have HKF : Hid (∀ A', Chg (fun i => i = fb) A A' → KeepsFrom w10.heap.size A A') := fun A' hc => keeps_chg hc (fun i o h1 h2 _ => by omega)
    dsimp only
    rcases h2 with ⟨rfl, hB⟩ | ⟨x, r, h, st, sv, rv, rfl, e1, e2, e3, e4⟩
    · have c5 : A.cell? ⟨fb, 5, none⟩ = some (.int .i64 0) := hB.cell 5
      have HB := hidden hB
      clear hB
      gi_wp2
      refine look_r6 fb d.length cx 0 ((m : Nat) : Int) ax A _ _ lp n (fun h => by obtain ⟨_, _, h⟩ := h; exact h) (by rfl) (by rfl) (by rfl) (fun w1 hL => (HB.out.later hL).cell 5) (fun w1 hL => (HB.out.later hL).frozen 5) HSZ.out hz ?_
      intro v18 v19 v20 v21 v22 v23 v24 A1 hL1
      rw [show (((0 : Nat) : Int) + ((m : Nat) : Int)) = ((m : Nat) : Int) by omega]
      simp only [Act.put, List.setIfInBounds_toArray, List.set_cons_succ, List.set_cons_zero]
      have HB2 : Hid (Blk (A1.setCell ⟨fb, 5, none⟩ (.int .i64 ((m : Nat) : Int))) fb 68 (fcell h0 nilS nilS m 61)) := (HB.out.later hL1).set 5 _
      have HCH : Hid (Chg (fun i => i = fb) A (A1.setCell ⟨fb, 5, none⟩ (.int .i64 ((m : Nat) : Int)))) := (Chg.of_below hL1).trans (Chg.set ⟨fb, 5, none⟩ (.int .i64 ((m : Nat) : Int)) A1) (fun _ _ h => h)
      generalize A1.setCell ⟨fb, 5, none⟩ (.int .i64 ((m : Nat) : Int)) = A2 at *
      have HCF : Hid (∀ A', Chg (fun i => i = fb) A A' → LkC w w.heap.size w10.heap.size bx ag len c l A') := fun A' hc => HC1.out.chg hc (fun i hi => .inr (by subst hi; exact ⟨by have := HFL.out; omega, HBX2.out, fun h => HRW.out _ h rfl, by have := HFL.out; omega⟩))
      have HTG : Hid (Tg A fb 68) := HB.out.tg
      have HROF : Hid (∀ A', Chg (fun i => i = fb) A A' → A'.ownsRow b 5 1 (.slice ax d.length cx) d.length (cells8 d)) := fun A' hc => hc.owns HROW.out (fun g hg e => by subst e; exact absurd (HTG.out.one (owns_tg HROW.out _ hg)) (by decide))
      clear hL1 c5 hz
      gi_wp2
      refine ⟨trivial, fun h => by simp [Fence.wide] at h, ?_⟩
      refine (CallsIn.inRound lp (callsIn_wide.2 (headOfP k ax d.length cx d A2 (sl_of_owns (HROF.out _ HCH.out) HDB.out) hcx hk1))).mono ?_
      rintro e A3 ⟨hb3, hh⟩
      have HB3 := hidden (HB2.out.later hb3)
      have HCH3 : Hid (Chg (fun i => i = fb) A A3) := HCH.out.trans (Chg.of_below hb3) (fun _ _ h => h)
      clear hb3
      rcases hh with ⟨hn, rfl⟩ | ⟨h, s, gb, off, off', hn, rfl, ho, rfl⟩
      · have HN := hidden hn
        clear hn
        gi_wp2
        have hc4 := HCH3.out.trans (Chg.alloc (fun i => i = fb) A3 (.cells #[.int .u64 0, .int .i64 0, .int .i64 0] 66)) (fun _ _ h => h)
        exact ⟨HKF.out _ hc4, rfl, HCF.out _ hc4, .inl ⟨_, m, rfl, HN.out, by omega, HB3.out.alloc _⟩⟩
      · have HN := hidden hn
        have HO := hidden ho
        obtain ⟨g0, hg0⟩ := owns_addr (HROF.out _ HCH.out) (by have := (headIn_some hn).2.1; omega)
        cases hg0
        have h24 := (headIn_some hn).2.1
        clear hn ho
        have c0 := HB3.out.cell 0
        have c1 := HB3.out.cell 1
        have c2 := HB3.out.cell 2
        have c3 := HB3.out.cell 3
        have c4 := HB3.out.cell 4
        have c5 := HB3.out.cell 5
        have c6 := HB3.out.cell 6
        have f0 := HB3.out.frozen 0
        have f1 := HB3.out.frozen 1
        have f2 := HB3.out.frozen 2
        have f3 := HB3.out.frozen 3
        have f6 := HB3.out.frozen 6
        have hlt := HB3.out.lt
        simp only [fcell, List.getElem?_cons_succ, List.getElem?_cons_zero] at c0 c1 c2 c3 c4 c5 c6
        obtain ⟨hg, hcp, hsl⟩ := h
        obtain ⟨G, hG⟩ : ∃ G : Int, (hg : Int) = G := ⟨_, rfl⟩
        rw [hG]
        have HG := hidden hG
        clear hG
        by_cases hcap : (hcp : Int) < (m : Int)
        · gi_wp2
          obtain ⟨q1, q2⟩ := found_set HB3.out G hcp hsl (.slice (some ⟨gb, off', none⟩) (d.length - 24) (cx - 24)) 0
          have q3 := (q1.set 6 (.int .i64 62)).alloc (.cells #[.int .u64 G, .int .i64 (hcp : Int), .int .i64 (hsl : Int)] 66)
          have q4 := ((HCH3.out.trans q2 (fun _ _ h => h)).trans (Chg.set ⟨fb, 6, none⟩ (.int .i64 62) _) (fun _ _ h => h)).trans (Chg.alloc _ _ (.cells #[.int .u64 G, .int .i64 (hcp : Int), .int .i64 (hsl : Int)] 66)) (fun _ _ h => h)
          refine ⟨HKF.out _ q4, rfl, HCF.out _ q4, .inr ⟨_, [], ⟨hg, hcp, hsl⟩, s, some ⟨gb, off', none⟩, d.length - 24, cx - 24, none, 0, 0, m, rfl, HN.out, ?_, by omega, ?_⟩⟩
          · rw [Bool.eq_false_iff]
            intro hgd
            simp only [good, Bool.and_eq_true, decide_eq_true_eq, List.nil_append, List.map_cons, List.map_nil, fsz, fr] at hgd
            have := HM.out
            omega
          · unfold fcell
            dsimp only
            rw [HG.out]
            exact q3
        · by_cases hgen : (9223372036854775808 : Int) ≤ G
          · gi_wp2
            obtain ⟨q1, q2⟩ := found_set HB3.out G hcp hsl (.slice (some ⟨gb, off', none⟩) (d.length - 24) (cx - 24)) 0
            have q3 := (q1.set 6 (.int .i64 62)).alloc (.cells #[.int .u64 G, .int .i64 (hcp : Int), .int .i64 (hsl : Int)] 66)
            have q4 := ((HCH3.out.trans q2 (fun _ _ h => h)).trans (Chg.set ⟨fb, 6, none⟩ (.int .i64 62) _) (fun _ _ h => h)).trans (Chg.alloc _ _ (.cells #[.int .u64 G, .int .i64 (hcp : Int), .int .i64 (hsl : Int)] 66)) (fun _ _ h => h)
            refine ⟨HKF.out _ q4, rfl, HCF.out _ q4, .inr ⟨_, [], ⟨hg, hcp, hsl⟩, s, some ⟨gb, off', none⟩, d.length - 24, cx - 24, none, 0, 0, m, rfl, HN.out, ?_, by omega, ?_⟩⟩
            · rw [Bool.eq_false_iff]
              intro hgd
              simp only [good, Bool.and_eq_true, decide_eq_true_eq, List.nil_append, List.map_cons, List.map_nil, fsz, fr] at hgd
              have := HG.out
              omega
            · unfold fcell
              dsimp only
              rw [HG.out]
              exact q3
          · gi_wp2
            obtain ⟨q1, q2⟩ := found_set HB3.out G hcp hsl (.slice (some ⟨gb, off', none⟩) (d.length - 24) (cx - 24)) 0
            have q4 := (HCH3.out.trans q2 (fun _ _ h => h)).trans (Chg.alloc _ _ (.cells #[.int .u64 G, .int .i64 (hcp : Int), .int .i64 (hsl : Int)] 66)) (fun _ _ h => h)
            have q5 := q1.alloc (.cells #[.int .u64 G, .int .i64 (hcp : Int), .int .i64 (hsl : Int)] 66)
            have hr4 := HROF.out _ q4
            refine ⟨HKF.out _ q4, trivial, HCF.out _ q4, .inr ⟨_, [], ⟨hg, hcp, hsl⟩, s, .slice (some ⟨gb, off', none⟩) (d.length - 24) (cx - 24), nilS, rfl, HN.out, ?_, ⟨⟨⟨_, _, rfl⟩, owns_lower hr4 HB10.out⟩, (fun y hy => by cases hy), by simp, ⟨gb, d.length, cx, off', rfl, rfl, h24, fun h => (HO.out h).trans (by omega), rfl⟩, ⟨none, 0, 0, rfl⟩, World.ownsRow_nil _ _ _ _⟩, ?_⟩⟩
            · simp only [good, Bool.and_eq_true, decide_eq_true_eq, List.nil_append, List.map_cons, List.map_nil, fsz, fr, List.tail_cons, List.all_nil, and_true]
              have := HM.out
              have := HG.out
              omega
            · have e9 : fsz (([] ++ [((k, Value.slice (some ⟨gb, 0, none⟩) d.length cx, d) : El)]).map fr) = m := by
                simp only [List.nil_append, List.map_cons, List.map_nil, fsz, fr]
                have := HM.out
                omega
              rw [e9]
              unfold fcell
              dsimp only
              rw [HG.out]
              exact q5
    · obtain ⟨ah, nh, ch, rfl⟩ : ∃ a n c, sv = .slice a n c := by
        obtain ⟨_, _, _, ⟨g, n', c', off, _, _, _, _, e⟩, _⟩ := e3
        exact ⟨_, _, _, e⟩
      obtain ⟨ar, nr, cr, rfl⟩ := e3.2.2.2.2.1
      obtain ⟨t, ht⟩ : ∃ t, fsz ((x :: r).map fr) = t := ⟨_, rfl⟩
      have ht9 : 9 ≤ t := by rw [← ht]; simp only [List.map_cons, fsz]; omega
      rw [ht] at hfs hz e4
      have HT := hidden ht
      clear ht
      have c5 : A.cell? ⟨fb, 5, none⟩ = some (.int .i64 (t : Int)) := e4.cell 5
      have HB := hidden e4
      have HE1 := hidden e1
      have HE2 := hidden e2
      have HE3 := hidden e3
      have HA0 : Hid (∀ y ∈ x :: r, ∀ g, y.2.1.ownBlock = some g → g < b) := by
        rcases hA0.2 with ⟨e, _⟩ | ⟨x', r', _, _, _, _, e, _, _, hf, _⟩
        · cases e
        · cases e
          intro y hy g hg
          rw [← hAb]
          rcases List.mem_cons.1 hy with rfl | hy
          · exact (hf.1.2.lt g hg).2
          · exact ((hf.2.1 y hy).2.lt g hg).2
      have htz : ¬ (t : Int) = 0 := by omega
      clear e1 e2 e3 e4
      gi_wp2
      refine look_r6 fb d.length cx t ((m : Nat) : Int) ax A _ _ lp n (fun h => by obtain ⟨_, _, h⟩ := h; exact h) (by rfl) (by rfl) (by rfl) (fun w1 hL => (HB.out.later hL).cell 5) (fun w1 hL => (HB.out.later hL).frozen 5) HSZ.out hz ?_
      intro v18 v19 v20 v21 v22 v23 v24 A1 hL1
      obtain ⟨u, hu⟩ : ∃ u : Nat, t + m = u := ⟨_, rfl⟩
      rw [show ((t : Int) + ((m : Nat) : Int)) = ((u : Nat) : Int) by omega]
      have HU := hidden hu
      have hul : u ≤ len := by omega
      clear hu hz
      simp only [Act.put, List.setIfInBounds_toArray, List.set_cons_succ, List.set_cons_zero]
      have HB2 : Hid (Blk (A1.setCell ⟨fb, 5, none⟩ (.int .i64 ((u : Nat) : Int))) fb 68 (fcell h (.slice ah nh ch) (.slice ar nr cr) u 0)) := (HB.out.later hL1).set 5 _
      have HCH : Hid (Chg (fun i => i = fb) A (A1.setCell ⟨fb, 5, none⟩ (.int .i64 ((u : Nat) : Int)))) := (Chg.of_below hL1).trans (Chg.set ⟨fb, 5, none⟩ (.int .i64 ((u : Nat) : Int)) A1) (fun _ _ h => h)
      generalize A1.setCell ⟨fb, 5, none⟩ (.int .i64 ((u : Nat) : Int)) = A2 at *
      have HCF : Hid (∀ A', Chg (fun i => i = fb) A A' → LkC w w.heap.size w10.heap.size bx ag len c l A') := fun A' hc => HC1.out.chg hc (fun i hi => .inr (by subst hi; exact ⟨by have := HFL.out; omega, HBX2.out, fun h => HRW.out _ h rfl, by have := HFL.out; omega⟩))
      have HTG : Hid (Tg A fb 68) := HB.out.tg
      have HFD2 : Hid (FdM w10.heap.size A2 x r (.slice ah nh ch) (.slice ar nr cr)) := HE3.out.chg HCH.out (fun i hi => by subst hi; exact ⟨fun h => absurd (HTG.out.one h) (by decide), fun h => absurd (HTG.out.one h) (by decide)⟩)
      have HROW2 : Hid (A2.ownsRow b 5 1 (.slice ax d.length cx) d.length (cells8 d)) := HCH.out.owns HROW.out (fun g hg e => by subst e; exact absurd (HTG.out.one (owns_tg HROW.out _ hg)) (by decide))
      clear hL1 c5
      have c0 : A2.cell? ⟨fb, 0, none⟩ = some (.int .u64 (h.g : Int)) := HB2.out.cell 0
      have c1 : A2.cell? ⟨fb, 1, none⟩ = some (.int .i64 (h.cap : Int)) := HB2.out.cell 1
      have c4 : A2.cell? ⟨fb, 4, none⟩ = some (.slice ar nr cr) := HB2.out.cell 4
      have c5 : A2.cell? ⟨fb, 5, none⟩ = some (.int .i64 (u : Int)) := HB2.out.cell 5
      have c6 : A2.cell? ⟨fb, 6, none⟩ = some (.int .i64 0) := HB2.out.cell 6
      have f4 := HB2.out.frozen 4
      have f6 := HB2.out.frozen 6
      by_cases hk2 : k = 2
      · subst hk2
        obtain ⟨i2, hi2, hy0, hy1, hy2⟩ := info_parts info22
        have hrl : r.length ≤ 16777216 := by
          have q := fsz_len ((x :: r).map fr)
          rw [HT.out] at q
          simp at q
          omega
        have HSB : Hid (w10.heap.size ≤ A2.heap.size) := Nat.le_trans HC1.out.sz HCH.out.size
        have HNRV : Hid (¬ (Value.slice ar nr cr).ownBlock = some fb) := fun e => absurd ((owns_tg HFD2.out.2.2.2.2.2 fb e).one (HB2.out.tg)) (by decide)
        obtain ⟨hg, hcp, hsl⟩ := h
        obtain ⟨G, hG⟩ : ∃ G : Int, (hg : Int) = G := ⟨_, rfl⟩
        dsimp only at c0 c1
        rw [hG] at c0
        have HB2' : Hid (Blk A2 fb 68 [.int .u64 G, .int .i64 (hcp : Int), .int .i64 (hsl : Int), .slice ah nh ch, .slice ar nr cr, .int .i64 (u : Int), .int .i64 0]) := by
          have := HB2.out
          unfold fcell at this
          dsimp only at this
          rw [hG] at this
          exact this
        clear HB2
        have HB2 := HB2'
        clear HB2'
        have HG := hidden hG
        have hgen : ¬ (9223372036854775808 : Int) ≤ G := by
          have q := HE2.out
          simp only [good, Bool.and_eq_true, decide_eq_true_eq] at q
          omega
        clear hG
        have HKF2 : Hid (∀ A', Chg (fun i => i = fb ∨ (Value.slice ar nr cr).ownBlock = some i) A A' → KeepsFrom w10.heap.size A A') := fun A' hc => keeps_chg hc (fun i o h1 h2 h3 => by
          rcases h2 with e | e
          · omega
          · exact owns_cells HE3.out.2.2.2.2.2 e h3)
        have HCF2 : Hid (∀ A', Chg (fun i => i = fb ∨ (Value.slice ar nr cr).ownBlock = some i) A A' → LkC w w.heap.size w10.heap.size bx ag len c l A') := fun A' hc => HC1.out.chg hc (fun i hi => by
          rcases hi with e | e
          · exact .inr (by subst e; exact ⟨by have := HFL.out; omega, HBX2.out, fun h => HRW.out _ h rfl, by have := HFL.out; omega⟩)
          · exact .inl (HE3.out.2.2.2.2.2.lt i e).1)
        have e9 : Hid (fsz ((x :: (r ++ [((2, Value.slice ax d.length cx, d) : El)])).map fr) = u) := by
          show _ = _
          rw [← List.cons_append, List.map_append, fsz_append, HT.out, ← HU.out]
          simp only [List.map_cons, List.map_nil, fsz, fr]
          have := HM.out
          omega
        by_cases hcap : (hcp : Int) < (u : Int)
        · gi_wp2_with (refine wpListIn_append_own _ rfl (.tmp 26) (.tmp 28) 37 rfl w10.heap.size 28 i2 (.slice none 0 0) 1 24 Tryz.underlying37 hi2 hy0 hy1 hy2 rfl (by decide) (.slice ar nr cr) r.length (r.map (·.2.1)) rfl (HFD2.out.2.2.2.2.2.alloc _) ⟨A2.heap.size, 0, none⟩ 1 1 [.slice ax d.length cx] rfl rfl (new_one A2 _ 28) (by simp [Value.oneCell']) (by unfold maxLen; omega) (by omega) (by have := HSB.out; simp; omega) ?_; intro v5 A5 ho5 hg5 _; have HC5 : Hid (Chg (fun i => (Value.slice ar nr cr).ownBlock = some i) A2 A5) := (Chg.alloc _ A2 _).trans (Chg.of_grown hg5 (fun _ h => h)) (fun _ _ h => h); have HB5 := hidden (HC5.out.blk HB2.out HNRV.out); have HO5 := hidden ho5; obtain ⟨a5, c5', rfl⟩ := owns_formG ho5; clear ho5 hg5 c0 c1 c4 c5 c6 f4 f6; have c0 : A5.cell? ⟨fb, 0, none⟩ = some (.int .u64 G) := HB5.out.cell 0; have c1 : A5.cell? ⟨fb, 1, none⟩ = some (.int .i64 (hcp : Int)) := HB5.out.cell 1; have c4 : A5.cell? ⟨fb, 4, none⟩ = some (.slice ar nr cr) := HB5.out.cell 4; have c5 : A5.cell? ⟨fb, 5, none⟩ = some (.int .i64 (u : Int)) := HB5.out.cell 5; have c6 : A5.cell? ⟨fb, 6, none⟩ = some (.int .i64 0) := HB5.out.cell 6; have f4 := HB5.out.frozen 4; have f6 := HB5.out.frozen 6)
          have q3 := (HB5.out.set 4 (.slice a5 (r.length + 1) c5')).set 6 (.int .i64 62)
          have q4 := (((HCH.out.mono (G := fun i => i = fb ∨ (Value.slice ar nr cr).ownBlock = some i) (fun _ _ h => .inl h)).trans (HC5.out.mono (fun _ _ h => .inr h)) (fun _ _ h => h)).trans (Chg.set ⟨fb, 4, none⟩ (.slice a5 (r.length + 1) c5') A5) (fun _ _ h => .inl h)).trans (Chg.set ⟨fb, 6, none⟩ (.int .i64 62) _) (fun _ _ h => .inl h)
          refine ⟨HKF2.out _ q4, rfl, HCF2.out _ q4, .inr ⟨x, r ++ [(2, .slice ax d.length cx, d)], ⟨hg, hcp, hsl⟩, st, ah, nh, ch, a5, r.length + 1, c5', u, rfl, HE1.out, ?_, by omega, ?_⟩⟩
          · rw [Bool.eq_false_iff]
            intro hgd
            simp only [good, Bool.and_eq_true, decide_eq_true_eq] at hgd
            have q9 := hgd.1.2
            have q8 := e9.out
            have q7 : fsz (List.map fr (x :: (r ++ [((2, Value.slice ax d.length cx, d) : El)]))) ≤ hcp := q9
            omega
          · unfold fcell
            dsimp only
            rw [HG.out]
            exact q3
        · gi_wp2_with (refine wpListIn_append_own _ rfl (.tmp 26) (.tmp 28) 37 rfl w10.heap.size 28 i2 (.slice none 0 0) 1 24 Tryz.underlying37 hi2 hy0 hy1 hy2 rfl (by decide) (.slice ar nr cr) r.length (r.map (·.2.1)) rfl (HFD2.out.2.2.2.2.2.alloc _) ⟨A2.heap.size, 0, none⟩ 1 1 [.slice ax d.length cx] rfl rfl (new_one A2 _ 28) (by simp [Value.oneCell']) (by unfold maxLen; omega) (by omega) (by have := HSB.out; simp; omega) ?_; intro v5 A5 ho5 hg5 _; have HC5 : Hid (Chg (fun i => (Value.slice ar nr cr).ownBlock = some i) A2 A5) := (Chg.alloc _ A2 _).trans (Chg.of_grown hg5 (fun _ h => h)) (fun _ _ h => h); have HB5 := hidden (HC5.out.blk HB2.out HNRV.out); have HO5 := hidden ho5; obtain ⟨a5, c5', rfl⟩ := owns_formG ho5; clear ho5 hg5 c0 c1 c4 c5 c6 f4 f6; have c0 : A5.cell? ⟨fb, 0, none⟩ = some (.int .u64 G) := HB5.out.cell 0; have c1 : A5.cell? ⟨fb, 1, none⟩ = some (.int .i64 (hcp : Int)) := HB5.out.cell 1; have c4 : A5.cell? ⟨fb, 4, none⟩ = some (.slice ar nr cr) := HB5.out.cell 4; have c5 : A5.cell? ⟨fb, 5, none⟩ = some (.int .i64 (u : Int)) := HB5.out.cell 5; have c6 : A5.cell? ⟨fb, 6, none⟩ = some (.int .i64 0) := HB5.out.cell 6; have f4 := HB5.out.frozen 4; have f6 := HB5.out.frozen 6)
          have q3 := HB5.out.set 4 (.slice a5 (r.length + 1) c5')
          have q4 := ((HCH.out.mono (G := fun i => i = fb ∨ (Value.slice ar nr cr).ownBlock = some i) (fun _ _ h => .inl h)).trans (HC5.out.mono (fun _ _ h => .inr h)) (fun _ _ h => h)).trans (Chg.set ⟨fb, 4, none⟩ (.slice a5 (r.length + 1) c5') A5) (fun _ _ h => .inl h)
          have q6 := (Chg.set ⟨fb, 4, none⟩ (.slice a5 (r.length + 1) c5') A5)
          have t5 : Tg A5 fb 68 := HB5.out.tg
          have hrow5 : (A5.setCell ⟨fb, 4, none⟩ (.slice a5 (r.length + 1) c5')).ownsRow b 5 1 (.slice ax d.length cx) d.length (cells8 d) := by
            refine q4.owns HROW.out (fun g hgg e => ?_)
            rcases e with e | e
            · subst e; exact absurd (HTG.out.one (owns_tg HROW.out _ hgg)) (by decide)
            · exact absurd ((owns_tg HE3.out.2.2.2.2.2 g e).one (owns_tg HROW.out _ hgg)) (by decide)
          have hrv : (A5.setCell ⟨fb, 4, none⟩ (.slice a5 (r.length + 1) c5')).ownsRow w10.heap.size 28 1 (.slice a5 (r.length + 1) c5') (r.length + 1) (r.map (·.2.1) ++ [.slice ax d.length cx]) := q6.owns HO5.out (fun g hgg e => by
            have e2 : g = fb := e
            subst e2
            exact absurd (t5.one (owns_tg HO5.out _ hgg)) (by decide))
          have hfd := HE3.out.push (y := (2, .slice ax d.length cx, d)) q4 (fun i hi => by
            rcases hi with e | e
            · subst e; exact fun h => absurd (HTG.out.one h) (by decide)
            · exact fun h => absurd ((owns_tg HE3.out.2.2.2.2.2 i e).one h) (by decide)) ⟨⟨_, _, rfl⟩, hrow5⟩ HB10.out HA0.out hrv
          refine ⟨HKF2.out _ q4, trivial, HCF2.out _ q4, .inr ⟨x, r ++ [(2, .slice ax d.length cx, d)], ⟨hg, hcp, hsl⟩, st, .slice ah nh ch, .slice a5 (r.length + 1) c5', rfl, HE1.out, ?_, hfd, ?_⟩⟩
          · have q := HE2.out
            simp only [good, Bool.and_eq_true, decide_eq_true_eq] at q ⊢
            refine ⟨⟨q.1.1, by rw [e9.out]; omega⟩, ?_⟩
            have q2 := q.2
            simp only [List.map_cons, List.tail_cons] at q2
            simp only [List.cons_append, List.map_cons, List.tail_cons, List.map_append, List.map_nil, List.all_append, q2, List.all_cons, fr]
            rfl
          · rw [e9.out]
            unfold fcell
            dsimp only
            rw [HG.out]
            exact q3
      · gi_wp2
        have q3 := HB2.out.set 6 (.int .i64 62)
        have q4 := HCH.out.trans (Chg.set ⟨fb, 6, none⟩ (.int .i64 62) A2) (fun _ _ h => h)
        refine ⟨HKF.out _ q4, rfl, HCF.out _ q4, .inr ⟨x, r ++ [(k, .slice ax d.length cx, d)], h, st, ah, nh, ch, ar, nr, cr, u, rfl, HE1.out, ?_, by omega, q3⟩⟩
        rw [Bool.eq_false_iff]
        intro hgd
        simp only [good, Bool.and_eq_true, List.map_append, List.map_cons, List.cons_append, List.tail_cons, List.all_append, List.map_nil, List.all_cons, decide_eq_true_eq, fr] at hgd
        exact hk2 hgd.2.2.1

end Go.Proofs.YtnfjhdedcnbdbaaGreat
