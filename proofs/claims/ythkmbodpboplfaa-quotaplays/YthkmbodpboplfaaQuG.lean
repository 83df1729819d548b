/-
  Statement QuotaApart: two books, one tenant; its walk's head.
-/
import Derived.Test.YthkmbodpboplfaaQuE
import Derived.LoopTactic
import Derived.Deep.CutBlock
namespace Go.Proofs.Ythkmbodpboplfaa
open Go.RowKit
set_option linter.unusedVariables false
set_option linter.unusedSimpArgs false

/-- A step of a script. -/
structure Os where
  k : Int
  on : Int
  s : ByteArray
  n : Int
  x : Int
  y : Int
  a : Ac
def osL (o : Os) : List Value := [.int .i64 o.k, .int .i64 o.on, .string o.s, .int .i64 o.n, .int .i64 o.x, .int .i64 o.y, .int .i64 o.a.ms, .int .i64 o.a.mx, .int .i64 o.a.se, .int .i64 o.a.wr, .int .i64 o.a.wi]
structure OsOk (o : Os) : Prop where
  k : I64 o.k
  on : I64 o.on
  n : I64 o.n
  x : I64 o.x
  y : I64 o.y
  a : o.a.Fits
/-- A script that came in. -/
structure Sc (w : World) (ad : Option Addr) (l : List Os) : Prop where
  ok : ∀ o ∈ l, OsOk o
  at' : l ≠ [] → ∃ b off, ad = some ⟨b, off, none⟩ ∧ b < w.heap.size ∧ ∀ i o, l[i]? = some o → ∀ j v, (osL o)[j]? = some v → w.cell? ⟨b, off + i * 11 + j, none⟩ = some v
/-- The cells of a step that was laid. -/
theorem os_cells {w : World} {g : Nat} {o : Os} (h : Blk w g 34 (osL o)) : w.cell? ⟨g, 0, none⟩ = some (.int .i64 o.k) ∧ w.cell? ⟨g, 1, none⟩ = some (.int .i64 o.on) ∧ w.cell? ⟨g, 2, none⟩ = some (.string o.s) ∧ w.cell? ⟨g, 3, none⟩ = some (.int .i64 o.n) ∧ w.cell? ⟨g, 4, none⟩ = some (.int .i64 o.x) ∧ w.cell? ⟨g, 5, none⟩ = some (.int .i64 o.y) ∧
    w.cell? ⟨g, 6, none⟩ = some (.int .i64 o.a.ms) ∧ w.cell? ⟨g, 7, none⟩ = some (.int .i64 o.a.mx) ∧ w.cell? ⟨g, 8, none⟩ = some (.int .i64 o.a.se) ∧ w.cell? ⟨g, 9, none⟩ = some (.int .i64 o.a.wr) ∧ w.cell? ⟨g, 10, none⟩ = some (.int .i64 o.a.wi) :=
  ⟨h.cell 0, h.cell 1, h.cell 2, h.cell 3, h.cell 4, h.cell 5, h.cell 6, h.cell 7, h.cell 8, h.cell 9, h.cell 10⟩

/-- Two books that agree on one tenant. -/
structure TB (w wr : World) (p b p' b' : Nat) (g g' : Gk) (T : ByteArray) : Prop where
  one : Bk wr p b g
  two : Bk wr p' b' g'
  ne : b ≠ b'
  same : g T = g' T
  bel : Below w.heap.size w wr
  hb : w.heap.size ≤ b
  hb' : w.heap.size ≤ b'
theorem TB.later {w wr wx : World} {p b p' b' : Nat} {g g' : Gk} {T : ByteArray} (h : TB w wr p b p' b' g g' T) (k : Below wr.heap.size wr wx) : TB w wx p b p' b' g g' T :=
  ⟨h.one.later k, h.two.later k, h.ne, h.same, h.bel.trans (k.mono h.bel.size), h.hb, h.hb'⟩
theorem tg_ne {w : World} {p b : Nat} {g : Gk} {q : Nat} {t : TypeId} {l : List Value} (h : Bk w p b g) (k : Blk w q t l) : q ≠ b := fun e => h.mp.tg t (e ▸ k.tg)
theorem TB.left {w wr wx : World} {p b p' b' : Nat} {g g' g2 : Gk} {T : ByteArray} (h : TB w wr p b p' b' g g' T) (k : Bk wx p b g2) (c : Chg (fun i => i = b) wr wx) (e : g2 T = g' T) : TB w wx p b p' b' g2 g' T :=
  ⟨k, h.two.chg c (tg_ne h.one h.two.blk) (fun e => h.ne e.symm), h.ne, e, h.bel.trans (c.below h.bel.size (fun i hi => hi ▸ h.hb)), h.hb, h.hb'⟩
theorem TB.both {w wr wx wy : World} {p b p' b' : Nat} {g g' g2 g3 : Gk} {T : ByteArray} (h : TB w wr p b p' b' g g' T) (k : Bk wx p b g2) (c : Chg (fun i => i = b) wr wx) (k2 : Bk wy p' b' g3) (c2 : Chg (fun i => i = b') wx wy) (e : g2 T = g3 T) : TB w wy p b p' b' g2 g3 T := by
  have hx := h.two.chg c (tg_ne h.one h.two.blk) (fun e => h.ne e.symm)
  exact ⟨k.chg c2 (tg_ne hx k.blk) h.ne, k2, h.ne, e, (h.bel.trans (c.below h.bel.size (fun i hi => hi ▸ h.hb))).trans (c2.below (Nat.le_trans h.bel.size c.size) (fun i hi => hi ▸ h.hb')), h.hb, h.hb'⟩
theorem TB.right {w wr wx : World} {p b p' b' : Nat} {g g' : Gk} {T : ByteArray} (h : TB w wr p b p' b' g g' T) (c : Chg (fun i => i = b) wr wx) : Bk wx p' b' g' :=
  h.two.chg c (tg_ne h.one h.two.blk) (fun e => h.ne e.symm)

theorem updA_off (g : Gk) {s T : ByteArray} (v : Option Ac) (h : ¬ s = T) : updA g s v T = g T := by
  unfold updA
  rw [if_neg (fun e => h e.symm)]
theorem updA_same (g : Gk) (s : ByteArray) (v : Option Ac) : updA g s v s = v := by simp [updA]
theorem put_off (g : Gk) {s T : ByteArray} (a : Ac) (h : ¬ s = T) : (putA g s a).2 T = g T := by
  unfold putA
  split
  · rfl
  · split
    · rfl
    · split
      · rfl
      · exact updA_off g _ h
theorem take_off (g : Gk) {s T : ByteArray} (n x y : Int) (h : ¬ s = T) : (takeA g s n x y).2 T = g T := by
  unfold takeA
  split
  · rfl
  · split
    · rfl
    · split
      · rfl
      · split
        · rfl
        · exact updA_off g _ h
theorem putA_same {g g' : Gk} {s : ByteArray} (a : Ac) (h : g s = g' s) : (putA g s a).1 = (putA g' s a).1 ∧ (putA g s a).2 s = (putA g' s a).2 s := by
  unfold putA
  rw [h]
  split
  · exact ⟨rfl, h⟩
  · split
    · exact ⟨rfl, h⟩
    · split
      · exact ⟨rfl, h⟩
      · exact ⟨rfl, by simp [updA]⟩
theorem takeA_same {g g' : Gk} {s : ByteArray} (n x y : Int) (h : g s = g' s) : (takeA g s n x y).1 = (takeA g' s n x y).1 ∧ (takeA g s n x y).2 s = (takeA g' s n x y).2 s := by
  unfold takeA getA
  rw [h]
  split
  · exact ⟨rfl, h⟩
  · split
    · exact ⟨rfl, h⟩
    · split
      · exact ⟨rfl, h⟩
      · split
        · exact ⟨rfl, h⟩
        · exact ⟨rfl, by simp [updA]⟩

theorem str_eq (s T : ByteArray) : (s.toList == T.toList) = decide (s = T) := by
  rw [Bool.eq_iff_iff]
  simp only [beq_iff_eq, decide_eq_true_eq]
  constructor
  · intro h
    rw [ByteArray.toList_eq, ByteArray.toList_eq] at h
    obtain ⟨⟨x⟩⟩ := s
    obtain ⟨⟨y⟩⟩ := T
    simpa using h
  · rintro rfl
    rfl

set_option maxRecDepth 100000 in
set_option maxHeartbeats 8000000 in
theorem apart_any (T : ByteArray) (ad : Option Addr) (len cap : Nat) (l : List Os) (w : World) (hl : l.length = len) (hs : Sc w ad l) (hlen : len ≤ 9223372036854775807) :
    Calls Try.prog 4 #[.string T, .slice ad len cap] w fun e w' => e = .returned (.bool true) ∧ Below w.heap.size w w' := by
  have HS := hidden (shownP w)
  have HL := hidden hl
  have HT := hidden hs
  clear hl hs
  go_enter Try.func4, Try.ntmps4
  go_wp2_with (refine HS.out.mono ?_; clear HS; rintro e w1 ⟨rfl, b1⟩)
  have BL1 := hidden b1
  have HN := hidden (newP w1)
  go_wp2_with (refine HN.out.mono ?_; clear HN; rintro e w2 ⟨p, b, rfl, h2, b2, hp, hb⟩; have HM := hidden (newP w2))
  refine HM.out.mono ?_
  clear HM
  rintro e w3 ⟨p', b', rfl, h3, b3, hp', hb3⟩
  have H3 : Hid (TB w w3 p b p' b' (fun _ => none) (fun _ => none) T) := hidden ⟨h2.later b3, h3, by have := h2.mp.lt; omega, rfl, BL1.out.trans ((b2.trans (b3.mono b2.size)).mono BL1.out.size), by have := BL1.out.size; omega, by have := BL1.out.size; have := b2.size; omega⟩
  clear h2 h3 b1 b2 b3 hp hp' hb hb3 BL1
  go_wp2_with fail
  go_loopw [8] (fun v8 wx => ∃ (i : Nat) (g g' : Gk), v8 = .int .i64 (i : Int) ∧ i ≤ len ∧ Hid (TB w wx p b p' b' g g' T)) (fun v8 _ => len - (intOf v8).toNat)
  case atStart => exact ⟨0, _, _, rfl, by omega, H3⟩
  case round =>
    obtain ⟨i, g, g', rfl, hi, hI⟩ := hrel
    clear H3
    by_cases hlt : i < len ∧ i < 2000
    · obtain ⟨hlt, h2000⟩ := hlt
      obtain ⟨o, hz⟩ : ∃ z, l[i]? = some z := ⟨l[i]'(by have := HL.out; omega), by simp⟩
      obtain ⟨bb, off, rfl, hbb, hcell⟩ := HT.out.at' (by rintro rfl; simp at hz)
      have hc := hcell i _ hz
      have HO := hidden (HT.out.ok _ (List.mem_of_getElem? hz))
      clear hcell hz
      have tc : ∀ j v, (osL o)[j]? = some v → wr.cell? ⟨bb, off + i * 11 + j, none⟩ = some v := fun j v hv => by
        rw [hI.out.bel.cell (p := ⟨bb, _, none⟩) hbb]
        exact hc j v hv
      clear hc
      have t0 := tc 0 _ rfl
      have t1 := tc 1 _ rfl
      have t2 := tc 2 _ rfl
      have t3 := tc 3 _ rfl
      have t4 := tc 4 _ rfl
      have t5 := tc 5 _ rfl
      have t6 := tc 6 _ rfl
      have t7 := tc 7 _ rfl
      have t8 := tc 8 _ rfl
      have t9 := tc 9 _ rfl
      have t10 := tc 10 _ rfl
      clear tc
      rw [Nat.add_zero] at t0
      have K0 := hidden (Blk.new wr 34 (osL o))
      have H0 := hidden (hI.out.later (below_alloc (o := .cells (osL o).toArray 34)))
      obtain ⟨k, on, s, n, x, y, ⟨m1, m2, m3, m4, m5⟩⟩ := o
      simp only [osL] at *
      have HNN := hidden HO.out.n.2
      have HMM := hidden HO.out.a.wi.2
      simp only at HNN HMM
      obtain ⟨ow, how⟩ : ∃ ow, (s.toList == T.toList) = ow := ⟨_, rfl⟩
      have HOW : Hid (ow = decide (s = T)) := hidden (by rw [← how]; exact str_eq s T)
      by_cases hk5 : k = 5
      · subst hk5
        go_wp2_with fail
        refine ⟨⟨i + 1, g, g', by first | rfl | simp, by omega, H0⟩, ?_⟩
        show len - ((i : Int) + 1).toNat < len - (i : Int).toNat
        omega
      · have hk5' : (k == 5) = false := by simpa using hk5
        go_upto_block 2 with fail
        have HLT := hidden hlt
        clear t0 t1 t2 t3 t4 t5 t6 t7 t8 t9 t10 hlt hi how hk5' hbb
        go_cut [10, 11] from 34 to 179 (fun s10 s11 wx => ∃ (c1 c2 : Int) (g1 g2 : Gk), s10 = .int .i64 c1 ∧ s11 = .int .i64 c2 ∧ Hid (ow = true → c1 = c2) ∧ Hid (TB w wx p b p' b' g1 g2 T) ∧ Hid (Blk wx wr.heap.size 34 [.int .i64 k, .int .i64 on, .string s, .int .i64 n, .int .i64 x, .int .i64 y, .int .i64 m1, .int .i64 m2, .int .i64 m3, .int .i64 m4, .int .i64 m5]))
        case first =>
          rcases (show k = 0 ∨ k = 1 ∨ k = 2 ∨ k = 3 ∨ k = 4 ∨ (¬ k = 0 ∧ ¬ k = 1 ∧ ¬ k = 2 ∧ ¬ k = 3 ∧ ¬ k = 4) by omega) with rfl | rfl | rfl | rfl | rfl | ⟨q0, q1, q2, q3, q4⟩
          · -- kind 0
            rcases Bool.eq_false_or_eq_true ow with rfl | rfl
            · have hsT : s = T := by simpa using HOW.out.symm
              subst hsT
              have HC1 := hidden (setP s x y p b g _ H0.out.one)
              try unfold aV aL at HC1
              go_wp2_with (first
              | (refine HC1.out.mono ?_; clear HC1; rintro e w4 ⟨rfl, h4, c4⟩; have H4 := hidden h4; have C4 := hidden c4; have K4 := hidden (c4.blk K0.out (tg_ne H0.out.one K0.out)); clear h4 c4; obtain ⟨_, _, f2, _, f4, f5, _, _, _, _, _⟩ := os_cells (o := ⟨0, on, s, n, x, y, ⟨m1, m2, m3, m4, m5⟩⟩) K4.out; simp only at f2 f4 f5; have HC2 := hidden (setP s x y p' b' g' _ (H0.out.right C4.out)))
              | (refine HC2.out.mono ?_; clear HC2; rintro e w5 ⟨rfl, h5, c5⟩; have H5 := hidden h5; have C5 := hidden c5; clear h5 c5))
              go_meet
              exact ⟨_, _, _, _, rfl, rfl, hidden (fun _ => (putA_same ⟨x, y, 0, 0, 0⟩ H0.out.same).1), hidden (H0.out.both H4.out C4.out H5.out C5.out (putA_same ⟨x, y, 0, 0, 0⟩ H0.out.same).2), hidden (C5.out.blk K4.out (tg_ne (H0.out.right C4.out) K4.out))⟩
            · have hsT : ¬ s = T := by simpa using HOW.out.symm
              have HC1 := hidden (setP s x y p b g _ H0.out.one)
              try unfold aV aL at HC1
              go_wp2_with (first
              | (refine HC1.out.mono ?_; clear HC1; rintro e w4 ⟨rfl, h4, c4⟩; have H4 := hidden h4; have C4 := hidden c4; have K4 := hidden (c4.blk K0.out (tg_ne H0.out.one K0.out)); clear h4 c4; obtain ⟨_, _, f2, _, f4, f5, _, _, _, _, _⟩ := os_cells (o := ⟨0, on, s, n, x, y, ⟨m1, m2, m3, m4, m5⟩⟩) K4.out; simp only at f2 f4 f5))
              go_meet
              exact ⟨_, _, _, _, rfl, rfl, hidden (fun h => by cases h), hidden (H0.out.left H4.out C4.out (by rw [put_off _ _ hsT]; exact H0.out.same)), K4⟩
          · -- kind 1
            rcases Bool.eq_false_or_eq_true ow with rfl | rfl
            · have hsT : s = T := by simpa using HOW.out.symm
              subst hsT
              have HC1 := hidden (dropP s p b g _ H0.out.one)
              try unfold aV aL at HC1
              go_wp2_with (first
              | (refine HC1.out.mono ?_; clear HC1; rintro e w4 ⟨rfl, h4, c4⟩; have H4 := hidden h4; have C4 := hidden c4; have K4 := hidden (c4.blk K0.out (tg_ne H0.out.one K0.out)); clear h4 c4; obtain ⟨_, _, f2, _, _, _, _, _, _, _, _⟩ := os_cells (o := ⟨1, on, s, n, x, y, ⟨m1, m2, m3, m4, m5⟩⟩) K4.out; simp only at f2; have HC2 := hidden (dropP s p' b' g' _ (H0.out.right C4.out)))
              | (refine HC2.out.mono ?_; clear HC2; rintro e w5 ⟨rfl, h5, c5⟩; have H5 := hidden h5; have C5 := hidden c5; clear h5 c5))
              go_meet
              exact ⟨_, _, _, _, rfl, rfl, hidden (fun _ => rfl), hidden (H0.out.both H4.out C4.out H5.out C5.out (by rw [updA_same, updA_same])), hidden (C5.out.blk K4.out (tg_ne (H0.out.right C4.out) K4.out))⟩
            · have hsT : ¬ s = T := by simpa using HOW.out.symm
              have HC1 := hidden (dropP s p b g _ H0.out.one)
              try unfold aV aL at HC1
              go_wp2_with (first
              | (refine HC1.out.mono ?_; clear HC1; rintro e w4 ⟨rfl, h4, c4⟩; have H4 := hidden h4; have C4 := hidden c4; have K4 := hidden (c4.blk K0.out (tg_ne H0.out.one K0.out)); clear h4 c4; obtain ⟨_, _, f2, _, _, _, _, _, _, _, _⟩ := os_cells (o := ⟨1, on, s, n, x, y, ⟨m1, m2, m3, m4, m5⟩⟩) K4.out; simp only at f2))
              go_meet
              exact ⟨_, _, _, _, rfl, rfl, hidden (fun h => by cases h), hidden (H0.out.left H4.out C4.out (by rw [updA_off _ _ hsT]; exact H0.out.same)), K4⟩
          · -- kind 2
            rcases Bool.eq_false_or_eq_true ow with rfl | rfl
            · have hsT : s = T := by simpa using HOW.out.symm
              subst hsT
              have HC1 := hidden (takeP s n x y p b g _ H0.out.one HNN.out)
              try unfold aV aL at HC1
              go_wp2_with (first
              | (refine HC1.out.mono ?_; clear HC1; rintro e w4 ⟨rfl, h4, c4⟩; have H4 := hidden h4; have C4 := hidden c4; have K4 := hidden (c4.blk K0.out (tg_ne H0.out.one K0.out)); clear h4 c4; obtain ⟨_, _, f2, f3, f4, f5, _, _, _, _, _⟩ := os_cells (o := ⟨2, on, s, n, x, y, ⟨m1, m2, m3, m4, m5⟩⟩) K4.out; simp only at f2 f3 f4 f5; have HC2 := hidden (takeP s n x y p' b' g' _ (H0.out.right C4.out) HNN.out))
              | (refine HC2.out.mono ?_; clear HC2; rintro e w5 ⟨rfl, h5, c5⟩; have H5 := hidden h5; have C5 := hidden c5; clear h5 c5))
              go_meet
              exact ⟨_, _, _, _, rfl, rfl, hidden (fun _ => (takeA_same n x y H0.out.same).1), hidden (H0.out.both H4.out C4.out H5.out C5.out (takeA_same n x y H0.out.same).2), hidden (C5.out.blk K4.out (tg_ne (H0.out.right C4.out) K4.out))⟩
            · have hsT : ¬ s = T := by simpa using HOW.out.symm
              have HC1 := hidden (takeP s n x y p b g _ H0.out.one HNN.out)
              try unfold aV aL at HC1
              go_wp2_with (first
              | (refine HC1.out.mono ?_; clear HC1; rintro e w4 ⟨rfl, h4, c4⟩; have H4 := hidden h4; have C4 := hidden c4; have K4 := hidden (c4.blk K0.out (tg_ne H0.out.one K0.out)); clear h4 c4; obtain ⟨_, _, f2, f3, f4, f5, _, _, _, _, _⟩ := os_cells (o := ⟨2, on, s, n, x, y, ⟨m1, m2, m3, m4, m5⟩⟩) K4.out; simp only at f2 f3 f4 f5))
              go_meet
              exact ⟨_, _, _, _, rfl, rfl, hidden (fun h => by cases h), hidden (H0.out.left H4.out C4.out (by rw [take_off _ _ _ _ hsT]; exact H0.out.same)), K4⟩
          · -- kind 3
            rcases Bool.eq_false_or_eq_true ow with rfl | rfl
            · have hsT : s = T := by simpa using HOW.out.symm
              subst hsT
              have HC1 := hidden (takeP s n x y p b g _ H0.out.one HNN.out)
              try unfold aV aL at HC1
              go_wp2_with (first
              | (refine HC1.out.mono ?_; clear HC1; rintro e w4 ⟨rfl, h4, c4⟩; have H4 := hidden h4; have C4 := hidden c4; have K4 := hidden (c4.blk K0.out (tg_ne H0.out.one K0.out)); clear h4 c4; obtain ⟨_, _, f2, f3, f4, f5, _, _, _, _, _⟩ := os_cells (o := ⟨3, on, s, n, x, y, ⟨m1, m2, m3, m4, m5⟩⟩) K4.out; simp only at f2 f3 f4 f5; have HC2 := hidden (takeP s n x y p' b' g' _ (H0.out.right C4.out) HNN.out))
              | (refine HC2.out.mono ?_; clear HC2; rintro e w5 ⟨rfl, h5, c5⟩; have H5 := hidden h5; have C5 := hidden c5; clear h5 c5))
              go_meet
              exact ⟨_, _, _, _, rfl, rfl, hidden (fun _ => (takeA_same n x y H0.out.same).1), hidden (H0.out.both H4.out C4.out H5.out C5.out (takeA_same n x y H0.out.same).2), hidden (C5.out.blk K4.out (tg_ne (H0.out.right C4.out) K4.out))⟩
            · have hsT : ¬ s = T := by simpa using HOW.out.symm
              have HC1 := hidden (takeP s n x y p b g _ H0.out.one HNN.out)
              try unfold aV aL at HC1
              go_wp2_with (first
              | (refine HC1.out.mono ?_; clear HC1; rintro e w4 ⟨rfl, h4, c4⟩; have H4 := hidden h4; have C4 := hidden c4; have K4 := hidden (c4.blk K0.out (tg_ne H0.out.one K0.out)); clear h4 c4; obtain ⟨_, _, f2, f3, f4, f5, _, _, _, _, _⟩ := os_cells (o := ⟨3, on, s, n, x, y, ⟨m1, m2, m3, m4, m5⟩⟩) K4.out; simp only at f2 f3 f4 f5))
              go_meet
              exact ⟨_, _, _, _, rfl, rfl, hidden (fun h => by cases h), hidden (H0.out.left H4.out C4.out (by rw [take_off _ _ _ _ hsT]; exact H0.out.same)), K4⟩
          · -- kind 4
            rcases Bool.eq_false_or_eq_true ow with rfl | rfl
            · have hsT : s = T := by simpa using HOW.out.symm
              subst hsT
              have HC1 := hidden (putP s ⟨m1, m2, m3, m4, m5⟩ p b g _ H0.out.one HMM.out)
              try unfold aV aL at HC1
              go_wp2_with (first
              | (refine HC1.out.mono ?_; clear HC1; rintro e w4 ⟨rfl, h4, c4⟩; have H4 := hidden h4; have C4 := hidden c4; have K4 := hidden (c4.blk K0.out (tg_ne H0.out.one K0.out)); clear h4 c4; obtain ⟨_, _, f2, _, _, _, f6, f7, f8, f9, f10⟩ := os_cells (o := ⟨4, on, s, n, x, y, ⟨m1, m2, m3, m4, m5⟩⟩) K4.out; simp only at f2 f6 f7 f8 f9 f10; have HC2 := hidden (putP s ⟨m1, m2, m3, m4, m5⟩ p' b' g' _ (H0.out.right C4.out) HMM.out); unfold aV aL at HC2)
              | (refine HC2.out.mono ?_; clear HC2; rintro e w5 ⟨rfl, h5, c5⟩; have H5 := hidden h5; have C5 := hidden c5; clear h5 c5))
              go_meet
              exact ⟨_, _, _, _, rfl, rfl, hidden (fun _ => (putA_same ⟨m1, m2, m3, m4, m5⟩ H0.out.same).1), hidden (H0.out.both H4.out C4.out H5.out C5.out (putA_same ⟨m1, m2, m3, m4, m5⟩ H0.out.same).2), hidden (C5.out.blk K4.out (tg_ne (H0.out.right C4.out) K4.out))⟩
            · have hsT : ¬ s = T := by simpa using HOW.out.symm
              have HC1 := hidden (putP s ⟨m1, m2, m3, m4, m5⟩ p b g _ H0.out.one HMM.out)
              try unfold aV aL at HC1
              go_wp2_with (first
              | (refine HC1.out.mono ?_; clear HC1; rintro e w4 ⟨rfl, h4, c4⟩; have H4 := hidden h4; have C4 := hidden c4; have K4 := hidden (c4.blk K0.out (tg_ne H0.out.one K0.out)); clear h4 c4; obtain ⟨_, _, f2, _, _, _, f6, f7, f8, f9, f10⟩ := os_cells (o := ⟨4, on, s, n, x, y, ⟨m1, m2, m3, m4, m5⟩⟩) K4.out; simp only at f2 f6 f7 f8 f9 f10))
              go_meet
              exact ⟨_, _, _, _, rfl, rfl, hidden (fun h => by cases h), hidden (H0.out.left H4.out C4.out (by rw [put_off _ _ hsT]; exact H0.out.same)), K4⟩
          · go_wp2_with fail
            go_meet
            exact ⟨_, _, _, _, rfl, rfl, hidden (fun _ => rfl), H0, K0⟩
        case rest =>
          obtain ⟨c1, c2, g1, g2, rfl, rfl, hcc, H4, K4⟩ := hcut
          clear hk5 H0 K0 hI g g'
          have f3 := (os_cells (o := ⟨k, on, s, n, x, y, ⟨m1, m2, m3, m4, m5⟩⟩) K4.out).2.2.2.1
          simp only at f3
          have HR1 := hidden (roomBP T n p b g1 wc H4.out.one)
          have HG : Hid (getA g2 T = getA g1 T ∧ (g2 T).isSome = (g1 T).isSome) := hidden (by unfold getA; rw [H4.out.same]; exact ⟨rfl, rfl⟩)
          obtain ⟨r1, hr1⟩ : ∃ r, (roomA (getA g1 T) n).1 = r := ⟨_, rfl⟩
          obtain ⟨r2, hr2⟩ : ∃ r, (roomA (getA g1 T) n).2 = r := ⟨_, rfl⟩
          have HRR := hidden (And.intro hr1 hr2)
          rw [hr1, hr2] at HR1
          clear hr1 hr2
          obtain ⟨a1, ha1⟩ : ∃ a, getA g1 T = a := ⟨_, rfl⟩
          obtain ⟨ks, hks⟩ : ∃ a, (g1 T).isSome = a := ⟨_, rfl⟩
          have HAK := hidden (And.intro ha1 hks)
          clear ha1 hks
          obtain ⟨q1, q2, q3, q4, q5⟩ := a1
          have hec : ow = false ∨ c1 = c2 := by
            cases ow
            · exact .inl rfl
            · exact .inr (hcc.out rfl)
          clear hcc HOW
          rcases hec with rfl | rfl
          all_goals
            go_wp2_with (first
              | (refine HR1.out.mono ?_; clear HR1; rintro e w5 ⟨rfl, b5⟩; have H5 := hidden (H4.out.later b5); have K5 := hidden (K4.out.later b5); clear b5; have f5 := (os_cells (o := ⟨k, on, s, n, x, y, ⟨m1, m2, m3, m4, m5⟩⟩) K5.out).2.2.2.1; simp only at f5; have HR2 := hidden (roomBP T n p' b' g2 w5 H5.out.two); rw [HG.out.1, HRR.out.1, HRR.out.2] at HR2)
              | (refine HR2.out.mono ?_; clear HR2; rintro e w6 ⟨rfl, b6⟩; have H6 := hidden (H5.out.later b6); clear b6; have HQ1 := hidden (getP T p b g1 w6 H6.out.one); rw [HAK.out.1, HAK.out.2] at HQ1; unfold aV aL at HQ1)
              | (refine HQ1.out.mono ?_; clear HQ1; rintro e w7 ⟨rfl, b7⟩; have H7 := hidden (H6.out.later b7); clear b7; have H8 := hidden (H7.out.later (below_alloc (o := .cells [.int .i64 q1, .int .i64 q2, .int .i64 q3, .int .i64 q4, .int .i64 q5].toArray 32))); have K8 := hidden (Blk.new w7 32 [.int .i64 q1, .int .i64 q2, .int .i64 q3, .int .i64 q4, .int .i64 q5]); have HQ2 := hidden (getP T p' b' g2 _ H8.out.two); rw [HG.out.1, HG.out.2, HAK.out.1, HAK.out.2] at HQ2; unfold aV aL at HQ2)
              | (refine HQ2.out.mono ?_; clear HQ2; rintro e w9 ⟨rfl, b9⟩; have H9 := hidden (H8.out.later b9); have K9 := hidden (K8.out.later b9); clear b9; have zl := K9.out.lt; have z0 := K9.out.cell 0; have z1 := K9.out.cell 1; have z2 := K9.out.cell 2; have z3 := K9.out.cell 3; have z4 := K9.out.cell 4; simp only [List.getElem?_cons_zero, List.getElem?_cons_succ] at z0 z1 z2 z3 z4))
            all_goals
              have hlt := HLT.out
              refine ⟨⟨i + 1, g1, g2, by first | rfl | simp, by omega, hidden (H9.out.later (below_alloc))⟩, ?_⟩
              show len - ((i : Int) + 1).toNat < len - (i : Int).toNat
              omega
    · have hend : ¬ ((i : Int) < (len : Int)) ∨ ((i : Int) < (len : Int) ∧ ¬ (i : Int) < 2000) := by omega
      rcases hend with h1 | ⟨h1, h2⟩
      all_goals
        go_wp2_with fail
        go_ret
        exact ⟨rfl, hI.out.bel⟩

end Go.Proofs.Ythkmbodpboplfaa
