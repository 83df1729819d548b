import Derived.Test.YtanlgplgplncdaaGreatDoorPuN
import Derived.Test.YtanlgplgplncdaaGreatDoorQaJ
import Derived.Test.YtanlgplgplncdaaGreatDoorMtI
import Derived.Test.YtanlgplgplncdaaGreatDoorReM
/-
  Classes in order, purely.
-/
namespace Go.Proofs.YtanlgplgplncdaaGreatDoor
open Go.RowKit
set_option linter.unusedVariables false
set_option linter.unusedSimpArgs false

def Tidy : Sn → Prop
  | [] => True
  | s :: t => s.1 ≤ s.2 ∧ Vc s.1 ∧ Vc s.2 ∧ (∀ o ∈ t, s.2 + 1 < o.1) ∧ Tidy t


theorem tidy_app : ∀ (a b : Sn), Tidy (a ++ b) ↔ Tidy a ∧ Tidy b ∧ ∀ o ∈ a, ∀ s ∈ b, o.2 + 1 < s.1
  | [], b => by simp [Tidy]
  | o :: t, b => by
    rw [List.cons_append, Tidy, Tidy, tidy_app t b]
    constructor
    · rintro ⟨h1, h2, h3, h4, h5, h6, h7⟩
      refine ⟨⟨h1, h2, h3, fun s hs => h4 s (List.mem_append.2 (.inl hs)), h5⟩, h6, fun p hp s hs => ?_⟩
      rcases List.mem_cons.1 hp with rfl | hp
      · exact h4 s (List.mem_append.2 (.inr hs))
      · exact h7 p hp s hs
    · rintro ⟨⟨h1, h2, h3, h4, h5⟩, h6, h7⟩
      refine ⟨h1, h2, h3, fun s hs => ?_, h5, h6, fun p hp s hs => h7 p (List.mem_cons.2 (.inr hp)) s hs⟩
      rcases List.mem_append.1 hs with hs | hs
      · exact h4 s hs
      · exact h7 o (List.mem_cons.2 (.inl rfl)) s hs
theorem tidy_le : ∀ {l : Sn}, Tidy l → ∀ o ∈ l, o.1 ≤ o.2 ∧ Vc o.1 ∧ Vc o.2
  | [], h, o, ho => by cases ho
  | s :: t, h, o, ho => by
    rw [Tidy] at h
    rcases List.mem_cons.1 ho with rfl | ho
    · exact ⟨h.1, h.2.1, h.2.2.1⟩
    · exact tidy_le h.2.2.2.2 o ho
theorem tidy_one {x : Nat × Nat} (h : x.1 ≤ x.2) (h1 : Vc x.1) (h2 : Vc x.2) : Tidy [x] := by
  rw [Tidy]
  exact ⟨h, h1, h2, (fun o ho => by cases ho), by rw [Tidy]; trivial⟩
theorem withF_tidy : ∀ (l : Sn) (x : Nat × Nat) (ah be : Sn), Tidy l → Tidy ah → Tidy be → x.1 ≤ x.2 → Vc x.1 → Vc x.2 → (∀ o ∈ ah, o.2 + 1 < x.1) → (∀ o ∈ be, x.2 + 1 < o.1) → (∀ o ∈ ah, ∀ s ∈ l, o.2 + 1 < s.1) → (∀ o ∈ be, ∀ s ∈ l, o.2 + 1 < s.1) → Tidy (withF l x ah be)
  | [], x, ah, be, hl, ha, hb, hx, hv, hw, h1, h2, h3, h4 => by
    rw [withF, tidy_app, tidy_app]
    refine ⟨⟨ha, tidy_one hx hv hw, fun o ho s hs => by rw [List.mem_singleton.1 hs]; exact h1 o ho⟩, hb, fun o ho s hs => ?_⟩
    have hs2 := h2 s hs
    rcases List.mem_append.1 ho with ho | ho
    · have := h1 o ho; omega
    · rw [List.mem_singleton.1 ho]; exact hs2
  | o :: t, x, ah, be, hl, ha, hb, hx, hv, hw, h1, h2, h3, h4 => by
    rw [Tidy] at hl
    obtain ⟨l1, l2, l3, l4, l5⟩ := hl
    have hbe : ¬ x.2 + 1 < o.1 → be = [] := fun hn => by
      cases be with
      | nil => rfl
      | cons b bs =>
        have e1 := h2 b (List.mem_cons.2 (.inl rfl))
        have e2 := h4 b (List.mem_cons.2 (.inl rfl)) o (List.mem_cons.2 (.inl rfl))
        have e3 := (tidy_le hb b (List.mem_cons.2 (.inl rfl))).1
        omega
    rw [withF]
    by_cases c1 : o.2 + 1 < x.1
    · rw [if_pos c1]
      have hb0 := hbe (by omega)
      subst hb0
      refine withF_tidy t x (ah ++ [o]) [] l5 ((tidy_app _ _).2 ⟨ha, tidy_one l1 l2 l3, fun p hp s hs => by rw [List.mem_singleton.1 hs]; exact h3 p hp o (List.mem_cons.2 (.inl rfl))⟩) hb hx hv hw (fun p hp => ?_) (fun p hp => by cases hp) (fun p hp s hs => ?_) (fun p hp => by cases hp)
      · rcases List.mem_append.1 hp with hp | hp
        · exact h1 p hp
        · rw [List.mem_singleton.1 hp]; exact c1
      · rcases List.mem_append.1 hp with hp | hp
        · exact h3 p hp s (List.mem_cons.2 (.inr hs))
        · rw [List.mem_singleton.1 hp]; exact l4 s hs
    · rw [if_neg c1]
      by_cases c2 : x.2 + 1 < o.1
      · rw [if_pos c2]
        refine withF_tidy t x ah (be ++ [o]) l5 ha ((tidy_app _ _).2 ⟨hb, tidy_one l1 l2 l3, fun p hp s hs => by rw [List.mem_singleton.1 hs]; exact h4 p hp o (List.mem_cons.2 (.inl rfl))⟩) hx hv hw h1 (fun p hp => ?_) (fun p hp s hs => h3 p hp s (List.mem_cons.2 (.inr hs))) (fun p hp s hs => ?_)
        · rcases List.mem_append.1 hp with hp | hp
          · exact h2 p hp
          · rw [List.mem_singleton.1 hp]; exact c2
        · rcases List.mem_append.1 hp with hp | hp
          · exact h4 p hp s (List.mem_cons.2 (.inr hs))
          · rw [List.mem_singleton.1 hp]; exact l4 s hs
      · rw [if_neg c2]
        have hb0 := hbe c2
        subst hb0
        have hmin : Vc (min o.1 x.1) := by rcases Nat.le_total o.1 x.1 with h | h
                                           · rw [Nat.min_eq_left h]; exact l2
                                           · rw [Nat.min_eq_right h]; exact hv
        have hmax : Vc (max o.2 x.2) := by rcases Nat.le_total o.2 x.2 with h | h
                                           · rw [Nat.max_eq_right h]; exact hw
                                           · rw [Nat.max_eq_left h]; exact l3
        refine withF_tidy t (min o.1 x.1, max o.2 x.2) ah [] l5 ha hb (by show min o.1 x.1 ≤ max o.2 x.2; omega) hmin hmax (fun p hp => ?_) (fun p hp => by cases hp) (fun p hp s hs => h3 p hp s (List.mem_cons.2 (.inr hs))) (fun p hp => by cases hp)
        have e1 := h1 p hp
        have e2 := h3 p hp o (List.mem_cons.2 (.inl rfl))
        show p.2 + 1 < min o.1 x.1
        omega
theorem withS_tidy {l : Sn} {x : Nat × Nat} (hl : Tidy l) (hx : x.1 ≤ x.2) (hv : Vc x.1) (hw : Vc x.2) : Tidy (withS l x) :=
  withF_tidy l x [] [] hl (by rw [Tidy]; trivial) (by rw [Tidy]; trivial) hx hv hw (fun o h => by cases h) (fun o h => by cases h) (fun o h => by cases h) (fun o h => by cases h)

open Classical in
noncomputable def mB (l : List (List Pt)) (L : List UInt8) : Bool := decide (Means l L)
theorem mB_iff (l : List (List Pt)) (L : List UInt8) : mB l L = true ↔ Means l L := by unfold mB; exact @decide_eq_true_iff _ (Classical.propDecidable _)

end Go.Proofs.YtanlgplgplncdaaGreatDoor

/-
  The document's Parse.
-/
namespace Go.Proofs.YtanlgplgplncdaaGreatDoor
open Go.RowKit
set_option linter.unusedVariables false
set_option linter.unusedSimpArgs false

/-- The document's pattern in memory. -/
structure PaN (F : Nat → Prop) (w : World) (p : Nat) (l : List (List Pt)) (u : List Value) : Prop where
  blk : Blk w p 127 u
  an : AnV F w l u
  lt : ∀ b, F b → b < w.heap.size
theorem PaN.later {F : Nat → Prop} {w w' : World} {p : Nat} {l : List (List Pt)} {u : List Value} (h : PaN F w p l u) (hb : Below w.heap.size w w') : PaN F w' p l u :=
  ⟨h.blk.later hb, h.an.keep (Chg.of_below (F := fun _ => False) hb) (fun _ _ h => h), fun b hb' => Nat.lt_of_lt_of_le (h.lt b hb') hb.size⟩
/-- What the document's Parse answers. -/
def ParN (s : ByteArray) (w : World) (e : Ending) (w' : World) : Prop :=
  Below w.heap.size w w' ∧ ((∃ p F l b u, prs (bts s) = .ok l b ∧ e = .returned (.tuple #[.pointer (some ⟨p, 0, none⟩), .int .i64 0, .int .i64 0]) ∧ PaN F w' p l u) ∨
    (∃ k : Nat, prs (bts s) = .bad k ∧ e = .returned (.tuple #[.pointer none, .int .i64 (k : Int), .int .i64 80])))
theorem RU.rx {w wx : World} {ra : Option Addr} {n rc : Nat} {aa : Option Addr} {m ac : Nat} {rl : List Int} {al : List Nat} (h : RU w wx ra n rc aa m ac rl al) (hm : 0 < m) : ∃ rb ab, (∀ (j : Nat) (c : Int), rl[j]? = some c → ra = some ⟨rb, 0, none⟩ ∧ wx.cell? ⟨rb, j, none⟩ = some (.int .i32 c)) ∧ aa = some ⟨ab, 0, none⟩ ∧ (∀ (j a : Nat), al[j]? = some a → wx.cell? ⟨ab, j, none⟩ = some (.int .i64 (a : Int))) ∧ w.heap.size ≤ rb ∧ rb < wx.heap.size ∧ w.heap.size ≤ ab ∧ ab < wx.heap.size := by
  rcases h.o2.2 with ⟨_, e⟩ | ⟨ab, cap, cur, e0, hb, _⟩
  · omega
  · injection e0 with e0 _ _
    subst e0
    have hal : ab < wx.heap.size := owns_lt h.o2 ab (by simp [Value.ownBlock])
    have hA : ∀ (j a : Nat), al[j]? = some a → wx.cell? ⟨ab, j, none⟩ = some (.int .i64 (a : Int)) := fun j a hj => by
      have := h.o2.cells (g := ab) (by simp [Value.ownBlock]) j (.int .i64 (a : Int)) (by simp [c64, hj])
      rw [Addr.add_lit, Nat.zero_add] at this
      exact this
    rcases h.o1.2 with ⟨_, e⟩ | ⟨rb, cap1, cur1, e1, hb1, _⟩
    · refine ⟨ab, ab, fun j c hj => ?_, rfl, hA, hb, hal, hb, hal⟩
      have hl := h.o1.1
      rw [e] at hl
      simp [c32] at hl
      rw [hl] at hj
      simp at hj
    · injection e1 with e1 _ _
      subst e1
      refine ⟨rb, ab, fun j c hj => ⟨rfl, ?_⟩, rfl, hA, hb1, owns_lt h.o1 rb (by simp [Value.ownBlock]), hb, hal⟩
      have := h.o1.cells (g := rb) (by simp [Value.ownBlock]) j (.int .i32 c) (by simp [c32, hj])
      rw [Addr.add_lit, Nat.zero_add] at this
      exact this

set_option maxRecDepth 100000 in
set_option maxHeartbeats 0 in
theorem parseN (B : Nat) (s : ByteArray) (w : World) (hT : Tb B w) : Calls Tryz.prog 45 #[.string s] w (ParN s w) := by
  have hsb := size_bts s
  by_cases h64 : s.size ≤ 64
  · have h64z : ¬ (64 : Int) < (s.size : Int) := by omega
    obtain ⟨w1, hw1, hB1, hb1, hs1⟩ : ∃ w1, w.alloc (.cells #[.slice none 0 0, .slice none 0 0, .int .i64 0, .int .i64 0, .int .i64 (-1)] 117) = w1 ∧ Blk w1 w.heap.size 117 [.slice none 0 0, .slice none 0 0, .int .i64 0, .int .i64 0, .int .i64 (-1)] ∧ Below w.heap.size w w1 ∧ w1.heap.size = w.heap.size + 1 := one_new w 117 [.slice none 0 0, .slice none 0 0, .int .i64 0, .int .i64 0, .int .i64 (-1)]
    have kR := runesR B s w1 (by omega) (hT.later hb1)
    have HW1 := hidden hw1
    have B1 := hidden hB1
    have HB1 := hidden hb1
    obtain ⟨R, hR⟩ : ∃ R, rowsF (bts s) (4 * (bts s).length + 4) 0 0 = R := ⟨_, rfl⟩
    have hno : R ≠ .out := by rw [← hR]; exact (read_bd (bts s) (4 * (bts s).length + 4) 0 0 (by omega)).1.2 (by omega)
    have HPR : Hid (prs (bts s) = endF (bts s) R) := hidden (by unfold prs; rw [if_neg (by omega), hR])
    have HR := hidden hR
    have HNO := hidden hno
    have HS1 := hidden hs1
    have HSB := hidden hsb
    clear hw1 hB1 hb1 hs1 hR hno hT hsb
    unfold RunesR at kR
    go_enter Tryz.func45, Tryz.ntmps45
    go_upto_region 4 with fail
    rw [HW1.out]
    clear HW1
    have x0 : w1.cell? ⟨w.heap.size, 0, none⟩ = some (.slice none 0 0) := B1.out.cell 0
    go_upto_region 5 with (go_at_call 59; refine kR.mono ?_; rintro e w2 ⟨ra, n, rc, aa, ac, rl, al, rfl, hN, hU, hns⟩; have HN := hidden hN; have HU := hidden hU; have B2 := hidden (B1.out.later (hU.bel.mono (Nat.le_refl _))); have y0 : w2.cell? ⟨w.heap.size, 0, none⟩ = some (.slice none 0 0) := B2.out.cell 0; have fy0 := B2.out.frozen 0; have y1 : (w2.setCell ⟨w.heap.size, 0, none⟩ (.slice ra n rc)).cell? ⟨w.heap.size, 1, none⟩ = some (.slice none 0 0) := (B2.out.set 0 _).cell 1; have fy1 := (B2.out.set 0 (.slice ra n rc)).frozen 1; clear kR hN hU)
    obtain ⟨w3, hw3⟩ : ∃ w3, (w2.setCell ⟨w.heap.size, 0, none⟩ (.slice ra n rc)).setCell ⟨w.heap.size, 1, none⟩ (.slice aa (n + 1) ac) = w3 := ⟨_, rfl⟩
    rw [hw3]
    have B3 : Blk w3 w.heap.size 117 [.slice ra n rc, .slice aa (n + 1) ac, .int .i64 0, .int .i64 0, .int .i64 (-1)] := by rw [← hw3]; exact (B2.out.set 0 _).set 1 _
    have C3 : Chg (fun b => b = w.heap.size) w2 w3 := by
      rw [← hw3]
      exact (Chg.set ⟨w.heap.size, 0, none⟩ _ w2).put 1 _
    clear hw3 y0 fy0 y1 fy1 x0
    obtain ⟨rb, ab, q1, q2, q3, q4, q5, q6, q7⟩ := HU.out.rx (by omega)
    subst q2
    have hll := HN.out.len
    have hrl : rl.length = n := by have := HU.out.o1.1; simpa [c32] using this
    have hal : al.length = n + 1 := by rw [hll.1, hrl]
    have hs1 := HS1.out
    have R3 : Rr w3 w.heap.size ⟨some ⟨rb, 0, none⟩, rc, ac, rb, ab, rl, al⟩ 0 0 (-1) ∨ rl = [] := by
      by_cases h0 : rl = []
      · exact .inr h0
      · left
        have hra : ra = some ⟨rb, 0, none⟩ := by
          cases rl with
          | nil => exact absurd rfl h0
          | cons x t => exact (q1 0 x rfl).1
        refine ⟨?_, fun j c hj => ⟨rfl, ?_⟩, fun j a hj => ?_, ⟨by show rb ≠ _; omega, by show ab ≠ _; omega⟩, ?_⟩
        · show Blk w3 w.heap.size 117 [.slice (some ⟨rb, 0, none⟩) rl.length rc, .slice (some ⟨ab, 0, none⟩) al.length ac, _, _, _]
          rw [hrl, hal, ← hra]; exact B3
        · have := (q1 j c hj).2
          exact (World.cell?_of_block (C3.block rb (cell_lt this) (fun e => by have e' : rb = w.heap.size := e; omega))).trans this
        · have := q3 j a hj
          exact (World.cell?_of_block (C3.block ab (cell_lt this) (fun e => by have e' : ab = w.heap.size := e; omega))).trans this
        · exact ⟨by show rl.length ≤ _; omega, by show al.length ≤ _; omega, by omega, by omega⟩
    have R3' : ∃ X : Rx, X.rl = rl ∧ X.al = al ∧ X.rb < w3.heap.size ∧ X.ab < w3.heap.size ∧ Rr w3 w.heap.size X 0 0 (-1) ∧ X.ra = ra ∧ X.rc = rc := by
      have h23 := C3.size
      rcases R3 with h | h0
      · have hx := h.blk
        have : some ⟨rb, 0, none⟩ = ra := by
          have e1 : w3.cell? ⟨w.heap.size, 0, none⟩ = some (.slice (some ⟨rb, 0, none⟩) rl.length rc) := hx.cell 0
          have e2 : w3.cell? ⟨w.heap.size, 0, none⟩ = some (.slice ra n rc) := B3.cell 0
          rw [e1] at e2
          injection e2 with e2
          injection e2 with e2
        exact ⟨_, rfl, rfl, by show rb < _; omega, by show ab < _; omega, h, this, rfl⟩
      · refine ⟨⟨ra, rc, ac, ab, ab, rl, al⟩, rfl, rfl, by show ab < _; omega, by show ab < _; omega, ⟨?_, fun j c hj => ?_, fun j a hj => ?_, ⟨by show ab ≠ _; omega, by show ab ≠ _; omega⟩, ?_⟩, rfl, rfl⟩
        · show Blk w3 w.heap.size 117 [.slice ra rl.length rc, .slice (some ⟨ab, 0, none⟩) al.length ac, _, _, _]
          rw [hrl, hal]; exact B3
        · have hj' : rl[j]? = some c := hj
          rw [h0] at hj'; simp at hj'
        · have := q3 j a hj
          exact (World.cell?_of_block (C3.block ab (cell_lt this) (fun e => by have e' : ab = w.heap.size := e; omega))).trans this
        · exact ⟨by show rl.length ≤ _; omega, by show al.length ≤ _; omega, by omega, by omega⟩
    obtain ⟨X, hXl, hXal, hXr, hXa, hR3, hXra, hXrc⟩ := R3'
    have hA3 : At X (bts s) 0 0 := by unfold At; rw [hXl, hXal]; exact HN.out
    have kA := (readsR (4 * (bts s).length + 4)).1 w.heap.size X (bts s) 0 0 0 w3 hR3 hA3 hXr hXa (by omega) (by rw [HR.out]; exact HNO.out)
    rw [HR.out] at kA
    have HB3 : Hid (Below w.heap.size w w3) := hidden ((HB1.out.trans (HU.out.bel.mono HB1.out.size)).trans (C3.below (by have := HU.out.bel.size; omega) (fun i e => by have e' : i = w.heap.size := e; omega)))
    have HXL : Hid (X.rl.length = n ∧ X.ra = ra ∧ X.rc = rc) := hidden ⟨by rw [hXl]; exact hrl, hXra, hXrc⟩
    have hg3 : w.heap.size < w3.heap.size := hR3.blk.lt
    clear R3 B3 C3 q1 q3 q4 q5 q6 q7 hll hA3 hR3 hXra hXrc hXl hXal HU HN B1 B2 hrl hal
    go_upto_region 6 with (go_at_call 60; refine kA.mono ?_; rintro e w4 ⟨ch4, u4, j4, bad4, rfl, sh4, r4, or4⟩; have C4 := hidden ch4; have R4 := hidden r4; have O4 := hidden or4; obtain ⟨K, A, N', G, ad1, n1, c1, ad2, n2, c2, hu4⟩ := sh4; have HU4 := hidden hu4; rw [hu4]; simp only [nV]; clear kA ch4 r4 or4 hu4)
    obtain ⟨w5, hw5, hB5, hb5, hs5⟩ : ∃ w5, w4.alloc (.cells #[.int .i64 (K : Int), .int .i32 (A : Int), .bool N', .int .u8 (G : Int), .slice ad1 n1 c1, .slice ad2 n2 c2] 123) = w5 ∧ Blk w5 w4.heap.size 123 (nV K A N' G (.slice ad1 n1 c1) (.slice ad2 n2 c2)) ∧ Below w4.heap.size w4 w5 ∧ w5.heap.size = w4.heap.size + 1 := one_new w4 123 (nV K A N' G (.slice ad1 n1 c1) (.slice ad2 n2 c2))
    rw [hw5]
    clear hw5
    have R5 := hidden (R4.out.later hb5)
    have B5 := hidden hB5
    have HB5 := hidden hb5
    have h34 := C4.out.size
    have HB35 : Hid (Below w.heap.size w w5) := hidden ((HB3.out.trans (C4.out.below (by omega) (fun i e => by have e' : i = w.heap.size := e; omega))).trans (hb5.mono (by omega)))
    have z0 : w5.cell? ⟨w.heap.size, 0, none⟩ = some (.slice ra n rc) := by
      have := R5.out.blk.cell 0
      have e : w5.cell? ⟨w.heap.size, 0, none⟩ = some (.slice X.ra X.rl.length X.rc) := this
      rw [HXL.out.1, HXL.out.2.1, HXL.out.2.2] at e
      exact e
    have z2 : w5.cell? ⟨w.heap.size, 2, none⟩ = some (.int .i64 (j4 : Int)) := R5.out.blk.cell 2
    have z4 : w5.cell? ⟨w.heap.size, 4, none⟩ = some (.int .i64 bad4) := R5.out.blk.cell 4
    clear hB5 hb5 hs5
    rcases O4.out with ⟨l, b, q1, rfl, q3, q4, q5⟩ | ⟨k, q1, rfl, q3⟩
    · by_cases hbl : b < s.size
      · -- something is left over
        have hpr : prs (bts s) = .bad b := by rw [HPR.out, q1, endF, if_pos (by rw [← HSB.out]; exact hbl)]
        have hj4 : j4 < n := by
          rcases Nat.lt_or_ge j4 n with h | h
          · exact h
          · have hd : X.rl.drop j4 = [] := List.drop_of_length_le (by rw [HXL.out.1]; exact h)
            have := (Rn.last q4).1 hd
            rw [← HSB.out] at this
            omega
        have hd2 : decide (j4 < n) = true := decide_eq_true hj4
        have hj4z : (j4 : Int) < (n : Int) := by omega
        have HPRB := hidden hpr
        have HAL := hidden q4.al
        clear q1 q3 q4 hpr
        go_wp2_with fail
        go_quiet (fail)
        rename_i nq
        have R6 : Hid (Rr (w5.drewN nq) w.heap.size X j4 0 (-1)) := hidden (R5.out.later (below_drewN (Below.refl _ _) _))
        have HB6 : Hid (Below w.heap.size w (w5.drewN nq)) := hidden (below_drewN HB35.out _)
        generalize w5.drewN nq = w6 at *
        have k17 := placeR b w6 R6.out HAL.out
        go_upto_region 9 with (first
          | (go_at_call 62; refine k17.mono ?_; rintro e w7 ⟨rfl, g7⟩; have R7 := hidden (R6.out.later g7); have HB7 := hidden (HB6.out.trans (g7.mono HB6.out.size)); have k16 := failR (b : Int) w7 R7.out; rw [if_pos (by omega)] at k16; clear k17 g7)
          | (go_at_call 61; refine k16.mono ?_; rintro e w8 ⟨rfl, g8, d8⟩; have R8 := hidden g8; have HB8 := hidden (HB7.out.trans (d8.below HB7.out.size (fun i e => by have e' : i = w.heap.size := e; omega))); have t4 : w8.cell? ⟨w.heap.size, 4, none⟩ = some (.int .i64 (b : Int)) := R8.out.blk.cell 4; clear k16 g8 d8))
        go_quiet (fail)
        go_wp2
        go_ret3
        exact ⟨below_drewN HB8.out _, .inr ⟨b, HPRB.out, rfl⟩⟩
      · -- the pattern
        have hpr : prs (bts s) = .ok l b := by rw [HPR.out, q1, endF, if_neg (by rw [← HSB.out]; exact hbl)]
        have hj4 : ¬ j4 < n := fun h => by
          have hq := q4.len.2.2
          rw [← HSB.out] at hq
          have := (Rn.last q4).2 (by rw [← HSB.out]; omega)
          have := congrArg List.length this
          rw [List.length_drop, HXL.out.1] at this
          simp at this
          omega
        have hd2 : decide (j4 < n) = false := decide_eq_false hj4
        have hj4z : ¬ (j4 : Int) < (n : Int) := by omega
        have HPRB := hidden hpr
        have HAN := hidden q3
        clear q1 q3 q4 hpr
        go_wp2_with fail
        go_quiet (fail)
        rename_i nq
        have R6 : Hid (Rr (w5.drewN nq) w.heap.size X j4 0 (-1)) := hidden (R5.out.later (below_drewN (Below.refl _ _) _))
        have HB6 : Hid (Below w.heap.size w (w5.drewN nq)) := hidden (below_drewN HB35.out _)
        have B6 : Hid (Blk (w5.drewN nq) w4.heap.size 123 (nV K A N' G (.slice ad1 n1 c1) (.slice ad2 n2 c2))) := hidden (B5.out.drewN nq)
        have C46 : Hid (Below w4.heap.size w4 (w5.drewN nq)) := hidden (below_drewN HB5.out _)
        generalize w5.drewN nq = w6 at *
        have t4 : w6.cell? ⟨w.heap.size, 4, none⟩ = some (.int .i64 (-1)) := R6.out.blk.cell 4
        go_wp2_with (refine wpList_load_blk rfl 123 (.tmp 6) rfl w4.heap.size B6.out rfl Tryz.underlying123 rfl info70s ?_; simp only [nV])
        go_ret3
        have hba : Below w6.heap.size w6 (w6.alloc (.cells #[.int .i64 (K : Int), .int .i32 (A : Int), .bool N', .int .u8 (G : Int), .slice ad1 n1 c1, .slice ad2 n2 c2] 127)) := (Below.refl _ _).alloc (Nat.le_refl _) _
        refine ⟨HB6.out.trans (hba.mono HB6.out.size), .inl ⟨w6.heap.size, FW w3 w4, l, b, nV K A N' G (.slice ad1 n1 c1) (.slice ad2 n2 c2), HPRB.out, rfl, Blk.new w6 127 (nV K A N' G (.slice ad1 n1 c1) (.slice ad2 n2 c2)), ?_, fun b hb => ?_⟩⟩
        · rw [← HU4.out]
          exact HAN.out.keep (Chg.of_below (F := fun _ => False) (C46.out.trans (hba.mono C46.out.size))) (fun _ _ h => h)
        · have h1 := hb.2
          have h2 := C46.out.size
          have h3 := hba.size
          omega
    · -- it has failed
      have hpr : prs (bts s) = .bad k := by rw [HPR.out, q1, endF]
      have hk0 : ¬ (k : Int) < 0 := by omega
      have hd1 : decide ((k : Int) < 0) = false := decide_eq_false hk0
      have HPRB := hidden hpr
      clear q1 q3 hpr
      go_wp2_with fail
      go_quiet (fail)
      rename_i nq
      have R6 : Hid (Rr (w5.drewN nq) w.heap.size X j4 0 (k : Int)) := hidden (R5.out.later (below_drewN (Below.refl _ _) _))
      have HB6 : Hid (Below w.heap.size w (w5.drewN nq)) := hidden (below_drewN HB35.out _)
      generalize w5.drewN nq = w6 at *
      have t4 : w6.cell? ⟨w.heap.size, 4, none⟩ = some (.int .i64 (k : Int)) := R6.out.blk.cell 4
      go_wp2_with fail
      go_quiet (fail)
      go_wp2
      go_ret3
      exact ⟨below_drewN HB6.out _, .inr ⟨k, HPRB.out, rfl⟩⟩
  · have h64z : (64 : Int) < (s.size : Int) := by omega
    have HPB : Hid (prs (bts s) = .bad 64) := hidden (by unfold prs; rw [if_pos (by omega)])
    go_enter Tryz.func45, Tryz.ntmps45
    go_wp2
    go_ret3
    exact ⟨Below.refl _ _, .inr ⟨64, HPB.out, rfl⟩⟩

end Go.Proofs.YtanlgplgplncdaaGreatDoor

/-
  The document's own: May, ops.
-/
namespace Go.Proofs.YtanlgplgplncdaaGreatDoor
open Go.RowKit
set_option linter.unusedVariables false
set_option linter.unusedSimpArgs false

theorem tbN {B : Nat} {w : World} (h : L.Tb B w) : Tb B w := h
theorem str_empty (t : ByteArray) : (t.toList == (⟨#[]⟩ : ByteArray).toList) = decide (bts t = []) := by
  have : (t.toList == (⟨#[]⟩ : ByteArray).toList) = decide (t = ⟨#[]⟩) := by
    have hh : ∀ a b : ByteArray, (a.toList == b.toList) = decide (a = b) := fun a b => by
      rw [Bool.eq_iff_iff]
      simp only [beq_iff_eq, decide_eq_true_eq]
      constructor
      · intro h
        have : bts a = bts b := by simpa [bts, ByteArray.toList_eq] using h
        exact L.bts_inj this
      · rintro rfl; rfl
    exact hh _ _
  rw [this]
  by_cases h : t = ⟨#[]⟩
  · rw [decide_eq_true h, decide_eq_true (by rw [h]; rfl)]
  · rw [decide_eq_false h, decide_eq_false (show ¬ bts t = [] from fun e => h (L.bts_inj (show L.bts t = L.bts _ from e)))]

set_option maxRecDepth 100000 in
set_option maxHeartbeats 4000000 in
theorem rmayP (B : Nat) (x : Mt) (w : World) (hx : OkM x) (ht : x.t.size ≤ 4611686018427387904) (hT : L.Tb B w) : Calls Tryz.prog 38 #[.agg (mC x).toArray] w fun e w' => e = .returned (.bool x.may) ∧ Below w.heap.size w w' := by
  obtain ⟨n, op, t⟩ := x
  obtain ⟨h1, h2, h3, h4⟩ := hx
  simp only at h1 h2 h3 h4 ht
  have HT := hidden hT
  have hmay : Mt.may ⟨n, op, t⟩ = (txtOk op (bts t) && L.isName (bts n)) := rfl
  rw [hmay]
  clear hmay hT
  obtain ⟨RR, hRR⟩ : ∃ RR, (txtOk op (bts t) && L.isName (bts n)) = RR := ⟨_, rfl⟩
  have HRR := hidden hRR
  rw [hRR]
  clear hRR
  go_enter Tryz.func38, Tryz.ntmps38
  go_wp2_with (refine wpList_box_blk rfl 58 (.tmp 0) rfl (mC ⟨n, op, t⟩) rfl ?_; intro w1 B1 bl1 hz1; have HB1 := hidden B1; have BL1 := hidden bl1; clear bl1 hz1; have c0 := B1.cell 0; have c1 := B1.cell 1; have c2 := B1.cell 2; simp [mC] at c0 c1 c2; clear B1)
  have kN := L.risNameP n w1 h1
  have kV := L.risValueP t w1 ht
  have kP := parseN B t w1 (tbN (HT.out.later BL1.out))
  unfold ParN at kP

  have e0 := str_empty t
  have HE0 := hidden e0
  refine kN.mono ?_
  rintro e w2 ⟨rfl, hw2⟩
  obtain rfl := hw2.symm
  clear kN hw2
  generalize hq : L.isName (L.bts n) = q at *
  replace HRR : Hid ((txtOk op (bts t) && q) = RR) := hidden (by rw [← hq]; exact HRR.out)
  clear hq
  unfold txtOk at HRR
  have hval : ∀ (k : Int), (k = 1 ∨ k = 2) → op = k → RR = ((decide (bts t = []) || L.isVal (L.bts t)) && q) := fun k hk e => by
    rw [← HRR.out, e]
    rcases hk with rfl | rfl <;> rfl
  have hpat : ∀ (k : Int), (k = 3 ∨ k = 4) → op = k → RR = (prsOk (bts t) && q) := fun k hk e => by
    rw [← HRR.out, e]
    rcases hk with rfl | rfl <;> rfl
  have hno : ¬ op = 1 → ¬ op = 2 → ¬ op = 3 → ¬ op = 4 → RR = false := fun a b c d => by
    rw [← HRR.out, if_neg a, if_neg b, if_neg c, if_neg d]; rfl
  generalize L.isVal (L.bts t) = v at *
  generalize decide (bts t = []) = b at *
  have HPAT := hidden hpat
  have HVAL := hidden hval
  have HNO := hidden hno
  clear hpat hval hno HRR
  by_cases o1 : op = 1
  · have z1 : (op == 1) = true := by simpa using o1
    have HR := hidden (HVAL.out 1 (.inl rfl) o1)
    clear kP o1 h3 h4 HPAT HNO HVAL
    cases q <;> cases v <;> cases b
    all_goals
      go_wp2_with (go_at_call 56; refine kV.mono ?_; rintro e w2 ⟨rfl, hw2⟩; obtain rfl := hw2.symm; clear kV hw2)
      go_ret
      exact ⟨by rw [HR.out]; first | rfl | simp; done | (have hh := HE0.out; simp at hh ⊢; exact hh), BL1.out⟩
  · have z1 : (op == 1) = false := by simpa using o1
    by_cases o2 : op = 2
    · have z2 : (op == 2) = true := by simpa using o2
      have HR := hidden (HVAL.out 2 (.inr rfl) o2)
      clear kP o1 o2 h3 h4
      cases q <;> cases v <;> cases b
      all_goals
        go_wp2_with (go_at_call 56; refine kV.mono ?_; rintro e w2 ⟨rfl, hw2⟩; obtain rfl := hw2.symm; clear kV hw2)
        go_ret
        exact ⟨by rw [HR.out]; first | rfl | simp; done | (have hh := HE0.out; simp at hh ⊢; exact hh), BL1.out⟩
    · have z2 : (op == 2) = false := by simpa using o2
      have hpatB : ∀ RB : Bool, RR = (prsOk (bts t) && q) → Hid (RR = (prsOk (bts t) && q)) := fun _ h => hidden h
      by_cases o3 : op = 3
      · have z3 : (op == 3) = true := by simpa using o3
        have HR := hidden (HPAT.out 3 (.inl rfl) o3)
        clear kV o1 o2 o3 h3 h4 e0 hpatB
        go_wp2_with fail
        refine kP.mono ?_
        rintro e w3 ⟨b3, ⟨p, F, l, k, u, hok, rfl, -⟩ | ⟨k, hbad, rfl⟩⟩
        · have HB3 := hidden (BL1.out.trans (b3.mono BL1.out.size))
          have hk2 : prsOk (bts t) = true := by unfold prsOk; rw [hok]
          rw [hk2] at HR
          clear b3 hok hk2 kP
          cases q
          all_goals
            go_wp2
            go_ret
            exact ⟨by rw [HR.out]; first | rfl | simp, HB3.out⟩
        · have HB3 := hidden (BL1.out.trans (b3.mono BL1.out.size))
          have hk2 : prsOk (bts t) = false := by unfold prsOk; rw [hbad]
          rw [hk2] at HR
          clear b3 hbad hk2 kP
          cases q
          all_goals
            go_wp2
            go_ret
            exact ⟨by rw [HR.out]; first | rfl | simp, HB3.out⟩
      · have z3 : (op == 3) = false := by simpa using o3
        by_cases o4 : op = 4
        · have z4 : (op == 4) = true := by simpa using o4
          have HR := hidden (HPAT.out 4 (.inr rfl) o4)
          clear kV o1 o2 o3 o4 h3 h4 e0 hpatB
          go_wp2_with fail
          refine kP.mono ?_
          rintro e w3 ⟨b3, ⟨p, F, l, k, u, hok, rfl, -⟩ | ⟨k, hbad, rfl⟩⟩
          · have HB3 := hidden (BL1.out.trans (b3.mono BL1.out.size))
            have hk2 : prsOk (bts t) = true := by unfold prsOk; rw [hok]
            rw [hk2] at HR
            clear b3 hok hk2 kP
            cases q
            all_goals
              go_wp2
              go_ret
              exact ⟨by rw [HR.out]; first | rfl | simp, HB3.out⟩
          · have HB3 := hidden (BL1.out.trans (b3.mono BL1.out.size))
            have hk2 : prsOk (bts t) = false := by unfold prsOk; rw [hbad]
            rw [hk2] at HR
            clear b3 hbad hk2 kP
            cases q
            all_goals
              go_wp2
              go_ret
              exact ⟨by rw [HR.out]; first | rfl | simp, HB3.out⟩
        · have z4 : (op == 4) = false := by simpa using o4
          have HR := hidden (HNO.out o1 o2 o3 o4)
          clear kV kP o1 o2 o3 o4 h3 h4 e0 hpatB
          go_wp2
          go_ret
          exact ⟨by rw [HR.out]; rfl, BL1.out⟩

theorem ropsP (o : Int) (w : World) (ho : -9223372036854775808 ≤ o ∧ o ≤ 9223372036854775807) : Calls Tryz.prog 40 #[.int .i64 o] w fun e w' => e = .returned (.string (L.oft (opT o))) ∧ w' = w := by
  unfold opT
  by_cases h1 : o = 1
  · have e1 : (o == 1) = true := by simpa using h1
    rw [if_pos h1]
    clear h1
    go_enter Tryz.func40, Tryz.ntmps40
    go_wp2
    go_ret
    exact ⟨rfl, rfl⟩
  · have e1 : (o == 1) = false := by simpa using h1
    rw [if_neg h1]
    by_cases h2 : o = 2
    · have e2 : (o == 2) = true := by simpa using h2
      rw [if_pos h2]
      clear h1 h2
      go_enter Tryz.func40, Tryz.ntmps40
      go_wp2
      go_ret
      exact ⟨rfl, rfl⟩
    · have e2 : (o == 2) = false := by simpa using h2
      rw [if_neg h2]
      by_cases h3 : o = 3
      · have e3 : (o == 3) = true := by simpa using h3
        rw [if_pos h3]
        clear h1 h2 h3
        go_enter Tryz.func40, Tryz.ntmps40
        go_wp2
        go_ret
        exact ⟨rfl, rfl⟩
      · have e3 : (o == 3) = false := by simpa using h3
        rw [if_neg h3]
        clear h1 h2 h3
        go_enter Tryz.func40, Tryz.ntmps40
        go_wp2
        go_ret
        exact ⟨rfl, rfl⟩

end Go.Proofs.YtanlgplgplncdaaGreatDoor
