/-
  The document's quota: Limits, Room, New, Take.
-/
import Derived.Test.YthkmbodpboplfaaQrA
namespace Go.Proofs.Ythkmbodpboplfaa
open Go.RowKit
set_option linter.unusedVariables false
set_option linter.unusedSimpArgs false

theorem newR (w : World) : Calls Try.prog 8 #[] w fun e w' => e = .returned (.pointer (some ⟨w.heap.size, 0, none⟩)) ∧ Rb w' w.heap.size w.heap.size (.slice none 0 0) [] ∧ Below w.heap.size w w' := by
  go_enter Try.func8, Try.ntmps8
  go_wp2_with fail
  go_ret
  exact ⟨rfl, ⟨Blk.new w 57 [.slice none 0 0], World.ownsRow_nil _ _ _ _, List.Pairwise.nil, by simp⟩, below_alloc⟩

theorem limitsR (s : ByteArray) (base p : Nat) (v : Value) (l : List Kn) (w : World) (h : Rb w base p v l) (hn : l.length ≤ 9000) : Calls Try.prog 23 #[.pointer (some ⟨p, 0, none⟩), .string s] w fun e w' => e = .returned (.tuple #[.int .i64 (getA (fnd l) s).ms, .int .i64 (getA (fnd l) s).mx, .bool (fnd l s).isSome]) ∧ Below w.heap.size w w' := by
  have HG := hidden (getR s base p v l w h hn)
  clear h hn
  generalize (fnd l s).isSome = ks at *
  generalize getA (fnd l) s = a at *
  obtain ⟨m1, m2, m3, m4, m5⟩ := a
  unfold aV aL at *
  go_enter Try.func23, Try.ntmps23
  go_wp2_with (refine HG.out.mono ?_; clear HG; rintro e w3 ⟨rfl, hb3⟩)
  go_quiet (fail)
  go_wp2_with fail
  go_ret3
  exact ⟨rfl, below_drewN (hb3.trans (below_alloc.mono hb3.size)) _⟩

theorem fnd_mem : ∀ (l : List Kn) (s : ByteArray) (a : Ac), fnd l s = some a → (s, a) ∈ l
  | [], s, a, h => by cases h
  | x :: r, s, a, h => by
    unfold fnd at h
    split at h
    · next e =>
      cases h
      rw [← e]
      exact .head _
    · exact .tail _ (fnd_mem r s a h)
theorem Rb.has {w : World} {base p : Nat} {v : Value} {l : List Kn} (h : Rb w base p v l) (s : ByteArray) : getA (fnd l) s = aZ ∨ OkA (getA (fnd l) s) := by
  unfold getA
  cases e : fnd l s with
  | none => exact .inl rfl
  | some a => exact .inr (h.ok _ (fnd_mem l s a e))
theorem writtenE (a : Ac) (n : Int) (w : World) : Calls Try.prog 31 #[aV a, .int .i64 n] w fun e w' => e = .returned (.tuple #[.int .i64 (durA a n).wr, .int .i64 (durA a n).wi]) ∧ ∃ nq, w' = (w.alloc (.cells (aL a).toArray 32)).drewN nq := by
  obtain ⟨m1, m2, m3, m4, m5⟩ := a
  by_cases h : m5 < n
  · have e1 : durA ⟨m1, m2, m3, m4, m5⟩ n = ⟨m1, m2, m3, 0, n⟩ := by simp [durA, h]
    rw [e1]
    unfold aV aL
    clear e1
    go_enter Try.func31, Try.ntmps31
    go_wp2_with fail
    go_ret2
    exact ⟨rfl, 0, rfl⟩
  · have e1 : durA ⟨m1, m2, m3, m4, m5⟩ n = ⟨m1, m2, m3, m4, m5⟩ := by simp [durA, h]
    rw [e1]
    unfold aV aL
    clear e1
    go_enter Try.func31, Try.ntmps31
    go_wp2_with fail
    go_quiet (fail)
    go_wp2_with fail
    go_ret2
    exact ⟨rfl, _, rfl⟩
theorem roomR (s : ByteArray) (n : Int) (base p : Nat) (v : Value) (l : List Kn) (w : World) (h : Rb w base p v l) (hn : l.length ≤ 9000) : Calls Try.prog 24 #[.pointer (some ⟨p, 0, none⟩), .string s, .int .i64 n] w fun e w' => e = .returned (.tuple #[.int .i64 (roomA (getA (fnd l) s) n).1, .int .i64 (roomA (getA (fnd l) s) n).2]) ∧ Below w.heap.size w w' := by
  have HG := hidden (getR s base p v l w h hn)
  have hf := room_fits (h.has s) n
  have HW := hidden (fun w => writtenE (getA (fnd l) s) n w)
  cases hk : (fnd l s).isSome with
  | false =>
    have e0 : getA (fnd l) s = aZ := by
      unfold getA
      cases e : fnd l s with
      | none => rfl
      | some a => rw [e] at hk; cases hk
    have er : roomA aZ n = (0, 0) := by have := durA_zero n; unfold roomA; rw [this.1, this.2]
    rw [hk, e0] at HG
    rw [e0, er]
    clear hk h hn hf e0 er HW
    unfold aV aL aZ at *
    go_enter Try.func24, Try.ntmps24
    go_wp2_with (refine HG.out.mono ?_; clear HG; rintro e w3 ⟨rfl, hb3⟩)
    go_ret2
    exact ⟨rfl, hb3.trans (below_alloc.mono hb3.size)⟩
  | true =>
    rw [hk] at HG
    clear h hn hk
    have h1 : (getA (fnd l) s).ms - (getA (fnd l) s).se = (roomA (getA (fnd l) s) n).1 := by unfold roomA durA; split <;> rfl
    have h2 : (getA (fnd l) s).mx - (durA (getA (fnd l) s) n).wr = (roomA (getA (fnd l) s) n).2 := by unfold roomA durA; split <;> rfl
    generalize (roomA (getA (fnd l) s) n).1 = x at *
    generalize (roomA (getA (fnd l) s) n).2 = y at *
    generalize (durA (getA (fnd l) s) n).wr = d1 at *
    generalize (durA (getA (fnd l) s) n).wi = d2 at *
    generalize getA (fnd l) s = a at *
    obtain ⟨m1, m2, m3, m4, m5⟩ := a
    simp only at h1 h2
    unfold aV aL at *
    go_enter Try.func24, Try.ntmps24
    go_wp2_with (first | (refine HG.out.mono ?_; clear HG; rintro e w3 ⟨rfl, hb3⟩) | (refine (HW.out _).mono ?_; clear HW; rintro e w4 ⟨rfl, nq, rfl⟩))
    go_quiet (fail)
    go_wp2_with fail
    go_ret2
    refine ⟨rfl, ?_⟩
    exact below_drewN (below_drewN (hb3.trans ((below_more below_alloc _).mono hb3.size)) _) _

/-- One cell of a row that is owned is set. -/
theorem owns_set1 {w : World} {base : Nat} {e : TypeId} {sz g n cap : Nat} {xs : List Value} (hO : w.ownsRow base e sz (.slice (some ⟨g, 0, none⟩) n cap) n xs) (q : Nat) (x : Value) (hq : q < n * sz) :
    (w.setCell ⟨g, q, none⟩ x).ownsRow base e sz (.slice (some ⟨g, 0, none⟩) n cap) n (xs.set q x) := by
  have hl := hO.1
  rcases hO.2 with ⟨h0, _⟩ | ⟨g', cap', cur, hv, hb, hh, hn, hc, hs, ht⟩
  · cases h0
  · simp only [Value.slice.injEq, Option.some.injEq, Addr.mk.injEq] at hv
    obtain ⟨⟨rfl, _⟩, _, rfl⟩ := hv
    refine ⟨by rw [List.length_set]; omega, .inr ⟨g, cap, cur.setIfInBounds q x, rfl, hb, ?_, hn, hc, by simpa using hs, ?_⟩⟩
    · simp [World.setCell, Array.getElem?_modify, hh]
    · rw [Array.toList_setIfInBounds, List.take_set, ht]
theorem owns_drewN {w : World} {base : Nat} {e : TypeId} {sz n : Nat} {v : Value} {xs : List Value} (hO : w.ownsRow base e sz v n xs) (m : Nat) : (w.drewN m).ownsRow base e sz v n xs := hO
theorem kL_set : ∀ (l : List Kn) (i : Nat) (t : ByteArray) (a c : Ac), l[i]? = some (t, a) →
    (((((kL l).set (i * 6 + 1) (.int .i64 c.ms)).set (i * 6 + 2) (.int .i64 c.mx)).set (i * 6 + 3) (.int .i64 c.se)).set (i * 6 + 4) (.int .i64 c.wr)).set (i * 6 + 5) (.int .i64 c.wi) = kL (l.set i (t, c))
  | [], i, t, a, c, h => by simp at h
  | x :: r, 0, t, a, c, h => by
    simp at h
    subst h
    simp [kL, kC]
  | x :: r, i + 1, t, a, c, h => by
    have := kL_set r i t a c (by simpa using h)
    have e : ∀ j, (i + 1) * 6 + j = (kC x).length + (i * 6 + j) := fun j => by simp [kC]; omega
    have e2 : kL (x :: r) = kC x ++ kL r := rfl
    have e3 : kL ((x :: r).set (i + 1) (t, c)) = kC x ++ kL (r.set i (t, c)) := rfl
    have hs : ∀ (A B : List Value) (m : Nat) (v : Value), (A ++ B).set (A.length + m) v = A ++ B.set m v := fun A B m v => by
      rw [List.set_append, if_neg (by omega)]
      congr 2
      omega
    rw [e2, e3, e 1, e 2, e 3, e 4, e 5, hs, hs, hs, hs, hs, this]
theorem fnd_set : ∀ (l : List Kn) (i : Nat) (s : ByteArray) (a c : Ac), l[i]? = some (s, a) → l.Pairwise (fun x y => ¬ x.1 = y.1) → fnd (l.set i (s, c)) = updA (fnd l) s (some c)
  | [], i, s, a, c, h, hp => by simp at h
  | x :: r, 0, s, a, c, h, hp => by
    simp at h
    subst h
    funext t
    simp only [List.set_cons_zero, fnd, updA]
    by_cases ht : t = s
    · subst ht; simp
    · rw [if_neg (fun e => ht e.symm), if_neg ht, if_neg (fun e => ht e.symm)]
  | x :: r, i + 1, s, a, c, h, hp => by
    rw [List.pairwise_cons] at hp
    have h' : r[i]? = some (s, a) := by simpa using h
    have ih := fnd_set r i s a c h' hp.2
    have hxs : ¬ x.1 = s := hp.1 _ (List.mem_of_getElem? h')
    funext t
    simp only [List.set_cons_succ, fnd, ih, updA]
    by_cases ht : x.1 = t
    · have hts : ¬ t = s := fun e => hxs (ht.trans e)
      simp [ht, hts]
    · simp [ht]
theorem nodup_set {l : List Kn} {i : Nat} {s : ByteArray} {a c : Ac} (h : l[i]? = some (s, a)) (hp : l.Pairwise (fun x y => ¬ x.1 = y.1)) : (l.set i (s, c)).Pairwise (fun x y => ¬ x.1 = y.1) := by
  have hm := List.pairwise_map (f := fun x : Kn => x.1) (R := fun a b : ByteArray => ¬ a = b) (l := l.set i (s, c))
  refine hm.1 ?_
  have e : (l.set i (s, c)).map (fun x : Kn => x.1) = l.map (fun x : Kn => x.1) := by
    apply List.ext_getElem?
    intro j
    rw [List.map_set, List.getElem?_set]
    split
    · next e1 =>
      subst e1
      have hl := (List.getElem?_eq_some_iff.1 h).1
      rw [List.getElem?_map, h, if_pos (by simpa using hl)]
      rfl
    · rfl
  rw [e, List.pairwise_map]
  exact hp

theorem Rb.cells {w : World} {base p g n cap : Nat} {l : List Kn} (h : Rb w base p (.slice (some ⟨g, 0, none⟩) n cap) l) {i : Nat} {x : Kn} (hx : l[i]? = some x) : ∀ j u, (kC x)[j]? = some u → w.cell? ⟨g, i * 6 + j, none⟩ = some u ∧ w.frozen? ⟨g, i * 6 + j, none⟩ = false := by
  obtain ⟨ad, c, hv, hc⟩ := h.val
  simp only [Value.slice.injEq] at hv
  obtain ⟨rfl, _⟩ := hv
  obtain ⟨g', e, _, hj⟩ := hc i x hx
  simp only [Option.some.injEq, Addr.mk.injEq] at e
  obtain ⟨rfl, _⟩ := e
  exact hj

/-- An account of the list is set. -/
theorem Rb.put {w : World} {base p g cap : Nat} {l : List Kn} (h : Rb w base p (.slice (some ⟨g, 0, none⟩) l.length cap) l) {i : Nat} {s : ByteArray} {a c : Ac} (hx : l[i]? = some (s, a)) (hc : OkA c) (hpg : p ≠ g) :
    Rb (((((w.setCell ⟨g, i * 6 + 1, none⟩ (.int .i64 c.ms)).setCell ⟨g, i * 6 + 1 + 1, none⟩ (.int .i64 c.mx)).setCell ⟨g, i * 6 + 1 + 2, none⟩ (.int .i64 c.se)).setCell ⟨g, i * 6 + 1 + 3, none⟩ (.int .i64 c.wr)).setCell ⟨g, i * 6 + 1 + 4, none⟩ (.int .i64 c.wi)) base p (.slice (some ⟨g, 0, none⟩) l.length cap) (l.set i (s, c)) := by
  have hi : i < l.length := (List.getElem?_eq_some_iff.1 hx).1
  refine ⟨((((h.blk.setOff _ _ hpg).setOff _ _ hpg).setOff _ _ hpg).setOff _ _ hpg).setOff _ _ hpg, ?_, nodup_set hx h.nodup, fun x hm => ?_⟩
  · have := owns_set1 (owns_set1 (owns_set1 (owns_set1 (owns_set1 h.row (i * 6 + 1) (.int .i64 c.ms) (by omega)) (i * 6 + 1 + 1) (.int .i64 c.mx) (by omega)) (i * 6 + 1 + 2) (.int .i64 c.se) (by omega)) (i * 6 + 1 + 3) (.int .i64 c.wr) (by omega)) (i * 6 + 1 + 4) (.int .i64 c.wi) (by omega)
    rw [show i * 6 + 1 + 1 = i * 6 + 2 by omega, show i * 6 + 1 + 2 = i * 6 + 3 by omega, show i * 6 + 1 + 3 = i * 6 + 4 by omega, show i * 6 + 1 + 4 = i * 6 + 5 by omega, kL_set l i s a c hx] at this
    rw [List.length_set, show i * 6 + 1 + 1 = i * 6 + 2 by omega, show i * 6 + 1 + 2 = i * 6 + 3 by omega, show i * 6 + 1 + 3 = i * 6 + 4 by omega, show i * 6 + 1 + 4 = i * 6 + 5 by omega]
    exact this
  · rcases List.mem_or_eq_of_mem_set hm with h1 | rfl
    · exact h.ok x h1
    · exact hc
theorem chg1 {w w' : World} {g : Nat} (h : Chg (fun i => i = g) w w') (a : Nat) (v : Value) : Chg (fun i => i = g) w (w'.setCell ⟨g, a, none⟩ v) := h.trans (Chg.set ⟨g, a, none⟩ v w') (fun _ _ h => h)
theorem chg5 {w : World} {g : Nat} {a1 a2 a3 a4 a5 : Nat} {v1 v2 v3 v4 v5 : Value} : Chg (fun i => i = g) w (((((w.setCell ⟨g, a1, none⟩ v1).setCell ⟨g, a2, none⟩ v2).setCell ⟨g, a3, none⟩ v3).setCell ⟨g, a4, none⟩ v4).setCell ⟨g, a5, none⟩ v5) :=
  chg1 (chg1 (chg1 (chg1 (chg1 (Chg.refl _ _) _ _) _ _) _ _) _ _) _ _

/-- What a call leaves of the document's book. -/
def RbP (w : World) (base p : Nat) (v : Value) (l : List Kn) (r : Int × Gk) (e : Ending) (w' : World) : Prop :=
  e = .returned (.int .i64 r.1) ∧ ∃ v' l', Rb w' base p v' l' ∧ fnd l' = r.2 ∧ l'.length ≤ l.length + 1 ∧ Chg (RF p v) w w' ∧ Moved w v.ownBlock v'.ownBlock
theorem rbp_same {w : World} {base p : Nat} {v : Value} {l : List Kn} {c : Int} {w' : World} (h : Rb w base p v l) (hb : Below w.heap.size w w') : RbP w base p v l (c, fnd l) (.returned (.int .i64 c)) w' :=
  ⟨rfl, v, l, h.later hb, rfl, by omega, Chg.of_below hb, .inl rfl⟩

set_option maxRecDepth 100000 in
set_option maxHeartbeats 2000000 in
theorem take_walkR (s : ByteArray) (n x y : Int) (base p : Nat) (v : Value) (l : List Kn) (w : World) (h : Rb w base p v l) (hn : l.length ≤ 9000) (hnn : n ≤ 9223372036854775807) :
    Calls Try.prog 19 #[.pointer (some ⟨p, 0, none⟩), .string s, .int .i64 n, .int .i64 x, .int .i64 y] w fun e w' => RbP w base p v l (takeA (fnd l) s n x y) e w' := by
  have HA := hidden (atP s base p v l w h hn)
  have HH := hidden h
  rcases at_cases l s with ⟨e1, e2⟩ | ⟨i, ⟨t, a⟩, e1, ei, hx, et, e2⟩
  · have et : takeA (fnd l) s n x y = (171, fnd l) := by unfold takeA; rw [if_pos (by rw [e2]; rfl)]
    rw [et]
    rw [e1] at HA
    clear h et e2 e1
    go_enter Try.func19, Try.ntmps19
    go_wp2_with (refine HA.out.mono ?_; rintro e w3 ⟨rfl, rfl⟩)
    go_ret
    exact rbp_same HH.out (Below.refl _ _)
  rw [e1] at HA
  have hg : getA (fnd l) s = a := by unfold getA; rw [e2]; rfl
  by_cases h0 : x < 0 ∨ y < 0
  · have et : takeA (fnd l) s n x y = (1, fnd l) := by unfold takeA; rw [if_neg (by rw [e2]; simp), if_pos h0]
    rw [et]
    have hil : i < l.length := (List.getElem?_eq_some_iff.1 hx).1
    have hin : (i : Int) < 9000 := by omega
    clear h et e2 e1 hx ei hg hil hn
    rcases (show x < 0 ∨ (0 ≤ x ∧ y < 0) by omega) with h3 | ⟨h3, h4⟩
    all_goals
      clear h0
      go_enter Try.func19, Try.ntmps19
      go_wp2_with (refine HA.out.mono ?_; rintro e w3 ⟨rfl, rfl⟩)
      go_ret
      exact rbp_same HH.out (Below.refl _ _)
  have ho := h.ok _ (List.mem_of_getElem? hx)
  have hf := room_fits (.inr ho) n
  have hf' := room_fits (a := a) (.inr ho) n
  have HW := hidden (fun w => writtenE a n w)
  have hT : takeA (fnd l) s n x y = if (roomA a n).1 < x then (150, fnd l) else if (roomA a n).2 < y then (151, fnd l) else
    (0, updA (fnd l) s (some ⟨(durA a n).ms, (durA a n).mx, (durA a n).se + x, (durA a n).wr + y, (durA a n).wi⟩)) := by
    unfold takeA
    rw [if_neg (by rw [e2]; simp), if_neg h0, hg]
  rw [hT]
  clear hT
  have hok := fun h1 h2 => ok_take (n := n) (x := x) (y := y) ho hnn h0 h1 h2
  have q1 : (roomA a n).1 = a.ms - a.se := by unfold roomA durA; split <;> rfl
  have q2 : (roomA a n).2 = a.mx - (durA a n).wr := by unfold roomA durA; split <;> rfl
  have q3 : (durA a n).ms = a.ms ∧ (durA a n).mx = a.mx ∧ (durA a n).se = a.se := by unfold durA; split <;> simp
  rw [q3.1, q3.2.1, q3.2.2] at hok ⊢
  clear q3
  obtain ⟨ad, cap, rfl, hcell⟩ := h.val
  obtain ⟨g, rfl, hgl, hc⟩ := hcell i _ hx
  have hil : i < l.length := (List.getElem?_eq_some_iff.1 hx).1
  have c0 := h.blk.cell 0
  simp only [List.getElem?_cons_zero] at c0
  have hpl := h.blk.lt
  have f1 := (hc 1 _ rfl).1
  have f2 := (hc 2 _ rfl).1
  have f3 := (hc 3 _ rfl).1
  have f4 := (hc 4 _ rfl).1
  have f5 := (hc 5 _ rfl).1
  have d1 := (hc 1 _ rfl).2
  have d2 := (hc 2 _ rfl).2
  have d3 := (hc 3 _ rfl).2
  have d4 := (hc 4 _ rfl).2
  have d5 := (hc 5 _ rfl).2
  simp only at f1 f2 f3 f4 f5
  have HX := hidden (And.intro hx et)
  have hpg : p ≠ g := by
    intro e
    have t1 := h.blk.tg
    have t2 := owns_tg h.row g rfl
    rw [e] at t1
    exact absurd (t1.one t2) (by decide)
  clear hcell hc hx et h ei e1 e2 hg
  generalize (durA a n).wr = dw at *
  generalize (durA a n).wi = di at *
  generalize (roomA a n).1 = r1 at *
  generalize (roomA a n).2 = r2 at *
  obtain ⟨m1, m2, m3, m4, m5⟩ := a
  have o1 := ho.ms
  have o2 := ho.mx
  have o3 := ho.se
  have o4 := ho.wr
  simp only at o1 o2 o3 o4 q1 q2 hok ⊢
  subst q1 q2
  clear hf' ho
  have hx0 : 0 ≤ x := by omega
  have hy0 : 0 ≤ y := by omega
  have HOK := hidden hok
  clear h0 hok
  obtain ⟨L, hL⟩ : ∃ L, l.length = L := ⟨_, rfl⟩
  rw [hL] at hil hn c0
  unfold aV aL at HW
  by_cases u1 : m1 - m3 < x
  · rw [if_pos u1]
    go_enter Try.func19, Try.ntmps19
    go_wp2_with (first | (refine HA.out.mono ?_; clear HA; rintro e w3 ⟨rfl, rfl⟩) | (refine (HW.out _).mono ?_; clear HW; rintro e w4 ⟨rfl, nq, rfl⟩))
    go_ret
    exact rbp_same HH.out (below_drewN (below_more below_alloc _) _)
  · rw [if_neg u1]
    by_cases u2 : m2 - dw < y
    · rw [if_pos u2]
      go_enter Try.func19, Try.ntmps19
      go_wp2_with (first | (refine HA.out.mono ?_; clear HA; rintro e w3 ⟨rfl, rfl⟩) | (refine (HW.out _).mono ?_; clear HW; rintro e w4 ⟨rfl, nq, rfl⟩))
      go_ret
      exact rbp_same HH.out (below_drewN (below_more below_alloc _) _)
    · rw [if_neg u2]
      have o5 := HOK.out u1 u2
      have o6 := o5.se
      have o7 := o5.wr
      simp only at o6 o7
      have HO5 := hidden o5
      clear o5 HOK
      go_enter Try.func19, Try.ntmps19
      go_wp2_with (first | (refine HA.out.mono ?_; clear HA; rintro e w3 ⟨rfl, rfl⟩) | (refine (HW.out _).mono ?_; clear HW; rintro e w4 ⟨rfl, nq, rfl⟩))
      obtain ⟨w9, hw9⟩ : ∃ w9, (((((w3.alloc (Obj.cells #[.int .i64 m1, .int .i64 m2, .int .i64 m3, .int .i64 m4, .int .i64 m5] 32)).alloc (Obj.cells #[.int .i64 m1, .int .i64 m2, .int .i64 m3, .int .i64 m4, .int .i64 m5] 32)).drewN nq).setCell ⟨w3.heap.size, 2, none⟩ (.int .i64 (m3 + x))).setCell ⟨w3.heap.size, 3, none⟩ (.int .i64 (dw + y))).setCell ⟨w3.heap.size, 4, none⟩ (.int .i64 di) = w9 := ⟨_, rfl⟩
      rw [hw9]
      have k9 : Blk w9 w3.heap.size 32 [.int .i64 m1, .int .i64 m2, .int .i64 (m3 + x), .int .i64 (dw + y), .int .i64 di] := by
        rw [← hw9]
        exact (((((Blk.new w3 32 [.int .i64 m1, .int .i64 m2, .int .i64 m3, .int .i64 m4, .int .i64 m5]).alloc _).drewN nq).set 2 _).set 3 _).set 4 _
      have b9 : Below w3.heap.size w3 w9 := by
        rw [← hw9]
        exact (((below_drewN (below_more below_alloc _) nq).setCell (Nat.le_refl _) _).setCell (Nat.le_refl _) _).setCell (Nat.le_refl _) _
      clear hw9 f1 f2 f3 f4 f5 d1 d2 d3 d4 d5 c0 u1 u2 hx0 hy0 o1 o2 o3 o4 o6 o7 hf hnn
      have H9 := hidden (HH.out.later b9)
      have e0 := H9.out.blk.cell 0
      simp only [List.getElem?_cons_zero] at e0
      rw [hL] at e0
      have z0 := k9.cell 0
      have z1 := k9.cell 1
      have z2 := k9.cell 2
      have z3 := k9.cell 3
      have z4 := k9.cell 4
      simp only [List.getElem?_cons_zero, List.getElem?_cons_succ] at z0 z1 z2 z3 z4
      have hc := H9.out.cells HX.out.1
      obtain ⟨f1, d1⟩ := hc 1 _ rfl
      obtain ⟨f2, d2⟩ := hc 2 _ rfl
      obtain ⟨f3, d3⟩ := hc 3 _ rfl
      obtain ⟨f4, d4⟩ := hc 4 _ rfl
      obtain ⟨f5, d5⟩ := hc 5 _ rfl
      simp only at f1 f2 f3 f4 f5
      clear hc
      go_region
      all_goals
        go_wp2_with fail
        go_ret
        have hxs : l[i]? = some (s, ⟨m1, m2, m3, m4, m5⟩) := by rw [HX.out.1, HX.out.2]
        have hp := Rb.put H9.out hxs HO5.out hpg
        refine ⟨rfl, _, _, ⟨hp.blk, hp.row, hp.nodup, hp.ok⟩, fnd_set l i s _ _ hxs HH.out.nodup, by simp, ?_, .inl rfl⟩
        exact ((Chg.of_below b9).trans chg5 (fun j _ hj => .inr (by rw [hj]; rfl))).trans (Chg.drew _ _) (fun _ _ hj => hj)

end Go.Proofs.Ythkmbodpboplfaa
