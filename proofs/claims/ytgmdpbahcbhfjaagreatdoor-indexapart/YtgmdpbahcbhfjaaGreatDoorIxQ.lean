import Derived.Test.YtgmdpbahcbhfjaaGreatDoorIxH
import Derived.Test.YtgmdpbahcbhfjaaGreatDoorJPwC
set_option linter.unusedSimpArgs false
set_option linter.unusedVariables false
set_option maxHeartbeats 40000000
set_option maxRecDepth 100000
/-
  Package index, purely: who holds the matchers; the values that are asked; a tenant that is dropped.
-/
namespace Go.Proofs.YtgmdpbahcbhfjaaGreatDoor.X
open Go.RowKit

/-- Who holds the matchers. -/
noncomputable def selF (S : List (List L.Lb)) (ms : List Mt) : List Nat := (List.range S.length).filter fun i => holdsL ms (S.getD i [])
theorem selF_nil (S : List (List L.Lb)) : selF S [] = List.range S.length := by
  unfold selF
  rw [List.filter_eq_self]
  intro i _
  rfl
theorem selF_lt {S : List (List L.Lb)} {ms : List Mt} {i : Nat} (h : i ∈ selF S ms) : i < S.length := by
  unfold selF at h
  rw [List.mem_filter] at h
  simpa using h.1
theorem selF_ris (S : List (List L.Lb)) (ms : List Mt) : J.Ris (selF S ms) := List.Pairwise.filter _ List.pairwise_lt_range
theorem selF_len (S : List (List L.Lb)) (ms : List Mt) : (selF S ms).length ≤ S.length := by
  unfold selF
  exact Nat.le_trans (List.length_filter_le _ _) (by simp)
theorem selF_step (S : List (List L.Lb)) (ms : List Mt) (m : Mt) : selF S (ms ++ [m]) = (selF S ms).filter fun i => m.hold (gotL (S.getD i []) m.n) := by
  unfold selF
  rw [List.filter_filter]
  refine List.filter_congr fun i _ => ?_
  unfold holdsL
  rw [List.all_append]
  simp [Bool.and_comm]
theorem gotL_nil (n : ByteArray) : gotL [] n = em0 := rfl
theorem gotL_one (n v : ByteArray) : gotL [⟨n, v⟩] n = v := by
  show L.oft (L.getL [⟨n, v⟩] (L.bts n)) = v
  unfold L.getL
  rw [if_pos rfl]
  exact L.oft_bts _
theorem holds_nil (m : Mt) : holdsL [m] [] = m.hold em0 := by
  unfold holdsL
  rw [List.all_cons, gotL_nil, List.all_nil, Bool.and_true]
theorem holds_one (m : Mt) (v : ByteArray) : holdsL [m] [⟨m.n, v⟩] = m.hold v := by
  unfold holdsL
  rw [List.all_cons, gotL_one, List.all_nil, Bool.and_true]
/-- The values that are asked. -/
def valsF (V : List ByteArray) (m : Mt) : List ByteArray := if (m.op = 1 ∨ m.op = 2) ∧ ¬ m.t = em0 then [m.t] else V
theorem valsF_ok {R : Rr} {V : ByteArray → ByteArray → List ByteArray} (hv : ValOk R V) (t : ByteArray) (m : Mt) : ∀ i v, (⟨m.n, v⟩ : L.Lb) ∈ (R t).getD i [] → v ∈ valsF (V t m.n) m ∨ m.hold v = m.hold em0 := by
  intro i v h
  unfold valsF
  by_cases hc : (m.op = 1 ∨ m.op = 2) ∧ ¬ m.t = em0
  · rw [if_pos hc]
    by_cases e : v = m.t
    · exact .inl (by simp [e])
    · right
      have e2 : ¬ em0 = m.t := fun h => hc.2 h.symm
      unfold Mt.hold
      rcases hc.1 with h1 | h1
      · rw [if_pos h1, if_pos h1]
        simp [e, e2]
      · have h0 : ¬ m.op = 1 := by omega
        rw [if_neg h0, if_neg h0, if_pos h1, if_pos h1]
        simp [e, e2]
  · rw [if_neg hc]
    left
    refine ((hv t m.n).2 v).2 ?_
    by_cases hi : i < (R t).length
    · refine ⟨(R t)[i], List.getElem_mem hi, ?_⟩
      simpa [List.getD, List.getElem?_eq_getElem hi] using h
    · simp [List.getD, List.getElem?_eq_none (by omega : (R t).length ≤ i)] at h
/-- What union tells of lists that rise. -/
theorem want_fst {ls : List (List Nat)} (h : ∀ l ∈ ls, J.Ris l) : (J.wantF ls).map Prod.fst = J.unionF ls := by
  unfold J.wantF
  rw [if_pos h]
  unfold J.walkF
  rw [List.map_map]
  exact List.map_id _
/-- What narrow leaves. -/
theorem nar_done {R : Rr} {V : ByteArray → ByteArray → List ByteArray} (hv : ValOk R V) (hr : ROk R) (t : ByteArray) (m : Mt) (A : List Nat) (hA : J.Ris A) (hl : ∀ i ∈ A, i < (R t).length) :
    (if m.hold em0 = true then J.notF A (J.unionF (((valsF (V t m.n) m).filter fun v => m.hold v != m.hold em0).map fun v => hasX (R t) ⟨m.n, v⟩)) else J.andF A (J.unionF (((valsF (V t m.n) m).filter fun v => m.hold v != m.hold em0).map fun v => hasX (R t) ⟨m.n, v⟩))) = A.filter (fun i => m.hold (gotL ((R t).getD i []) m.n)) := by
  have hS : ∀ i, i < (R t).length → OneN ((R t).getD i []) := fun i hi => right_oneN (hr.right t _ (by simp [List.getD, List.getElem?_eq_getElem hi]))
  rw [← narF_eq (S := R t) (vals := valsF (V t m.n) m) (m := m) (left := A) hS hl (valsF_ok hv t m) (fun _ _ => trivial)]
  have hls : ∀ l ∈ ((valsF (V t m.n) m).filter fun v => m.hold v != m.hold em0).map fun v => hasX (R t) ⟨m.n, v⟩, J.Ris l := by
    intro l hl
    obtain ⟨v, _, rfl⟩ := List.mem_map.1 hl
    exact hasX_ris _ _
  have hU := J.unionF_ris _ hls
  have hm : ∀ i, i ∈ J.unionF (((valsF (V t m.n) m).filter fun v => m.hold v != m.hold em0).map fun v => hasX (R t) ⟨m.n, v⟩) ↔ i ∈ ((valsF (V t m.n) m).filter fun v => m.hold v != m.hold em0).flatMap fun v => hasX (R t) ⟨m.n, v⟩ := by
    intro i
    rw [J.unionF_mem _ hls, List.mem_flatMap]
    constructor
    · rintro ⟨l, h1, h2⟩
      obtain ⟨v, h3, rfl⟩ := List.mem_map.1 h1
      exact ⟨v, h3, h2⟩
    · rintro ⟨v, h3, h2⟩
      exact ⟨_, List.mem_map.2 ⟨v, h3, rfl⟩, h2⟩
  unfold narF
  by_cases hb : m.hold em0 = true
  · rw [if_pos hb, if_pos hb, J.notF_filter hA hU]
    refine List.filter_congr fun i _ => ?_
    simp only [hm i]
  · rw [if_neg hb, if_neg hb, J.andF_filter hA hU]
    refine List.filter_congr fun i _ => ?_
    simp only [hm i]
/-- A tenant that is dropped. -/
def rdrop (R : Rr) (t : ByteArray) : Rr := fun t' => if t' = t then [] else R t'
theorem rOk_drop {R : Rr} {t : ByteArray} (h : ROk R) : ROk (rdrop R t) := by
  refine ⟨fun t' => ?_, fun t' => ?_, fun t' => ?_⟩ <;> unfold rdrop <;> by_cases ht : t' = t
  · rw [if_pos ht]; simp
  · rw [if_neg ht]; exact h.right t'
  · rw [if_pos ht]; simp
  · rw [if_neg ht]; exact h.one t'
  · rw [if_pos ht]; simp
  · rw [if_neg ht]; exact h.len t'
theorem valOk_drop {R : Rr} {V : ByteArray → ByteArray → List ByteArray} {t : ByteArray} (h : ValOk R V) : ValOk (rdrop R t) (fun t' n => if t' = t then [] else V t' n) := by
  intro t' n
  by_cases ht : t' = t
  · simp [ht, rdrop]
  · simp only [if_neg ht, rdrop]
    exact h t' n
end Go.Proofs.YtgmdpbahcbhfjaaGreatDoor.X
/-
  Package index, purely: how much there is; texts in order.
-/
namespace Go.Proofs.YtgmdpbahcbhfjaaGreatDoor.X
open Go.RowKit

/-- How many keys, and numbers under all of them. -/
def SzR (E : Kx → List Nat) (a b : Nat) : Prop := ∃ ks : List Kx, ks.Nodup ∧ (∀ k, k ∈ ks ↔ ¬ E k = []) ∧ a = ks.length ∧ b = (ks.map fun k => (E k).length).sum
theorem sum_perm {l m : List Nat} (h : l.Perm m) : l.sum = m.sum := by
  induction h with
  | nil => rfl
  | cons x _ ih => simp [ih]
  | swap x y l => simp only [List.sum_cons]; omega
  | trans _ _ h1 h2 => exact h1.trans h2
theorem SzR.eq {E : Kx → List Nat} {a b a' b' : Nat} (h : SzR E a b) (k : SzR E a' b') : a = a' ∧ b = b' := by
  obtain ⟨ks, h1, h2, rfl, rfl⟩ := h
  obtain ⟨ls, k1, k2, rfl, rfl⟩ := k
  have hp : ks.Perm ls := (List.perm_ext_iff_of_nodup h1 k1).2 (fun x => (h2 x).trans (k2 x).symm)
  exact ⟨hp.length_eq, sum_perm (hp.map _)⟩
theorem SzR.three {E E0 E1 E2 : Kx → List Nat} {t0 t1 t2 : ByteArray} (h01 : ¬ t0 = t1) (h02 : ¬ t0 = t2) (h12 : ¬ t1 = t2) {a a0 a1 a2 b b0 b1 b2 : Nat} (h : SzR E a b) (h0 : SzR E0 a0 b0) (h1 : SzR E1 a1 b1) (h2 : SzR E2 a2 b2)
    (e0 : ∀ k : Kx, E0 k = if k.t = t0 then E k else []) (e1 : ∀ k : Kx, E1 k = if k.t = t1 then E k else []) (e2 : ∀ k : Kx, E2 k = if k.t = t2 then E k else []) (e : ∀ k : Kx, ¬ k.t = t0 → ¬ k.t = t1 → ¬ k.t = t2 → E k = []) : a = a0 + a1 + a2 ∧ b = b0 + b1 + b2 := by
  obtain ⟨ks, n, m, rfl, rfl⟩ := h
  obtain ⟨k0, n0, m0, rfl, rfl⟩ := h0
  obtain ⟨k1, n1, m1, rfl, rfl⟩ := h1
  obtain ⟨k2, n2, m2, rfl, rfl⟩ := h2
  have q0 : ∀ k, k ∈ k0 ↔ k.t = t0 ∧ ¬ E k = [] := fun k => by rw [m0, e0]; by_cases h : k.t = t0 <;> simp [h]
  have q1 : ∀ k, k ∈ k1 ↔ k.t = t1 ∧ ¬ E k = [] := fun k => by rw [m1, e1]; by_cases h : k.t = t1 <;> simp [h]
  have q2 : ∀ k, k ∈ k2 ↔ k.t = t2 ∧ ¬ E k = [] := fun k => by rw [m2, e2]; by_cases h : k.t = t2 <;> simp [h]
  have hp : ks.Perm (k0 ++ k1 ++ k2) := by
    refine (List.perm_ext_iff_of_nodup n ?_).2 (fun k => ?_)
    · rw [List.nodup_append, List.nodup_append]
      refine ⟨⟨n0, n1, fun a ha b hb e => ?_⟩, n2, fun a ha b hb e => ?_⟩
      · subst e; exact h01 (((q0 a).1 ha).1.symm.trans ((q1 a).1 hb).1)
      · subst e
        rcases List.mem_append.1 ha with ha | ha
        · exact h02 (((q0 a).1 ha).1.symm.trans ((q2 a).1 hb).1)
        · exact h12 (((q1 a).1 ha).1.symm.trans ((q2 a).1 hb).1)
    · rw [m, List.mem_append, List.mem_append, q0, q1, q2]
      constructor
      · intro hk
        by_cases c0 : k.t = t0
        · exact .inl (.inl ⟨c0, hk⟩)
        · by_cases c1 : k.t = t1
          · exact .inl (.inr ⟨c1, hk⟩)
          · by_cases c2 : k.t = t2
            · exact .inr ⟨c2, hk⟩
            · exact absurd (e k c0 c1 c2) hk
      · rintro ((h | h) | h) <;> exact h.2
  have s0 : k0.map (fun k => (E0 k).length) = k0.map (fun k => (E k).length) := List.map_congr_left fun k hk => by rw [e0, if_pos ((q0 k).1 hk).1]
  have s1 : k1.map (fun k => (E1 k).length) = k1.map (fun k => (E k).length) := List.map_congr_left fun k hk => by rw [e1, if_pos ((q1 k).1 hk).1]
  have s2 : k2.map (fun k => (E2 k).length) = k2.map (fun k => (E k).length) := List.map_congr_left fun k hk => by rw [e2, if_pos ((q2 k).1 hk).1]
  rw [s0, s1, s2]
  refine ⟨by rw [hp.length_eq, List.length_append, List.length_append], ?_⟩
  rw [sum_perm (hp.map _), List.map_append, List.map_append, List.sum_append, List.sum_append]
/-- Texts that rise. -/
def Asc (l : List ByteArray) : Prop := l.Pairwise (fun a b => L.lss (L.bts a) (L.bts b) = true)
theorem asc_ext : ∀ {l m : List ByteArray}, Asc l → Asc m → (∀ x, x ∈ l ↔ x ∈ m) → l = m
  | [], [], _, _, _ => rfl
  | [], y :: u, _, _, h => absurd ((h y).2 (by simp)) (by simp)
  | x :: t, [], _, _, h => absurd ((h x).1 (by simp)) (by simp)
  | x :: t, y :: u, h1, h2, h => by
    have a1 := List.pairwise_cons.1 h1
    have a2 := List.pairwise_cons.1 h2
    have e : x = y := by
      rcases List.mem_cons.1 ((h x).1 (by simp)) with e | hx
      · exact e
      · rcases List.mem_cons.1 ((h y).2 (by simp)) with e | hy
        · exact e.symm
        · have q1 := a1.1 y hy
          have q2 := a2.1 x hx
          rw [L.lss_asymm q1] at q2
          cases q2
    subst e
    have hn1 : ∀ z ∈ t, ¬ z = x := fun z hz e => by have := a1.1 z hz; rw [e, L.lss_irr] at this; cases this
    have hn2 : ∀ z ∈ u, ¬ z = x := fun z hz e => by have := a2.1 z hz; rw [e, L.lss_irr] at this; cases this
    rw [asc_ext a1.2 a2.2 (fun z => ?_)]
    constructor
    · intro hz
      rcases List.mem_cons.1 ((h z).1 (by simp [hz])) with e | h'
      · exact absurd e (hn1 z hz)
      · exact h'
    · intro hz
      rcases List.mem_cons.1 ((h z).2 (by simp [hz])) with e | h'
      · exact absurd e (hn2 z hz)
      · exact h'
/-- The library's sort of keys that are told apart. -/
theorem asc_sorted {ss : List (List UInt8)} (hn : ss.Nodup) : Asc ((ss.mergeSort (fun x y => decide (x ≤ y))).map L.oft) := by
  have tr : ∀ a b c : List UInt8, decide (a ≤ b) = true → decide (b ≤ c) = true → decide (a ≤ c) = true := fun a b c h1 h2 => by simp only [decide_eq_true_eq] at *; exact List.le_trans h1 h2
  have tot : ∀ a b : List UInt8, (decide (a ≤ b) || decide (b ≤ a)) = true := fun a b => by simp only [Bool.or_eq_true, decide_eq_true_eq]; exact List.le_total a b
  have h1 := List.pairwise_mergeSort tr tot ss
  have h2 : (ss.mergeSort (fun x y => decide (x ≤ y))).Nodup := (List.mergeSort_perm ss _).nodup_iff.2 hn
  unfold Asc
  rw [List.pairwise_map]
  refine (h1.and h2).imp ?_
  rintro a b ⟨k1, k2⟩
  rw [L.bts_oft, L.bts_oft]
  cases h : L.lss a b with
  | true => rfl
  | false =>
    exfalso
    simp only [L.lss, decide_eq_false_iff_not, List.not_lt] at h
    simp only [decide_eq_true_eq] at k1
    exact k2 (List.le_antisymm k1 h)
theorem mem_sorted_oft {ss : List (List UInt8)} (x : ByteArray) : x ∈ (ss.mergeSort (fun x y => decide (x ≤ y))).map L.oft ↔ L.bts x ∈ ss := by
  rw [List.mem_map]
  constructor
  · rintro ⟨a, ha, rfl⟩
    rw [L.bts_oft]
    exact List.mem_mergeSort.1 ha
  · intro h
    exact ⟨L.bts x, List.mem_mergeSort.2 h, L.oft_bts x⟩
/-- The names of those who hold the matchers; the values under a name. -/
def NamQ (S : List (List L.Lb)) (ids : List Nat) (n : ByteArray) : Prop := ∃ i ∈ ids, ∃ y ∈ S.getD i [], y.n = n
def ValQ (S : List (List L.Lb)) (ids : List Nat) (n v : ByteArray) : Prop := ∃ i ∈ ids, (⟨n, v⟩ : L.Lb) ∈ S.getD i []
theorem got_iff {l : List L.Lb} (h : L.right l = true) {n v : ByteArray} : (⟨n, v⟩ : L.Lb) ∈ l ↔ gotL l n = v ∧ ¬ v = em0 := by
  have ho := right_oneN h
  constructor
  · intro hm
    refine ⟨got_mem ho hm, fun e => ?_⟩
    have := (fits_name ((right_fits h).2.2 _ hm)).2.2.1
    rw [show (⟨n, v⟩ : L.Lb).v = v from rfl, e] at this
    exact absurd this (by decide)
  · rintro ⟨h1, h2⟩
    by_cases hx : ∃ y ∈ l, y.n = n
    · obtain ⟨y, hy, rfl⟩ := hx
      have : gotL l y.n = y.v := got_mem ho hy
      rw [this] at h1
      rw [← h1]
      exact hy
    · exfalso
      rw [got_none (fun x hm e => hx ⟨x, hm, e⟩)] at h1
      exact h2 h1.symm
end Go.Proofs.YtgmdpbahcbhfjaaGreatDoor.X
/-
  Package index: Size.
-/
namespace Go.Proofs.YtgmdpbahcbhfjaaGreatDoor.X
open Go.RowKit

theorem ents_keys {w : World} {c : Col} {j eb : Nat} {E : Kx → List Nat} {l : List (Kx × Value)} (hl : Ml Kx.val w eb l) (hR : ∀ k, Rw w c j k (al l k) (E k)) : (l.map Prod.fst).Nodup ∧ ∀ k, k ∈ l.map Prod.fst ↔ ¬ E k = [] := by
  refine ⟨?_, fun k => ?_⟩
  · rw [List.Nodup, List.pairwise_map]
    exact hl.nodup
  · constructor
    · intro h
      obtain ⟨p, hp, rfl⟩ := List.mem_map.1 h
      have := al_of_mem hl.nodup (k := p.1) (v := p.2) hp
      rcases hR p.1 with ⟨e, _⟩ | ⟨v, _, e, _⟩
      · rw [this] at e; cases e
      · exact e
    · intro h
      rcases hR k with ⟨_, e⟩ | ⟨v, e, _⟩
      · exact absurd e h
      · exact List.mem_map.2 ⟨_, al_mem e, rfl⟩
theorem sum_sub {α : Type} [DecidableEq α] (f : α → Nat) : ∀ (a b : List α), a.Nodup → (∀ x ∈ a, x ∈ b) → (a.map f).sum ≤ (b.map f).sum
  | [], b, _, _ => by simp
  | x :: t, b, hn, hs => by
    rw [List.nodup_cons] at hn
    have hx : x ∈ b := hs x (by simp)
    have h1 := sum_sub f t (b.erase x) hn.2 (fun y hy => (List.mem_erase_of_ne (show y ≠ x from fun e => hn.1 (by rw [← e]; exact hy))).2 (hs y (by simp [hy])))
    have h2 := sum_perm ((List.perm_cons_erase hx).map f)
    rw [h2]
    simp only [List.map_cons, List.sum_cons]
    omega
set_option maxRecDepth 100000 in
set_option maxHeartbeats 4000000 in
theorem sizeP {w : World} {c : Col} {j x eb rb : Nat} {R : Rr} (h : Ix w c j x eb rb R) (hb : ∀ a b, SzR (entF R) a b → b ≤ 4000000000000000000) : Calls Tryz.prog 18 #[.pointer (some ⟨x, 0, none⟩)] w fun e w' => (∃ a b : Nat, SzR (entF R) a b ∧ e = .returned (.tuple #[.int .i64 (a : Int), .int .i64 (b : Int)])) ∧ Below w.heap.size w w' := by
  obtain ⟨_, l, hl, hR⟩ := h.ents
  obtain ⟨hnd, hmem⟩ := ents_keys hl hR
  have hSZ : SzR (entF R) l.length ((l.map Prod.fst).map fun k => (entF R k).length).sum := ⟨_, hnd, hmem, by simp, rfl⟩
  have HTOT : Hid (∀ dn : List Kx, dn.Nodup → (∀ a ∈ dn, ∃ v, (a, v) ∈ l) → (dn.map fun k => (entF R k).length).sum ≤ 4000000000000000000) := hidden (fun dn h1 h2 => Nat.le_trans (sum_sub _ dn _ h1 (fun a ha => by obtain ⟨v, hv⟩ := h2 a ha; exact List.mem_map.2 ⟨_, hv, rfl⟩)) (hb _ _ hSZ))
  have HDONE : Hid (∀ dn : List Kx, dn.Nodup → (∀ a ∈ dn, ∃ v, (a, v) ∈ l) → (∀ p ∈ l, p.1 ∈ dn) → SzR (entF R) l.length (dn.map fun k => (entF R k).length).sum) := hidden (fun dn h1 h2 h3 => by
    have hp : dn.Perm (l.map Prod.fst) := (List.perm_ext_iff_of_nodup h1 hnd).2 (fun k => ⟨fun hk => by obtain ⟨v, hv⟩ := h2 k hk; exact List.mem_map.2 ⟨_, hv, rfl⟩, fun hk => by obtain ⟨p, hp, rfl⟩ := List.mem_map.1 hk; exact h3 p hp⟩)
    rw [sum_perm (hp.map fun k => (entF R k).length)]
    exact hSZ)
  have HROW : Hid (∀ a v, (a, v) ∈ l → ∃ ad cp, v = .slice ad (entF R a).length cp) := hidden (fun a v hv => by
    have := al_of_mem hl.nodup hv
    rcases hR a with ⟨e, _⟩ | ⟨v2, e, _, _, ho, _⟩
    · rw [this] at e; cases e
    · rw [this] at e
      obtain rfl := Option.some.inj e
      obtain ⟨ad, cp, e2⟩ := J.owns_form ho
      exact ⟨ad, cp, e2⟩)
  have HBK := hidden h.blk
  have b0 := h.blk.cell 0
  simp only [List.getElem?_cons_zero, List.getElem?_cons_succ] at b0
  obtain ⟨w1, r1, m1, b1⟩ := hl.range (P := Tryz.prog) Tryz.underlying81
  have HM1 := hidden m1
  have HB1 := hidden b1
  have hel := hl.lt
  have hxl := h.blk.lt
  clear h hb hl hR hnd hmem hSZ m1 b1
  go_enter Tryz.func18, Tryz.ntmps18
  go_wp2_with fail
  go_loopw [3, 5, 11, 12] (fun v3 v5 v11 v12 wx => ∃ s : Nat, v3 = .int .i64 (s : Int) ∧ Hid (∃ dn cnt, Mr Kx.val wx eb w.heap.size l dn cnt ∧ dn.Nodup ∧ (∀ a ∈ dn, ∃ v, (a, v) ∈ l) ∧ s = (dn.map fun k => (entF R k).length).sum ∧ Below w.heap.size w wx)) (fun _ _ _ _ wx => wx.rangeLeft eb w.heap.size)
  case atStart => exact ⟨0, rfl, hidden ⟨[], _, HM1.out, List.nodup_nil, by simp, rfl, HB1.out⟩⟩
  case round =>
    rename World => wr
    obtain ⟨s, rfl, HI⟩ := hrel
    obtain ⟨dn, cnt, hM, hdn, hD, hs, hB⟩ := HI.out
    rcases hM.next (P := Tryz.prog) ky105 0 with ⟨hall, hr⟩ | ⟨a, v, w2, cnt', hav, hnd, hcnt, hr, hM2, hc2, hent⟩
    · have HE := hidden (HDONE.out dn hdn hD hall)
      rw [← hs] at HE
      have p0 := (HBK.out.later hB).cell 0
      simp only [List.getElem?_cons_zero, List.getElem?_cons_succ] at p0
      have hln := hM.ml.len (P := Tryz.prog) Tryz.underlying81 3
      have HB := hidden hB
      clear hM hdn hD hs hB hall HI HM1 HB1
      go_wp2_with fail
      go_ret2
      exact ⟨⟨_, s, HE.out, rfl⟩, HB.out⟩
    · obtain ⟨ad, cp, rfl⟩ := HROW.out a v hav
      have hD2 : ∀ x ∈ a :: dn, ∃ v, (x, v) ∈ l := fun x hx => by
        rcases List.mem_cons.1 hx with rfl | hx
        · exact ⟨_, hav⟩
        · exact hD x hx
      have hN2 : (a :: dn).Nodup := List.nodup_cons.2 ⟨hnd, hdn⟩
      have hb2 := HTOT.out _ hN2 hD2
      have hs2 : s + (entF R a).length = ((a :: dn).map fun k => (entF R k).length).sum := by simp only [List.map_cons, List.sum_cons]; omega
      rw [← hs2] at hb2
      have hB2 := hB.trans (hc2.below hB.size (fun i e => by have e' : i = w.heap.size := e; omega))
      have HEND : Hid (∃ dn cnt, Mr Kx.val w2 eb w.heap.size l dn cnt ∧ dn.Nodup ∧ (∀ a ∈ dn, ∃ v, (a, v) ∈ l) ∧ s + (entF R a).length = (dn.map fun k => (entF R k).length).sum ∧ Below w.heap.size w w2) := hidden ⟨_, _, hM2, hN2, hD2, hs2, hB2⟩
      have HLT : Hid (w2.rangeLeft eb w.heap.size < wr.rangeLeft eb w.heap.size) := hidden (by rw [hM2.left, hM.left]; exact hcnt)
      unfold Kx.val at hr hent
      generalize (entF R a).length = N at *
      have hwr : IntKind.i64.wrap ((s : Int) + (N : Int)) = ((s + N : Nat) : Int) := by simp [IntKind.wrap, IntKind.signed, IntKind.bits]; omega
      clear hM hdn hD hs hB hav hnd hcnt hM2 hc2 hD2 hN2 hs2 hB2 HI HM1 HB1 hb2
      go_wp2_with fail
      refine ⟨⟨s + N, ?_, HEND⟩, HLT.out⟩
      first | rfl | simp
end Go.Proofs.YtgmdpbahcbhfjaaGreatDoor.X
/-
  Package index: valuesFor.
-/
namespace Go.Proofs.YtgmdpbahcbhfjaaGreatDoor.X
open Go.RowKit

/-- A list of texts, read. -/
def Txs (w : World) (ad : Option Addr) (l : List ByteArray) : Prop := ∀ (i : Nat) (s : ByteArray), l[i]? = some s → ∃ b off, ad = some ⟨b, off, none⟩ ∧ b < w.heap.size ∧ w.cell? ⟨b, off + i, none⟩ = some (.string s)
theorem Txs.later {w w' : World} {ad : Option Addr} {l : List ByteArray} (h : Txs w ad l) (hb : Below w.heap.size w w') : Txs w' ad l := fun i s hi => by
  obtain ⟨b, off, e, h1, h2⟩ := h i s hi
  exact ⟨b, off, e, Nat.lt_of_lt_of_le h1 hb.size, by rw [hb.cell (p := ⟨b, off + i, none⟩) h1]; exact h2⟩
theorem txs_of_owns {w : World} {base : Nat} {ad : Option Addr} {c : Nat} {l : List ByteArray} (h : w.ownsRow base 9 1 (.slice ad l.length c) l.length (strs l)) : Txs w ad l := fun i s hi => by
  have hil := (List.getElem?_eq_some_iff.1 hi).1
  rcases h.2 with ⟨_, h1⟩ | ⟨g, cap, cur, hv, _, hg, _⟩
  · omega
  · simp only [Value.slice.injEq] at hv
    obtain ⟨rfl, _, rfl⟩ := hv
    refine ⟨g, 0, rfl, (Array.getElem?_eq_some_iff.1 hg).1, ?_⟩
    rw [Nat.zero_add, h.cellAt i (by omega)]
    simp [strs, hi]
def mtV (m : Mt) : Value := .agg #[.string m.n, .int .i64 m.op, .string m.t]
/-- A look at a tenant's values of a name. -/
theorem Rols.lookV {w : World} {c : Col} {j rb : Nat} {R : Rr} {V : ByteArray → ByteArray → List ByteArray} (h : Rols w c j rb R V) (t n : ByteArray) : ∃ ad cap nb vb a2 c2, (Instr.lookup 82 (.map (some rb)) (.string t) false).run Tryz.prog w = .ok (.agg #[.slice ad (R t).length cap, .map nb, .map vb]) w ∧
    (∀ w', Below w.heap.size w w' → (Instr.lookup 101 (.map vb) (.string n) false).run Tryz.prog w' = .ok (.slice a2 (V t n).length c2) w') ∧ Txs w a2 (V t n) := by
  obtain ⟨_, lr, hl, hR⟩ := h
  have hlk := hl.look (P := Tryz.prog) ky9 Tryz.underlying82 (zero103 w) t false
  rcases hR t with ⟨e, e1, e2⟩ | ⟨sv, nb, vb, e, _, hsr, _, _, _, lv, hlv, hV⟩
  · refine ⟨none, 0, none, none, none, 0, ?_, fun w' hb => ?_, fun i s hi => ?_⟩
    · rw [hlk, e, e1]; rfl
    · rw [e2 n]
      exact ml_nil_look ky9 Tryz.underlying101 (zero69 w') n false
    · rw [e2 n] at hi; simp at hi
  · obtain ⟨rows, h8, _⟩ := hsr.own
    obtain ⟨ad, cap, rfl, _⟩ := owns_form2 h8
    obtain ⟨h1, _⟩ := (hV n).owns
    obtain ⟨a2, c2, e2, _⟩ := owns_form2 h1
    refine ⟨ad, cap, some nb, some vb, a2, c2, by rw [hlk, e]; rfl, fun w' hb => ?_, txs_of_owns (by rw [← e2]; exact h1)⟩
    have := (hlv.later hb).look (P := Tryz.prog) ky9 Tryz.underlying101 (zero69 w') n false
    rw [← e2]
    exact this
def ValsV (w : World) (l : List ByteArray) (e : Ending) (w' : World) : Prop := ∃ ad c, e = .returned (.slice ad l.length c) ∧ Txs w' ad l ∧ Below w.heap.size w w'
theorem lst_nil (d : ByteArray) : d.toList.isEmpty = decide (d.size = 0) := by
  rw [ByteArray.toList_eq, Bool.eq_iff_iff, List.isEmpty_iff, decide_eq_true_eq, ← List.length_eq_zero_iff, Array.length_toList]
  rfl
theorem isEmpty_em0 : em0.toList.isEmpty = true := by rw [lst_nil]; rfl
theorem isEmpty_ne {s : ByteArray} (h : ¬ s = em0) : s.toList.isEmpty = false := by
  cases hs : s.toList.isEmpty with
  | false => rfl
  | true =>
    exfalso
    apply h
    rw [List.isEmpty_iff] at hs
    have h1 := lst_nil s
    rw [hs] at h1
    have h2 : s.size = 0 := by simpa using h1
    cases s with
    | mk d =>
      have : d = #[] := Array.eq_empty_of_size_eq_zero h2
      rw [this]
      rfl
set_option maxRecDepth 100000 in
set_option maxHeartbeats 4000000 in
theorem valuesForP {w : World} {c : Col} {j x eb rb : Nat} {R : Rr} {V : ByteArray → ByteArray → List ByteArray} (hB : Blk w x 84 [.map (some eb), .map (some rb)]) (h : Rols w c j rb R V) (t : ByteArray) (m : Mt) :
    Calls Tryz.prog 72 #[.pointer (some ⟨x, 0, none⟩), .string t, mtV m] w (ValsV w (valsF (V t m.n) m)) := by
  obtain ⟨n, op, tx⟩ := m
  unfold mtV
  have HLK : Hid (∀ w', Below w.heap.size w w' → ∃ ad cap nb vb a2 c2, w'.cell? ⟨x, 1, none⟩ = some (.map (some rb)) ∧ (Instr.lookup 82 (.map (some rb)) (.string t) false).run Tryz.prog w'.drew = .ok (.agg #[.slice ad (R t).length cap, .map nb, .map vb]) w'.drew ∧
      (Instr.lookup 101 (.map vb) (.string n) false).run Tryz.prog w'.drew = .ok (.slice a2 (V t n).length c2) w'.drew ∧ Txs w' a2 (V t n)) := hidden (fun w' hb => by
    have hk : Rols w'.drew c j rb R V := by
      obtain ⟨h1, l, h2, h3⟩ := h
      exact ⟨h1, l, (h2.later hb).later ((Below.refl _ _).drew), fun t => ((h3 t).chg (Chg.of_below (F := fun _ => False) (hb.trans (((Below.refl w'.heap.size w').drew).mono hb.size))) (fun _ _ e => e.elim) (fun _ _ => rfl))⟩
    obtain ⟨ad, cap, nb, vb, a2, c2, h1, h2, h3⟩ := hk.lookV t n
    exact ⟨ad, cap, nb, vb, a2, c2, (hB.later hb).cell 1, h1, h2 _ (Below.refl _ _), h3⟩)
  clear h hB
  have hbx : ∀ v : Value, Below w.heap.size w (w.alloc (.cells #[.string n, .int .i64 op, v] 78)) := fun v => (Below.refl _ _).alloc (Nat.le_refl _) _
  by_cases hop : op = 1 ∨ op = 2
  · by_cases ht : tx = em0
    · have hF : Hid (valsF (V t n) ⟨n, op, tx⟩ = V t n) := hidden (by unfold valsF; rw [if_neg (fun e => e.2 ht)])
      have HE := isEmpty_em0
      obtain ⟨ad, cap, nb, vb, a2, c2, h1, h2, h3, h4⟩ := HLK.out _ (hbx (.string tx))
      have hf2 := fun w => fld2 w ad (R t).length cap nb vb
      have H4 := hidden h4
      have HBX := hidden (hbx (.string tx))
      rw [hF.out]
      obtain ⟨N, hN⟩ : ∃ N, (V t n).length = N := ⟨_, rfl⟩
      rw [hN] at h3
      have HN := hidden hN
      generalize (R t).length = K at *
      clear h4 hbx hF hN HLK
      subst ht
      rcases hop with rfl | rfl
      all_goals
        go_enter Tryz.func72, Tryz.ntmps72
        go_wp2_with fail
        go_region
        all_goals
          go_wp2_with fail
          go_ret
          exact ⟨a2, c2, by rw [HN.out]; rfl, H4.out.later ((Below.refl _ _).drew), HBX.out.drew⟩
    · have hF : Hid (valsF (V t n) ⟨n, op, tx⟩ = [tx]) := hidden (by unfold valsF; rw [if_pos ⟨hop, ht⟩])
      rw [hF.out]
      have HE := isEmpty_ne ht
      clear hF HLK ht
      rcases hop with rfl | rfl
      all_goals
        go_enter Tryz.func72, Tryz.ntmps72
        go_wp2_with fail
        go_ret
        refine ⟨some ⟨w.heap.size + 1, 0, none⟩, 1, rfl, ?_, (hbx _).alloc (hbx (.string tx)).size _⟩
        intro i s hi
        cases i with
        | zero =>
          simp at hi
          subst hi
          refine ⟨w.heap.size + 1, 0, rfl, by simp, ?_⟩
          rw [← World.size_alloc w]
          exact (Blk.new (w.alloc _) 9 [.string tx]).cell 0
        | succ i => simp at hi
  · have hF : Hid (valsF (V t n) ⟨n, op, tx⟩ = V t n) := hidden (by unfold valsF; rw [if_neg (fun e => hop e.1)])
    have e1 : (op == 1) = false := by simp; omega
    have e2 : (op == 2) = false := by simp; omega
    obtain ⟨ad, cap, nb, vb, a2, c2, h1, h2, h3, h4⟩ := HLK.out _ (hbx (.string tx))
    have hf2 := fun w => fld2 w ad (R t).length cap nb vb
    have H4 := hidden h4
    have HBX := hidden (hbx (.string tx))
    rw [hF.out]
    obtain ⟨N, hN⟩ : ∃ N, (V t n).length = N := ⟨_, rfl⟩
    rw [hN] at h3
    have HN := hidden hN
    generalize (R t).length = K at *
    clear h4 hbx hF hN HLK
    clear hop
    go_enter Tryz.func72, Tryz.ntmps72
    go_wp2_with fail
    go_region
    all_goals
      go_wp2_with fail
      go_ret
      exact ⟨a2, c2, by rw [HN.out]; rfl, H4.out.later ((Below.refl _ _).drew), HBX.out.drew⟩
end Go.Proofs.YtgmdpbahcbhfjaaGreatDoor.X
