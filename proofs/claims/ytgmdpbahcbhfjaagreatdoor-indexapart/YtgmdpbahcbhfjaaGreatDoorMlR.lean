import Derived.Test.YtgmdpbahcbhfjaaGreatDoorMlG
import Derived.Maps.RangeWalk
set_option linter.unusedSectionVars false
set_option linter.unusedSimpArgs false
set_option linter.unusedVariables false
set_option maxHeartbeats 40000000
set_option maxRecDepth 100000
/-
  Ranging over a map that is told as a list. Nothing of the program.
-/
namespace Go.Proofs.YtgmdpbahcbhfjaaGreatDoor
open Go.RowKit Go.MapKept
open Go.ChangeMaps (setBlock heap_setBlock_same heap_setBlock_other)

section
variable {α : Type} [DecidableEq α]
/-- An iterator in block r over the map in block b; the keys that have come out; how many are left. -/
def Mr (e : α → Value) (w : World) (b r : Nat) (l : List (α × Value)) (dn : List α) (cnt : Nat) : Prop :=
  ∃ es clock since seen c0, w.heap[b]? = some (.map es clock) ∧ Stamped es clock ∧ (es.toList.map fun x => (x.key, x.val)).Perm (l.map fun p => (e p.1, p.2)) ∧
    w.heap[r]? = some (.mapIter (some b) since seen c0) ∧ (∀ x ∈ es.toList, x.born < since) ∧ since ≤ c0 ∧ c0 ≤ clock ∧ (leftOf es seen).size = cnt ∧
    (∀ x ∈ es.toList, seen.contains x.born = true ↔ ∃ a ∈ dn, x.key = e a)
variable {P : Program} {w : World} {b r cnt : Nat} {e : α → Value} {l : List (α × Value)} {dn : List α} {t kt et : TypeId}
theorem Mr.ml (h : Mr e w b r l dn cnt) : Ml e w b l := by
  obtain ⟨es, clock, since, seen, c0, h1, h2, h3, _⟩ := h
  exact ⟨es, clock, h1, h2, h3⟩
theorem Mr.lt (h : Mr e w b r l dn cnt) : r < w.heap.size := by
  obtain ⟨es, clock, since, seen, c0, h1, h2, h3, h4, _⟩ := h
  exact (Array.getElem?_eq_some_iff.1 h4).1
theorem Mr.chg {F : Nat → Prop} {w' : World} (h : Mr e w b r l dn cnt) (hc : Chg F w w') (hb : ¬ F b) (hr : ¬ F r) : Mr e w' b r l dn cnt := by
  have hbl := h.ml.lt
  have hrl := h.lt
  obtain ⟨es, clock, since, seen, c0, h1, h2, h3, h4, h5⟩ := h
  exact ⟨es, clock, since, seen, c0, (hc.block b hbl hb).trans h1, h2, h3, (hc.block r hrl hr).trans h4, h5⟩
theorem Mr.left (h : Mr e w b r l dn cnt) : w.rangeLeft b r = cnt := by
  obtain ⟨es, clock, since, seen, c0, h1, h2, h3, h4, _, _, _, h5, _⟩ := h
  unfold World.rangeLeft
  rw [h1, h4]
  exact h5
/-- 'range m'. -/
theorem Ml.range (h : Ml e w b l) (ht : P.underlying t = some (.map kt et)) : ∃ w', (Instr.range t (.map (some b))).run P w = .ok (.pointer (some ⟨w.heap.size, 0, none⟩)) w' ∧ Mr e w' b w.heap.size l [] l.length ∧ Below w.heap.size w w' := by
  have hlt := h.lt
  obtain ⟨es, clock, hb, hs, hm⟩ := h
  refine ⟨_, run_range_map w t kt et b es clock ht hb, ⟨es, clock, clock, #[], clock, ((MapKept.heap_alloc w _).2 b hlt).trans hb, hs, hm, (MapKept.heap_alloc w _).1, ((stamped_iff es clock).1 hs).1, Nat.le_refl _, Nat.le_refl _, ?_, ?_⟩, (Below.refl _ _).alloc (Nat.le_refl _) _⟩
  · have : es.size = l.length := by simpa using hm.length_eq
    have e0 : leftOf es #[] = es := by
      unfold leftOf
      exact Array.filter_eq_self.2 (by simp)
    rw [e0, this]
  · intro x hx
    simp
/-- The next key. -/
theorem Mr.next (h : Mr e w b r l dn cnt) (K : Ky P kt e) (ty : TypeId) :
    ((∀ p ∈ l, p.1 ∈ dn) ∧ (Instr.next (.pointer (some ⟨r, 0, none⟩)) false ty).run P w = .ok (.tuple #[.bool false]) w) ∨
    ∃ a v w1 cnt', (a, v) ∈ l ∧ ¬ a ∈ dn ∧ cnt' < cnt ∧ (Instr.next (.pointer (some ⟨r, 0, none⟩)) false ty).run P w = .ok (.tuple #[.bool true, e a, v]) w1 ∧ Mr e w1 b r l (a :: dn) cnt' ∧ Chg (fun j => j = r) w w1 ∧ (Instr.entry (.pointer (some ⟨r, 0, none⟩))).run P w1 = .ok (.tuple #[e a, v]) w1 := by
  have hbl := h.ml.lt
  obtain ⟨es, clock, since, seen, c0, h1, h2, h3, h4, h5, h6, h7, h8, h9⟩ := h
  have hbr : b ≠ r := by
    rintro rfl
    rw [h1] at h4
    cases h4
  rcases run_next_at (P := P) w ty r b since c0 seen es clock h4 h1 h5 h6 with ⟨hz, hr⟩ | ⟨x, hx, w1, hw1, hr⟩
  · refine .inl ⟨fun p hp => ?_, hr⟩
    have hm : (e p.1, p.2) ∈ es.toList.map fun x => (x.key, x.val) := h3.mem_iff.2 (List.mem_map.2 ⟨p, hp, rfl⟩)
    obtain ⟨x, hx, hxp⟩ := List.mem_map.1 hm
    obtain ⟨a, ha, hxa⟩ := (h9 x hx).1 (all_seen es seen hz x hx)
    have : a = p.1 := K.inj (by rw [← hxa, (Prod.mk.inj hxp).1])
    rw [← this]
    exact ha
  · obtain ⟨hxe, hxs⟩ := mem_left hx
    have hm : (x.key, x.val) ∈ l.map fun p => (e p.1, p.2) := h3.mem_iff.1 (List.mem_map.2 ⟨x, hxe, rfl⟩)
    obtain ⟨p, hp, hpx⟩ := List.mem_map.1 hm
    have hk : x.key = e p.1 := (Prod.mk.inj hpx).1.symm
    have hv : x.val = p.2 := (Prod.mk.inj hpx).2.symm
    have hnd : ¬ p.1 ∈ dn := fun hd => by
      have := (h9 x hxe).2 ⟨p.1, hd, hk⟩
      rw [hxs] at this
      cases this
    have hr1 : w1.heap[r]? = some (.mapIter (some b) since seen c0) := by rcases hw1 with rfl | rfl <;> exact h4
    have hb1 : w1.heap[b]? = some (.map es clock) := by rcases hw1 with rfl | rfl <;> exact h1
    have hrl : r < w1.heap.size := (Array.getElem?_eq_some_iff.1 hr1).1
    have hsr : (setBlock w1 r (.mapIter (some b) since (seen.push x.born) clock)).heap[r]? = some (.mapIter (some b) since (seen.push x.born) clock) := by simp [setBlock, hrl]
    have hsb : (setBlock w1 r (.mapIter (some b) since (seen.push x.born) clock)).heap[b]? = some (.map es clock) := by
      simp only [setBlock]
      rw [Array.getElem?_setIfInBounds_ne hbr.symm]
      exact hb1
    have hc1 : Chg (fun j => j = r) w w1 := by
      rcases hw1 with rfl | rfl
      · exact Chg.refl _ _
      · exact Chg.drew _ _
    have hst := (stamped_iff es clock).1 h2
    refine .inr ⟨p.1, p.2, _, _, hp, hnd, ?_, by rw [← hk, ← hv]; exact hr, ⟨es, clock, since, seen.push x.born, clock, hsb, h2, h3, hsr, h5, Nat.le_trans h6 h7, Nat.le_refl _, rfl, ?_⟩, hc1.trans ⟨rfl, rfl, rfl, by simp [setBlock], fun k _ hk => by simp [setBlock, Ne.symm hk]⟩ (fun _ _ h => h), ?_⟩
    · rw [← h8]
      exact left_shrinks es seen x hx
    · intro y hy
      rw [contains_push]
      constructor
      · intro hyc
        rcases Bool.or_eq_true_iff.1 hyc with h | h
        · obtain ⟨a, ha, hya⟩ := (h9 y hy).1 h
          exact ⟨a, .tail _ ha, hya⟩
        · have hyx : y.born = x.born := by simpa using h
          have f1 := find_born y es.toList hst.2.1 hy
          have f2 := find_born x es.toList hst.2.1 hxe
          rw [hyx, f2] at f1
          exact ⟨p.1, .head _, by rw [← Option.some.inj f1]; exact hk⟩
      · rintro ⟨a, ha, hya⟩
        rcases List.mem_cons.1 ha with rfl | ha
        · have : y = x := entry_eq_of_key hst.2.2 hy hxe (by rw [hya, hk])
          rw [this]
          simp
        · rw [(h9 y hy).2 ⟨a, ha, hya⟩]
          simp
    · rw [← hk, ← hv]
      exact run_entry_at _ r b since seen es clock x hsr hsb hxe hst.2.1
end
end Go.Proofs.YtgmdpbahcbhfjaaGreatDoor
