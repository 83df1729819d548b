/-
  PoolPlays: same; lists that come out.
-/
import Derived.Test.YtjlpkgepiajapaaDoorPpL
import Derived.BigQuiet
namespace Go.Proofs.YtjlpkgepiajapaaDoor
open Go.RowKit
set_option linter.unusedVariables false
set_option linter.unusedSimpArgs false

set_option maxHeartbeats 1000000 in
theorem sameP (ad bd : Option Addr) (N c d : Nat) (xs : List Int) (w : World) (hN : xs.length = N) (h1 : Rw w 3 (.slice ad N c) (xs.map encZ)) (h2 : Rw w 3 (.slice bd N d) (xs.map encZ)) (h6 : N ≤ 65536) :
    Calls Tryd.prog 25 #[.slice ad N c, .slice bd N d] w fun e w' => e = .returned (.bool true) ∧ Below w.heap.size w w' := by
  have HN := hidden hN
  have H1 := hidden h1
  have H2 := hidden h2
  clear hN h1 h2
  go_enter Tryd.func25, Tryd.ntmps25
  go_wp2_with fail
  go_loopw [5] (fun v5 wx => ∃ i : Nat, v5 = .int .i64 (i : Int) ∧ i ≤ N ∧ Hid (Below w.heap.size w wx)) (fun v5 _ => N - (intOf v5).toNat)
  case atStart => exact ⟨0, rfl, by omega, hidden (Below.refl _ _)⟩
  case round =>
    obtain ⟨i, rfl, hi, hB⟩ := hrel
    by_cases hin : i < N
    · have hx : xs[i]? = some (xs[i]'(by have := HN.out; omega)) := by simp
      generalize xs[i]'(by have := HN.out; omega) = x at hx
      have hx2 : (xs.map encZ)[i]? = some (.int .i64 x) := by rw [List.getElem?_map, hx]; rfl
      obtain ⟨g1, rfl⟩ : ∃ g, ad = some ⟨g, 0, none⟩ := by
        obtain ⟨ad', c', e, h9⟩ := H1.out.slice
        simp only [List.length_map, Value.slice.injEq] at e
        rw [e.1]
        exact h9 (by rw [List.length_map]; have := HN.out; omega)
      obtain ⟨g2, rfl⟩ : ∃ g, bd = some ⟨g, 0, none⟩ := by
        obtain ⟨ad', c', e, h9⟩ := H2.out.slice
        simp only [List.length_map, Value.slice.injEq] at e
        rw [e.1]
        exact h9 (by rw [List.length_map]; have := HN.out; omega)
      have c1 := (H1.out.later hB.out).cell hx2
      have c2 := (H2.out.later hB.out).cell hx2
      clear hx hx2
      go_wp2_with fail
      go_quiet (fail)
      go_wp2_with fail
      refine ⟨⟨i + 1, by first | rfl | simp, by omega, hidden (hB.out.trans ((below_drewN (Below.refl _ _) _).mono hB.out.size))⟩, ?_⟩
      show N - ((i : Int) + 1).toNat < N - (i : Int).toNat
      omega
    · go_wp2_with fail
      go_ret
      exact ⟨rfl, hB.out⟩
section
variable {w0 w w' : World} {v : Nat} {p r q n : Nat → Nat} {st sr : Nat → Sx} {F : Nat → Nat → Prop} {B : Nat → Nat → Value} {vb vn : Value} {Lb Ln : List Value}
/-- Bytes came out, and their owner has written over them. -/
theorem PS.addB {a vb' : Value} {k : Nat} (h : PS w0 w v p r q n st sr F B vb vn Lb Ln) (hk : k ≤ 65536) (hl : Lb.length < 60) (hB : Blk w' v 33 ((wlC p r vb vn).set 6 vb')) (hO : w'.ownsRow w0.heap.size 40 1 vb' (Lb.length + 1) (Lb ++ [a])) (hR : Rw w' 5 a (List.replicate k (mkB Lb.length)))
    (c : Chg (fun i => i = v ∨ a.ownBlock = some i ∨ vb.ownBlock = some i) w w') (ha : ∀ g, a.ownBlock = some g → w0.heap.size ≤ g ∧ Tg w g 5 ∧ ¬ OB Lb g ∧ ∀ j, j < 3 → ¬ RG (sr j) (B j) g) : PS w0 w' v p r q n st sr F B vb' vn (Lb ++ [a]) Ln := by
  have hT : ∀ i t, Tg w i t → t ≠ 33 → t ≠ 5 → t ≠ 40 → ¬ (i = v ∨ a.ownBlock = some i ∨ vb.ownBlock = some i) := by
    intro i t ht h1 h2 h3 e
    rcases e with e | e | e
    · exact h1 (ht.one (by rw [e]; exact h.blk.tg))
    · exact h2 (ht.one (ha i e).2.1)
    · exact h3 (ht.one (owns_tg h.ob i e))
  have hlo : ∀ i, (i = v ∨ a.ownBlock = some i ∨ vb.ownBlock = some i) → w0.heap.size ≤ i := by
    rintro i (e | e | e)
    · rw [e]; exact h.lo.1
    · exact (ha i e).1
    · exact (h.ob.lt i e).1
  have h5 : ∀ i, Tg w i 5 → (∀ g, a.ownBlock = some g → ¬ i = g) → ¬ (i = v ∨ a.ownBlock = some i ∨ vb.ownBlock = some i) := by
    rintro i ht hne (e | e | e)
    · exact (by decide : (5 : Nat) ≠ 33) (ht.one (by rw [e]; exact h.blk.tg))
    · exact hne i e rfl
    · exact (by decide : (5 : Nat) ≠ 40) (ht.one (owns_tg h.ob i e))
  refine ⟨h.bel.trans (c.below h.bel.size hlo), h.gv.chg c (fun e => by have := hlo 0 e; have := h.pos; omega), h.pos, hB, fun j hj => ?_, fun j hj => ?_, by simpa using hO, ?_, ?_, ?_, ⟨by simp; omega, h.len.2⟩, h.lo, h.fF, h.qq, fun j hj i hi hO2 => ?_⟩
  · refine (h.pq j hj).chg c (fun i hi e => ?_) (hT _ 63 (h.pq j hj).own (by decide) (by decide) (by decide))
    rcases e with e | e | e
    · exact absurd ((h.pq j hj).tag hi 33 (by rw [e]; exact h.blk.tg)) (by decide)
    · exact absurd ((h.pq j hj).tag hi 5 (ha i e).2.1) (by decide)
    · exact absurd ((h.pq j hj).tag hi 40 (owns_tg h.ob i e)) (by decide)
  · exact (h.rp j hj).chg c (hT _ 66 (h.rp j hj).blk.tg (by decide) (by decide) (by decide)) (hT _ 85 (h.rp j hj).row.tg (by decide) (by decide) (by decide)) (fun i hi => h5 i (RG.tg (h.rp j hj) hi) (fun g hg e => (ha g hg).2.2.2 j hj (by rw [← e]; exact hi)))
  · exact c.owns h.on (fun g hg => hT g 22 (owns_tg h.on g hg) (by decide) (by decide) (by decide))
  · exact (h.tb.chg c (fun g hg => h5 g (h.tb.tg hg) (fun g' hg' e => (ha g' hg').2.2.1 (by rw [← e]; exact hg)))).add hk hR (fun g hg => ⟨(ha g hg).1, (ha g hg).2.2.1⟩)
  · exact h.tn.chg c (fun g hg => hT g 3 (h.tn.tg hg) (by decide) (by decide) (by decide))
  · obtain ⟨z, hz, e⟩ := hO2
    rcases List.mem_append.1 hz with h1 | h1
    · exact h.gO j hj i hi ⟨z, h1, e⟩
    · simp at h1; subst h1; exact (ha i e).2.2.2 j hj hi
/-- Numbers came out, and their owner has written over them. -/
theorem PS.addN {a vn' : Value} {k : Nat} (h : PS w0 w v p r q n st sr F B vb vn Lb Ln) (hk : k ≤ 65536) (hl : Ln.length < 60) (hB : Blk w' v 33 ((wlC p r vb vn).set 7 vn')) (hO : w'.ownsRow w0.heap.size 22 1 vn' (Ln.length + 1) (Ln ++ [a])) (hR : Rw w' 3 a (List.replicate k (mkI Ln.length)))
    (c : Chg (fun i => i = v ∨ a.ownBlock = some i ∨ vn.ownBlock = some i) w w') (ha : ∀ g, a.ownBlock = some g → w0.heap.size ≤ g ∧ Tg w g 3 ∧ ¬ OB Ln g) : PS w0 w' v p r q n st sr F B vb vn' Lb (Ln ++ [a]) := by
  have hT : ∀ i t, Tg w i t → t ≠ 33 → t ≠ 3 → t ≠ 22 → ¬ (i = v ∨ a.ownBlock = some i ∨ vn.ownBlock = some i) := by
    intro i t ht h1 h2 h3 e
    rcases e with e | e | e
    · exact h1 (ht.one (by rw [e]; exact h.blk.tg))
    · exact h2 (ht.one (ha i e).2.1)
    · exact h3 (ht.one (owns_tg h.on i e))
  have hlo : ∀ i, (i = v ∨ a.ownBlock = some i ∨ vn.ownBlock = some i) → w0.heap.size ≤ i := by
    rintro i (e | e | e)
    · rw [e]; exact h.lo.1
    · exact (ha i e).1
    · exact (h.on.lt i e).1
  have h3 : ∀ i, Tg w i 3 → (∀ g, a.ownBlock = some g → ¬ i = g) → ¬ (i = v ∨ a.ownBlock = some i ∨ vn.ownBlock = some i) := by
    rintro i ht hne (e | e | e)
    · exact (by decide : (3 : Nat) ≠ 33) (ht.one (by rw [e]; exact h.blk.tg))
    · exact hne i e rfl
    · exact (by decide : (3 : Nat) ≠ 22) (ht.one (owns_tg h.on i e))
  refine ⟨h.bel.trans (c.below h.bel.size hlo), h.gv.chg c (fun e => by have := hlo 0 e; have := h.pos; omega), h.pos, hB, fun j hj => ?_, fun j hj => ?_, ?_, by simpa using hO, ?_, ?_, ⟨h.len.1, by simp; omega⟩, h.lo, h.fF, h.qq, h.gO⟩
  · refine (h.pq j hj).chg c (fun i hi e => ?_) (hT _ 63 (h.pq j hj).own (by decide) (by decide) (by decide))
    rcases e with e | e | e
    · exact absurd ((h.pq j hj).tag hi 33 (by rw [e]; exact h.blk.tg)) (by decide)
    · exact absurd ((h.pq j hj).tag hi 3 (ha i e).2.1) (by decide)
    · exact absurd ((h.pq j hj).tag hi 22 (owns_tg h.on i e)) (by decide)
  · exact (h.rp j hj).chg c (hT _ 66 (h.rp j hj).blk.tg (by decide) (by decide) (by decide)) (hT _ 85 (h.rp j hj).row.tg (by decide) (by decide) (by decide)) (fun i hi => hT i 5 (RG.tg (h.rp j hj) hi) (by decide) (by decide) (by decide))
  · exact c.owns h.ob (fun g hg => hT g 40 (owns_tg h.ob g hg) (by decide) (by decide) (by decide))
  · exact h.tb.chg c (fun g hg => hT g 5 (h.tb.tg hg) (by decide) (by decide) (by decide))
  · exact (h.tn.chg c (fun g hg => h3 g (h.tn.tg hg) (fun g' hg' e => (ha g' hg').2.2 (by rw [← e]; exact hg)))).add hk hR (fun g hg => ⟨(ha g hg).1, (ha g hg).2.2⟩)
end

end Go.Proofs.YtjlpkgepiajapaaDoor
