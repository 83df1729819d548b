/-
  Get of the document: its last region.
-/
import Derived.Test.YtiaopgphjailiaaFrE
namespace Go.Proofs.Ytiaopgphjailiaa
open Go.RowKit
set_option linter.unusedVariables false
set_option linter.unusedSimpArgs false

set_option maxRecDepth 100000 in
set_option maxHeartbeats 2000000 in
theorem rget_r10 (b off len cap z : Nat) (k : Int) (B n : Nat) (xs : List Int) (w : World) (a0 : Act) (Q : Exit → Act → World → Prop) (hsz : a0.tmps.size = 48)
    (s0 : a0.tmps.getD 0 undef = .slice (some ⟨b, off, none⟩) len cap)
    (s6 : a0.tmps.getD 6 undef = .int .i64 (z : Int))
    (s7 : a0.tmps.getD 7 undef = .slice none 0 0)
    (hpos : 0 < len)
    (hcz : ¬ cap < z)
    (hzc : z ≤ cap)
    (h5z : ¬ (z : Int) < 5)
    (hn5 : ¬ cap = 5)
    (hz4 : IntKind.i64.wrap ((z : Int) + 4) = (z : Int) + 4)
    (hzb : z ≤ 140737488355328)
    (hB : B ≤ w.heap.size)
    (hc : ∀ w1, Lat w w1 → w1.cell? ⟨b, off, none⟩ = some (.int .u8 k))
    (hx : ∀ w1, Lat w w1 → Sl w1 (some ⟨b, off + 5, none⟩) (z - 5) xs)
    (hQ : ∀ (v38 v39 v40 v41 v42 v43 v44 v45 v46 v47 v2 v3 v4 : Value) (w1 : World), Lat w w1 → v2 = .int .u8 k ∧ RowE B (z - 5) xs v3 w1 ∧ v4 = .int .i64 ((z : Int) + 4) → Q .normal (((((((((((((a0.put (some 38) v38).put (some 39) v39).put (some 40) v40).put (some 41) v41).put (some 42) v42).put (some 43) v43).put (some 44) v44).put (some 45) v45).put (some 46) v46).put (some 47) v47).put (some 2) v2).put (some 3) v3).put (some 4) v4) w1) :
    Code.wp Try.prog ((Try.f18.body.bind (findRegion 10)).getD .skip) Q a0 w := by
  conv => arg 2; whnf
  refine wp_region_inv Lat (TE [Ent.val (.slice (some ⟨b, off, none⟩) len cap), Ent.val (.pointer (some ⟨b, off, none⟩)), Ent.val (.int .u8 k), Ent.val (.slice none 0 0), Ent.val (.slice (some ⟨b, off, none⟩) len cap), Ent.val (.int .i64 (z : Int)), Ent.val (.slice (some ⟨b, off + 5, none⟩) (z - 5) (cap - 5)), rowE B (z - 5) xs, Ent.val (.int .i64 (z : Int)), Ent.val (.int .i64 ((z : Int) + 4)), Ent.val (.int .u8 k), rowE B (z - 5) xs, Ent.val (.int .i64 ((z : Int) + 4))]) (by kernel_rfl) (by kernel_rfl) (by kernel_rfl) (by rw [hsz]; kernel_rfl) (by kernel_rfl) Lat.refl Lat.trans (TE_stable _) (Lat.draw w) ?hop ?hdone
  case hdone =>
    intro a w1 hL hS hT
    have he := same_puts hS
    rw [he]
    exact hQ (a.tmps.getD 38 undef) (a.tmps.getD 39 undef) (a.tmps.getD 40 undef) (a.tmps.getD 41 undef) (a.tmps.getD 42 undef) (a.tmps.getD 43 undef) (a.tmps.getD 44 undef) (a.tmps.getD 45 undef) (a.tmps.getD 46 undef) (a.tmps.getD 47 undef) (a.tmps.getD 2 undef) (a.tmps.getD 3 undef) (a.tmps.getD 4 undef) w1 hL (⟨hT 10 _ rfl, hT 11 _ rfl, hT 12 _ rfl⟩)
  case hop =>
    intro i o hi
    have hlt : i < 13 := (Array.getElem?_eq_some_iff.1 hi).1
    rcases (show i = 0 ∨ i = 1 ∨ i = 2 ∨ i = 3 ∨ i = 4 ∨ i = 5 ∨ i = 6 ∨ i = 7 ∨ i = 8 ∨ i = 9 ∨ i = 10 ∨ i = 11 ∨ i = 12 by omega) with rfl | rfl | rfl | rfl | rfl | rfl | rfl | rfl | rfl | rfl | rfl | rfl | rfl
    · obtain rfl := Option.some.inj hi
      clear hi hlt
      intro a w1 hL hS hD
      have e0 : a.tmps.getD 0 undef = .slice (some ⟨b, off, none⟩) len cap := (hS.slot 0 (by kernel_rfl)).trans s0
      refine step_yes rfl ?_
      exact ok_value Lat.refl (.slice (some ⟨b, off, none⟩) len cap) (by simp [execOp, Act.eval, e0, go_sem]) rfl
    · obtain rfl := Option.some.inj hi
      clear hi hlt
      intro a w1 hL hS hD
      have d0 : a.tmps.getD 38 undef = .slice (some ⟨b, off, none⟩) len cap := hD ⟨0, .data⟩ (by simp) rfl _ rfl
      refine step_yes rfl ?_
      exact ok_value Lat.refl (.pointer (some ⟨b, off, none⟩)) (by simp [execOp, Act.eval, d0, hpos, go_sem]) rfl
    · obtain rfl := Option.some.inj hi
      clear hi hlt
      intro a w1 hL hS hD
      have d1 : a.tmps.getD 39 undef = .pointer (some ⟨b, off, none⟩) := hD ⟨1, .data⟩ (by simp) rfl _ rfl
      refine step_yes rfl ?_
      exact ok_value Lat.refl (.int .u8 k) (by simp [execOp, Act.eval, d1, hc w1 hL, go_sem]) rfl
    · obtain rfl := Option.some.inj hi
      clear hi hlt
      intro a w1 hL hS hD
      have e7 : a.tmps.getD 7 undef = .slice none 0 0 := (hS.slot 7 (by kernel_rfl)).trans s7
      refine step_yes rfl ?_
      exact ok_value Lat.refl (.slice none 0 0) (by simp [execOp, Act.eval, e7, go_sem]) rfl
    · obtain rfl := Option.some.inj hi
      clear hi hlt
      intro a w1 hL hS hD
      have e0 : a.tmps.getD 0 undef = .slice (some ⟨b, off, none⟩) len cap := (hS.slot 0 (by kernel_rfl)).trans s0
      refine step_yes rfl ?_
      exact ok_value Lat.refl (.slice (some ⟨b, off, none⟩) len cap) (by simp [execOp, Act.eval, e0, go_sem]) rfl
    · obtain rfl := Option.some.inj hi
      clear hi hlt
      intro a w1 hL hS hD
      have e6 : a.tmps.getD 6 undef = .int .i64 (z : Int) := (hS.slot 6 (by kernel_rfl)).trans s6
      refine step_yes rfl ?_
      exact ok_value Lat.refl (.int .i64 (z : Int)) (by simp [execOp, Act.eval, e6, go_sem]) rfl
    · obtain rfl := Option.some.inj hi
      clear hi hlt
      intro a w1 hL hS hD
      have d4 : a.tmps.getD 42 undef = .slice (some ⟨b, off, none⟩) len cap := hD ⟨4, .data⟩ (by simp) rfl _ rfl
      have d5 : a.tmps.getD 43 undef = .int .i64 (z : Int) := hD ⟨5, .data⟩ (by simp) rfl _ rfl
      refine step_yes rfl ?_
      exact ok_value Lat.refl (.slice (some ⟨b, off + 5, none⟩) (z - 5) (cap - 5)) (by simp [execOp, Act.eval, d4, d5, h5z, hzc, hcz, hn5, go_sem]) rfl
    · obtain rfl := Option.some.inj hi
      clear hi hlt
      intro a w1 hL hS hD
      have d3 : a.tmps.getD 41 undef = .slice none 0 0 := hD ⟨3, .data⟩ (by simp) rfl _ rfl
      have d6 : a.tmps.getD 44 undef = .slice (some ⟨b, off + 5, none⟩) (z - 5) (cap - 5) := hD ⟨6, .data⟩ (by simp) rfl _ rfl
      refine step_yes rfl ?_
      obtain ⟨i0, hi0, hz0, hz1, hz2⟩ := info_parts info5
      refine wp_appends w1 (.tmp 41) (.tmp 44) 22 rfl 5 i0 (.int .u8 0) Try.underlying22 hi0 hz0 hz1 hz2 rfl (.slice none 0 0) 0 [] d3 (World.ownsRow_nil _ _ _ _) (some ⟨b, off + 5, none⟩) (z - 5) (cap - 5) xs d6 (hx w1 hL) (fun h => by cases h) (by omega) ?_
      intro v' w' ho hc hm
      rw [Nat.zero_add, List.nil_append] at ho
      obtain ⟨a1, c1, rfl⟩ := owns_form ho
      exact ⟨_, rfl, hc.bel_none (fun g hg => by cases hg), a1, c1, rfl, owns_baseG ho (fun g hg => Nat.le_trans (Nat.le_trans hB hL.size) (moved_ge hm hg))⟩
    · obtain rfl := Option.some.inj hi
      clear hi hlt
      intro a w1 hL hS hD
      have e6 : a.tmps.getD 6 undef = .int .i64 (z : Int) := (hS.slot 6 (by kernel_rfl)).trans s6
      refine step_yes rfl ?_
      exact ok_value Lat.refl (.int .i64 (z : Int)) (by simp [execOp, Act.eval, e6, go_sem]) rfl
    · obtain rfl := Option.some.inj hi
      clear hi hlt
      intro a w1 hL hS hD
      have d8 : a.tmps.getD 46 undef = .int .i64 (z : Int) := hD ⟨8, .data⟩ (by simp) rfl _ rfl
      refine step_yes rfl ?_
      exact ok_value Lat.refl (.int .i64 ((z : Int) + 4)) (by simp [execOp, Act.eval, d8, hz4, go_sem]) rfl
    · obtain rfl := Option.some.inj hi
      clear hi hlt
      intro a w1 hL hS hD
      have d2 : a.tmps.getD 40 undef = .int .u8 k := hD ⟨2, .data⟩ (by simp) rfl _ rfl
      refine step_yes rfl ?_
      exact ok_value Lat.refl (.int .u8 k) (by simp [execOp, Act.eval, d2, go_sem]) rfl
    · obtain rfl := Option.some.inj hi
      clear hi hlt
      intro a w1 hL hS hD
      have d7 := hD ⟨7, .data⟩ (by simp) rfl _ rfl
      refine step_yes rfl ?_
      refine ok_value Lat.refl (a.tmps.getD 45 undef) (by simp [execOp, Act.eval, go_sem]) d7
    · obtain rfl := Option.some.inj hi
      clear hi hlt
      intro a w1 hL hS hD
      have d9 : a.tmps.getD 47 undef = .int .i64 ((z : Int) + 4) := hD ⟨9, .data⟩ (by simp) rfl _ rfl
      refine step_yes rfl ?_
      exact ok_value Lat.refl (.int .i64 ((z : Int) + 4)) (by simp [execOp, Act.eval, d9, go_sem]) rfl

end Go.Proofs.Ytiaopgphjailiaa
