/-
  The machine: spansOf.
-/
import Derived.Test.YtndegcgcbhcokaaPtM
namespace Go.Proofs.Ytndegcgcbhcokaa
open Go.RowKit
set_option linter.unusedVariables false
set_option linter.unusedSimpArgs false

set_option maxRecDepth 100000 in
theorem as95 (x : Int) (w : World) : (Instr.typeAssert (.iface 95 (.int .i32 x)) 70 95 true).run Try.prog w = .ok (.tuple #[.int .i32 x, .bool true]) w := by rfl
set_option maxRecDepth 100000 in
theorem as97_95 (w : World) : (Instr.typeAssert (.iface 97 (.agg #[])) 70 95 true).run Try.prog w = .ok (.tuple #[.int .i32 0, .bool false]) w := by rfl
set_option maxRecDepth 100000 in
theorem as97 (w : World) : (Instr.typeAssert (.iface 97 (.agg #[])) 70 97 true).run Try.prog w = .ok (.tuple #[.agg #[], .bool true]) w := by rfl
set_option maxRecDepth 100000 in
theorem as100_95 (b : Bool) (v : Value) (w : World) : (Instr.typeAssert (.iface 100 (.agg #[.bool b, v])) 70 95 true).run Try.prog w = .ok (.tuple #[.int .i32 0, .bool false]) w := by rfl
set_option maxRecDepth 100000 in
theorem as100_97 (b : Bool) (v : Value) (w : World) : (Instr.typeAssert (.iface 100 (.agg #[.bool b, v])) 70 97 true).run Try.prog w = .ok (.tuple #[.agg #[], .bool false]) w := by rfl
set_option maxRecDepth 100000 in
theorem as100 (b : Bool) (v : Value) (w : World) : (Instr.typeAssert (.iface 100 (.agg #[.bool b, v])) 70 100 true).run Try.prog w = .ok (.tuple #[.agg #[.bool b, v], .bool true]) w := by rfl

set_option maxRecDepth 100000 in
set_option maxHeartbeats 4000000 in
theorem spansChr (x : Nat) (hx : x ≤ 1114111) (w : World) :
    Calls Try.prog 25 #[.iface 95 (.int .i32 (x : Int))] w fun e w' => e = .returned (.slice (some ⟨w.heap.size, 0, none⟩) 1 1) ∧ Blk w' w.heap.size 93 (cS [(x, x)]) ∧ Below w.heap.size w w' := by
  have k := fun w => as95 (x : Int) w
  have HB : Hid (Blk (w.alloc (.cells #[.int .i32 (x : Int), .int .i32 (x : Int)] 93)) w.heap.size 93 (cS [(x, x)])) := hidden (Blk.new w 93 (cS [(x, x)]))
  have HL : Hid (Below w.heap.size w (w.alloc (.cells #[.int .i32 (x : Int), .int .i32 (x : Int)] 93))) := hidden ((Below.refl _ _).alloc (Nat.le_refl _) _)
  go_enter Try.func25, Try.ntmps25
  go_wp2
  go_ret
  exact ⟨rfl, HB.out, HL.out⟩

set_option maxRecDepth 100000 in
set_option maxHeartbeats 4000000 in
theorem spansAny (w : World) :
    Calls Try.prog 25 #[.iface 97 (.agg #[])] w fun e w' => ∃ a' c', e = .returned (.slice a' (othS 0 []).length c') ∧ w'.ownsRow w.heap.size 93 2 (.slice a' (othS 0 []).length c') (othS 0 []).length (cS (othS 0 [])) ∧ Bd (othS 0 []) ∧ Below w.heap.size w w' := by
  have k1 := fun w => as97_95 w
  have k2 := fun w => as97 w
  have hal : Below w.heap.size w (w.alloc (.cells #[] 97)) := (Below.refl _ _).alloc (Nat.le_refl _) _
  have k3 := othersP none 0 [] (w.alloc (.cells #[] 97)) (Ss.nil _ _) (by simp)
  have HAL := hidden hal
  clear hal
  obtain ⟨R, hR⟩ : ∃ R, othS 0 [] = R := ⟨_, rfl⟩
  rw [hR] at k3 ⊢
  clear hR
  go_enter Try.func25, Try.ntmps25
  go_wp2_with (go_at_call 36; refine k3.mono ?_; rintro e w1 ⟨a1, c1, rfl, ho1, hb1, hl1⟩; clear k3)
  go_ret
  exact ⟨a1, c1, rfl, owns_base ho1 (fun g hg => Nat.le_trans HAL.out.size (ho1.lt g hg).1), hb1, HAL.out.trans (hl1.mono HAL.out.size)⟩

set_option maxRecDepth 100000 in
set_option maxHeartbeats 4000000 in
theorem spansCls (F : Nat → Prop) (v : Value) (neg : Bool) (l : Sn) (w : World) (h : ClV F w v neg l) (hlen : l.length ≤ 1000) :
    Calls Try.prog 25 #[v] w fun e w' => ∃ a' c', e = .returned (.slice a' (Pt.cls neg l).spans.length c') ∧ Ss w' a' (Pt.cls neg l).spans ∧ Bd (Pt.cls neg l).spans ∧ (∀ y, (Pt.cls neg l).spans ≠ [] → a' = some y → F y.block ∨ w.heap.size ≤ y.block) ∧ Below w.heap.size w w' := by
  obtain ⟨ad, c, rfl, hs, hb, hf⟩ := h
  obtain ⟨n, hn⟩ : ∃ n, l.length = n := ⟨_, rfl⟩
  have HN := hidden hn
  have k1 := fun w => as100_95 neg (.slice ad n c) w
  have k2 := fun w => as100_97 neg (.slice ad n c) w
  have k3 := fun w => as100 neg (.slice ad n c) w
  have hal : Below w.heap.size w (w.alloc (.cells #[.bool neg, .slice ad n c] 100)) := (Below.refl _ _).alloc (Nat.le_refl _) _
  have B8 := Blk.new w 100 [.bool neg, .slice ad n c]
  have e0 : (w.alloc (.cells #[.bool neg, .slice ad n c] 100)).cell? ⟨w.heap.size, 0, none⟩ = some (.bool neg) := B8.cell 0
  have e1 : (w.alloc (.cells #[.bool neg, .slice ad n c] 100)).cell? ⟨w.heap.size, 1, none⟩ = some (.slice ad n c) := B8.cell 1
  have HAL := hidden hal
  have HS := hidden hs
  have HB := hidden hb
  have HF := hidden hf
  have k4 := othersP ad c l (w.alloc (.cells #[.bool neg, .slice ad n c] 100)) (hs.later hal) hlen
  rw [hn] at k4 ⊢
  clear hn hal hs hb hf B8
  cases neg with
  | false =>
    have e : (Pt.cls false l).spans = l := by simp [Pt.spans]
    rw [e]
    clear e k4
    go_enter Try.func25, Try.ntmps25
    go_wp2
    go_ret
    exact ⟨ad, c, by rw [HN.out]; rfl, HS.out.later HAL.out, HB.out, fun y h0 e => Or.inl (HF.out y h0 e), HAL.out⟩
  | true =>
    have e : (Pt.cls true l).spans = othS 0 l := by simp [Pt.spans]
    rw [e]
    clear e
    obtain ⟨R, hR⟩ : ∃ R, othS 0 l = R := ⟨_, rfl⟩
    rw [hR] at k4 ⊢
    clear hR
    go_enter Try.func25, Try.ntmps25
    go_wp2_with (go_at_call 36; refine k4.mono ?_; rintro e w1 ⟨a1, c1, rfl, ho1, hb1, hl1⟩; clear k4)
    go_ret
    refine ⟨a1, c1, rfl, ss_of_owns ho1 hb1, hb1, fun y h0 e => Or.inr ?_, HAL.out.trans (hl1.mono HAL.out.size)⟩
    subst e
    obtain ⟨a2, c2, e2, _, hsp, _⟩ := owns_formS ho1
    injection e2 with e3 _ _
    obtain ⟨z0, z1⟩ := hsp y e3.symm
    obtain ⟨b, off, sp⟩ := y
    simp only at z0 z1
    subst z0 z1
    have := (ho1.lt b (by simp [Value.ownBlock])).1
    have := HAL.out.size
    simp only
    omega

end Go.Proofs.Ytndegcgcbhcokaa
