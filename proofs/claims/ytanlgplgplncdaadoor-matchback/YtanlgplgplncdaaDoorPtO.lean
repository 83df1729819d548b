import Derived.Test.YtanlgplgplncdaaDoorPtM
/-
  The machine: a set's bit.
-/
namespace Go.Proofs.YtanlgplgplncdaaDoor
open Go.RowKit
set_option linter.unusedVariables false
set_option linter.unusedSimpArgs false

theorem bit64_eq (v k : Nat) (hv : v < 18446744073709551616) : (bits .and .u64 ((v : Int) / 2 ^ k) 1 == 1) = v.testBit k := by
  have e1 : (v : Int) / 2 ^ k = ((v / 2 ^ k : Nat) : Int) := by simp
  have hz : v / 2 ^ k < 18446744073709551616 := Nat.lt_of_le_of_lt (Nat.div_le_self _ _) hv
  rw [e1, show (1 : Int) = ((1 : Nat) : Int) from rfl, u64_and_nat _ _ hz (by omega), Nat.and_one_is_mod]
  unfold Nat.testBit
  rw [Nat.shiftRight_eq_div_pow, Nat.and_comm, Nat.and_one_is_mod]
  rcases Nat.mod_two_eq_zero_or_one (v / 2 ^ k) with h | h <;> rw [h] <;> rfl

set_option maxHeartbeats 2000000 in
theorem hasP (v k : Nat) (hv : v < 18446744073709551616) (hk : k < 64) (w : World) : Calls Tryd.prog 66 #[.int .u64 (v : Int), .int .i64 (k : Int)] w fun e w' => e = .returned (.bool (v.testBit k)) ∧ w' = w := by
  have HB := hidden (bit64_eq v k hv)
  go_enter Tryd.func66, Tryd.ntmps66
  go_wp2
  all_goals go_ret
  all_goals exact ⟨by rw [← HB.out]; rfl, rfl⟩

end Go.Proofs.YtanlgplgplncdaaDoor

/-
  The machine: spansOf.
-/
namespace Go.Proofs.YtanlgplgplncdaaDoor
open Go.RowKit
set_option linter.unusedVariables false
set_option linter.unusedSimpArgs false

set_option maxRecDepth 100000 in
theorem as95 (x : Int) (w : World) : (Instr.typeAssert (.iface 155 (.int .i32 x)) 132 155 true).run Tryd.prog w = .ok (.tuple #[.int .i32 x, .bool true]) w := by rfl
set_option maxRecDepth 100000 in
theorem as97_95 (w : World) : (Instr.typeAssert (.iface 159 (.agg #[])) 132 155 true).run Tryd.prog w = .ok (.tuple #[.int .i32 0, .bool false]) w := by rfl
set_option maxRecDepth 100000 in
theorem as97 (w : World) : (Instr.typeAssert (.iface 159 (.agg #[])) 132 159 true).run Tryd.prog w = .ok (.tuple #[.agg #[], .bool true]) w := by rfl
set_option maxRecDepth 100000 in
theorem as100_95 (b : Bool) (v : Value) (w : World) : (Instr.typeAssert (.iface 162 (.agg #[.bool b, v])) 132 155 true).run Tryd.prog w = .ok (.tuple #[.int .i32 0, .bool false]) w := by rfl
set_option maxRecDepth 100000 in
theorem as100_97 (b : Bool) (v : Value) (w : World) : (Instr.typeAssert (.iface 162 (.agg #[.bool b, v])) 132 159 true).run Tryd.prog w = .ok (.tuple #[.agg #[], .bool false]) w := by rfl
set_option maxRecDepth 100000 in
theorem as100 (b : Bool) (v : Value) (w : World) : (Instr.typeAssert (.iface 162 (.agg #[.bool b, v])) 132 162 true).run Tryd.prog w = .ok (.tuple #[.agg #[.bool b, v], .bool true]) w := by rfl

set_option maxRecDepth 100000 in
set_option maxHeartbeats 4000000 in
theorem spansChr (x : Nat) (hx : x ≤ 1114111) (w : World) :
    Calls Tryd.prog 65 #[.iface 155 (.int .i32 (x : Int))] w fun e w' => e = .returned (.slice (some ⟨w.heap.size, 0, none⟩) 1 1) ∧ Blk w' w.heap.size 157 (cS [(x, x)]) ∧ Below w.heap.size w w' := by
  have k := fun w => as95 (x : Int) w
  have HB : Hid (Blk (w.alloc (.cells #[.int .i32 (x : Int), .int .i32 (x : Int)] 157)) w.heap.size 157 (cS [(x, x)])) := hidden (Blk.new w 157 (cS [(x, x)]))
  have HL : Hid (Below w.heap.size w (w.alloc (.cells #[.int .i32 (x : Int), .int .i32 (x : Int)] 157))) := hidden ((Below.refl _ _).alloc (Nat.le_refl _) _)
  go_enter Tryd.func65, Tryd.ntmps65
  go_wp2
  go_ret
  exact ⟨rfl, HB.out, HL.out⟩

set_option maxRecDepth 100000 in
set_option maxHeartbeats 4000000 in
theorem spansAny (w : World) :
    Calls Tryd.prog 65 #[.iface 159 (.agg #[])] w fun e w' => ∃ a' c', e = .returned (.slice a' (othS 0 []).length c') ∧ w'.ownsRow w.heap.size 157 2 (.slice a' (othS 0 []).length c') (othS 0 []).length (cS (othS 0 [])) ∧ Bd (othS 0 []) ∧ Below w.heap.size w w' := by
  have k1 := fun w => as97_95 w
  have k2 := fun w => as97 w
  have hal : Below w.heap.size w (w.alloc (.cells #[] 159)) := (Below.refl _ _).alloc (Nat.le_refl _) _
  have k3 := othersP none 0 [] (w.alloc (.cells #[] 159)) (Ss.nil _ _) (by simp)
  have HAL := hidden hal
  clear hal
  obtain ⟨R, hR⟩ : ∃ R, othS 0 [] = R := ⟨_, rfl⟩
  rw [hR] at k3 ⊢
  clear hR
  go_enter Tryd.func65, Tryd.ntmps65
  go_wp2_with (go_at_call 73; refine k3.mono ?_; rintro e w1 ⟨a1, c1, rfl, ho1, hb1, hl1⟩; clear k3)
  go_ret
  exact ⟨a1, c1, rfl, owns_base ho1 (fun g hg => Nat.le_trans HAL.out.size (ho1.lt g hg).1), hb1, HAL.out.trans (hl1.mono HAL.out.size)⟩

set_option maxRecDepth 100000 in
set_option maxHeartbeats 4000000 in
theorem spansCls (F : Nat → Prop) (v : Value) (neg : Bool) (l : Sn) (w : World) (h : ClV F w v neg l) (hlen : l.length ≤ 1000) :
    Calls Tryd.prog 65 #[v] w fun e w' => ∃ a' c', e = .returned (.slice a' (Pt.cls neg l).spans.length c') ∧ Ss w' a' (Pt.cls neg l).spans ∧ Bd (Pt.cls neg l).spans ∧ (∀ y, (Pt.cls neg l).spans ≠ [] → a' = some y → F y.block ∨ w.heap.size ≤ y.block) ∧ Below w.heap.size w w' := by
  obtain ⟨ad, c, rfl, hs, hb, hf⟩ := h
  obtain ⟨n, hn⟩ : ∃ n, l.length = n := ⟨_, rfl⟩
  have HN := hidden hn
  have k1 := fun w => as100_95 neg (.slice ad n c) w
  have k2 := fun w => as100_97 neg (.slice ad n c) w
  have k3 := fun w => as100 neg (.slice ad n c) w
  have hal : Below w.heap.size w (w.alloc (.cells #[.bool neg, .slice ad n c] 162)) := (Below.refl _ _).alloc (Nat.le_refl _) _
  have B8 := Blk.new w 162 [.bool neg, .slice ad n c]
  have e0 : (w.alloc (.cells #[.bool neg, .slice ad n c] 162)).cell? ⟨w.heap.size, 0, none⟩ = some (.bool neg) := B8.cell 0
  have e1 : (w.alloc (.cells #[.bool neg, .slice ad n c] 162)).cell? ⟨w.heap.size, 1, none⟩ = some (.slice ad n c) := B8.cell 1
  have HAL := hidden hal
  have HS := hidden hs
  have HB := hidden hb
  have HF := hidden hf
  have k4 := othersP ad c l (w.alloc (.cells #[.bool neg, .slice ad n c] 162)) (hs.later hal) hlen
  rw [hn] at k4 ⊢
  clear hn hal hs hb hf B8
  cases neg with
  | false =>
    have e : (Pt.cls false l).spans = l := by simp [Pt.spans]
    rw [e]
    clear e k4
    go_enter Tryd.func65, Tryd.ntmps65
    go_wp2
    go_ret
    exact ⟨ad, c, by rw [HN.out]; rfl, HS.out.later HAL.out, HB.out, fun y h0 e => Or.inl (HF.out y h0 e), HAL.out⟩
  | true =>
    have e : (Pt.cls true l).spans = othS 0 l := by simp [Pt.spans]
    rw [e]
    clear e
    obtain ⟨R, hR⟩ : ∃ R, othS 0 l = R := ⟨_, rfl⟩
    rw [hR] at k4 ⊢
    clear hR
    go_enter Tryd.func65, Tryd.ntmps65
    go_wp2_with (go_at_call 73; refine k4.mono ?_; rintro e w1 ⟨a1, c1, rfl, ho1, hb1, hl1⟩; clear k4)
    go_ret
    refine ⟨a1, c1, rfl, ss_of_owns ho1 hb1, hb1, fun y h0 e => Or.inr ?_, HAL.out.trans (hl1.mono HAL.out.size)⟩
    subst e
    obtain ⟨a2, c2, e2, _, hsp, _⟩ := owns_formS ho1
    injection e2 with e3 _ _
    obtain ⟨z0, z1⟩ := hsp y e3.symm
    obtain ⟨b, off, sp⟩ := y
    simp only at z0 z1
    subst z0 z1
    have := (ho1.lt b (by simp [Value.ownBlock])).1
    have := HAL.out.size
    simp only
    omega

end Go.Proofs.YtanlgplgplncdaaDoor

/-
  The machine: either.
-/
namespace Go.Proofs.YtanlgplgplncdaaDoor
open Go.RowKit
set_option linter.unusedVariables false
set_option linter.unusedSimpArgs false

/-- Ends, as cells. -/
def esC (e : Es) : List Value := [.int .u64 (e.first : Int), .int .u64 (e.last : Int), .bool e.emp]
def esV (e : Es) : Value := .agg #[.int .u64 (e.first : Int), .int .u64 (e.last : Int), .bool e.emp]
def Es.b64 (e : Es) : Prop := e.first < 18446744073709551616 ∧ e.last < 18446744073709551616
theorem res_either (tmps : Array Value) (w : World) (g : Nat) (e : Es) (hp : tmps.getD 4 undef = .pointer (some ⟨g, 0, none⟩)) (h : Blk w g 111 (esC e)) :
    (results Tryd.f61 tmps).run Tryd.prog w = .ok (esV e) w := by
  have h0 : w.cell? ⟨g, 0, none⟩ = some (.int .u64 (e.first : Int)) := h.cell 0
  have h1 : w.cell? ⟨g, 1, none⟩ = some (.int .u64 (e.last : Int)) := h.cell 1
  have h2 : w.cell? ⟨g, 2, none⟩ = some (.bool e.emp) := h.cell 2
  have hr : Tryd.f61.results = #[.cell 4 111] := by kernel_rfl
  have hp' : tmps[4]?.getD undef = .pointer (some ⟨g, 0, none⟩) := by simpa using hp
  simp [results, hr, hp', asAddr, loadVar, h0, h1, h2, go_sem, esV]
theorem or64 {a b : Nat} (ha : a < 18446744073709551616) (hb : b < 18446744073709551616) : bits .or .u64 (a : Int) (b : Int) = ((a ||| b : Nat) : Int) := u64_or_nat a b ha hb

set_option maxRecDepth 100000 in
set_option maxHeartbeats 4000000 in
theorem eitherP (a b : Es) (ha : a.b64) (hb : b.b64) (w : World) : Calls Tryd.prog 61 #[esV a, esV b] w fun e w' => e = .returned (esV (a.either b)) ∧ Below w.heap.size w w' := by
  obtain ⟨af, al, ae⟩ := a
  obtain ⟨bf, bl, be⟩ := b
  have o1 := or64 ha.1 hb.1
  have o2 := or64 ha.2 hb.2
  have hal : Below w.heap.size w (((w.alloc (.cells #[.int .u64 (af : Int), .int .u64 (al : Int), .bool ae] 111)).alloc (.cells #[.int .u64 (bf : Int), .int .u64 (bl : Int), .bool be] 111)).alloc (.cells #[.int .u64 0, .int .u64 0, .bool false] 111)) := by
    have h1 := (Below.refl w.heap.size w).alloc (Nat.le_refl _) (.cells #[.int .u64 (af : Int), .int .u64 (al : Int), .bool ae] 111)
    have h2 := h1.alloc h1.size (.cells #[.int .u64 (bf : Int), .int .u64 (bl : Int), .bool be] 111)
    exact h2.alloc h2.size _
  have HBK : Hid (∀ (f l : Nat) (e : Bool), Blk (((w.alloc (.cells #[.int .u64 (af : Int), .int .u64 (al : Int), .bool ae] 111)).alloc (.cells #[.int .u64 (bf : Int), .int .u64 (bl : Int), .bool be] 111)).alloc (.cells #[.int .u64 (f : Int), .int .u64 (l : Int), .bool e] 111)) (w.heap.size + 1 + 1) 111 (esC ⟨f, l, e⟩) ∧ Below w.heap.size w (((w.alloc (.cells #[.int .u64 (af : Int), .int .u64 (al : Int), .bool ae] 111)).alloc (.cells #[.int .u64 (bf : Int), .int .u64 (bl : Int), .bool be] 111)).alloc (.cells #[.int .u64 (f : Int), .int .u64 (l : Int), .bool e] 111))) := hidden (fun f l e => by
    refine ⟨?_, ?_⟩
    · have := Blk.new ((w.alloc (.cells #[.int .u64 (af : Int), .int .u64 (al : Int), .bool ae] 111)).alloc (.cells #[.int .u64 (bf : Int), .int .u64 (bl : Int), .bool be] 111)) 111 (esC ⟨f, l, e⟩)
      rw [show ((w.alloc (.cells #[.int .u64 (af : Int), .int .u64 (al : Int), .bool ae] 111)).alloc (.cells #[.int .u64 (bf : Int), .int .u64 (bl : Int), .bool be] 111)).heap.size = w.heap.size + 1 + 1 by simp] at this
      exact this
    · have h1 := (Below.refl w.heap.size w).alloc (Nat.le_refl _) (.cells #[.int .u64 (af : Int), .int .u64 (al : Int), .bool ae] 111)
      have h2 := h1.alloc h1.size (.cells #[.int .u64 (bf : Int), .int .u64 (bl : Int), .bool be] 111)
      exact h2.alloc h2.size _)
  clear hal ha hb
  have hE : esV ((⟨af, al, ae⟩ : Es).either ⟨bf, bl, be⟩) = esV ⟨af ||| bf, al ||| bl, ae || be⟩ := rfl
  rw [hE]
  clear hE
  obtain ⟨R, hR⟩ : ∃ R, esV ⟨af ||| bf, al ||| bl, ae || be⟩ = R := ⟨_, rfl⟩
  have HR := hidden hR
  rw [hR]
  clear hR
  simp only [esV]
  go_enter Tryd.func61, Tryd.ntmps61
  cases ae
  · go_wp2
    refine bodyPost_ret (res_either _ _ (w.heap.size + 1 + 1) ⟨af ||| bf, al ||| bl, be⟩ rfl (HBK.out _ _ _).1) rfl ?_
    exact ⟨by rw [← HR.out]; rfl, (HBK.out _ _ _).2⟩
  · go_wp2
    refine bodyPost_ret (res_either _ _ (w.heap.size + 1 + 1) ⟨af ||| bf, al ||| bl, true⟩ rfl (HBK.out _ _ _).1) rfl ?_
    exact ⟨by rw [← HR.out]; rfl, (HBK.out _ _ _).2⟩

end Go.Proofs.YtanlgplgplncdaaDoor
