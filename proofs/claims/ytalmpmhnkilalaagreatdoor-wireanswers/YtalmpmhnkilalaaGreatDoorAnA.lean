import Derived.Test.YtalmpmhnkilalaaGreatDoorDxA
import Derived.Test.YtalmpmhnkilalaaGreatDoorRqJ
import Derived.Deep.CutRange
/-
  The document's spare. By genana20.py.
-/
namespace Go.Proofs.YtalmpmhnkilalaaGreatDoor
open Go.RowKit
set_option linter.unusedVariables false
set_option linter.unusedSimpArgs false

def spareB (k : Int) (f : Nat → FV) : Bool := (decide (k = 1) || isZ (f 0)) && (decide (k = 2) || isZ (f 1)) && (decide (k = 3) || isZ (f 2)) && (decide (k = 4) || isZ (f 3))
set_option maxHeartbeats 8000000 in
set_option maxRecDepth 20000 in
theorem spareD (e k : Int) (fm : Nat → FM) (w : World) (hk : ∀ i, i < 4 → (fm i).fv.kd = kdA i) :
    Calls Tryz.prog 41 #[.agg (cA e k fm).toArray] w fun en w' => en = .returned (.bool (spareB k (fun i => (fm i).fv))) ∧ Below w.heap.size w w' := by
  obtain ⟨a0, c0, l0, q0⟩ : ∃ a c l, fm 0 = .se a c l := by have := hk 0 (by omega); cases h : fm 0 <;> rw [h] at this <;> first | (cases this; done) | exact ⟨_, _, _, rfl⟩
  obtain ⟨a1, c1, l1, q1⟩ : ∃ a c l, fm 1 = .ro a c l := by have := hk 1 (by omega); cases h : fm 1 <;> rw [h] at this <;> first | (cases this; done) | exact ⟨_, _, _, rfl⟩
  obtain ⟨m2, q2⟩ : ∃ m, fm 2 = .nu m := by have := hk 2 (by omega); cases h : fm 2 <;> rw [h] at this <;> first | (cases this; done) | exact ⟨_, rfl⟩
  obtain ⟨a3, c3, l3, q3⟩ : ∃ a c l, fm 3 = .ts a c l := by have := hk 3 (by omega); cases h : fm 3 <;> rw [h] at this <;> first | (cases this; done) | exact ⟨_, _, _, rfl⟩
  obtain ⟨N0, hN0⟩ : ∃ N, l0.length = N := ⟨_, rfl⟩
  obtain ⟨N1, hN1⟩ : ∃ N, l1.length = N := ⟨_, rfl⟩
  obtain ⟨N3, hN3⟩ : ∃ N, l3.length = N := ⟨_, rfl⟩
  have HV : Hid (spareB k (fun i => (fm i).fv) = ((decide (k = 1) || decide (N0 = 0)) && (decide (k = 2) || decide (N1 = 0)) && (decide (k = 3) || decide (m2 = 0)) && (decide (k = 4) || decide (N3 = 0)))) := hidden (by
    unfold spareB
    simp only [q0, q1, q2, q3, FM.fv, isZ, List.length_map, hN0, hN1, hN3])
  have HB := hidden (Blk.new w 57 (cA e k fm))
  obtain ⟨w2, hw2⟩ : ∃ w2, w.alloc (.cells (cA e k fm).toArray 57) = w2 := ⟨_, rfl⟩
  have HL2 : Hid (Below w.heap.size w w2) := hidden (by rw [← hw2]; exact (Below.refl _ _).alloc (Nat.le_refl _) _)
  rw [hw2] at HB
  have y1 : w2.cell? ⟨w.heap.size, 1, none⟩ = some (.int .i64 k) := HB.out.cell 1
  have y2 : w2.cell? ⟨w.heap.size, 2, none⟩ = some (.slice a0 N0 c0) := by rw [HB.out.cell, show (2 : Nat) = 0 + 2 from rfl, cA_at e k fm 0 (by omega), q0, ← hN0]; rfl
  have y3 : w2.cell? ⟨w.heap.size, 3, none⟩ = some (.slice a1 N1 c1) := by rw [HB.out.cell, show (3 : Nat) = 1 + 2 from rfl, cA_at e k fm 1 (by omega), q1, ← hN1]; rfl
  have y4 : w2.cell? ⟨w.heap.size, 4, none⟩ = some (.int .i64 m2) := by rw [HB.out.cell, show (4 : Nat) = 2 + 2 from rfl, cA_at e k fm 2 (by omega), q2]; rfl
  have y5 : w2.cell? ⟨w.heap.size, 5, none⟩ = some (.slice a3 N3 c3) := by rw [HB.out.cell, show (5 : Nat) = 3 + 2 from rfl, cA_at e k fm 3 (by omega), q3, ← hN3]; rfl
  rw [HV.out]
  clear HV HB hk q0 q1 q2 q3 hN0 hN1 hN3
  by_cases k1 : k = 1
  · subst k1
    by_cases g2 : N1 = 0
    · skip
      have g2' : ((N1 : Int) == 0) = true := by simp [g2]
      by_cases g3 : m2 = 0
      · skip
        by_cases g4 : N3 = 0
        · skip
          have g4' : ((N3 : Int) == 0) = true := by simp [g4]
          go_enter Tryz.func41, Tryz.ntmps41
          go_wp2_with fail
          try rw [hw2]
          go_ret
          refine ⟨?_, HL2.out⟩
          first | rfl | (simp [g2, g3, g4]; done) | (simp [g2, g3, g4]; omega)
        · skip
          have g4' : ((N3 : Int) == 0) = false := by simp [g4]
          go_enter Tryz.func41, Tryz.ntmps41
          go_wp2_with fail
          try rw [hw2]
          go_ret
          refine ⟨?_, HL2.out⟩
          first | rfl | (simp [g2, g3, g4]; done) | (simp [g2, g3, g4]; omega)
      · skip
        go_enter Tryz.func41, Tryz.ntmps41
        go_wp2_with fail
        try rw [hw2]
        go_ret
        refine ⟨?_, HL2.out⟩
        first | rfl | (simp [g2, g3]; done) | (simp [g2, g3]; omega)
    · skip
      have g2' : ((N1 : Int) == 0) = false := by simp [g2]
      go_enter Tryz.func41, Tryz.ntmps41
      go_wp2_with fail
      try rw [hw2]
      go_ret
      refine ⟨?_, HL2.out⟩
      first | rfl | (simp [g2]; done) | (simp [g2]; omega)
  by_cases k2 : k = 2
  · subst k2
    by_cases g1 : N0 = 0
    · skip
      have g1' : ((N0 : Int) == 0) = true := by simp [g1]
      by_cases g3 : m2 = 0
      · skip
        by_cases g4 : N3 = 0
        · skip
          have g4' : ((N3 : Int) == 0) = true := by simp [g4]
          go_enter Tryz.func41, Tryz.ntmps41
          go_wp2_with fail
          try rw [hw2]
          go_ret
          refine ⟨?_, HL2.out⟩
          first | rfl | (simp [g1, g3, g4]; done) | (simp [g1, g3, g4]; omega)
        · skip
          have g4' : ((N3 : Int) == 0) = false := by simp [g4]
          go_enter Tryz.func41, Tryz.ntmps41
          go_wp2_with fail
          try rw [hw2]
          go_ret
          refine ⟨?_, HL2.out⟩
          first | rfl | (simp [g1, g3, g4]; done) | (simp [g1, g3, g4]; omega)
      · skip
        go_enter Tryz.func41, Tryz.ntmps41
        go_wp2_with fail
        try rw [hw2]
        go_ret
        refine ⟨?_, HL2.out⟩
        first | rfl | (simp [g1, g3]; done) | (simp [g1, g3]; omega)
    · skip
      have g1' : ((N0 : Int) == 0) = false := by simp [g1]
      go_enter Tryz.func41, Tryz.ntmps41
      go_wp2_with fail
      try rw [hw2]
      go_ret
      refine ⟨?_, HL2.out⟩
      first | rfl | (simp [g1]; done) | (simp [g1]; omega)
  by_cases k3 : k = 3
  · subst k3
    by_cases g1 : N0 = 0
    · skip
      have g1' : ((N0 : Int) == 0) = true := by simp [g1]
      by_cases g2 : N1 = 0
      · skip
        have g2' : ((N1 : Int) == 0) = true := by simp [g2]
        by_cases g4 : N3 = 0
        · skip
          have g4' : ((N3 : Int) == 0) = true := by simp [g4]
          go_enter Tryz.func41, Tryz.ntmps41
          go_wp2_with fail
          try rw [hw2]
          go_ret
          refine ⟨?_, HL2.out⟩
          first | rfl | (simp [g1, g2, g4]; done) | (simp [g1, g2, g4]; omega)
        · skip
          have g4' : ((N3 : Int) == 0) = false := by simp [g4]
          go_enter Tryz.func41, Tryz.ntmps41
          go_wp2_with fail
          try rw [hw2]
          go_ret
          refine ⟨?_, HL2.out⟩
          first | rfl | (simp [g1, g2, g4]; done) | (simp [g1, g2, g4]; omega)
      · skip
        have g2' : ((N1 : Int) == 0) = false := by simp [g2]
        go_enter Tryz.func41, Tryz.ntmps41
        go_wp2_with fail
        try rw [hw2]
        go_ret
        refine ⟨?_, HL2.out⟩
        first | rfl | (simp [g1, g2]; done) | (simp [g1, g2]; omega)
    · skip
      have g1' : ((N0 : Int) == 0) = false := by simp [g1]
      go_enter Tryz.func41, Tryz.ntmps41
      go_wp2_with fail
      try rw [hw2]
      go_ret
      refine ⟨?_, HL2.out⟩
      first | rfl | (simp [g1]; done) | (simp [g1]; omega)
  by_cases k4 : k = 4
  · subst k4
    by_cases g1 : N0 = 0
    · skip
      have g1' : ((N0 : Int) == 0) = true := by simp [g1]
      by_cases g2 : N1 = 0
      · skip
        have g2' : ((N1 : Int) == 0) = true := by simp [g2]
        by_cases g3 : m2 = 0
        · skip
          go_enter Tryz.func41, Tryz.ntmps41
          go_wp2_with fail
          try rw [hw2]
          go_ret
          refine ⟨?_, HL2.out⟩
          first | rfl | (simp [g1, g2, g3]; done) | (simp [g1, g2, g3]; omega)
        · skip
          go_enter Tryz.func41, Tryz.ntmps41
          go_wp2_with fail
          try rw [hw2]
          go_ret
          refine ⟨?_, HL2.out⟩
          first | rfl | (simp [g1, g2, g3]; done) | (simp [g1, g2, g3]; omega)
      · skip
        have g2' : ((N1 : Int) == 0) = false := by simp [g2]
        go_enter Tryz.func41, Tryz.ntmps41
        go_wp2_with fail
        try rw [hw2]
        go_ret
        refine ⟨?_, HL2.out⟩
        first | rfl | (simp [g1, g2]; done) | (simp [g1, g2]; omega)
    · skip
      have g1' : ((N0 : Int) == 0) = false := by simp [g1]
      go_enter Tryz.func41, Tryz.ntmps41
      go_wp2_with fail
      try rw [hw2]
      go_ret
      refine ⟨?_, HL2.out⟩
      first | rfl | (simp [g1]; done) | (simp [g1]; omega)
  by_cases g1 : N0 = 0
  · skip
    have g1' : ((N0 : Int) == 0) = true := by simp [g1]
    by_cases g2 : N1 = 0
    · skip
      have g2' : ((N1 : Int) == 0) = true := by simp [g2]
      by_cases g3 : m2 = 0
      · skip
        by_cases g4 : N3 = 0
        · skip
          have g4' : ((N3 : Int) == 0) = true := by simp [g4]
          go_enter Tryz.func41, Tryz.ntmps41
          go_wp2_with fail
          try rw [hw2]
          go_ret
          refine ⟨?_, HL2.out⟩
          first | rfl | (simp [k1, k2, k3, k4, g1, g2, g3, g4]; done) | (simp [k1, k2, k3, k4, g1, g2, g3, g4]; omega)
        · skip
          have g4' : ((N3 : Int) == 0) = false := by simp [g4]
          go_enter Tryz.func41, Tryz.ntmps41
          go_wp2_with fail
          try rw [hw2]
          go_ret
          refine ⟨?_, HL2.out⟩
          first | rfl | (simp [k1, k2, k3, k4, g1, g2, g3, g4]; done) | (simp [k1, k2, k3, k4, g1, g2, g3, g4]; omega)
      · skip
        go_enter Tryz.func41, Tryz.ntmps41
        go_wp2_with fail
        try rw [hw2]
        go_ret
        refine ⟨?_, HL2.out⟩
        first | rfl | (simp [k1, k2, k3, k4, g1, g2, g3]; done) | (simp [k1, k2, k3, k4, g1, g2, g3]; omega)
    · skip
      have g2' : ((N1 : Int) == 0) = false := by simp [g2]
      go_enter Tryz.func41, Tryz.ntmps41
      go_wp2_with fail
      try rw [hw2]
      go_ret
      refine ⟨?_, HL2.out⟩
      first | rfl | (simp [k1, k2, k3, k4, g1, g2]; done) | (simp [k1, k2, k3, k4, g1, g2]; omega)
  · skip
    have g1' : ((N0 : Int) == 0) = false := by simp [g1]
    go_enter Tryz.func41, Tryz.ntmps41
    go_wp2_with fail
    try rw [hw2]
    go_ret
    refine ⟨?_, HL2.out⟩
    first | rfl | (simp [k1, k2, k3, k4, g1]; done) | (simp [k1, k2, k3, k4, g1]; omega)

end Go.Proofs.YtalmpmhnkilalaaGreatDoor

/-
  The document's writer: matchers. By gendxd20.py.
-/
namespace Go.Proofs.YtalmpmhnkilalaaGreatDoor
open Go.RowKit
set_option linter.unusedVariables false
set_option linter.unusedSimpArgs false

theorem lat_cellA {w w1 : World} (hL : Below w.heap.size w w1) {a : Addr} {v : Value} (h : w.cell? a = some v) : w1.cell? a = some v := by
  rw [World.cell?_of_block (hL.block a.block (World.block_lt_of_cell? w a h))]
  exact h
theorem wrap_u8 (n : Int) : IntKind.u8.wrap n = u8 n := by
  unfold u8
  simp [IntKind.wrap, IntKind.signed, IntKind.bits]
theorem step_pushO (w : World) {ops : Array Oper} {o : Oper} {a : Act} {K : Act → World → Prop} {Q : Exit → Act → World → Prop} {E : Prop} (hgd : o.guard = none) (s x : Operand)
    (ho : o.op = .call { callee := .builtin .append, args := #[s, x], argTypes := #[22, 22] }) (base : Nat) (v : Value) (n : Nat) (xs : List Value) (hs : a.eval s = v) (w0 : World) (hown : w0.ownsRow base 5 1 v n xs) (y : Int)
    (hw : w = w0.alloc (.cells #[.int .u8 y] 5)) (hx : a.eval x = .slice (some ⟨w0.heap.size, 0, none⟩) 1 1) (hn : n ≤ 10000000000000) (hbase : base ≤ w0.heap.size)
    (h : ∀ g' c' w', w'.ownsRow base 5 1 (.slice (some ⟨g', 0, none⟩) (n + 1) c') (n + 1) (xs ++ [.int .u8 y]) → Chg (fun i => v.ownBlock = some i) w0 w' → Moved w0 v.ownBlock (some g') → K (a.put o.dst (.slice (some ⟨g', 0, none⟩) (n + 1) c')) w') :
    if Region.wanted o (yielded ops a.tmps) = true then Oper.wp Tryz.prog o a w K Q else E := by
  subst hw
  obtain ⟨i0, hi0, hz0, hz1, hz2⟩ := info_parts info5
  refine step_push _ hgd s x 22 ho 5 i0 (.int .u8 0) 1 Tryz.underlying22 hi0 hz0 hz1 hz2 rfl base v n xs hs (hown.alloc _) ⟨w0.heap.size, 0, none⟩ (.int .u8 y) hx (by simp) rfl (by unfold maxLen; omega) (by omega) (by simp; omega) ?_
  intro g' c' w' h1 h2
  exact h g' c' w' h1 h2.chg.1 h2.chg.2
/-- A byte behind its row. -/
theorem OV.push {w w6 : World} {p : Nat} {rb : Option Nat} {s : Od} {v : Value} {x : Int} {g c : Nat} (h : OV w p rb s v) (ho : w6.ownsRow 0 5 1 (.slice (some ⟨g, 0, none⟩) (s.b.length + 1) c) (s.b.length + 1) (cells8 s.b ++ [.int .u8 x])) (hc : Chg (fun i => v.ownBlock = some i) w w6) (hm : Moved w v.ownBlock (some g)) (h0 : 0 ≤ x) (h1 : x ≤ 255) :
    Blk w6 p 80 [v, .bool s.ok] ∧ OR w p rb ⟨s.b ++ [x], s.ok⟩ (w6.setCell ⟨p, 0, none⟩ (.slice (some ⟨g, 0, none⟩) (s.b.length + 1) c)) := by
  have hown := h.own
  rw [hown] at hc hm
  have hB : Blk w6 p 80 [v, .bool s.ok] := hc.blk h.blk (fun e => h.ne e)
  have hne : g ≠ p := by
    intro e
    subst e
    rcases hm with k | ⟨g2, k, hg⟩
    · exact h.ne k.symm
    · have := h.blk.lt
      injection k with k
      omega
  refine ⟨hB, some g, ⟨_, ⟨fun e => hne (by simpa using e), rfl, hB.set 0 _, ?_, h.byte.append (fun y hy => by simp at hy; omega)⟩⟩, (hc.mono (G := fpt p rb) (fun i _ hi => .inr hi)).trans (Chg.set ⟨p, 0, none⟩ _ w6) (fun i _ hi => .inl hi), fun g2 hg2 => ?_⟩
  · have e : (cells8 (s.b ++ [x])) = cells8 s.b ++ [.int .u8 x] := by rw [cells8_append]; rfl
    show (w6.setCell ⟨p, 0, none⟩ _).ownsRow 0 5 1 _ (s.b ++ [x]).length (cells8 (s.b ++ [x]))
    rw [e, List.length_append]
    exact (Chg.set ⟨p, 0, none⟩ _ w6).owns ho (fun g2 hg2 e => hne (by simp [Value.ownBlock] at hg2; simp at e; omega))
  · rcases hm with k | ⟨g3, k, hg⟩
    · left
      rw [← k]
      exact hg2
    · right
      rw [k] at hg2
      injection hg2 with hg2
      omega

set_option maxHeartbeats 2000000 in
set_option maxRecDepth 8000 in
theorem matchersO (p : Nat) (rb : Option Nat) (s : Od) (ad : Option Addr) (N c : Nat) (l : List Ma) (w : World) (h : Ot w p rb s) (hN : l.length = N) (hN9 : N ≤ 9223372036854775807) (hE : ∀ wx, Chg (fpt p rb) w wx → Es wx ad 3 (l.map Ma.cells)) (hb : s.b.length ≤ 900000000000) :
    Calls Tryz.prog 63 #[.pointer (some ⟨p, 0, none⟩), .slice ad N c] w (OQ w p rb (s.matchers l)) := by
  have HE := hidden hE
  have HN := hidden hN
  have HO := hidden h
  clear h hE hN
  go_enter Tryz.func63, Tryz.ntmps63
  go_wp2_with fail
  refine (countO p rb s (N : Int) 8 w HO.out ⟨by omega, by omega⟩ ⟨by omega, by omega⟩ (by omega)).mono ?_
  rintro e w1 ⟨rfl, hR⟩
  obtain ⟨s1, hs1⟩ : ∃ s1, s.count (N : Int) 8 = s1 := ⟨_, rfl⟩
  rw [hs1] at hR
  have HR1 := hidden hR
  have HL1 : Hid (s1.b.length ≤ 900000000010) := hidden (by rw [← hs1]; have := (dwt_count (N : Int) 8 (by omega)).len s; omega)
  have HS1 := hidden hs1
  clear hR hs1
  go_wp2_with fail
  go_loopw [4] (fun v4 wx => ∃ i : Nat, v4 = .int .i64 (i : Int) ∧ i ≤ N ∧ Hid (OR w p rb (eachO oMatch (l.take i) s1) wx)) (fun v4 _ => N - (intOf v4).toNat)
  case atStart => exact ⟨0, rfl, by omega, HR1⟩
  case round =>
    obtain ⟨i, rfl, hi, hI⟩ := hrel
    have hfin : ∀ (hq : i = N ∨ (eachO oMatch (l.take i) s1).ok = false), OQ w p rb (s.matchers l) (.returned (.tuple #[])) wr := fun hq => by
      refine ⟨rfl, ?_⟩
      have e : s.matchers l = eachO oMatch l s1 := by
        show eachO oMatch l (s.count (l.length : Int) 8) = _
        rw [HN.out, HS1.out]
      rw [e]
      rcases hq with hq | hq
      · have := hI.out
        rw [hq, ← HN.out, List.take_length] at this
        exact this
      · rw [eachO_rest oMatch l s1 i hq]
        exact hI.out
    have HFIN := hidden hfin
    clear hfin
    obtain ⟨st, hst⟩ : ∃ st, eachO oMatch (l.take i) s1 = st := ⟨_, rfl⟩
    rw [hst] at hI HFIN
    have HST := hidden hst
    clear hst
    obtain ⟨rb1, hO1, hC1, hM1⟩ := hI.out
    have HO1 := hidden hO1
    have HC1 := hidden hC1
    have HM1 := hidden hM1
    obtain ⟨v1, hv1⟩ := hO1
    have cO : wr.cell? ⟨p, 1, none⟩ = some (.bool st.ok) := hv1.blk.cell 1
    clear hv1 hC1 hM1
    obtain ⟨ok, hok⟩ : ∃ ok, st.ok = ok := ⟨_, rfl⟩
    rw [hok] at cO
    have HOK := hidden hok
    clear hok
    by_cases hin : i < N
    · have hin' : (i : Int) < (N : Int) := by omega
      cases ok with
      | false =>
        go_wp2_with fail
        go_end0
        exact HFIN.out (.inr HOK.out)
      | true =>
        obtain ⟨x, hx⟩ : ∃ x, l[i]? = some x := ⟨l[i]'(by have := HN.out; omega), by simp⟩
        have hxm : (l.map Ma.cells)[i]? = some [.string x.n, .int .i64 x.op, .string x.t] := by rw [List.getElem?_map, hx]; rfl
        have hN8 : N ≤ 8 := by
          by_cases h8 : N ≤ 8
          · exact h8
          · exfalso
            have h1 : s1.ok = false := by rw [← HS1.out]; exact count_no (by omega)
            have h2 := eachO_no oMatch (l.take i) s1 h1
            rw [HST.out] at h2
            have h3 := HOK.out
            rw [h2, h1] at h3
            cases h3
        have HLS : Hid (st.b.length ≤ 900000003000) := hidden (by
          have h1 := (dwt_each (l.take i) (fun x _ => dwt_match x)).len s1
          rw [HST.out] at h1
          have h2 : (l.take i).length ≤ 8 := by rw [List.length_take]; omega
          have := Nat.mul_le_mul_right 149 h2
          have := HL1.out
          omega)
        have HXT : Hid (∀ wx, Chg (fpt p rb) w wx → ∃ b1 o1, ad = some ⟨b1, o1, none⟩ ∧ wx.cell? ⟨b1, o1 + i * 3, none⟩ = some (.string x.n) ∧ wx.cell? ⟨b1, o1 + i * 3 + 1, none⟩ = some (.int .i64 x.op) ∧ wx.cell? ⟨b1, o1 + i * 3 + 2, none⟩ = some (.string x.t)) := hidden (fun wx hc => by
          obtain ⟨b1, o1, e, _, hcell⟩ := HE.out wx hc (by intro h0; rw [h0] at hxm; simp at hxm)
          have e0 := hcell i _ hxm 0 _ rfl
          have e1 := hcell i _ hxm 1 _ rfl
          have e2 := hcell i _ hxm 2 _ rfl
          rw [Nat.add_zero] at e0
          exact ⟨b1, o1, e, e0, e1, e2⟩)
        have HNX : Hid (eachO oMatch (l.take (i + 1)) s1 = oMatch st x) := hidden (by rw [eachO_next oMatch l s1 i x hx, HST.out, if_pos HOK.out])
        obtain ⟨b1, o1, rfl, k0, k1, k2⟩ := HXT.out wr HC1.out
        clear hx hxm
        go_wp2_with fail
        refine (textO p rb1 st x.n 64 wr HO1.out (by omega) (by have := HLS.out; omega)).mono ?_
        rintro e w2 ⟨rfl, hR2⟩
        have HR2 := hidden (OR.trans HC1.out HM1.out hR2)
        clear hR2 k0 k1 k2
        obtain ⟨rb2, hO2, hC2, hM2⟩ := HR2.out
        have HO2 := hidden hO2
        have HC2 := hidden hC2
        have HM2 := hidden hM2
        obtain ⟨v2, hv2⟩ := hO2
        obtain ⟨a2, cc2, rfl⟩ := owns_form hv2.row
        obtain ⟨kk, hkk⟩ : ∃ kk, (st.text x.n 64).b.length = kk := ⟨_, rfl⟩
        rw [hkk] at hv2
        have HV2 := hidden hv2
        have HKK := hidden hkk
        have cO2 : w2.cell? ⟨p, 1, none⟩ = some (.bool (st.text x.n 64).ok) := hv2.blk.cell 1
        have f12 := hv2.blk.frozen 1
        have HTL : Hid ((st.text x.n 64).b.length ≤ st.b.length + 74) := hidden ((dwt_text x.n 64 (by omega)).len st)
        obtain ⟨ok2, hok2⟩ : ∃ ok2, (st.text x.n 64).ok = ok2 := ⟨_, rfl⟩
        rw [hok2] at cO2
        have HMU : Hid ((st.text x.n 64).must (decide (1 ≤ x.op) && decide (x.op ≤ 4)) = ⟨(st.text x.n 64).b, ok2 && (decide (1 ≤ x.op) && decide (x.op ≤ 4))⟩) := hidden (by rw [must_if, hok2])
        clear hkk hv2 hC2 hM2 hok2
        obtain ⟨b2, o2, hbe, k0, k1, k2⟩ := HXT.out w2 HC2.out
        simp only [Option.some.injEq, Addr.mk.injEq, and_true] at hbe
        obtain ⟨rfl, rfl⟩ := hbe
        cases ok2 with
        | false =>
          have HCO : Hid ((false && (decide (1 ≤ x.op) && decide (x.op ≤ 4))) = false) := hidden rfl
          have HC4 : Hid (Chg (fpt p rb) w (w2.setCell ⟨p, 1, none⟩ (.bool false))) := hidden (HC2.out.trans (Chg.set ⟨p, 1, none⟩ _ w2) (fun i _ hi => .inl hi))
          obtain ⟨b4, o4, hbe, m0, m1, m2⟩ := HXT.out _ HC4.out
          simp only [Option.some.injEq, Addr.mk.injEq, and_true] at hbe
          obtain ⟨rfl, rfl⟩ := hbe
          have g0 : (w2.setCell ⟨p, 1, none⟩ (.bool false)).cell? ⟨p, 0, none⟩ = some (.slice a2 kk cc2) := (HV2.out.setOk false).blk.cell 0
          go_upto_region 6 with fail
          obtain ⟨w4, hw4⟩ : ∃ w4, w2.setCell ⟨p, 1, none⟩ (.bool false) = w4 := ⟨_, rfl⟩
          have HV4 : Hid (OV w4 p rb2 ⟨(st.text x.n 64).b, false⟩ (.slice a2 kk cc2)) := hidden (by rw [← hw4]; exact HV2.out.setOk false)
          rw [hw4] at HC4 m0 m1 m2 g0
          rw [hw4]
          clear hw4 k0 k1 k2
          have hT : (st.text x.n 64).must (decide (1 ≤ x.op) && decide (x.op ≤ 4)) = ⟨(st.text x.n 64).b, false⟩ := HMU.out.trans (by rw [HCO.out])
          have HT := hidden hT
          clear hT
          go_cut [] from 51 to 65 (fun wx => Hid (OR w4 p rb2 ⟨(st.text x.n 64).b ++ [u8 x.op], false⟩ wx))
          case first =>
            have hrow : w4.ownsRow 0 5 1 (.slice a2 kk cc2) kk (cells8 (st.text x.n 64).b) := by have := HV4.out.row; simp only [HKK.out] at this; exact this
            have HRW := hidden hrow
            have m1d : w4.drew.cell? ⟨b1, o1 + i * 3 + 1, none⟩ = some (.int .i64 x.op) := m1
            have g0d : w4.drew.cell? ⟨p, 0, none⟩ = some (.slice a2 kk cc2) := g0
            have hplt : p < w4.heap.size := HV4.out.blk.lt
            have m1a : ∀ (o : Obj), (w4.drew.alloc o).cell? ⟨b1, o1 + i * 3 + 1, none⟩ = some (.int .i64 x.op) := fun o => lat_cellA ((Below.refl _ _).alloc (Nat.le_refl _) o) m1d
            have g0a : ∀ (o : Obj), (w4.drew.alloc o).cell? ⟨p, 0, none⟩ = some (.slice a2 kk cc2) := fun o => lat_cellA ((Below.refl _ _).alloc (Nat.le_refl _) o) g0d
            clear hrow
            go_region_law (first
              | (refine step_pushO _ (by rfl) (.tmp 55) (.tmp 62) (by rfl) 0 (.slice a2 kk cc2) kk _ (by rfl) w4.drew (HRW.out.drew) (IntKind.u8.wrap x.op) (by rfl) (by rfl) (by have := HLS.out; have := HKK.out; have := HTL.out; omega) (Nat.zero_le _) ?_
                 intro g7 c7 w7 ho7 hc7 hm7
                 have HG7 := hidden (HV4.out.push (x := IntKind.u8.wrap x.op) (by rw [HKK.out]; exact ho7) ((Chg.of_below ((Below.refl _ w4).drew)).trans hc7 (fun _ _ e => e)) (by have := hm7; exact this) (by rw [wrap_u8]; unfold u8; omega) (by rw [wrap_u8]; unfold u8; omega))
                 have f7 := HG7.out.1.frozen 0
                 have g7 := HG7.out.1.cell 0
                 simp at g7
                 clear ho7 hc7 hm7))
            all_goals
              go_wp2_with fail
              go_meet
              exact hidden (by have := HG7.out.2; rw [HKK.out, wrap_u8] at this; exact this)
          case rest =>
            have HR5 := hidden (OR.trans HC4.out HM2.out hcut.out)
            clear hcut
            obtain ⟨rb5, hO5, hC5, hM5⟩ := HR5.out
            have HO5 := hidden hO5
            have HC5 := hidden hC5
            have HM5 := hidden hM5
            clear hO5 hC5 hM5 m0 m1 m2 g0
            obtain ⟨b4, o4, hbe, m0, m1, m2⟩ := HXT.out wc HC5.out
            simp only [Option.some.injEq, Addr.mk.injEq, and_true] at hbe
            obtain ⟨rfl, rfl⟩ := hbe
            go_wp2_with fail
            refine (textO p rb5 ⟨(st.text x.n 64).b ++ [u8 x.op], false⟩ x.t 64 wc HO5.out (by omega) (by have := HLS.out; have := HTL.out; simp; omega)).mono ?_
            rintro e w6 ⟨rfl, hR6⟩
            have HR6 := hidden (OR.trans HC5.out HM5.out hR6)
            clear hR6 m0 m1 m2
            go_wp2_with fail
            refine ⟨⟨i + 1, by first | rfl | simp, by omega, hidden (by rw [HNX.out]; unfold oMatch; rw [HT.out]; exact HR6.out)⟩, ?_⟩
            show N - ((i : Int) + 1).toNat < N - (i : Int).toNat
            omega
        | true =>
          by_cases hq1 : 1 ≤ x.op
          · have hq1' : x.op ≥ 1 := hq1
            by_cases hq2 : x.op ≤ 4
            · have HCO : Hid ((true && (decide (1 ≤ x.op) && decide (x.op ≤ 4))) = true) := hidden (by simp [hq1, hq2])
              have HC4 : Hid (Chg (fpt p rb) w (w2.setCell ⟨p, 1, none⟩ (.bool true))) := hidden (HC2.out.trans (Chg.set ⟨p, 1, none⟩ _ w2) (fun i _ hi => .inl hi))
              obtain ⟨b4, o4, hbe, m0, m1, m2⟩ := HXT.out _ HC4.out
              simp only [Option.some.injEq, Addr.mk.injEq, and_true] at hbe
              obtain ⟨rfl, rfl⟩ := hbe
              have g0 : (w2.setCell ⟨p, 1, none⟩ (.bool true)).cell? ⟨p, 0, none⟩ = some (.slice a2 kk cc2) := (HV2.out.setOk true).blk.cell 0
              go_upto_region 6 with fail
              obtain ⟨w4, hw4⟩ : ∃ w4, w2.setCell ⟨p, 1, none⟩ (.bool true) = w4 := ⟨_, rfl⟩
              have HV4 : Hid (OV w4 p rb2 ⟨(st.text x.n 64).b, true⟩ (.slice a2 kk cc2)) := hidden (by rw [← hw4]; exact HV2.out.setOk true)
              rw [hw4] at HC4 m0 m1 m2 g0
              rw [hw4]
              clear hw4 k0 k1 k2
              have hT : (st.text x.n 64).must (decide (1 ≤ x.op) && decide (x.op ≤ 4)) = ⟨(st.text x.n 64).b, true⟩ := HMU.out.trans (by rw [HCO.out])
              have HT := hidden hT
              clear hT
              go_cut [] from 51 to 65 (fun wx => Hid (OR w4 p rb2 ⟨(st.text x.n 64).b ++ [u8 x.op], true⟩ wx))
              case first =>
                have hrow : w4.ownsRow 0 5 1 (.slice a2 kk cc2) kk (cells8 (st.text x.n 64).b) := by have := HV4.out.row; simp only [HKK.out] at this; exact this
                have HRW := hidden hrow
                have m1d : w4.drew.cell? ⟨b1, o1 + i * 3 + 1, none⟩ = some (.int .i64 x.op) := m1
                have g0d : w4.drew.cell? ⟨p, 0, none⟩ = some (.slice a2 kk cc2) := g0
                have hplt : p < w4.heap.size := HV4.out.blk.lt
                have m1a : ∀ (o : Obj), (w4.drew.alloc o).cell? ⟨b1, o1 + i * 3 + 1, none⟩ = some (.int .i64 x.op) := fun o => lat_cellA ((Below.refl _ _).alloc (Nat.le_refl _) o) m1d
                have g0a : ∀ (o : Obj), (w4.drew.alloc o).cell? ⟨p, 0, none⟩ = some (.slice a2 kk cc2) := fun o => lat_cellA ((Below.refl _ _).alloc (Nat.le_refl _) o) g0d
                clear hrow
                go_region_law (first
                  | (refine step_pushO _ (by rfl) (.tmp 55) (.tmp 62) (by rfl) 0 (.slice a2 kk cc2) kk _ (by rfl) w4.drew (HRW.out.drew) (IntKind.u8.wrap x.op) (by rfl) (by rfl) (by have := HLS.out; have := HKK.out; have := HTL.out; omega) (Nat.zero_le _) ?_
                     intro g7 c7 w7 ho7 hc7 hm7
                     have HG7 := hidden (HV4.out.push (x := IntKind.u8.wrap x.op) (by rw [HKK.out]; exact ho7) ((Chg.of_below ((Below.refl _ w4).drew)).trans hc7 (fun _ _ e => e)) (by have := hm7; exact this) (by rw [wrap_u8]; unfold u8; omega) (by rw [wrap_u8]; unfold u8; omega))
                     have f7 := HG7.out.1.frozen 0
                     have g7 := HG7.out.1.cell 0
                     simp at g7
                     clear ho7 hc7 hm7))
                all_goals
                  go_wp2_with fail
                  go_meet
                  exact hidden (by have := HG7.out.2; rw [HKK.out, wrap_u8] at this; exact this)
              case rest =>
                have HR5 := hidden (OR.trans HC4.out HM2.out hcut.out)
                clear hcut
                obtain ⟨rb5, hO5, hC5, hM5⟩ := HR5.out
                have HO5 := hidden hO5
                have HC5 := hidden hC5
                have HM5 := hidden hM5
                clear hO5 hC5 hM5 m0 m1 m2 g0
                obtain ⟨b4, o4, hbe, m0, m1, m2⟩ := HXT.out wc HC5.out
                simp only [Option.some.injEq, Addr.mk.injEq, and_true] at hbe
                obtain ⟨rfl, rfl⟩ := hbe
                go_wp2_with fail
                refine (textO p rb5 ⟨(st.text x.n 64).b ++ [u8 x.op], true⟩ x.t 64 wc HO5.out (by omega) (by have := HLS.out; have := HTL.out; simp; omega)).mono ?_
                rintro e w6 ⟨rfl, hR6⟩
                have HR6 := hidden (OR.trans HC5.out HM5.out hR6)
                clear hR6 m0 m1 m2
                go_wp2_with fail
                refine ⟨⟨i + 1, by first | rfl | simp, by omega, hidden (by rw [HNX.out]; unfold oMatch; rw [HT.out]; exact HR6.out)⟩, ?_⟩
                show N - ((i : Int) + 1).toNat < N - (i : Int).toNat
                omega
            · have hq2' : 4 < x.op := by omega
              have hq3 : decide (x.op ≤ 4) = false := by simp; omega
              have HCO : Hid ((true && (decide (1 ≤ x.op) && decide (x.op ≤ 4))) = false) := hidden (by simp [hq2])
              have HC4 : Hid (Chg (fpt p rb) w (w2.setCell ⟨p, 1, none⟩ (.bool false))) := hidden (HC2.out.trans (Chg.set ⟨p, 1, none⟩ _ w2) (fun i _ hi => .inl hi))
              obtain ⟨b4, o4, hbe, m0, m1, m2⟩ := HXT.out _ HC4.out
              simp only [Option.some.injEq, Addr.mk.injEq, and_true] at hbe
              obtain ⟨rfl, rfl⟩ := hbe
              have g0 : (w2.setCell ⟨p, 1, none⟩ (.bool false)).cell? ⟨p, 0, none⟩ = some (.slice a2 kk cc2) := (HV2.out.setOk false).blk.cell 0
              go_upto_region 6 with fail
              obtain ⟨w4, hw4⟩ : ∃ w4, w2.setCell ⟨p, 1, none⟩ (.bool false) = w4 := ⟨_, rfl⟩
              have HV4 : Hid (OV w4 p rb2 ⟨(st.text x.n 64).b, false⟩ (.slice a2 kk cc2)) := hidden (by rw [← hw4]; exact HV2.out.setOk false)
              rw [hw4] at HC4 m0 m1 m2 g0
              rw [hw4]
              clear hw4 k0 k1 k2
              have hT : (st.text x.n 64).must (decide (1 ≤ x.op) && decide (x.op ≤ 4)) = ⟨(st.text x.n 64).b, false⟩ := HMU.out.trans (by rw [HCO.out])
              have HT := hidden hT
              clear hT
              go_cut [] from 51 to 65 (fun wx => Hid (OR w4 p rb2 ⟨(st.text x.n 64).b ++ [u8 x.op], false⟩ wx))
              case first =>
                have hrow : w4.ownsRow 0 5 1 (.slice a2 kk cc2) kk (cells8 (st.text x.n 64).b) := by have := HV4.out.row; simp only [HKK.out] at this; exact this
                have HRW := hidden hrow
                have m1d : w4.drew.cell? ⟨b1, o1 + i * 3 + 1, none⟩ = some (.int .i64 x.op) := m1
                have g0d : w4.drew.cell? ⟨p, 0, none⟩ = some (.slice a2 kk cc2) := g0
                have hplt : p < w4.heap.size := HV4.out.blk.lt
                have m1a : ∀ (o : Obj), (w4.drew.alloc o).cell? ⟨b1, o1 + i * 3 + 1, none⟩ = some (.int .i64 x.op) := fun o => lat_cellA ((Below.refl _ _).alloc (Nat.le_refl _) o) m1d
                have g0a : ∀ (o : Obj), (w4.drew.alloc o).cell? ⟨p, 0, none⟩ = some (.slice a2 kk cc2) := fun o => lat_cellA ((Below.refl _ _).alloc (Nat.le_refl _) o) g0d
                clear hrow
                go_region_law (first
                  | (refine step_pushO _ (by rfl) (.tmp 55) (.tmp 62) (by rfl) 0 (.slice a2 kk cc2) kk _ (by rfl) w4.drew (HRW.out.drew) (IntKind.u8.wrap x.op) (by rfl) (by rfl) (by have := HLS.out; have := HKK.out; have := HTL.out; omega) (Nat.zero_le _) ?_
                     intro g7 c7 w7 ho7 hc7 hm7
                     have HG7 := hidden (HV4.out.push (x := IntKind.u8.wrap x.op) (by rw [HKK.out]; exact ho7) ((Chg.of_below ((Below.refl _ w4).drew)).trans hc7 (fun _ _ e => e)) (by have := hm7; exact this) (by rw [wrap_u8]; unfold u8; omega) (by rw [wrap_u8]; unfold u8; omega))
                     have f7 := HG7.out.1.frozen 0
                     have g7 := HG7.out.1.cell 0
                     simp at g7
                     clear ho7 hc7 hm7))
                all_goals
                  go_wp2_with fail
                  go_meet
                  exact hidden (by have := HG7.out.2; rw [HKK.out, wrap_u8] at this; exact this)
              case rest =>
                have HR5 := hidden (OR.trans HC4.out HM2.out hcut.out)
                clear hcut
                obtain ⟨rb5, hO5, hC5, hM5⟩ := HR5.out
                have HO5 := hidden hO5
                have HC5 := hidden hC5
                have HM5 := hidden hM5
                clear hO5 hC5 hM5 m0 m1 m2 g0
                obtain ⟨b4, o4, hbe, m0, m1, m2⟩ := HXT.out wc HC5.out
                simp only [Option.some.injEq, Addr.mk.injEq, and_true] at hbe
                obtain ⟨rfl, rfl⟩ := hbe
                go_wp2_with fail
                refine (textO p rb5 ⟨(st.text x.n 64).b ++ [u8 x.op], false⟩ x.t 64 wc HO5.out (by omega) (by have := HLS.out; have := HTL.out; simp; omega)).mono ?_
                rintro e w6 ⟨rfl, hR6⟩
                have HR6 := hidden (OR.trans HC5.out HM5.out hR6)
                clear hR6 m0 m1 m2
                go_wp2_with fail
                refine ⟨⟨i + 1, by first | rfl | simp, by omega, hidden (by rw [HNX.out]; unfold oMatch; rw [HT.out]; exact HR6.out)⟩, ?_⟩
                show N - ((i : Int) + 1).toNat < N - (i : Int).toNat
                omega
          · have hq1' : ¬ x.op ≥ 1 := hq1
            have HCO : Hid ((true && (decide (1 ≤ x.op) && decide (x.op ≤ 4))) = false) := hidden (by simp [hq1])
            have HC4 : Hid (Chg (fpt p rb) w (w2.setCell ⟨p, 1, none⟩ (.bool false))) := hidden (HC2.out.trans (Chg.set ⟨p, 1, none⟩ _ w2) (fun i _ hi => .inl hi))
            obtain ⟨b4, o4, hbe, m0, m1, m2⟩ := HXT.out _ HC4.out
            simp only [Option.some.injEq, Addr.mk.injEq, and_true] at hbe
            obtain ⟨rfl, rfl⟩ := hbe
            have g0 : (w2.setCell ⟨p, 1, none⟩ (.bool false)).cell? ⟨p, 0, none⟩ = some (.slice a2 kk cc2) := (HV2.out.setOk false).blk.cell 0
            go_upto_region 6 with fail
            obtain ⟨w4, hw4⟩ : ∃ w4, w2.setCell ⟨p, 1, none⟩ (.bool false) = w4 := ⟨_, rfl⟩
            have HV4 : Hid (OV w4 p rb2 ⟨(st.text x.n 64).b, false⟩ (.slice a2 kk cc2)) := hidden (by rw [← hw4]; exact HV2.out.setOk false)
            rw [hw4] at HC4 m0 m1 m2 g0
            rw [hw4]
            clear hw4 k0 k1 k2
            have hT : (st.text x.n 64).must (decide (1 ≤ x.op) && decide (x.op ≤ 4)) = ⟨(st.text x.n 64).b, false⟩ := HMU.out.trans (by rw [HCO.out])
            have HT := hidden hT
            clear hT
            go_cut [] from 51 to 65 (fun wx => Hid (OR w4 p rb2 ⟨(st.text x.n 64).b ++ [u8 x.op], false⟩ wx))
            case first =>
              have hrow : w4.ownsRow 0 5 1 (.slice a2 kk cc2) kk (cells8 (st.text x.n 64).b) := by have := HV4.out.row; simp only [HKK.out] at this; exact this
              have HRW := hidden hrow
              have m1d : w4.drew.cell? ⟨b1, o1 + i * 3 + 1, none⟩ = some (.int .i64 x.op) := m1
              have g0d : w4.drew.cell? ⟨p, 0, none⟩ = some (.slice a2 kk cc2) := g0
              have hplt : p < w4.heap.size := HV4.out.blk.lt
              have m1a : ∀ (o : Obj), (w4.drew.alloc o).cell? ⟨b1, o1 + i * 3 + 1, none⟩ = some (.int .i64 x.op) := fun o => lat_cellA ((Below.refl _ _).alloc (Nat.le_refl _) o) m1d
              have g0a : ∀ (o : Obj), (w4.drew.alloc o).cell? ⟨p, 0, none⟩ = some (.slice a2 kk cc2) := fun o => lat_cellA ((Below.refl _ _).alloc (Nat.le_refl _) o) g0d
              clear hrow
              go_region_law (first
                | (refine step_pushO _ (by rfl) (.tmp 55) (.tmp 62) (by rfl) 0 (.slice a2 kk cc2) kk _ (by rfl) w4.drew (HRW.out.drew) (IntKind.u8.wrap x.op) (by rfl) (by rfl) (by have := HLS.out; have := HKK.out; have := HTL.out; omega) (Nat.zero_le _) ?_
                   intro g7 c7 w7 ho7 hc7 hm7
                   have HG7 := hidden (HV4.out.push (x := IntKind.u8.wrap x.op) (by rw [HKK.out]; exact ho7) ((Chg.of_below ((Below.refl _ w4).drew)).trans hc7 (fun _ _ e => e)) (by have := hm7; exact this) (by rw [wrap_u8]; unfold u8; omega) (by rw [wrap_u8]; unfold u8; omega))
                   have f7 := HG7.out.1.frozen 0
                   have g7 := HG7.out.1.cell 0
                   simp at g7
                   clear ho7 hc7 hm7))
              all_goals
                go_wp2_with fail
                go_meet
                exact hidden (by have := HG7.out.2; rw [HKK.out, wrap_u8] at this; exact this)
            case rest =>
              have HR5 := hidden (OR.trans HC4.out HM2.out hcut.out)
              clear hcut
              obtain ⟨rb5, hO5, hC5, hM5⟩ := HR5.out
              have HO5 := hidden hO5
              have HC5 := hidden hC5
              have HM5 := hidden hM5
              clear hO5 hC5 hM5 m0 m1 m2 g0
              obtain ⟨b4, o4, hbe, m0, m1, m2⟩ := HXT.out wc HC5.out
              simp only [Option.some.injEq, Addr.mk.injEq, and_true] at hbe
              obtain ⟨rfl, rfl⟩ := hbe
              go_wp2_with fail
              refine (textO p rb5 ⟨(st.text x.n 64).b ++ [u8 x.op], false⟩ x.t 64 wc HO5.out (by omega) (by have := HLS.out; have := HTL.out; simp; omega)).mono ?_
              rintro e w6 ⟨rfl, hR6⟩
              have HR6 := hidden (OR.trans HC5.out HM5.out hR6)
              clear hR6 m0 m1 m2
              go_wp2_with fail
              refine ⟨⟨i + 1, by first | rfl | simp, by omega, hidden (by rw [HNX.out]; unfold oMatch; rw [HT.out]; exact HR6.out)⟩, ?_⟩
              show N - ((i : Int) + 1).toNat < N - (i : Int).toNat
              omega
    · obtain rfl : i = N := by omega
      go_wp2_with fail
      go_end0
      exact HFIN.out (.inl (by first | rfl | trivial))


end Go.Proofs.YtalmpmhnkilalaaGreatDoor

/-
  The document's Answer. By genanb20.py.
-/
namespace Go.Proofs.YtalmpmhnkilalaaGreatDoor
open Go.RowKit
set_option linter.unusedVariables false
set_option linter.unusedSimpArgs false

theorem eachL_next {α : Type} (step : Od → α → Od) (l : List α) (q : Od × Nat) (i : Nat) (x : α) (hx : l[i]? = some x) : eachL step (l.take (i + 1)) q = if (eachL step (l.take i) q).1.ok then oLess (step (eachL step (l.take i) q).1 x, (eachL step (l.take i) q).2) else eachL step (l.take i) q := by
  unfold eachL
  rw [List.take_add_one, hx, List.foldl_append]
  rfl
theorem eachL_rest {α : Type} (step : Od → α → Od) (l : List α) (q : Od × Nat) (i : Nat) (h : (eachL step (l.take i) q).1.ok = false) : eachL step l q = eachL step (l.take i) q := by
  have e : eachL step l q = eachL step (l.drop i) (eachL step (l.take i) q) := by
    conv => lhs; rw [← List.take_append_drop i l]
    unfold eachL
    rw [List.foldl_append]
  rw [e, eachL_no step _ _ h]
theorem eachL_tot {α : Type} {step : Od → α → Od} {ok : α → Prop} {en : α → List Int} {B : Nat} : ∀ (l : List α) (q : Od × Nat), (∀ x ∈ l, Dwt (fun s => step s x) (ok x) (en x) B) → q.1.b.length ≤ 1048576 → (eachL step l q).2 ≤ q.2 + l.length * (1048576 + B)
  | [], q, h, hq => by simp [eachL]
  | x :: r, q, h, hq => by
    have h1 : (if q.1.ok then oLess (step q.1 x, q.2) else q).1.b.length ≤ 1048576 := by
      split
      · exact less_len _
      · exact hq
    have h2 : (if q.1.ok then oLess (step q.1 x, q.2) else q).2 ≤ q.2 + (1048576 + B) := by
      split
      · have h3 := (h x (by simp)).len q.1
        unfold oLess
        split
        · simp only; omega
        · simp only at h3 ⊢; omega
      · omega
    have ih := eachL_tot r _ (fun y hy => h y (by simp [hy])) h1
    show (eachL step r (if q.1.ok then oLess (step q.1 x, q.2) else q)).2 ≤ _
    rw [List.length_cons, Nat.succ_mul]
    omega
/-- A writer that was made behind w0. -/
def WK (B p : Nat) (w0 w : World) (s : Od) : Prop := ∃ rb, Ot w p rb s ∧ Below B w0 w ∧ ∀ g, rb = some g → B ≤ g
theorem WK.next {B p : Nat} {w0 w w' : World} {s : Od} {rb : Option Nat} (h : OR w p rb s w') (hb : Below B w0 w) (hg : ∀ g, rb = some g → B ≤ g) (hp : B ≤ p) (hB : B ≤ w0.heap.size) : WK B p w0 w' s := by
  obtain ⟨rb', h1, h2, h3⟩ := h
  have hs := hb.size
  refine ⟨rb', h1, hb.trans (h2.below (by omega) (fun i hi => ?_)), fun g e => ?_⟩
  · rcases hi with rfl | hi
    · exact hp
    · exact hg i hi
  · rcases h3 g e with e | e
    · exact hg g e
    · omega
/-- What lies still while such a writer writes. -/
theorem wk_keep {B p : Nat} {w0 w : World} {rb : Option Nat} {Q : World → Prop} (h : ∀ wx, Below B w0 wx → Q wx) (hb : Below B w0 w) (hg : ∀ g, rb = some g → B ≤ g) (hp : B ≤ p) (hB : B ≤ w0.heap.size) : ∀ wx, Chg (fpt p rb) w wx → Q wx := fun wx hx => h wx (hb.trans (hx.below (by have := hb.size; omega) (fun i hi => by
  rcases hi with rfl | hi
  · exact hp
  · exact hg i hi)))
def EnA (w : World) (r : Int × List Int) (e : Ending) (w' : World) : Prop := ∃ ad n c, e = .returned (.tuple #[.slice ad n c, .int .i64 r.1]) ∧ w'.ownsRow w.heap.size 5 1 (.slice ad n c) n (cells8 r.2) ∧ Byte r.2 ∧ Below w.heap.size w w'
theorem built80t : Tryz.prog.built 80 [(1, .bool true)] = some #[.slice none 0 0, .bool true] := by kernel_rfl
/-- Is a response's frame right? As the document asks it. -/
theorem headB_eq (e k : Int) (f : Nat → FV) (N0 N1 N3 : Nat) (m2 : Int) (h0 : isZ (f 0) = decide (N0 = 0)) (h1 : isZ (f 1) = decide (N1 = 0)) (h2 : isZ (f 2) = decide (m2 = 0)) (h3 : isZ (f 3) = decide (N3 = 0)) :
    headB e k f = (decide (0 ≤ e ∧ e ≤ 999) && spareB k f && (decide (e = 0) || (decide (k = 0) && decide (N0 + N1 + N3 = 0) && decide (m2 = 0))) && decide (0 ≤ k ∧ k ≤ 4)) := by
  unfold headB spareB
  rw [h0, h1, h2, h3, Bool.eq_iff_iff]
  simp only [Bool.and_eq_true, Bool.or_eq_true, decide_eq_true_eq]
  omega

end Go.Proofs.YtalmpmhnkilalaaGreatDoor

/-
  The document's Answer: the walk. By genanc20.py.
-/
namespace Go.Proofs.YtalmpmhnkilalaaGreatDoor
open Go.RowKit
set_option linter.unusedVariables false
set_option linter.unusedSimpArgs false

set_option maxHeartbeats 32000000 in
set_option maxRecDepth 100000 in
theorem answerR (e k : Int) (fm : Nat → FM) (w : World) (hk : ∀ i, i < 4 → (fm i).fv.kd = kdA i) (hm : ∀ i, i < 4 → (fm i).mem w) (he : I64n e) (hkk : I64n k) (hs : ∀ i, i < 4 → SmallA (fm i).fv) (hN : ∀ i, i < 4 → (match fm i with | .se _ _ l => l.length ≤ 2000 | .ro _ _ l => l.length ≤ 100000 | .ts _ _ l => l.length ≤ 100000 | _ => True)) :
    Calls Tryz.prog 19 #[.agg (cA e k fm).toArray] w (EnA w (docAns e k (fun i => (fm i).fv))) := by
  obtain ⟨a0, c0, l0, q0⟩ : ∃ a c l, fm 0 = .se a c l := by have := hk 0 (by omega); cases h : fm 0 <;> rw [h] at this <;> first | (cases this; done) | exact ⟨_, _, _, rfl⟩
  obtain ⟨a1, c1, l1, q1⟩ : ∃ a c l, fm 1 = .ro a c l := by have := hk 1 (by omega); cases h : fm 1 <;> rw [h] at this <;> first | (cases this; done) | exact ⟨_, _, _, rfl⟩
  obtain ⟨m2, q2⟩ : ∃ m, fm 2 = .nu m := by have := hk 2 (by omega); cases h : fm 2 <;> rw [h] at this <;> first | (cases this; done) | exact ⟨_, rfl⟩
  obtain ⟨a3, c3, l3, q3⟩ : ∃ a c l, fm 3 = .ts a c l := by have := hk 3 (by omega); cases h : fm 3 <;> rw [h] at this <;> first | (cases this; done) | exact ⟨_, _, _, rfl⟩
  obtain ⟨N0, hN0⟩ : ∃ N, l0.length = N := ⟨_, rfl⟩
  obtain ⟨N1, hN1⟩ : ∃ N, l1.length = N := ⟨_, rfl⟩
  obtain ⟨N3, hN3⟩ : ∃ N, l3.length = N := ⟨_, rfl⟩
  have HN := hidden (And.intro hN0 (And.intro hN1 hN3))
  have hb0 : N0 ≤ 2000 := by have := hN 0 (by omega); rw [q0] at this; rw [← hN0]; exact this
  have hb1 : N1 ≤ 100000 := by have := hN 1 (by omega); rw [q1] at this; rw [← hN1]; exact this
  have hb3 : N3 ≤ 100000 := by have := hN 3 (by omega); rw [q3] at this; rw [← hN3]; exact this
  have HM0 : Hid (Es w a0 2 (l0.map Ser.cells) ∧ ∀ x ∈ l0, SerN w x) := hidden (by have := hm 0 (by omega); rw [q0] at this; exact ⟨this.2.1, this.2.2⟩)
  have HM1 : Hid (Es w a1 2 (l1.map Ror.cells) ∧ ∀ x ∈ l1, RorM w x) := hidden (by have := hm 1 (by omega); rw [q1] at this; exact ⟨this.2.1, this.2.2⟩)
  have HM3 : Hid (Es w a3 1 (l3.map (fun d => [Value.string d]))) := hidden (by have := hm 3 (by omega); rw [q3] at this; exact this.2)
  have hm2 : I64n m2 := by have := hm 2 (by omega); rw [q2] at this; exact this
  have HS0 : Hid (∀ x ∈ l0, x.S.length ≤ 1000000) := hidden (fun x hx => by have := hs 0 (by omega); rw [q0] at this; exact this.2 (prS x) (List.mem_map_of_mem hx))
  have HF : Hid ((fm 0).fv = .se (l0.map prS) ∧ (fm 1).fv = .ro (l1.map prR) ∧ (fm 2).fv = .nu m2 ∧ (fm 3).fv = .ts l3) := hidden (by rw [q0, q1, q2, q3]; exact ⟨rfl, rfl, rfl, rfl⟩)
  have HHB : Hid (headB e k (fun i => (fm i).fv) = (decide (0 ≤ e ∧ e ≤ 999) && spareB k (fun i => (fm i).fv) && (decide (e = 0) || (decide (k = 0) && decide (N0 + N1 + N3 = 0) && decide (m2 = 0))) && decide (0 ≤ k ∧ k ≤ 4))) := hidden (headB_eq e k _ N0 N1 N3 m2 (by simp [HF.out.1, isZ, hN0]) (by simp [HF.out.2.1, isZ, hN1]) (by simp [HF.out.2.2.1, isZ]) (by simp [HF.out.2.2.2, isZ, hN3]))
  have HB := hidden (Blk.new w 57 (cA e k fm))
  obtain ⟨w2, hw2⟩ : ∃ w2, w.alloc (.cells (cA e k fm).toArray 57) = w2 := ⟨_, rfl⟩
  have HL2 : Hid (Below w.heap.size w w2) := hidden (by rw [← hw2]; exact (Below.refl _ _).alloc (Nat.le_refl _) _)
  rw [hw2] at HB
  have HLAY : Hid (∀ wx, Lat w2 wx → wx.cell? ⟨w.heap.size, 0, none⟩ = some (.int .i64 e) ∧ wx.cell? ⟨w.heap.size, 1, none⟩ = some (.int .i64 k) ∧ wx.cell? ⟨w.heap.size, 2, none⟩ = some (.slice a0 N0 c0) ∧ wx.cell? ⟨w.heap.size, 3, none⟩ = some (.slice a1 N1 c1) ∧ wx.cell? ⟨w.heap.size, 4, none⟩ = some (.int .i64 m2) ∧ wx.cell? ⟨w.heap.size, 5, none⟩ = some (.slice a3 N3 c3)) := hidden (fun wx hx => by
    have A := HB.out.later hx
    rw [A.cell, A.cell, A.cell, A.cell, A.cell, A.cell]
    refine ⟨rfl, rfl, ?_, ?_, ?_, ?_⟩
    · rw [show (2 : Nat) = 0 + 2 from rfl, cA_at e k fm 0 (by omega), q0, ← hN0]; rfl
    · rw [show (3 : Nat) = 1 + 2 from rfl, cA_at e k fm 1 (by omega), q1, ← hN1]; rfl
    · rw [show (4 : Nat) = 2 + 2 from rfl, cA_at e k fm 2 (by omega), q2]; rfl
    · rw [show (5 : Nat) = 3 + 2 from rfl, cA_at e k fm 3 (by omega), q3, ← hN3]; rfl)
  have HK := hidden hk
  clear hk hm hs hN q0 q1 q2 q3 hN0 hN1 hN3
  go_enter Tryz.func19, Tryz.ntmps19
  go_wp2_with (first
    | (refine wpList_load_blk rfl 57 (.tmp 1) rfl w.heap.size HB.out rfl rfl rfl rfl ?_))
  try rw [hw2]
  refine (spareD e k fm w2 HK.out).mono ?_
  rintro en w3 ⟨rfl, b3⟩
  obtain ⟨zb, hzb⟩ : ∃ zb, spareB k (fun i => (fm i).fv) = zb := ⟨_, rfl⟩
  rw [hzb] at HHB ⊢
  have HX3 : Hid (Lat w2 w3) := hidden b3
  have HL3 : Hid (Below w.heap.size w w3) := hidden (HL2.out.trans (Below.mono b3 HL2.out.size))
  obtain ⟨hb, hhb⟩ : ∃ hb, headB e k (fun i => (fm i).fv) = hb := ⟨_, rfl⟩
  rw [hhb] at HHB
  have HHD := hidden hhb
  obtain ⟨y0, y1, y2, y3, y4, y5⟩ := HLAY.out w3 b3
  clear b3 hzb hhb hw2
  go_upto_region 2 with fail
  go_cut [63] from 13 to 62 (fun v63 wx => v63 = .bool (!hb) ∧ wx = w3)
  case first =>
    by_cases g1 : e < 0
    · have g1a : ¬ (0 ≤ e ∧ e ≤ 999) := by omega
      go_wp2_with fail
      go_meet
      refine ⟨?_, rfl⟩
      rw [HHB.out]
      first | rfl | (simp [g1a]; done) | (simp [g1a]; omega)
    by_cases g2 : e > 999
    · have g1a : ¬ (0 ≤ e ∧ e ≤ 999) := by omega
      go_wp2_with fail
      go_meet
      refine ⟨?_, rfl⟩
      rw [HHB.out]
      first | rfl | (simp [g1a]; done) | (simp [g1a]; omega)
    have g1a : 0 ≤ e ∧ e ≤ 999 := by omega
    cases zb with
    | false =>
      go_wp2_with fail
      go_meet
      refine ⟨?_, rfl⟩
      rw [HHB.out]
      first | rfl | (simp [g1a]; done) | (simp [g1a]; omega)
    | true =>
      by_cases g3 : e = 0
      · subst g3
        by_cases g4 : k < 0
        · have g4a : ¬ (0 ≤ k ∧ k ≤ 4) := by omega
          go_wp2_with fail
          go_meet
          refine ⟨?_, rfl⟩
          rw [HHB.out]
          first | rfl | (simp [g4a]; done) | (simp [g4a]; omega)
        by_cases g5 : k > 4
        · have g4a : ¬ (0 ≤ k ∧ k ≤ 4) := by omega
          go_wp2_with fail
          go_meet
          refine ⟨?_, rfl⟩
          rw [HHB.out]
          first | rfl | (simp [g4a]; done) | (simp [g4a]; omega)
        have g4a : 0 ≤ k ∧ k ≤ 4 := by omega
        go_wp2_with fail
        go_meet
        refine ⟨?_, rfl⟩
        rw [HHB.out]
        first | rfl | (simp [g4a]; done) | (simp [g4a]; omega)
      · have g3a : (e != 0) = true := by simpa using g3
        by_cases g6 : k = 0
        · subst g6
          by_cases g7 : N0 + N1 + N3 = 0
          · have g7a : ¬ ((N0 : Int) + (N1 : Int) + (N3 : Int)) > 0 := by omega
            by_cases g8 : m2 = 0
            · subst g8
              go_wp2_with fail
              go_meet
              refine ⟨?_, rfl⟩
              rw [HHB.out]
              first | rfl | (simp [g1a, g3, g7]; done) | (simp [g1a, g3, g7]; omega)
            · have g8a : (m2 != 0) = true := by simpa using g8
              go_wp2_with fail
              go_meet
              refine ⟨?_, rfl⟩
              rw [HHB.out]
              first | rfl | (simp [g1a, g3, g7, g8]; done) | (simp [g1a, g3, g7, g8]; omega)
          · have g7a : ((N0 : Int) + (N1 : Int) + (N3 : Int)) > 0 := by omega
            go_wp2_with fail
            go_meet
            refine ⟨?_, rfl⟩
            rw [HHB.out]
            first | rfl | (simp [g1a, g3, g7]; done) | (simp [g1a, g3, g7]; omega)
        · have g6a : (k != 0) = true := by simpa using g6
          go_wp2_with fail
          go_meet
          refine ⟨?_, rfl⟩
          rw [HHB.out]
          first | rfl | (simp [g1a, g3, g6]; done) | (simp [g1a, g3, g6]; omega)
  case rest =>
    obtain ⟨rfl, hwc⟩ := hcut
    rw [hwc]
    clear hwc
    cases hb with
    | false =>
      have HN : Hid (docAns e k (fun i => (fm i).fv) = (180, [])) := hidden (by unfold docAns; rw [if_pos HHD.out])
      go_wp2_with fail
      go_ret2
      rw [HN.out]
      exact ⟨none, 0, 0, rfl, World.ownsRow_nil _ _ _ _, fun n hn => (by cases hn), HL3.out⟩
    | true =>
      have hhd : (0 ≤ e ∧ e ≤ 999) ∧ 0 ≤ k ∧ k ≤ 4 := by
        have := HHB.out
        simp only [Eq.comm (a := true), Bool.and_eq_true, decide_eq_true_eq] at this
        exact ⟨this.1.1.1, this.2⟩
      obtain ⟨E, rfl⟩ : ∃ E : Nat, e = (E : Int) := ⟨e.toNat, by omega⟩
      have hE9 : E ≤ 999 := by omega
      have hgE := Q.grp_le E
      obtain ⟨w4, hw4⟩ : ∃ w4, w3.alloc (.cells #[.slice none 0 0, .bool true] 80) = w4 := ⟨_, rfl⟩
      obtain ⟨p, hp⟩ : ∃ p, w3.heap.size = p := ⟨_, rfl⟩
      have H34 : Hid (Below w3.heap.size w3 w4) := hidden (by rw [← hw4]; exact (Below.refl _ _).alloc (Nat.le_refl _) _)
      have HV4 : Hid (OV w4 p none ⟨[], true⟩ (.slice none 0 0)) := hidden (by
        have hb := Blk.new w3 80 [.slice none 0 0, .bool true]
        rw [hw4, hp] at hb
        exact ⟨fun h => (by cases h), rfl, hb, World.ownsRow_nil _ _ _ _, fun n hn => (by cases hn)⟩)
      have HX4 : Hid (Lat w2 w4) := hidden (Lat.trans _ _ _ HX3.out H34.out)
      clear y0 y1 y2 y3 y4 y5
      obtain ⟨y0, y1, y2, y3, y4, y5⟩ := HLAY.out w4 HX4.out
      have y0d : w4.drew.cell? ⟨w.heap.size, 0, none⟩ = some (.int .i64 (E : Int)) := y0
      have k0 : w4.cell? ⟨p, 0, none⟩ = some (.slice none 0 0) := HV4.out.blk.cell 0
      have k1 : w4.drew.cell? ⟨p, 0, none⟩ = some (.slice none 0 0) := k0
      have hBp : w3.heap.size ≤ p := by omega
      have HCV : Hid (∀ wx, Below w4.heap.size w4 wx → OV wx p none ⟨[], true⟩ (.slice none 0 0)) := hidden (fun wx hb => HV4.out.chg (Chg.of_below (F := fun _ => False) hb) (fun _ _ e => e))
      have HP : Hid (∀ wx, Below w4.heap.size w4 wx → Calls Tryz.prog 42 #[.slice none 0 0, .int .u64 (E : Int)] wx (fun e w' => ∃ v, e = .returned v ∧ (∃ ad3 c3, v = .slice ad3 (Q.grp E + 1) c3) ∧ w'.ownsRow wx.heap.size 5 1 v (Q.grp E + 1) (cells8 (Q.enc E)) ∧ Below wx.heap.size wx w')) := hidden (fun wx hb => by
        refine (Q.refPutUint_any none 0 0 E [] wx (Sl.nil _ _) (fun _ => ⟨rfl, rfl⟩) (by omega) (by omega)).mono ?_
        rintro en w' ⟨ad3, c3, h1, h2, h3⟩
        rw [List.nil_append, Nat.zero_add] at h2
        rw [Nat.zero_add] at h1
        exact ⟨_, h1, ⟨_, _, rfl⟩, h2, h3⟩)
      go_upto_region 4 with fail
      go_wp2_with (first
        | (refine wpList_build_to rfl 80 #[(1, .const (.bool true))] rfl [(1, .bool true)] #[.slice none 0 0, .bool true] rfl built80t ?_))
      have hwr : IntKind.u64.wrap (E : Int) = (E : Int) := by simp [IntKind.wrap, IntKind.signed, IntKind.bits]; omega
      try rw [hw4]
      try rw [hp]
      have HLE : Hid (Q.enc E ≠ []) := hidden (by intro h; have := Q.enc_length E; rw [h] at this; simp at this)
      go_cut [] from 66 to 76 (fun wx => Hid (WK w3.heap.size p w3 wx ⟨Q.enc E, true⟩))
      case first =>
        go_region_law (first
          | (refine step_go (by rfl) 42 #[.slice none 0 0, .int .u64 (E : Int)] (by simp [execOp, resolve, Act.eval, go_sem, hwr]) _ (HP.out _ (by first | exact Below.refl _ _ | exact (Below.refl _ _).drew)) ?_
             rintro v2 w5 ⟨⟨ad3, c3, rfl⟩, o2, b2⟩
             have O2 := hidden o2
             have B2 := hidden b2
             have B3 : Hid (Below w4.heap.size w4 w5) := hidden (((Below.refl _ _).drew).trans b2)
             have d1 : w5.cell? ⟨p, 0, none⟩ = some (.slice none 0 0) := (HCV.out _ B3.out).blk.cell 0
             have f1 := (HCV.out _ B3.out).blk.frozen 0
             clear o2 b2))
        all_goals
          go_wp2_with fail
          go_meet
          exact hidden (WK.next (rb := none) (HV4.out.fresh B3.out O2.out (Q.enc_byte _ (by omega)) (by omega)).1 H34.out (fun g e => by cases e) hBp (Nat.le_refl _))
      case rest =>
        have HW5 := hcut
        clear hcut k0 k1 y0d y0 y1 y2 y3 y4 y5 HP HCV
        obtain ⟨rb5, hO5, hb5, hg5⟩ := HW5.out
        have Hb5 := hidden hb5
        have Hg5 := hidden hg5
        obtain ⟨v5, hv5⟩ := hO5
        obtain ⟨a5, c5, rfl⟩ := owns_form hv5.row
        obtain ⟨kk, hkk⟩ : ∃ kk, (Q.enc E).length = kk := ⟨_, rfl⟩
        replace hv5 : OV wc p rb5 ⟨Q.enc E, true⟩ (.slice a5 kk c5) := by rw [← hkk]; exact hv5
        have HV5 := hidden hv5
        have HKK := hidden hkk
        have g0 : wc.cell? ⟨p, 0, none⟩ = some (.slice a5 kk c5) := hv5.blk.cell 0
        obtain ⟨y0, y1, y2, y3, y4, y5⟩ := HLAY.out wc (Lat.trans _ _ _ HX3.out hb5)
        have HLc : Hid (Below w.heap.size w wc) := hidden (HL3.out.trans (hb5.mono HL3.out.size))
        clear hv5 hkk hb5 hg5
        by_cases hE0 : E = 0
        · subst hE0
          have hge : (0 : Int) ≤ k ∧ k ≤ 4 := hhd.2
          have m1 : wc.drew.cell? ⟨w.heap.size, 1, none⟩ = some (.int .i64 k) := y1
          have g0d : wc.drew.cell? ⟨p, 0, none⟩ = some (.slice a5 kk c5) := g0
          have hrow : wc.ownsRow 0 5 1 (.slice a5 kk c5) kk (cells8 (Q.enc 0)) := by have := HV5.out.row; simp only [HKK.out] at this; exact this
          have HRW := hidden hrow
          have hk9 : kk ≤ 1000 := by have := HKK.out; have := Q.enc_length 0; omega
          have hplt : p < wc.heap.size := HV5.out.blk.lt
          have hwlt : w.heap.size < wc.heap.size := World.block_lt_of_cell? wc _ y1
          have m1a : ∀ (o : Obj), (wc.alloc o).cell? ⟨w.heap.size, 1, none⟩ = some (.int .i64 k) := fun o => lat_cellA ((Below.refl _ _).alloc (Nat.le_refl _) o) y1
          have g0a : ∀ (o : Obj), (wc.alloc o).cell? ⟨p, 0, none⟩ = some (.slice a5 kk c5) := fun o => lat_cellA ((Below.refl _ _).alloc (Nat.le_refl _) o) g0
          clear hrow
          go_upto_region 8 with fail
          go_cut [] from 84 to 95 (fun wx => Hid (WK w3.heap.size p w3 wx ⟨Q.enc 0 ++ [u8 k], true⟩))
          case first =>
            go_region_law (first
              | (refine step_pushO _ (by rfl) (.tmp 88) (.tmp 92) (by rfl) 0 (.slice a5 kk c5) kk _ (by rfl) wc.drew (HRW.out.drew) (IntKind.u8.wrap k) (by rfl) (by rfl) (by omega) (Nat.zero_le _) ?_
                 intro g7 c7 w7 ho7 hc7 hm7
                 have HG7 := hidden (HV5.out.push (x := IntKind.u8.wrap k) (by rw [HKK.out]; exact ho7) ((Chg.of_below ((Below.refl _ wc).drew)).trans hc7 (fun _ _ e => e)) (by have := hm7; exact this) (by rw [wrap_u8]; unfold u8; omega) (by rw [wrap_u8]; unfold u8; omega))
                 have f7 := HG7.out.1.frozen 0
                 have g7 := HG7.out.1.cell 0
                 simp at g7
                 clear ho7 hc7 hm7))
            all_goals
              go_wp2_with fail
              go_meet
              exact hidden (WK.next (by have := HG7.out.2; rw [HKK.out, wrap_u8] at this; exact this) Hb5.out Hg5.out hBp (Nat.le_refl _))
          case rest =>
            have HW6 := hcut
            clear hcut m1 g0d m1a g0a hplt hwlt g0 y0 y1 y2 y3 y4 y5 HRW HV5 HKK Hb5 Hg5 HLc HW5
            obtain ⟨s0, hs0⟩ : ∃ s0, (⟨Q.enc 0 ++ [u8 k], true⟩ : Od) = s0 := ⟨_, rfl⟩
            rw [hs0] at HW6
            have hl0 : s0.b.length ≤ 11 := by rw [← hs0]; simp only [List.length_append, List.length_cons, List.length_nil]; have := enc_len10 0; omega
            have HDOC : Hid (∀ q, bodyB k (fun i => (fm i).fv) s0 = q → docAns 0 k (fun i => (fm i).fv) = if q.1.ok = false then (180, []) else if 1048576 < q.2 + q.1.b.length then (181, []) else (0, q.1.b)) := hidden (fun q hq => by
              unfold docAns
              have hh0 : headB 0 k (fun i => (fm i).fv) = true := HHD.out
              rw [if_neg (by rw [hh0]; simp), if_neg (by simp)]
              have e0 : (⟨Q.enc ((0 : Int)).toNat ++ [u8 k], true⟩ : Od) = s0 := hs0
              rw [e0, hq])
            clear hs0
            obtain ⟨wd, hwd⟩ : ∃ wd, wc = wd := ⟨_, rfl⟩
            rw [hwd] at HW6
            rw [hwd]
            clear hwd
            rcases (show k = 0 ∨ k = 1 ∨ k = 2 ∨ k = 3 ∨ k = 4 by omega) with rfl | rfl | rfl | rfl | rfl
            · have HWZ := HW6
              have HBZ : Hid (bodyB 0 (fun i => (fm i).fv) s0 = (s0, 0)) := hidden rfl
              have HLZ : Hid (s0.b.length ≤ 1000000000000) := hidden (by omega)
              obtain ⟨y0, y1, y2, y3, y4, y5⟩ := HLAY.out wd (by obtain ⟨_, _, hb, _⟩ := HW6.out; exact Lat.trans _ _ _ HX3.out hb)
              obtain ⟨rbz, hOz, hbz, hgz⟩ := HWZ.out
              have Hgz := hidden hgz
              have HLz : Hid (Below w.heap.size w wd) := hidden (HL3.out.trans (hbz.mono HL3.out.size))
              obtain ⟨vz, hvz⟩ := hOz
              obtain ⟨az, cz, rfl⟩ := owns_form hvz.row
              obtain ⟨nz, hnz⟩ : ∃ nz, s0.b.length = nz := ⟨_, rfl⟩
              rw [hnz] at hvz
              have HVz := hidden hvz
              have HNZ := hidden hnz
              have HDZ := hidden (HDOC.out (s0, 0) HBZ.out)
              simp only at HDZ
              rw [hnz] at HDZ
              have g0 : wd.cell? ⟨p, 0, none⟩ = some (.slice az nz cz) := hvz.blk.cell 0
              have g1 : wd.cell? ⟨p, 1, none⟩ = some (.bool s0.ok) := hvz.blk.cell 1
              have hnz9 : nz ≤ 1000000000000 := by have := HLZ.out; omega
              obtain ⟨okz, hokz⟩ : ∃ ok, s0.ok = ok := ⟨_, rfl⟩
              rw [hokz] at g1 HDZ
              clear hvz hnz hokz hbz hgz
              cases okz with
              | false =>
                have HN : Hid (docAns 0 0 (fun i => (fm i).fv) = (180, [])) := hidden (by rw [HDZ.out]; simp)
                go_wp2_with fail
                go_ret2
                show EnA w (docAns (0 : Int) 0 (fun i => (fm i).fv)) _ _
                rw [HN.out]
                exact ⟨none, 0, 0, rfl, World.ownsRow_nil _ _ _ _, fun n hn => (by cases hn), HLz.out⟩
              | true =>
                by_cases hbig : 1048576 < nz
                · have hbig' : (nz : Int) > 1048576 := by omega
                  have HN : Hid (docAns 0 0 (fun i => (fm i).fv) = (181, [])) := hidden (by rw [HDZ.out]; simp [hbig])
                  go_wp2_with fail
                  go_ret2
                  show EnA w (docAns (0 : Int) 0 (fun i => (fm i).fv)) _ _
                  rw [HN.out]
                  exact ⟨none, 0, 0, rfl, World.ownsRow_nil _ _ _ _, fun n hn => (by cases hn), HLz.out⟩
                · have hbig' : ¬ (nz : Int) > 1048576 := by omega
                  have HN : Hid (docAns 0 0 (fun i => (fm i).fv) = (0, s0.b)) := hidden (by rw [HDZ.out]; simp [hbig])
                  go_wp2_with fail
                  go_ret2
                  show EnA w (docAns (0 : Int) 0 (fun i => (fm i).fv)) _ _
                  rw [HN.out]
                  have hrow := HVz.out.row
                  simp only [HNZ.out] at hrow
                  exact ⟨az, nz, cz, rfl, owns_base hrow (fun g hg => by
                    have h1 := Hgz.out g (by rw [← HVz.out.own]; exact hg)
                    have := HL3.out.size
                    omega), HVz.out.byte, HLz.out⟩
            · obtain ⟨rb6, hO6, hb6, hg6⟩ := HW6.out
              have HO6 := hidden hO6
              have Hb6 := hidden hb6
              have Hg6 := hidden hg6
              obtain ⟨y0, y1, y2, y3, y4, y5⟩ := HLAY.out wd (Lat.trans _ _ _ HX3.out hb6)
              clear hO6 hb6 hg6
              go_wp2_with fail
              refine (countO p rb6 s0 (N0 : Int) 2147483647 wd HO6.out ⟨by omega, by omega⟩ ⟨by omega, by omega⟩ (by omega)).mono ?_
              rintro en w8 ⟨rfl, hR8⟩
              obtain ⟨s1, hs1⟩ : ∃ s1, s0.count (N0 : Int) 2147483647 = s1 := ⟨_, rfl⟩
              rw [hs1] at hR8
              have HW8 := hidden (WK.next hR8 Hb6.out Hg6.out hBp (Nat.le_refl _))
              have hl1 : s1.b.length ≤ 30 := by rw [← hs1]; have := (dwt_count (N0 : Int) 2147483647 (by omega)).len s0; omega
              have HLLN : Hid ((l0.map prS).length = N0) := hidden (by rw [List.length_map]; exact HN.out.1)
              have HBODY : Hid (bodyB 1 (fun i => (fm i).fv) s0 = eachL oSer (l0.map prS) (s1, 0)) := hidden (by
                show fieldB (fm 0).fv s0 = _
                rw [HF.out.1]
                show eachL oSer (l0.map prS) (s0.count ((l0.map prS).length : Int) 2147483647, 0) = _
                rw [HLLN.out, hs1])
              have HDW : Hid (∀ x ∈ l0.map prS, Dwt (fun s => oSer s x) ((fun x : Se => okLs x.1) x) (enE x) 19002399) := hidden (fun x hx => by obtain ⟨z, hz, rfl⟩ := List.mem_map.1 hx; exact dwt_ser (prS z) (HM0.out.2 z hz).2.2.2.1.sz (HS0.out z hz))
              clear hR8 hs1 y0 y1 y2 y3 y4 y5
              obtain ⟨y0, y1, y2, y3, y4, y5⟩ := HLAY.out w8 (by obtain ⟨_, _, hb, _⟩ := HW8.out; exact Lat.trans _ _ _ HX3.out hb)
              go_wp2_with fail
              clear y0 y1 y2 y3 y4 y5
              go_loopw [6, 8] (fun v6 vv wx => ∃ i : Nat, vv = .int .i64 (i : Int) ∧ v6 = .int .i64 ((eachL oSer ((l0.map prS).take i) (s1, 0)).2 : Int) ∧ i ≤ N0 ∧ Hid (WK w3.heap.size p w3 wx (eachL oSer ((l0.map prS).take i) (s1, 0)).1)) (fun _ vv _ => N0 - (intOf vv).toNat)
              case atStart => exact ⟨0, rfl, rfl, by omega, HW8⟩
              case round =>
                obtain ⟨i, rfl, rfl, hi, hW⟩ := hrel
                have HST0 := hidden (And.intro (eachL_len oSer ((l0.map prS).take i) (s1, 0) (by simp only; omega)) (eachL_tot (step := oSer) ((l0.map prS).take i) (s1, 0) (fun x hx => HDW.out x (List.mem_of_mem_take hx)) (by simp only; omega)))
                have HEX : Hid ((i = N0 ∨ (eachL oSer ((l0.map prS).take i) (s1, 0)).1.ok = false) → bodyB 1 (fun i => (fm i).fv) s0 = eachL oSer ((l0.map prS).take i) (s1, 0)) := hidden (fun hq => by
                  rw [HBODY.out]
                  rcases hq with hq | hq
                  · rw [hq, ← HLLN.out, List.take_length]
                  · exact eachL_rest _ _ _ i hq)
                have HTK : Hid (((l0.map prS).take i).length ≤ N0) := hidden (by rw [List.length_take]; omega)
                obtain ⟨⟨sz, tz⟩, hst⟩ : ∃ q, eachL oSer ((l0.map prS).take i) (s1, 0) = q := ⟨_, rfl⟩
                rw [hst] at hW HST0 HEX
                rw [hst]
                simp only at hW HST0 HEX ⊢
                have HST := hidden hst
                clear hst
                have HLZ : Hid (sz.b.length ≤ 1048576) := hidden HST0.out.1
                have HTZ : Hid (tz ≤ 1000000000000) := hidden (by
                  have h1 := HST0.out.2
                  have := Nat.mul_le_mul_right (1048576 + 19002399) HTK.out
                  have := Nat.mul_le_mul_right (1048576 + 19002399) hb0
                  omega)
                have htz := HTZ.out
                obtain ⟨rb1, hO1, hb1, hg1⟩ := hW.out
                have HO1 := hidden hO1
                have Hb1 := hidden hb1
                have Hg1 := hidden hg1
                obtain ⟨y0, y1, y2, y3, y4, y5⟩ := HLAY.out wr (Lat.trans _ _ _ HX3.out hb1)
                obtain ⟨v1, hv1⟩ := hO1
                have cO : wr.cell? ⟨p, 1, none⟩ = some (.bool sz.ok) := hv1.blk.cell 1
                clear hv1 hb1 hg1
                obtain ⟨ok, hok⟩ : ∃ ok, sz.ok = ok := ⟨_, rfl⟩
                rw [hok] at cO
                have HOK := hidden hok
                clear hok
                by_cases hin : i < N0
                · have hin' : (i : Int) < (N0 : Int) := by omega
                  cases ok with
                  | false =>
                    have HWZ := hW
                    have HBZ := hidden (HEX.out (.inr HOK.out))
                    have hokf := HOK.out
                    have HN9 : Hid (docAns 0 1 (fun i => (fm i).fv) = (180, [])) := hidden (by rw [HDOC.out (sz, tz) HBZ.out]; simp [HOK.out])
                    have HLz : Hid (Below w.heap.size w wr) := hidden (HL3.out.trans (Hb1.out.mono HL3.out.size))
                    go_wp2_with fail
                    go_ret2
                    show EnA w (docAns (0 : Int) 1 (fun i => (fm i).fv)) _ _
                    rw [HN9.out]
                    exact ⟨none, 0, 0, rfl, World.ownsRow_nil _ _ _ _, fun n hn => (by cases hn), HLz.out⟩
                  | true =>
                    obtain ⟨x, hx⟩ : ∃ x, l0[i]? = some x := ⟨l0[i]'(by have := HN.out; omega), by simp⟩
                    have hmx := List.mem_of_getElem? hx
                    have hxp : (l0.map prS)[i]? = some (prS x) := by rw [List.getElem?_map, hx]; rfl
                    have hxm : (l0.map Ser.cells)[i]? = some [.slice x.la x.ln x.lc, .slice x.sa x.sn x.sc] := by rw [List.getElem?_map, hx]; rfl
                    have HNX : Hid (eachL oSer ((l0.map prS).take (i + 1)) (s1, 0) = oLess (oSer sz (prS x), tz)) := hidden (by rw [eachL_next oSer (l0.map prS) (s1, 0) i (prS x) hxp, HST.out]; simp only [HOK.out, if_true])
                    have HDX := hidden (HDW.out (prS x) (List.mem_of_getElem? hxp))
                    have HXT : Hid (∀ wx, Below w3.heap.size w3 wx → ∃ b1 o1, a0 = some ⟨b1, o1, none⟩ ∧ wx.cell? ⟨b1, o1 + i * 2, none⟩ = some (.slice x.la x.ln x.lc) ∧ wx.cell? ⟨b1, o1 + i * 2 + 1, none⟩ = some (.slice x.sa x.sn x.sc)) := hidden (fun wx hb => by
                      obtain ⟨b1, o1, ea, _, hcell⟩ := (HM0.out.1.later (HL3.out.trans (hb.mono HL3.out.size))) (by intro h0; rw [h0] at hxm; simp at hxm)
                      have e0 := hcell i _ hxm 0 _ rfl
                      have e1 := hcell i _ hxm 1 _ rfl
                      rw [Nat.add_zero] at e0
                      exact ⟨b1, o1, ea, e0, e1⟩)
                    obtain ⟨b1, o1, hae, r0, r1⟩ := HXT.out wr Hb1.out
                    subst hae
                    have hx0 := HM0.out.2 x hmx
                    have HXN : Hid (x.L.length = x.ln ∧ x.ln ≤ 9223372036854775807) := hidden ⟨hx0.2.1, hx0.2.2.1⟩
                    have HXE : Hid (∀ wx, Below w3.heap.size w3 wx → Es wx x.la 2 (x.L.map La.cells)) := hidden (fun wx hb => hx0.1.later (HL3.out.trans (hb.mono HL3.out.size)))
                    go_wp2_with fail
                    refine (labelsO p rb1 sz x.la x.ln x.lc x.L wr HO1.out HXN.out.1 HXN.out.2 (wk_keep HXE.out Hb1.out Hg1.out hBp (Nat.le_refl _)) (by have := HLZ.out; omega)).mono ?_
                    rintro en w5 ⟨rfl, hR5⟩
                    have HW5 := hidden (WK.next hR5 Hb1.out Hg1.out hBp (Nat.le_refl _))
                    obtain ⟨rb5, hO5, hb5, hg5⟩ := HW5.out
                    have HO5 := hidden hO5
                    have Hb5 := hidden hb5
                    have Hg5 := hidden hg5
                    have HL5 : Hid ((sz.labels x.L).b.length ≤ 1060000) := hidden (by have h1 := (dwt_labels x.L).len sz; have := HLZ.out; omega)
                    clear hR5 hO5 hb5 hg5 y0 y1 y2 y3 y4 y5 r0 r1
                    obtain ⟨y0, y1, y2, y3, y4, y5⟩ := HLAY.out w5 (Lat.trans _ _ _ HX3.out Hb5.out)
                    obtain ⟨bz, oz, hbe, r0, r1⟩ := HXT.out w5 Hb5.out
                    simp only [Option.some.injEq, Addr.mk.injEq, and_true] at hbe
                    obtain ⟨rfl, rfl⟩ := hbe
                    have HXS : Hid (Ss w5 x.sa x.S) := hidden (hx0.2.2.2.1.later (HL3.out.trans (Hb5.out.mono HL3.out.size)))
                    have HXL : Hid (x.S.length = x.sn) := hidden hx0.2.2.2.2.1
                    have hsn9 : x.sn ≤ 1000000 := by have h1 := HS0.out x hmx; have h2 := hx0.2.2.2.2.1; omega
                    go_wp2_with fail
                    refine (samplesO p rb5 (sz.labels x.L) x.sa x.sn x.sc x.S w5 HO5.out HXL.out (fun _ => hsn9) HXS.out (by have := HL5.out; omega)).mono ?_
                    rintro en w6 ⟨rfl, hR6⟩
                    have HW6' := hidden (WK.next hR6 Hb5.out Hg5.out hBp (Nat.le_refl _))
                    obtain ⟨rb6', hO6', hb6', hg6'⟩ := HW6'.out
                    have HO6' := hidden hO6'
                    have Hb6' := hidden hb6'
                    have Hg6' := hidden hg6'
                    clear hR6 hO6' hb6' hg6' y0 y1 y2 y3 y4 y5 r0 r1
                    go_wp2_with fail
                    refine (lessO p rb6' ((sz.labels x.L).samples x.S) tz w6 HO6'.out (by omega) (by have h1 := HDX.out.len sz; have := HLZ.out; change ((sz.labels x.L).samples x.S).b.length ≤ _ at h1; omega)).mono ?_
                    rintro en w9 ⟨rfl, hR9⟩
                    have Hb9 := Hb6'
                    have Hg9 := Hg6'
                    try clear y0 y1 y2 y3 y4 y5 r0 r1
                    have HW9 := hidden (WK.next hR9 Hb9.out Hg9.out hBp (Nat.le_refl _))
                    clear hR9
                    go_wp2_with fail
                    refine ⟨⟨i + 1, by first | rfl | simp, by first | (rw [HNX.out]; done) | (rw [HNX.out]; rfl), by omega, hidden (by rw [HNX.out]; exact HW9.out)⟩, ?_⟩
                    show N0 - ((i : Int) + 1).toNat < N0 - (i : Int).toNat
                    omega
                · obtain rfl : i = N0 := by omega
                  have HWZ := hW
                  have HBZ := hidden (HEX.out (.inl rfl))
                  clear cO
                  obtain ⟨rbz, hOz, hbz, hgz⟩ := HWZ.out
                  have Hgz := hidden hgz
                  have HLz : Hid (Below w.heap.size w wr) := hidden (HL3.out.trans (hbz.mono HL3.out.size))
                  obtain ⟨vz, hvz⟩ := hOz
                  obtain ⟨az, cz, rfl⟩ := owns_form hvz.row
                  obtain ⟨nz, hnz⟩ : ∃ nz, sz.b.length = nz := ⟨_, rfl⟩
                  rw [hnz] at hvz
                  have HVz := hidden hvz
                  have HNZ := hidden hnz
                  have HDZ := hidden (HDOC.out (sz, tz) HBZ.out)
                  simp only at HDZ
                  rw [hnz] at HDZ
                  have g0 : wr.cell? ⟨p, 0, none⟩ = some (.slice az nz cz) := hvz.blk.cell 0
                  have g1 : wr.cell? ⟨p, 1, none⟩ = some (.bool sz.ok) := hvz.blk.cell 1
                  have hnz9 : nz ≤ 1000000000000 := by have := HLZ.out; omega
                  have htz9 : tz ≤ 1000000000000 := HTZ.out
                  obtain ⟨okz, hokz⟩ : ∃ ok, sz.ok = ok := ⟨_, rfl⟩
                  rw [hokz] at g1 HDZ
                  clear hvz hnz hokz hbz hgz
                  cases okz with
                  | false =>
                    have HN : Hid (docAns 0 1 (fun i => (fm i).fv) = (180, [])) := hidden (by rw [HDZ.out]; simp)
                    go_wp2_with fail
                    go_ret2
                    show EnA w (docAns (0 : Int) 1 (fun i => (fm i).fv)) _ _
                    rw [HN.out]
                    exact ⟨none, 0, 0, rfl, World.ownsRow_nil _ _ _ _, fun n hn => (by cases hn), HLz.out⟩
                  | true =>
                    by_cases hbig : 1048576 < tz + nz
                    · have hbig' : (tz : Int) + (nz : Int) > 1048576 := by omega
                      have HN : Hid (docAns 0 1 (fun i => (fm i).fv) = (181, [])) := hidden (by rw [HDZ.out]; simp [hbig])
                      go_wp2_with fail
                      go_ret2
                      show EnA w (docAns (0 : Int) 1 (fun i => (fm i).fv)) _ _
                      rw [HN.out]
                      exact ⟨none, 0, 0, rfl, World.ownsRow_nil _ _ _ _, fun n hn => (by cases hn), HLz.out⟩
                    · have hbig' : ¬ (tz : Int) + (nz : Int) > 1048576 := by omega
                      have HN : Hid (docAns 0 1 (fun i => (fm i).fv) = (0, sz.b)) := hidden (by rw [HDZ.out]; simp [hbig])
                      go_wp2_with fail
                      go_ret2
                      show EnA w (docAns (0 : Int) 1 (fun i => (fm i).fv)) _ _
                      rw [HN.out]
                      have hrow := HVz.out.row
                      simp only [HNZ.out] at hrow
                      exact ⟨az, nz, cz, rfl, owns_base hrow (fun g hg => by
                        have h1 := Hgz.out g (by rw [← HVz.out.own]; exact hg)
                        have := HL3.out.size
                        omega), HVz.out.byte, HLz.out⟩
            · obtain ⟨rb6, hO6, hb6, hg6⟩ := HW6.out
              have HO6 := hidden hO6
              have Hb6 := hidden hb6
              have Hg6 := hidden hg6
              obtain ⟨y0, y1, y2, y3, y4, y5⟩ := HLAY.out wd (Lat.trans _ _ _ HX3.out hb6)
              clear hO6 hb6 hg6
              go_wp2_with fail
              refine (countO p rb6 s0 (N1 : Int) 2147483647 wd HO6.out ⟨by omega, by omega⟩ ⟨by omega, by omega⟩ (by omega)).mono ?_
              rintro en w8 ⟨rfl, hR8⟩
              obtain ⟨s1, hs1⟩ : ∃ s1, s0.count (N1 : Int) 2147483647 = s1 := ⟨_, rfl⟩
              rw [hs1] at hR8
              have HW8 := hidden (WK.next hR8 Hb6.out Hg6.out hBp (Nat.le_refl _))
              have hl1 : s1.b.length ≤ 30 := by rw [← hs1]; have := (dwt_count (N1 : Int) 2147483647 (by omega)).len s0; omega
              have HLLN : Hid ((l1.map prR).length = N1) := hidden (by rw [List.length_map]; exact HN.out.2.1)
              have HBODY : Hid (bodyB 2 (fun i => (fm i).fv) s0 = eachL oRow (l1.map prR) (s1, 0)) := hidden (by
                show fieldB (fm 1).fv s0 = _
                rw [HF.out.2.1]
                show eachL oRow (l1.map prR) (s0.count ((l1.map prR).length : Int) 2147483647, 0) = _
                rw [HLLN.out, hs1])
              have HDW : Hid (∀ x ∈ l1.map prR, Dwt (fun s => oRow s x) (okR x) (enR x) 2388) := hidden (fun x hx => by obtain ⟨z, hz, rfl⟩ := List.mem_map.1 hx; exact dwt_row (prR z) (HM1.out.2 z hz).2.2.2)
              clear hR8 hs1 y0 y1 y2 y3 y4 y5
              obtain ⟨y0, y1, y2, y3, y4, y5⟩ := HLAY.out w8 (by obtain ⟨_, _, hb, _⟩ := HW8.out; exact Lat.trans _ _ _ HX3.out hb)
              go_wp2_with fail
              clear y0 y1 y2 y3 y4 y5
              go_loopw [6, 9] (fun v6 vv wx => ∃ i : Nat, vv = .int .i64 (i : Int) ∧ v6 = .int .i64 ((eachL oRow ((l1.map prR).take i) (s1, 0)).2 : Int) ∧ i ≤ N1 ∧ Hid (WK w3.heap.size p w3 wx (eachL oRow ((l1.map prR).take i) (s1, 0)).1)) (fun _ vv _ => N1 - (intOf vv).toNat)
              case atStart => exact ⟨0, rfl, rfl, by omega, HW8⟩
              case round =>
                obtain ⟨i, rfl, rfl, hi, hW⟩ := hrel
                have HST0 := hidden (And.intro (eachL_len oRow ((l1.map prR).take i) (s1, 0) (by simp only; omega)) (eachL_tot (step := oRow) ((l1.map prR).take i) (s1, 0) (fun x hx => HDW.out x (List.mem_of_mem_take hx)) (by simp only; omega)))
                have HEX : Hid ((i = N1 ∨ (eachL oRow ((l1.map prR).take i) (s1, 0)).1.ok = false) → bodyB 2 (fun i => (fm i).fv) s0 = eachL oRow ((l1.map prR).take i) (s1, 0)) := hidden (fun hq => by
                  rw [HBODY.out]
                  rcases hq with hq | hq
                  · rw [hq, ← HLLN.out, List.take_length]
                  · exact eachL_rest _ _ _ i hq)
                have HTK : Hid (((l1.map prR).take i).length ≤ N1) := hidden (by rw [List.length_take]; omega)
                obtain ⟨⟨sz, tz⟩, hst⟩ : ∃ q, eachL oRow ((l1.map prR).take i) (s1, 0) = q := ⟨_, rfl⟩
                rw [hst] at hW HST0 HEX
                rw [hst]
                simp only at hW HST0 HEX ⊢
                have HST := hidden hst
                clear hst
                have HLZ : Hid (sz.b.length ≤ 1048576) := hidden HST0.out.1
                have HTZ : Hid (tz ≤ 1000000000000) := hidden (by
                  have h1 := HST0.out.2
                  have := Nat.mul_le_mul_right (1048576 + 2388) HTK.out
                  have := Nat.mul_le_mul_right (1048576 + 2388) hb1
                  omega)
                have htz := HTZ.out
                obtain ⟨rb1, hO1, hb1, hg1⟩ := hW.out
                have HO1 := hidden hO1
                have Hb1 := hidden hb1
                have Hg1 := hidden hg1
                obtain ⟨y0, y1, y2, y3, y4, y5⟩ := HLAY.out wr (Lat.trans _ _ _ HX3.out hb1)
                obtain ⟨v1, hv1⟩ := hO1
                have cO : wr.cell? ⟨p, 1, none⟩ = some (.bool sz.ok) := hv1.blk.cell 1
                clear hv1 hb1 hg1
                obtain ⟨ok, hok⟩ : ∃ ok, sz.ok = ok := ⟨_, rfl⟩
                rw [hok] at cO
                have HOK := hidden hok
                clear hok
                by_cases hin : i < N1
                · have hin' : (i : Int) < (N1 : Int) := by omega
                  cases ok with
                  | false =>
                    have HWZ := hW
                    have HBZ := hidden (HEX.out (.inr HOK.out))
                    have hokf := HOK.out
                    have HN9 : Hid (docAns 0 2 (fun i => (fm i).fv) = (180, [])) := hidden (by rw [HDOC.out (sz, tz) HBZ.out]; simp [HOK.out])
                    have HLz : Hid (Below w.heap.size w wr) := hidden (HL3.out.trans (Hb1.out.mono HL3.out.size))
                    go_wp2_with fail
                    go_ret2
                    show EnA w (docAns (0 : Int) 2 (fun i => (fm i).fv)) _ _
                    rw [HN9.out]
                    exact ⟨none, 0, 0, rfl, World.ownsRow_nil _ _ _ _, fun n hn => (by cases hn), HLz.out⟩
                  | true =>
                    obtain ⟨x, hx⟩ : ∃ x, l1[i]? = some x := ⟨l1[i]'(by have := HN.out; omega), by simp⟩
                    have hmx := List.mem_of_getElem? hx
                    have hxp : (l1.map prR)[i]? = some (prR x) := by rw [List.getElem?_map, hx]; rfl
                    have hxm : (l1.map Ror.cells)[i]? = some [.slice x.la x.ln x.lc, .int .u64 (x.n : Int)] := by rw [List.getElem?_map, hx]; rfl
                    have HNX : Hid (eachL oRow ((l1.map prR).take (i + 1)) (s1, 0) = oLess (oRow sz (prR x), tz)) := hidden (by rw [eachL_next oRow (l1.map prR) (s1, 0) i (prR x) hxp, HST.out]; simp only [HOK.out, if_true])
                    have HDX := hidden (HDW.out (prR x) (List.mem_of_getElem? hxp))
                    have HXT : Hid (∀ wx, Below w3.heap.size w3 wx → ∃ b1 o1, a1 = some ⟨b1, o1, none⟩ ∧ wx.cell? ⟨b1, o1 + i * 2, none⟩ = some (.slice x.la x.ln x.lc) ∧ wx.cell? ⟨b1, o1 + i * 2 + 1, none⟩ = some (.int .u64 (x.n : Int))) := hidden (fun wx hb => by
                      obtain ⟨b1, o1, ea, _, hcell⟩ := (HM1.out.1.later (HL3.out.trans (hb.mono HL3.out.size))) (by intro h0; rw [h0] at hxm; simp at hxm)
                      have e0 := hcell i _ hxm 0 _ rfl
                      have e1 := hcell i _ hxm 1 _ rfl
                      rw [Nat.add_zero] at e0
                      exact ⟨b1, o1, ea, e0, e1⟩)
                    obtain ⟨b1, o1, hae, r0, r1⟩ := HXT.out wr Hb1.out
                    subst hae
                    have hx0 := HM1.out.2 x hmx
                    have HXN : Hid (x.L.length = x.ln ∧ x.ln ≤ 9223372036854775807) := hidden ⟨hx0.2.1, hx0.2.2.1⟩
                    have HXE : Hid (∀ wx, Below w3.heap.size w3 wx → Es wx x.la 2 (x.L.map La.cells)) := hidden (fun wx hb => hx0.1.later (HL3.out.trans (hb.mono HL3.out.size)))
                    go_wp2_with fail
                    refine (labelsO p rb1 sz x.la x.ln x.lc x.L wr HO1.out HXN.out.1 HXN.out.2 (wk_keep HXE.out Hb1.out Hg1.out hBp (Nat.le_refl _)) (by have := HLZ.out; omega)).mono ?_
                    rintro en w5 ⟨rfl, hR5⟩
                    have HW5 := hidden (WK.next hR5 Hb1.out Hg1.out hBp (Nat.le_refl _))
                    obtain ⟨rb5, hO5, hb5, hg5⟩ := HW5.out
                    have HO5 := hidden hO5
                    have Hb5 := hidden hb5
                    have Hg5 := hidden hg5
                    have HL5 : Hid ((sz.labels x.L).b.length ≤ 1060000) := hidden (by have h1 := (dwt_labels x.L).len sz; have := HLZ.out; omega)
                    clear hR5 hO5 hb5 hg5 y0 y1 y2 y3 y4 y5 r0 r1
                    obtain ⟨y0, y1, y2, y3, y4, y5⟩ := HLAY.out w5 (Lat.trans _ _ _ HX3.out Hb5.out)
                    obtain ⟨bz, oz, hbe, r0, r1⟩ := HXT.out w5 Hb5.out
                    simp only [Option.some.injEq, Addr.mk.injEq, and_true] at hbe
                    obtain ⟨rfl, rfl⟩ := hbe
                    have hxn9 : x.n ≤ 18446744073709551615 := hx0.2.2.2
                    obtain ⟨v5, hv5⟩ := HO5.out
                    obtain ⟨a5, c5, rfl⟩ := owns_form hv5.row
                    obtain ⟨kk, hkk⟩ : ∃ kk, (sz.labels x.L).b.length = kk := ⟨_, rfl⟩
                    rw [hkk] at hv5
                    have HV5 := hidden hv5
                    have HKK := hidden hkk
                    have hgr5 := Q.grp_le x.n
                    have HCV : Hid (∀ wx, Below w5.heap.size w5 wx → OV wx p rb5 (sz.labels x.L) (.slice a5 kk c5)) := hidden (fun wx hb => HV5.out.chg (Chg.of_below (F := fun _ => False) hb) (fun _ _ e => e))
                    have t0 : w5.cell? ⟨p, 0, none⟩ = some (.slice a5 kk c5) := hv5.blk.cell 0
                    have t0d : w5.drew.cell? ⟨p, 0, none⟩ = some (.slice a5 kk c5) := t0
                    have r1d : w5.drew.cell? ⟨b1, o1 + i * 2 + 1, none⟩ = some (.int .u64 (x.n : Int)) := r1
                    have y3d : w5.drew.cell? ⟨w.heap.size, 3, none⟩ = some (.slice (some ⟨b1, o1, none⟩) N1 c1) := y3
                    have HP2 : Hid (∀ wx, Below w5.heap.size w5 wx → Calls Tryz.prog 42 #[.slice a5 kk c5, .int .u64 (x.n : Int)] wx (fun e w' => ∃ v, e = .returned v ∧ (∃ ad3 c3, v = .slice ad3 (kk + Q.grp x.n + 1) c3) ∧ w'.ownsRow wx.heap.size 5 1 v (kk + Q.grp x.n + 1) (cells8 ((sz.labels x.L).b ++ Q.enc x.n)) ∧ Below wx.heap.size wx w')) := hidden (fun wx hb => by
                      have hv := HCV.out wx hb
                      have hrow := hv.row
                      simp only [HKK.out] at hrow
                      refine (Q.refPutUint_any a5 kk c5 x.n (sz.labels x.L).b wx (sl_of_owns hrow hv.byte) (owns_cap hrow).2.2.2 (by have := HKK.out; have := HL5.out; omega) hxn9).mono ?_
                      rintro en w' ⟨ad3, c3, h1, h2, h3⟩
                      exact ⟨_, h1, ⟨_, _, rfl⟩, h2, h3⟩)
                    clear hv5 hkk hx0
                    go_upto_region 26 with fail
                    go_cut [] from 146 to 183 (fun wx => Hid (WK w3.heap.size p w3 wx (oRow sz (prR x))))
                    case first =>
                      go_region_law (first
                        | (refine step_go (by rfl) 42 #[.slice a5 kk c5, .int .u64 (x.n : Int)] (by simp [execOp, resolve, Act.eval, go_sem]) _ (HP2.out _ (by first | exact Below.refl _ _ | exact (Below.refl _ _).drew)) ?_
                           rintro v2 w7 ⟨⟨ad3, c3, rfl⟩, o2, b2⟩
                           have O2 := hidden o2
                           have B3 : Hid (Below w5.heap.size w5 w7) := hidden (((Below.refl _ _).drew).trans b2)
                           have d1 : w7.cell? ⟨p, 0, none⟩ = some (.slice a5 kk c5) := (HCV.out _ B3.out).blk.cell 0
                           have f1 := (HCV.out _ B3.out).blk.frozen 0
                           clear o2 b2))
                      all_goals
                        go_wp2_with fail
                        go_meet
                        exact hidden (WK.next (HV5.out.fresh B3.out O2.out (HV5.out.byte.append (Q.enc_byte _ (by omega))) (by omega)).1 Hb5.out Hg5.out hBp (Nat.le_refl _))
                    case rest =>
                      have HW6' := hcut
                      obtain ⟨w6, hw6⟩ : ∃ w6, wc = w6 := ⟨_, rfl⟩
                      rw [hw6] at HW6'
                      rw [hw6]
                      obtain ⟨rb6', hO6', hb6', hg6'⟩ := HW6'.out
                      have HO6' := hidden hO6'
                      have Hb6' := hidden hb6'
                      have Hg6' := hidden hg6'
                      clear hcut hw6 hO6' hb6' hg6' y0 y1 y2 y3 y4 y5 r0 r1 t0 t0d r1d y3d
                      go_wp2_with fail
                      refine (lessO p rb6' (oRow sz (prR x)) tz w6 HO6'.out (by omega) (by have h1 := HDX.out.len sz; have := HLZ.out; change (oRow sz (prR x)).b.length ≤ _ at h1; omega)).mono ?_
                      rintro en w9 ⟨rfl, hR9⟩
                      have Hb9 := Hb6'
                      have Hg9 := Hg6'
                      try clear y0 y1 y2 y3 y4 y5 r0 r1
                      have HW9 := hidden (WK.next hR9 Hb9.out Hg9.out hBp (Nat.le_refl _))
                      clear hR9
                      go_wp2_with fail
                      refine ⟨⟨i + 1, by first | rfl | simp, by first | (rw [HNX.out]; done) | (rw [HNX.out]; rfl), by omega, hidden (by rw [HNX.out]; exact HW9.out)⟩, ?_⟩
                      show N1 - ((i : Int) + 1).toNat < N1 - (i : Int).toNat
                      omega
                · obtain rfl : i = N1 := by omega
                  have HWZ := hW
                  have HBZ := hidden (HEX.out (.inl rfl))
                  clear cO
                  obtain ⟨rbz, hOz, hbz, hgz⟩ := HWZ.out
                  have Hgz := hidden hgz
                  have HLz : Hid (Below w.heap.size w wr) := hidden (HL3.out.trans (hbz.mono HL3.out.size))
                  obtain ⟨vz, hvz⟩ := hOz
                  obtain ⟨az, cz, rfl⟩ := owns_form hvz.row
                  obtain ⟨nz, hnz⟩ : ∃ nz, sz.b.length = nz := ⟨_, rfl⟩
                  rw [hnz] at hvz
                  have HVz := hidden hvz
                  have HNZ := hidden hnz
                  have HDZ := hidden (HDOC.out (sz, tz) HBZ.out)
                  simp only at HDZ
                  rw [hnz] at HDZ
                  have g0 : wr.cell? ⟨p, 0, none⟩ = some (.slice az nz cz) := hvz.blk.cell 0
                  have g1 : wr.cell? ⟨p, 1, none⟩ = some (.bool sz.ok) := hvz.blk.cell 1
                  have hnz9 : nz ≤ 1000000000000 := by have := HLZ.out; omega
                  have htz9 : tz ≤ 1000000000000 := HTZ.out
                  obtain ⟨okz, hokz⟩ : ∃ ok, sz.ok = ok := ⟨_, rfl⟩
                  rw [hokz] at g1 HDZ
                  clear hvz hnz hokz hbz hgz
                  cases okz with
                  | false =>
                    have HN : Hid (docAns 0 2 (fun i => (fm i).fv) = (180, [])) := hidden (by rw [HDZ.out]; simp)
                    go_wp2_with fail
                    go_ret2
                    show EnA w (docAns (0 : Int) 2 (fun i => (fm i).fv)) _ _
                    rw [HN.out]
                    exact ⟨none, 0, 0, rfl, World.ownsRow_nil _ _ _ _, fun n hn => (by cases hn), HLz.out⟩
                  | true =>
                    by_cases hbig : 1048576 < tz + nz
                    · have hbig' : (tz : Int) + (nz : Int) > 1048576 := by omega
                      have HN : Hid (docAns 0 2 (fun i => (fm i).fv) = (181, [])) := hidden (by rw [HDZ.out]; simp [hbig])
                      go_wp2_with fail
                      go_ret2
                      show EnA w (docAns (0 : Int) 2 (fun i => (fm i).fv)) _ _
                      rw [HN.out]
                      exact ⟨none, 0, 0, rfl, World.ownsRow_nil _ _ _ _, fun n hn => (by cases hn), HLz.out⟩
                    · have hbig' : ¬ (tz : Int) + (nz : Int) > 1048576 := by omega
                      have HN : Hid (docAns 0 2 (fun i => (fm i).fv) = (0, sz.b)) := hidden (by rw [HDZ.out]; simp [hbig])
                      go_wp2_with fail
                      go_ret2
                      show EnA w (docAns (0 : Int) 2 (fun i => (fm i).fv)) _ _
                      rw [HN.out]
                      have hrow := HVz.out.row
                      simp only [HNZ.out] at hrow
                      exact ⟨az, nz, cz, rfl, owns_base hrow (fun g hg => by
                        have h1 := Hgz.out g (by rw [← HVz.out.own]; exact hg)
                        have := HL3.out.size
                        omega), HVz.out.byte, HLz.out⟩
            · obtain ⟨rb6, hO6, hb6, hg6⟩ := HW6.out
              have HO6 := hidden hO6
              have Hb6 := hidden hb6
              have Hg6 := hidden hg6
              obtain ⟨y0, y1, y2, y3, y4, y5⟩ := HLAY.out wd (Lat.trans _ _ _ HX3.out hb6)
              clear hO6 hb6 hg6
              go_wp2_with fail
              refine (countO p rb6 s0 m2 9223372036854775807 wd HO6.out ⟨hm2.1, by have := hm2.2; omega⟩ ⟨by omega, by omega⟩ (by omega)).mono ?_
              rintro en w8 ⟨rfl, hR8⟩
              obtain ⟨s1, hs1⟩ : ∃ s1, s0.count m2 9223372036854775807 = s1 := ⟨_, rfl⟩
              rw [hs1] at hR8
              have HWZ := hidden (WK.next hR8 Hb6.out Hg6.out hBp (Nat.le_refl _))
              have HLZ : Hid (s1.b.length ≤ 1000000000000) := hidden (by rw [← hs1]; have := (dwt_count m2 9223372036854775807 (by omega)).len s0; omega)
              have HBZ : Hid (bodyB 3 (fun i => (fm i).fv) s0 = (s1, 0)) := hidden (by
                show fieldB (fm 2).fv s0 = _
                rw [HF.out.2.2.1, ← hs1]
                rfl)
              clear hR8 hs1 y0 y1 y2 y3 y4 y5
              obtain ⟨y0, y1, y2, y3, y4, y5⟩ := HLAY.out w8 (by obtain ⟨_, _, hb, _⟩ := HWZ.out; exact Lat.trans _ _ _ HX3.out hb)
              obtain ⟨rbz, hOz, hbz, hgz⟩ := HWZ.out
              have Hgz := hidden hgz
              have HLz : Hid (Below w.heap.size w w8) := hidden (HL3.out.trans (hbz.mono HL3.out.size))
              obtain ⟨vz, hvz⟩ := hOz
              obtain ⟨az, cz, rfl⟩ := owns_form hvz.row
              obtain ⟨nz, hnz⟩ : ∃ nz, s1.b.length = nz := ⟨_, rfl⟩
              rw [hnz] at hvz
              have HVz := hidden hvz
              have HNZ := hidden hnz
              have HDZ := hidden (HDOC.out (s1, 0) HBZ.out)
              simp only at HDZ
              rw [hnz] at HDZ
              have g0 : w8.cell? ⟨p, 0, none⟩ = some (.slice az nz cz) := hvz.blk.cell 0
              have g1 : w8.cell? ⟨p, 1, none⟩ = some (.bool s1.ok) := hvz.blk.cell 1
              have hnz9 : nz ≤ 1000000000000 := by have := HLZ.out; omega
              obtain ⟨okz, hokz⟩ : ∃ ok, s1.ok = ok := ⟨_, rfl⟩
              rw [hokz] at g1 HDZ
              clear hvz hnz hokz hbz hgz
              cases okz with
              | false =>
                have HN : Hid (docAns 0 3 (fun i => (fm i).fv) = (180, [])) := hidden (by rw [HDZ.out]; simp)
                go_wp2_with fail
                go_ret2
                show EnA w (docAns (0 : Int) 3 (fun i => (fm i).fv)) _ _
                rw [HN.out]
                exact ⟨none, 0, 0, rfl, World.ownsRow_nil _ _ _ _, fun n hn => (by cases hn), HLz.out⟩
              | true =>
                by_cases hbig : 1048576 < nz
                · have hbig' : (nz : Int) > 1048576 := by omega
                  have HN : Hid (docAns 0 3 (fun i => (fm i).fv) = (181, [])) := hidden (by rw [HDZ.out]; simp [hbig])
                  go_wp2_with fail
                  go_ret2
                  show EnA w (docAns (0 : Int) 3 (fun i => (fm i).fv)) _ _
                  rw [HN.out]
                  exact ⟨none, 0, 0, rfl, World.ownsRow_nil _ _ _ _, fun n hn => (by cases hn), HLz.out⟩
                · have hbig' : ¬ (nz : Int) > 1048576 := by omega
                  have HN : Hid (docAns 0 3 (fun i => (fm i).fv) = (0, s1.b)) := hidden (by rw [HDZ.out]; simp [hbig])
                  go_wp2_with fail
                  go_ret2
                  show EnA w (docAns (0 : Int) 3 (fun i => (fm i).fv)) _ _
                  rw [HN.out]
                  have hrow := HVz.out.row
                  simp only [HNZ.out] at hrow
                  exact ⟨az, nz, cz, rfl, owns_base hrow (fun g hg => by
                    have h1 := Hgz.out g (by rw [← HVz.out.own]; exact hg)
                    have := HL3.out.size
                    omega), HVz.out.byte, HLz.out⟩
            · obtain ⟨rb6, hO6, hb6, hg6⟩ := HW6.out
              have HO6 := hidden hO6
              have Hb6 := hidden hb6
              have Hg6 := hidden hg6
              obtain ⟨y0, y1, y2, y3, y4, y5⟩ := HLAY.out wd (Lat.trans _ _ _ HX3.out hb6)
              clear hO6 hb6 hg6
              go_wp2_with fail
              refine (countO p rb6 s0 (N3 : Int) 2147483647 wd HO6.out ⟨by omega, by omega⟩ ⟨by omega, by omega⟩ (by omega)).mono ?_
              rintro en w8 ⟨rfl, hR8⟩
              obtain ⟨s1, hs1⟩ : ∃ s1, s0.count (N3 : Int) 2147483647 = s1 := ⟨_, rfl⟩
              rw [hs1] at hR8
              have HW8 := hidden (WK.next hR8 Hb6.out Hg6.out hBp (Nat.le_refl _))
              have hl1 : s1.b.length ≤ 30 := by rw [← hs1]; have := (dwt_count (N3 : Int) 2147483647 (by omega)).len s0; omega
              have HLLN : Hid ((l3).length = N3) := hidden (by exact HN.out.2.2)
              have HBODY : Hid (bodyB 4 (fun i => (fm i).fv) s0 = eachL (fun s d => s.text d 64) (l3) (s1, 0)) := hidden (by
                show fieldB (fm 3).fv s0 = _
                rw [HF.out.2.2.2]
                show eachL (fun s d => s.text d 64) (l3) (s0.count ((l3).length : Int) 2147483647, 0) = _
                rw [HLLN.out, hs1])
              have HDW : Hid (∀ x ∈ l3, Dwt (fun s => (fun s d => s.text d 64) s x) ((fun d : ByteArray => d.size ≤ 64) x) (encT x) 74) := hidden (fun x hx => by exact dwt_text x 64 (by omega))
              clear hR8 hs1 y0 y1 y2 y3 y4 y5
              obtain ⟨y0, y1, y2, y3, y4, y5⟩ := HLAY.out w8 (by obtain ⟨_, _, hb, _⟩ := HW8.out; exact Lat.trans _ _ _ HX3.out hb)
              go_wp2_with fail
              clear y0 y1 y2 y3 y4 y5
              go_loopw [6, 10] (fun v6 vv wx => ∃ i : Nat, vv = .int .i64 (i : Int) ∧ v6 = .int .i64 ((eachL (fun s d => s.text d 64) ((l3).take i) (s1, 0)).2 : Int) ∧ i ≤ N3 ∧ Hid (WK w3.heap.size p w3 wx (eachL (fun s d => s.text d 64) ((l3).take i) (s1, 0)).1)) (fun _ vv _ => N3 - (intOf vv).toNat)
              case atStart => exact ⟨0, rfl, rfl, by omega, HW8⟩
              case round =>
                obtain ⟨i, rfl, rfl, hi, hW⟩ := hrel
                have HST0 := hidden (And.intro (eachL_len (fun s d => s.text d 64) ((l3).take i) (s1, 0) (by simp only; omega)) (eachL_tot (step := (fun s d => s.text d 64)) ((l3).take i) (s1, 0) (fun x hx => HDW.out x (List.mem_of_mem_take hx)) (by simp only; omega)))
                have HEX : Hid ((i = N3 ∨ (eachL (fun s d => s.text d 64) ((l3).take i) (s1, 0)).1.ok = false) → bodyB 4 (fun i => (fm i).fv) s0 = eachL (fun s d => s.text d 64) ((l3).take i) (s1, 0)) := hidden (fun hq => by
                  rw [HBODY.out]
                  rcases hq with hq | hq
                  · rw [hq, ← HLLN.out, List.take_length]
                  · exact eachL_rest _ _ _ i hq)
                have HTK : Hid (((l3).take i).length ≤ N3) := hidden (by rw [List.length_take]; omega)
                obtain ⟨⟨sz, tz⟩, hst⟩ : ∃ q, eachL (fun s d => s.text d 64) ((l3).take i) (s1, 0) = q := ⟨_, rfl⟩
                rw [hst] at hW HST0 HEX
                rw [hst]
                simp only at hW HST0 HEX ⊢
                have HST := hidden hst
                clear hst
                have HLZ : Hid (sz.b.length ≤ 1048576) := hidden HST0.out.1
                have HTZ : Hid (tz ≤ 1000000000000) := hidden (by
                  have h1 := HST0.out.2
                  have := Nat.mul_le_mul_right (1048576 + 74) HTK.out
                  have := Nat.mul_le_mul_right (1048576 + 74) hb3
                  omega)
                have htz := HTZ.out
                obtain ⟨rb1, hO1, hb1, hg1⟩ := hW.out
                have HO1 := hidden hO1
                have Hb1 := hidden hb1
                have Hg1 := hidden hg1
                obtain ⟨y0, y1, y2, y3, y4, y5⟩ := HLAY.out wr (Lat.trans _ _ _ HX3.out hb1)
                obtain ⟨v1, hv1⟩ := hO1
                have cO : wr.cell? ⟨p, 1, none⟩ = some (.bool sz.ok) := hv1.blk.cell 1
                clear hv1 hb1 hg1
                obtain ⟨ok, hok⟩ : ∃ ok, sz.ok = ok := ⟨_, rfl⟩
                rw [hok] at cO
                have HOK := hidden hok
                clear hok
                by_cases hin : i < N3
                · have hin' : (i : Int) < (N3 : Int) := by omega
                  cases ok with
                  | false =>
                    have HWZ := hW
                    have HBZ := hidden (HEX.out (.inr HOK.out))
                    have hokf := HOK.out
                    have HN9 : Hid (docAns 0 4 (fun i => (fm i).fv) = (180, [])) := hidden (by rw [HDOC.out (sz, tz) HBZ.out]; simp [HOK.out])
                    have HLz : Hid (Below w.heap.size w wr) := hidden (HL3.out.trans (Hb1.out.mono HL3.out.size))
                    go_wp2_with fail
                    go_ret2
                    show EnA w (docAns (0 : Int) 4 (fun i => (fm i).fv)) _ _
                    rw [HN9.out]
                    exact ⟨none, 0, 0, rfl, World.ownsRow_nil _ _ _ _, fun n hn => (by cases hn), HLz.out⟩
                  | true =>
                    obtain ⟨x, hx⟩ : ∃ x, l3[i]? = some x := ⟨l3[i]'(by have := HN.out; omega), by simp⟩
                    have hmx := List.mem_of_getElem? hx
                    have hxp : (l3)[i]? = some (x) := by exact hx
                    have hxm : (l3.map (fun d => [Value.string d]))[i]? = some [.string x] := by rw [List.getElem?_map, hx]; rfl
                    have HNX : Hid (eachL (fun s d => s.text d 64) ((l3).take (i + 1)) (s1, 0) = oLess ((fun s d => s.text d 64) sz (x), tz)) := hidden (by rw [eachL_next (fun s d => s.text d 64) (l3) (s1, 0) i (x) hxp, HST.out]; simp only [HOK.out, if_true])
                    have HDX := hidden (HDW.out (x) (List.mem_of_getElem? hxp))
                    have HXT : Hid (∀ wx, Below w3.heap.size w3 wx → ∃ b1 o1, a3 = some ⟨b1, o1, none⟩ ∧ wx.cell? ⟨b1, o1 + i, none⟩ = some (.string x) ∧ True) := hidden (fun wx hb => by
                      obtain ⟨b1, o1, ea, _, hcell⟩ := (HM3.out.later (HL3.out.trans (hb.mono HL3.out.size))) (by intro h0; rw [h0] at hxm; simp at hxm)
                      have e0 := hcell i _ hxm 0 _ rfl
                      rw [Nat.add_zero, Nat.mul_one] at e0
                      exact ⟨b1, o1, ea, e0, trivial⟩)
                    obtain ⟨b1, o1, hae, r0, r1⟩ := HXT.out wr Hb1.out
                    subst hae
                    go_wp2_with fail
                    refine (textO p rb1 sz x 64 wr HO1.out (by omega) (by have := HLZ.out; omega)).mono ?_
                    rintro en w6 ⟨rfl, hR6⟩
                    have HW6' := hidden (WK.next hR6 Hb1.out Hg1.out hBp (Nat.le_refl _))
                    obtain ⟨rb6', hO6', hb6', hg6'⟩ := HW6'.out
                    have HO6' := hidden hO6'
                    have Hb6' := hidden hb6'
                    have Hg6' := hidden hg6'
                    clear hR6 hO6' hb6' hg6' y0 y1 y2 y3 y4 y5 r0 r1
                    go_wp2_with fail
                    refine (lessO p rb6' (sz.text x 64) tz w6 HO6'.out (by omega) (by have h1 := HDX.out.len sz; have := HLZ.out; change (sz.text x 64).b.length ≤ _ at h1; omega)).mono ?_
                    rintro en w9 ⟨rfl, hR9⟩
                    have Hb9 := Hb6'
                    have Hg9 := Hg6'
                    try clear y0 y1 y2 y3 y4 y5 r0 r1
                    have HW9 := hidden (WK.next hR9 Hb9.out Hg9.out hBp (Nat.le_refl _))
                    clear hR9
                    go_wp2_with fail
                    refine ⟨⟨i + 1, by first | rfl | simp, by first | (rw [HNX.out]; done) | (rw [HNX.out]; rfl), by omega, hidden (by rw [HNX.out]; exact HW9.out)⟩, ?_⟩
                    show N3 - ((i : Int) + 1).toNat < N3 - (i : Int).toNat
                    omega
                · obtain rfl : i = N3 := by omega
                  have HWZ := hW
                  have HBZ := hidden (HEX.out (.inl rfl))
                  clear cO
                  obtain ⟨rbz, hOz, hbz, hgz⟩ := HWZ.out
                  have Hgz := hidden hgz
                  have HLz : Hid (Below w.heap.size w wr) := hidden (HL3.out.trans (hbz.mono HL3.out.size))
                  obtain ⟨vz, hvz⟩ := hOz
                  obtain ⟨az, cz, rfl⟩ := owns_form hvz.row
                  obtain ⟨nz, hnz⟩ : ∃ nz, sz.b.length = nz := ⟨_, rfl⟩
                  rw [hnz] at hvz
                  have HVz := hidden hvz
                  have HNZ := hidden hnz
                  have HDZ := hidden (HDOC.out (sz, tz) HBZ.out)
                  simp only at HDZ
                  rw [hnz] at HDZ
                  have g0 : wr.cell? ⟨p, 0, none⟩ = some (.slice az nz cz) := hvz.blk.cell 0
                  have g1 : wr.cell? ⟨p, 1, none⟩ = some (.bool sz.ok) := hvz.blk.cell 1
                  have hnz9 : nz ≤ 1000000000000 := by have := HLZ.out; omega
                  have htz9 : tz ≤ 1000000000000 := HTZ.out
                  obtain ⟨okz, hokz⟩ : ∃ ok, sz.ok = ok := ⟨_, rfl⟩
                  rw [hokz] at g1 HDZ
                  clear hvz hnz hokz hbz hgz
                  cases okz with
                  | false =>
                    have HN : Hid (docAns 0 4 (fun i => (fm i).fv) = (180, [])) := hidden (by rw [HDZ.out]; simp)
                    go_wp2_with fail
                    go_ret2
                    show EnA w (docAns (0 : Int) 4 (fun i => (fm i).fv)) _ _
                    rw [HN.out]
                    exact ⟨none, 0, 0, rfl, World.ownsRow_nil _ _ _ _, fun n hn => (by cases hn), HLz.out⟩
                  | true =>
                    by_cases hbig : 1048576 < tz + nz
                    · have hbig' : (tz : Int) + (nz : Int) > 1048576 := by omega
                      have HN : Hid (docAns 0 4 (fun i => (fm i).fv) = (181, [])) := hidden (by rw [HDZ.out]; simp [hbig])
                      go_wp2_with fail
                      go_ret2
                      show EnA w (docAns (0 : Int) 4 (fun i => (fm i).fv)) _ _
                      rw [HN.out]
                      exact ⟨none, 0, 0, rfl, World.ownsRow_nil _ _ _ _, fun n hn => (by cases hn), HLz.out⟩
                    · have hbig' : ¬ (tz : Int) + (nz : Int) > 1048576 := by omega
                      have HN : Hid (docAns 0 4 (fun i => (fm i).fv) = (0, sz.b)) := hidden (by rw [HDZ.out]; simp [hbig])
                      go_wp2_with fail
                      go_ret2
                      show EnA w (docAns (0 : Int) 4 (fun i => (fm i).fv)) _ _
                      rw [HN.out]
                      have hrow := HVz.out.row
                      simp only [HNZ.out] at hrow
                      exact ⟨az, nz, cz, rfl, owns_base hrow (fun g hg => by
                        have h1 := Hgz.out g (by rw [← HVz.out.own]; exact hg)
                        have := HL3.out.size
                        omega), HVz.out.byte, HLz.out⟩

        · have hEz : ((E : Int) != 0) = true := by simp; omega
          have HN : Hid (docAns (E : Int) k (fun i => (fm i).fv) = (0, Q.enc E)) := hidden (by
            unfold docAns
            rw [if_neg (by rw [HHD.out]; simp), if_pos (by omega)]
            simp)
          go_wp2_with fail
          go_ret2
          rw [HN.out]
          have hrow := HV5.out.row
          simp only [HKK.out] at hrow
          exact ⟨a5, kk, c5, rfl, owns_base hrow (fun g hg => by
            have h1 := Hg5.out g (by rw [← HV5.out.own]; exact hg)
            have := HL3.out.size
            omega), HV5.out.byte, HLc.out⟩

end Go.Proofs.YtalmpmhnkilalaaGreatDoor
