/-
  The statements' own: same, fault.
-/
import Derived.Test.YtpdffdoogobhfaaDoorPaH
import Derived.Test.YtpdffdoogobhfaaDoorLbB
import Derived.Laws.StructEq
namespace Go.Proofs.YtpdffdoogobhfaaDoor
open Go.RowKit
set_option linter.unusedVariables false
set_option linter.unusedSimpArgs false

set_option maxRecDepth 100000 in
theorem neq35 (x y : Lb) (w : World) : (binOp .neq 35 (.agg #[.string x.n, .string x.v]) (.agg #[.string y.n, .string y.v])).run Tryd.prog w = .ok (.bool !(decide (x = y))) w := by
  have h : (Op.equalIn 10000 35 (.agg #[.string x.n, .string x.v]) (.agg #[.string y.n, .string y.v])).run Tryd.prog w = .ok (x.n.toList == y.n.toList && x.v.toList == y.v.toList) w := by
    rw [run_equalIn_struct w 9999 35 _ _ (by kernel_rfl) (by kernel_rfl)]
    simp [Op.eqFields, Program.fieldsOf, go_sem, part]
    by_cases h1 : x.n.toList = y.n.toList <;> by_cases h2 : x.v.toList = y.v.toList <;> simp [h1, h2]
  rw [run_neq_struct, h]
  simp only [Result.andThen]
  congr 3
  rw [Bool.eq_iff_iff]
  simp only [Bool.and_eq_true, beq_iff_eq, decide_eq_true_eq, toList_bts]
  exact ⟨fun h => Lb.ext' h.1 h.2, fun h => by rw [h]; exact ⟨rfl, rfl⟩⟩

set_option maxRecDepth 100000 in
set_option maxHeartbeats 4000000 in
theorem sameP (ad bd : Option Addr) (c d : Nat) (l m : List Lb) (w : World) (hL : Ls w ad l) (hM : Ls w bd m) (hl : l.length ≤ 9223372036854775807) (hm : m.length ≤ 9223372036854775807) :
    Calls Tryd.prog 12 #[.slice ad l.length c, .slice bd m.length d] w fun e w' => e = .returned (.bool (decide (l = m))) ∧ Below w.heap.size w w' := by
  obtain ⟨n, hn⟩ : ∃ n, l.length = n := ⟨_, rfl⟩
  obtain ⟨k, hk⟩ : ∃ k, m.length = k := ⟨_, rfl⟩
  rw [hn] at hl ⊢
  rw [hk] at hm ⊢
  by_cases hnk : n = k
  · subst hnk
    obtain ⟨R, hR⟩ : ∃ R, decide (l = m) = R := ⟨_, rfl⟩
    have HR := hidden hR
    have HL := hidden hL
    have HM := hidden hM
    have HN := hidden hn
    have HK := hidden hk
    rw [hR]
    clear hR hL hM hn hk
    go_enter Tryd.func12, Tryd.ntmps12
    go_wp2
    go_loopw [5] (fun s0 wx => ∃ i : Nat, s0 = .int .i64 (i : Int) ∧ i ≤ n ∧ Hid (decide (l.drop i = m.drop i) = R) ∧ Hid (Below w.heap.size w wx)) (fun s0 _ => n - (intOf s0).toNat)
    case atStart => exact ⟨0, rfl, by omega, hidden (by simpa using HR.out), hidden (Below.refl _ _)⟩
    case round =>
      rename World => wr
      obtain ⟨i, rfl, hi, hrel, hbel⟩ := hrel
      by_cases hlt : i < n
      · have hltz : (i : Int) < (n : Int) := by omega
        obtain ⟨b, off, x, rfl, hb, hx, hx', c0, c1, z0, z1⟩ := (HL.out.later hbel.out).get (i := i) (by rw [HN.out]; exact hlt)
        obtain ⟨b', off', y, rfl, hb', hy, hy', d0, d1, y0, y1⟩ := (HM.out.later hbel.out).get (i := i) (by rw [HK.out]; exact hlt)
        have hdx : l.drop i = x :: l.drop (i + 1) := by rw [← hx']; exact List.drop_eq_getElem_cons _
        have hdy : m.drop i = y :: m.drop (i + 1) := by rw [← hy']; exact List.drop_eq_getElem_cons _
        have hR1 : Hid (decide (x = y ∧ l.drop (i + 1) = m.drop (i + 1)) = R) := hidden (by have := hrel.out; rw [hdx, hdy] at this; rw [← this]; congr 1; simp)
        have hq := fun w => neq35 x y w
        clear hx hx' hy hy' hdx hdy hrel
        by_cases hxy : x = y
        · have hd : decide (x = y) = true := decide_eq_true hxy
          rw [hd] at hq
          have hR2 : Hid (decide (l.drop (i + 1) = m.drop (i + 1)) = R) := hidden (by have := hR1.out; rw [← this]; congr 1; simp [hxy])
          clear hxy hd hR1
          go_wp2
          go_quiet (fail)
          go_wp2
          refine ⟨⟨i + 1, by first | rfl | simp, by omega, hR2, hidden (below_drewN hbel.out _)⟩, ?_⟩
          simp [intOf]
          omega
        · have hd : decide (x = y) = false := decide_eq_false hxy
          rw [hd] at hq
          have hR2 : Hid (R = false) := hidden (by have := hR1.out; rw [← this]; exact decide_eq_false (fun h => hxy h.1))
          clear hxy hd hR1
          go_wp2
          go_quiet (fail)
          go_wp2
          go_ret
          exact ⟨by rw [hR2.out]; rfl, below_drewN hbel.out _⟩
      · have hltz : ¬ (i : Int) < (n : Int) := by omega
        have hR2 : Hid (R = true) := hidden (by have := hrel.out; rw [← this, List.drop_of_length_le (by rw [HN.out]; omega), List.drop_of_length_le (by rw [HK.out]; omega)]; simp)
        go_wp2
        go_ret
        exact ⟨by rw [hR2.out]; rfl, hbel.out⟩
  · have hR : decide (l = m) = false := decide_eq_false (fun e => hnk (by rw [← hn, ← hk, e]))
    rw [hR]
    have z : ((n : Int) == (k : Int)) = false := by simp; omega
    clear hL hM hn hk hR
    go_enter Tryd.func12, Tryd.ntmps12
    go_wp2
    go_ret
    exact ⟨rfl, Below.refl _ _⟩

set_option maxRecDepth 100000 in
theorem assert64 (g : Nat) (w : World) : (Instr.typeAssert (.iface 64 (.pointer (some ⟨g, 0, none⟩))) 39 64 true).run Tryd.prog w = .ok (.tuple #[.pointer (some ⟨g, 0, none⟩), .bool true]) w := by
  rfl
set_option maxRecDepth 100000 in
theorem faultN (w : World) : Calls Tryd.prog 23 #[.nilIface] w fun e w' => e = .returned (.tuple #[.int .i64 0, .int .i64 0, .bool true]) ∧ Below w.heap.size w w' := by
  go_enter Tryd.func23, Tryd.ntmps23
  go_wp2
  go_ret3
  exact ⟨rfl, Below.refl _ _⟩

set_option maxRecDepth 100000 in
theorem faultF (g : Nat) (p : Int) (w : World) (hB : Blk w g 67 [.int .i64 p, .int .i64 70]) : Calls Tryd.prog 23 #[.iface 64 (.pointer (some ⟨g, 0, none⟩))] w fun e w' => e = .returned (.tuple #[.int .i64 p, .int .i64 70, .bool true]) ∧ Below w.heap.size w w' := by
  have c0 : w.cell? ⟨g, 0, none⟩ = some (.int .i64 p) := hB.cell 0
  have c1 : w.cell? ⟨g, 1, none⟩ = some (.int .i64 70) := hB.cell 1
  have ha := fun w => assert64 g w
  clear hB
  go_enter Tryd.func23, Tryd.ntmps23
  go_wp2
  go_quiet (fail)
  go_wp2
  go_ret3
  exact ⟨rfl, below_drewN (Below.refl _ _) _⟩

/-- What a Parse has answered, later. -/
theorem PaR.later {w w' w'' : World} {s : ByteArray} {v err : Value} (h : PaR w s w' v err) (hb : Below w'.heap.size w' w'') : PaR w s w'' v err := by
  rcases h with ⟨p, g, h1, h2, h3, h4, h5, h6⟩ | ⟨l, h1, h2, h3, h4⟩
  · exact Or.inl ⟨p, g, h1, h2, h3, h4, h5, h6.later hb⟩
  · exact Or.inr ⟨l, h1, h2, (Chg.of_below (F := fun _ => False) hb).owns h3 (fun _ _ h => h), h4⟩

end Go.Proofs.YtpdffdoogobhfaaDoor
