/-
  Parse.
-/
import Derived.Test.YtpdffdoogobhfaaDoorPaG
namespace Go.Proofs.YtpdffdoogobhfaaDoor
open Go.RowKit
set_option linter.unusedVariables false
set_option linter.unusedSimpArgs false

/-- What Parse answers: a fault in a block of its own, or a row of its own. -/
def PaR (w : World) (s : ByteArray) (w' : World) (v err : Value) : Prop :=
  (∃ p g, parseL (bts s) = .inl p ∧ p ≤ s.size ∧ v = .slice none 0 0 ∧ err = .iface 64 (.pointer (some ⟨g, 0, none⟩)) ∧ w.heap.size ≤ g ∧ Blk w' g 67 [.int .i64 (p : Int), .int .i64 70]) ∨
  (∃ l, parseL (bts s) = .inr l ∧ err = .nilIface ∧ w'.ownsRow w.heap.size 35 2 v l.length (cL l) ∧ Szs l)

theorem owns_base {w : World} {b b' : Nat} {e sz : Nat} {v : Value} {n : Nat} {xs : List Value} (h : w.ownsRow b e sz v n xs) (hb : ∀ g, v.ownBlock = some g → b' ≤ g) : w.ownsRow b' e sz v n xs := by
  refine ⟨h.1, ?_⟩
  rcases h.2 with h0 | ⟨g, cap, cur, rfl, _, r⟩
  · exact .inl h0
  · exact .inr ⟨g, cap, cur, rfl, hb g rfl, r⟩
set_option maxRecDepth 100000 in
set_option maxHeartbeats 8000000 in
theorem parseP (B0 : Nat) (s : ByteArray) (w : World) (hs : s.size ≤ 140737488355328) (hT : Tb B0 w) :
    Calls Tryd.prog 25 #[.string s] w fun e w' => ∃ v err, e = .returned (.tuple #[v, err]) ∧ PaR w s w' v err ∧ Below w.heap.size w w' := by
  obtain ⟨wr, hwr⟩ : ∃ wr, w.alloc (.cells #[.string s, .int .i64 0] 76) = wr := ⟨_, rfl⟩
  have hal : Below w.heap.size w wr := by rw [← hwr]; exact (Below.refl _ _).alloc (Nat.le_refl _) _
  have hrd : Rd wr w.heap.size s 0 := by rw [← hwr]; exact Blk.new w 76 [.string s, .int .i64 0]
  have hS := setP B0 w.heap.size s wr hrd hs (hT.later hal) hT.size
  have HAL := hidden hal
  have HT := hidden hT
  have hszr : wr.heap.size = w.heap.size + 1 := by rw [← hwr]; simp
  have HSZR := hidden hszr
  rw [← hwr] at hS
  have HWR := hidden hwr
  clear hal hrd hT hwr hszr
  go_enter Tryd.func25, Tryd.ntmps25
  go_wp2_with (go_at_call 48; refine hS.mono ?_)
  intro e w1 hX
  obtain ⟨J, v, a', ok, rfl, hsd, hr1, ho1, hz1, hg1, hc1⟩ := hX
  obtain ⟨va, vc, rfl, hno, hsp, _⟩ := owns_formL ho1
  rw [HWR.out] at ho1 hc1
  have hszr := HSZR.out
  have hb1 : Below w.heap.size w w1 := HAL.out.trans (hc1.below (by omega) (fun i e => by have e' : i = w.heap.size := e; omega))
  have HB1 := hidden hb1
  have HSD := hidden hsd
  have HO1 := hidden ho1
  have HR1 := hidden hr1
  obtain ⟨wa, hwa⟩ : ∃ wa, w1.alloc (.cells #[.slice va J.ls.length vc, .bool J.bad.isSome, .int .i64 ((J.bad.getD 0 : Nat) : Int)] 78) = wa := ⟨_, rfl⟩
  have hal2 : Below w1.heap.size w1 wa := by rw [← hwa]; exact (Below.refl _ _).alloc (Nat.le_refl _) _
  have hF : Blk wa w1.heap.size 78 [.slice va J.ls.length vc, .bool J.bad.isSome, .int .i64 ((J.bad.getD 0 : Nat) : Int)] := by rw [← hwa]; exact Blk.new w1 78 _
  have f0 : wa.cell? ⟨w1.heap.size, 0, none⟩ = some (.slice va J.ls.length vc) := hF.cell 0
  have f1 : wa.cell? ⟨w1.heap.size, 1, none⟩ = some (.bool J.bad.isSome) := hF.cell 1
  have f2 : wa.cell? ⟨w1.heap.size, 2, none⟩ = some (.int .i64 ((J.bad.getD 0 : Nat) : Int)) := hF.cell 2
  have r1 : wa.cell? ⟨w.heap.size, 1, none⟩ = some (.int .i64 (a' : Int)) := (hr1.later hal2).cell 1
  have HBA := hidden (hb1.trans (hal2.mono hb1.size))
  have HAL2 := hidden hal2
  have HLT := hidden hF.lt
  clear hsd hr1 ho1 hc1 hb1 hS hal2 hF
  cases ok with
  | false =>
    have hpl : Hid (parseL (bts s) = .inl a' ∧ a' ≤ s.size) := hidden ⟨by rw [parseL, HSD.out.2.2 rfl]; rfl, by rw [size_bts]; exact HSD.out.1⟩
    go_wp2
    go_region
    go_wp2
    go_ret2
    have hb9 := (HBA.out.alloc HBA.out.size (.cells #[.int .i64 (a' : Int), .int .i64 70] 67)).drew
    exact ⟨_, _, rfl, Or.inl ⟨a', wa.heap.size, hpl.out.1, hpl.out.2, rfl, rfl, HBA.out.size, (Blk.new wa 67 [.int .i64 (a' : Int), .int .i64 70]).drew⟩, hb9⟩
  | true =>
    have hrun := HSD.out.2.1 rfl
    cases hb : J.bad with
    | some p =>
      rw [hb] at f1 f2 hwa
      change w1.alloc (.cells #[.slice va J.ls.length vc, .bool true, .int .i64 (p : Int)] 78) = wa at hwa
      change wa.cell? _ = some (.bool true) at f1
      change wa.cell? _ = some (.int .i64 (p : Int)) at f2
      have hpl : Hid (parseL (bts s) = .inl p) := hidden (by rw [parseL, hrun]; simp [Rs.told, hb])
      have hpz : Hid (p ≤ s.size) := hidden (by have := (parse_fault (bts s) p hpl.out).1; rw [← size_bts] at this; exact this)
      clear hrun hb
      go_wp2
      go_region
      go_wp2
      go_ret2
      have hb9 := (HBA.out.alloc HBA.out.size (.cells #[.int .i64 (p : Int), .int .i64 70] 67)).drew
      exact ⟨_, _, rfl, Or.inl ⟨p, wa.heap.size, hpl.out, hpz.out, rfl, rfl, HBA.out.size, (Blk.new wa 67 [.int .i64 (p : Int), .int .i64 70]).drew⟩, hb9⟩
    | none =>
      rw [hb] at f1 hwa
      change wa.cell? _ = some (.bool false) at f1
      change w1.alloc (.cells #[.slice va J.ls.length vc, .bool false, .int .i64 0] 78) = wa at hwa
      have hpl : Hid (parseL (bts s) = .inr (srt J.ls)) := hidden (by rw [parseL, hrun]; simp [Rs.told, hb])
      have hne : J.ls ≠ [] := by
        rcases (run_gd (bts s) 0 .s0 J trivial hrun).2 with h | h
        · exact h
        · exact absurd hb h
      have hrt := hidden (Gd.right hg1 hne)
      have hoA := (Chg.of_below (F := fun _ => False) HAL2.out).owns HO1.out (fun _ _ h => h)
      have kB := byNameP va vc J.ls wa (ls_of_owns hoA hz1) (fun e => by have := hno e; exact ⟨List.eq_nil_of_length_eq_zero this.1, this.2⟩) (by have := hg1.1; omega)
      clear hrun hb hne hoA
      have HWA := hidden hwa
      rw [← hwa] at kB f0 f1
      clear hwa f2 r1
      go_wp2_with (go_at_call 27; refine kB.mono ?_; intro e w9 hX; obtain ⟨v9, hv9, m, hp, hs9, ho9, hb9⟩ := hX; obtain ⟨a9, c9, hvv, _⟩ := owns_formL ho9; subst hvv; subst hv9)
      rw [HWA.out] at ho9 hb9
      go_ret2
      have hm := srt_any hp hs9
      have hme : m = srt J.ls := hm.2 (by rw [hm.1]; exact hrt.out)
      refine ⟨_, _, rfl, Or.inr ⟨srt J.ls, hpl.out, rfl, ?_, Szs.perm hz1 (srt_perm _)⟩, HBA.out.trans (hb9.mono HBA.out.size)⟩
      rw [← hme]
      have hml : m.length = J.ls.length := hp.length_eq
      rw [hml]
      exact owns_base ho9 (fun g hg => Nat.le_trans HBA.out.size ((ho9.lt g hg).1))

end Go.Proofs.YtpdffdoogobhfaaDoor
