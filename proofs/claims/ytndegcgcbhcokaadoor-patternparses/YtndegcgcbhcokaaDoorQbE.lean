/-
  The document's Print: text of repetitions; Print.
-/
import Derived.Test.YtndegcgcbhcokaaDoorQbD
import Derived.Test.YtndegcgcbhcokaaDoorQaL
namespace Go.Proofs.YtndegcgcbhcokaaDoor
open Go.RowKit
set_option linter.unusedVariables false
set_option linter.unusedSimpArgs false

/-- A byte as a text. -/
theorem conv1 (w : World) (g s : Nat) (hs : s = 42 ∨ s = 43 ∨ s = 63) (h : w.cell? ⟨g, 0, none⟩ = some (.int .u8 (s : Int))) : (convert 79 9 (.slice (some ⟨g, 0, none⟩) 1 1)).run Tryd.prog w = .ok (.string ⟨#[UInt8.ofNat s]⟩) w := by
  have hS : Sl w (some ⟨g, 0, none⟩) 1 [(s : Int)] := by
    refine ⟨rfl, fun n hn => by simp at hn; omega, fun j hj => ?_⟩
    obtain rfl : j = 0 := by omega
    exact ⟨_, rfl, by rw [Addr.add_lit]; exact h⟩
  rw [run_string_of 79 5 9 Tryd.underlying79 Tryd.underlying5 Tryd.underlying9 hS]
  rcases hs with rfl | rfl | rfl <;> rfl

set_option maxRecDepth 100000 in
set_option maxHeartbeats 0 in
theorem text_rep (a : Pt) (s : Nat) (hs : s = 42 ∨ s = 43 ∨ s = 63) (hE : TxC a) : TxC (.rep a s) := by
  intro F w u hN hl
  simp only [NdV] at hN
  obtain ⟨b, off, c, u', rfl, h1, h2, h3⟩ := hN
  obtain ⟨w1, hw1, hB1, hb1, hs1⟩ := box70 w (nV 5 0 false s sN (.slice (some ⟨b, off, none⟩) 1 c))
  have x0 : w1.cell? ⟨w.heap.size, 0, none⟩ = some (.int .i64 5) := hB1.cell 0
  have x3 : w1.cell? ⟨w.heap.size, 3, none⟩ = some (.int .u8 (s : Int)) := hB1.cell 3
  have x5 : w1.cell? ⟨w.heap.size, 5, none⟩ = some (.slice (some ⟨b, off, none⟩) 1 c) := hB1.cell 5
  have HB1 := hidden hb1
  have BB := hidden hB1
  simp only [Pt.txt] at hl ⊢
  have hl2 : a.txt.length ≤ 999999 := by simp at hl; omega
  obtain ⟨K0, A0, N0, G0, a1, n1, c1, a2, n2, c2, hu⟩ := h3.sh
  subst hu
  have HCS : Hid (Cs w b off (nV K0 A0 N0 G0 (.slice a1 n1 c1) (.slice a2 n2 c2))) := hidden h2
  have HCC : Hid (∀ wx, Below w.heap.size w wx → wx.cell? ⟨b, off, none⟩ = some (.int .i64 (K0 : Int)) ∧ wx.cell? ⟨b, off + 1, none⟩ = some (.int .i32 (A0 : Int)) ∧ wx.cell? ⟨b, off + 2, none⟩ = some (.bool N0) ∧ wx.cell? ⟨b, off + 3, none⟩ = some (.int .u8 (G0 : Int)) ∧ wx.cell? ⟨b, off + 4, none⟩ = some (.slice a1 n1 c1) ∧ wx.cell? ⟨b, off + 5, none⟩ = some (.slice a2 n2 c2)) := hidden (fun wx hb => by
    have hk := HCS.out.keep (Chg.of_below (F := fun _ => False) hb) (fun h => h)
    exact ⟨hk 0 _ rfl, hk 1 _ rfl, hk 2 _ rfl, hk 3 _ rfl, hk 4 _ rfl, hk 5 _ rfl⟩)
  have HK : Hid (∀ wx, Below w1.heap.size w1 wx → Calls Tryd.prog 32 #[.agg #[.int .i64 (K0 : Int), .int .i32 (A0 : Int), .bool N0, .int .u8 (G0 : Int), .slice a1 n1 c1, .slice a2 n2 c2]] wx (TxR a.txt wx)) := hidden (fun wx hb => hE F wx _ (NdV.keep (Chg.of_below (F := fun _ => False) (hb1.trans (hb.mono hb1.size))) (fun _ _ h => h) a _ h3) (by omega))
  obtain ⟨P, hP⟩ : ∃ P, a.txt = P := ⟨_, rfl⟩
  rw [hP] at HK hl2 ⊢
  have HS8 := hidden hs
  obtain ⟨SB, hSB⟩ : ∃ SB : ByteArray, (⟨#[UInt8.ofNat s]⟩ : ByteArray) = SB := ⟨_, rfl⟩
  have hSB1 : SB.size = 1 := by rw [← hSB]; rfl
  have HSB := hidden hSB
  have cv1 := conv1 (w1.alloc (.cells #[.int .u8 (s : Int)] 5)).drew w1.heap.size s hs ((Blk.new w1 5 [.int .u8 (s : Int)]).cell 0)
  rw [hSB] at cv1
  have HCV : Hid (∀ w5 : World, (convert 79 9 (.slice (some ⟨w5.heap.size, 0, none⟩) 1 1)).run Tryd.prog (w5.alloc (.cells #[.int .u8 (s : Int)] 5)) = .ok (.string SB) (w5.alloc (.cells #[.int .u8 (s : Int)] 5))) := hidden (fun w5 => by rw [← hSB]; exact conv1 _ _ s HS8.out ((Blk.new w5 5 [.int .u8 (s : Int)]).cell 0))
  have HSZ := hidden hSB1
  clear hSB hSB1
  have k1 := HK.out w1.drew (below_drewN (Below.refl _ _) 1)
  have hal2 : Below w1.heap.size w1 (w1.alloc (.cells #[.int .u8 (s : Int)] 5)) := (Below.refl _ w1).alloc (Nat.le_refl _) _
  have k2 := HK.out (w1.alloc (.cells #[.int .u8 (s : Int)] 5)).drew (below_drewN hal2 1)
  have HRET : Hid (∀ (wx : World) e w', TxR P wx e w' → ∃ v, e = Ending.returned v) := hidden (fun wx e w' h => by obtain ⟨s, e, _⟩ := h; exact ⟨_, e⟩)
  have HF1 : Hid (∀ w5, Below w1.drew.heap.size w1.drew w5 → Below w.heap.size w w5 ∧ w5.cell? ⟨w.heap.size, 3, none⟩ = some (.int .u8 (s : Int))) := hidden (fun w5 h => by
    have hb : Below w1.heap.size w1 w5 := (below_drewN (Below.refl _ w1) 1).trans h
    exact ⟨hb1.trans (hb.mono hb1.size), (hB1.later hb).cell 3⟩)
  have HF2 : Hid (∀ w5, Below (w1.alloc (.cells #[.int .u8 (s : Int)] 5)).drew.heap.size (w1.alloc (.cells #[.int .u8 (s : Int)] 5)).drew w5 → Below w.heap.size w w5 ∧ w5.cell? ⟨w1.heap.size, 0, none⟩ = some (.int .u8 (s : Int))) := hidden (fun w5 h => by
    have hb2 : Below (w1.alloc (.cells #[.int .u8 (s : Int)] 5)).heap.size (w1.alloc (.cells #[.int .u8 (s : Int)] 5)) w5 := (below_drewN (Below.refl _ _) 1).trans h
    have hb : Below w1.heap.size w1 w5 := hal2.trans (hb2.mono (by simp))
    exact ⟨hb1.trans (hb.mono hb1.size), ((Blk.new w1 5 [.int .u8 (s : Int)]).later hb2).cell 0⟩)
  obtain ⟨v0, v1, v2, v3, v4, v5⟩ := HCC.out w1 HB1.out
  obtain ⟨y0, y1, y2, y3, y4, y5⟩ := HCC.out (w1.alloc (.cells #[.int .u8 (s : Int)] 5)) (HB1.out.trans (hal2.mono HB1.out.size))
  have z5 : (w1.alloc (.cells #[.int .u8 (s : Int)] 5)).cell? ⟨w.heap.size, 5, none⟩ = some (.slice (some ⟨b, off, none⟩) 1 c) := (BB.out.alloc _).cell 5
  simp only [nV, sN] at hw1 ⊢
  have HW1 := hidden hw1
  show Calls Tryd.prog 32 #[.agg #[.int .i64 5, .int .i32 0, .bool false, .int .u8 (s : Int), .slice none 0 0, .slice (some ⟨b, off, none⟩) 1 c]] w (TxR (P ++ [UInt8.ofNat s]) w)
  clear hw1 hB1 hb1 hs1 h1 h2 h3 hE hP hl HK HCC HCS hs
  go_enter Tryd.func32, Tryd.ntmps32
  go_upto_region 1 with fail
  rw [show (w.alloc (.cells #[.int .i64 5, .int .i32 0, .bool false, .int .u8 (s : Int), .slice none 0 0, .slice (some ⟨b, off, none⟩) 1 c] 70)) = w1 from HW1.out]
  clear HW1
  go_upto_region 24 with fail
  go_region_law (first
    | (refine step_fn (by rfl) 32 _ (by simp [execOp, resolve, Act.eval, go_sem]) _ k1 (HRET.out _) ?_; intro v w5 hΦ; obtain ⟨S, he6, q1, q2⟩ := hΦ; injection he6 with he6; subst he6; obtain ⟨B5, f3⟩ := HF1.out w5 q2; have cv2 := HCV.out w5; have Q := hidden (And.intro q1 B5); have hz1 : (S.size : Int) + (SB.size : Int) ≤ 9223372036854775807 := (by rw [← q1, bts_size] at hl2; have := HSZ.out; omega); have hz2 : S.size + SB.size ≤ 9223372036854775807 := (by omega); have hz3 : ¬ 9223372036854775807 < S.size + SB.size := (by omega); clear q1 q2 B5)
    | (refine step_fn (by rfl) 32 _ (by simp [execOp, resolve, Act.eval, go_sem]) _ k2 (HRET.out _) ?_; intro v w5 hΦ; obtain ⟨S, he6, q1, q2⟩ := hΦ; injection he6 with he6; subst he6; obtain ⟨B5, f3⟩ := HF2.out w5 q2; have cv2 := conv1 w5 w1.heap.size s HS8.out f3; rw [HSB.out] at cv2; have Q := hidden (And.intro q1 B5); have hz1 : (S.size : Int) + (SB.size : Int) ≤ 9223372036854775807 := (by rw [← q1, bts_size] at hl2; have := HSZ.out; omega); have hz2 : S.size + SB.size ≤ 9223372036854775807 := (by omega); have hz3 : ¬ 9223372036854775807 < S.size + SB.size := (by omega); clear q1 q2 B5))
  all_goals
    go_wp2
    go_ret
    refine ⟨_, rfl, ?_, (by first | exact Q.out.2 | exact Q.out.2.alloc Q.out.2.size _)⟩
    rw [bts_app, Q.out.1, ← HSB.out]
    rfl
set_option maxRecDepth 100000 in
set_option maxHeartbeats 0 in
/-- PRINT. -/
theorem printN (F : Nat → Prop) (w : World) (p : Nat) (u : List Value) (l : List (List Pt)) (hB : Blk w p 75 u) (hA : AnV F w l u) (hE : TxAny l) (hl : l.length ≤ 1000) (ht : (rowsT l).length ≤ 1000000) : Calls Tryd.prog 19 #[.pointer (some ⟨p, 0, none⟩)] w (TxR (rowsT l) w) := by
  have kE := hE F w u hA hl ht
  obtain ⟨ad, c, b, off, rfl, h1, h2⟩ := hA
  obtain ⟨m, hm⟩ : ∃ m, l.length = m := ⟨_, rfl⟩
  obtain ⟨T, hT⟩ : ∃ T, rowsT l = T := ⟨_, rfl⟩
  rw [hm] at hB kE
  rw [hT] at kE ⊢
  have HB := hidden hB
  simp only [nV, sN] at kE
  have kE2 : Calls Tryd.prog 32 #[.agg #[.int .i64 7, .int .i32 0, .bool false, .int .u8 0, .slice none 0 0, .slice ad m c]] w (TxR T w) := kE
  unfold TxR at kE2
  clear hB h1 h2 hm hT hl ht hE kE
  go_enter Tryd.func19, Tryd.ntmps19
  go_wp2_with (first
    | (refine wpList_load_blk rfl 70 (.tmp 5) rfl p HB.out rfl Tryd.underlying70 rfl info70s ?_; simp only [nV, sN])
    | (go_at_call 32; refine kE2.mono ?_; rintro e w3 ⟨S, rfl, q1, q2⟩; have Q := hidden (And.intro q1 q2); clear kE2 q1 q2))
  go_ret
  exact ⟨S, rfl, Q.out.1, Q.out.2⟩

end Go.Proofs.YtndegcgcbhcokaaDoor
