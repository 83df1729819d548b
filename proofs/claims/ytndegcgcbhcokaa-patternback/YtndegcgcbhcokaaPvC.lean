/-
  Print; fault; what Match tells, reckoned.
-/
import Derived.Test.YtndegcgcbhcokaaPvB
import Derived.Test.YtndegcgcbhcokaaPuP
import Derived.BigQuiet
namespace Go.Proofs.Ytndegcgcbhcokaa
open Go.RowKit
set_option linter.unusedVariables false
set_option linter.unusedSimpArgs false

theorem bC_cells (L : List UInt8) : bC L = cells8 (L.map (fun b => (b.toNat : Int))) := by simp [bC, cells8]
theorem byteL (L : List UInt8) : Byte (L.map (fun b => (b.toNat : Int))) := by
  intro n hn
  obtain ⟨b, _, rfl⟩ := List.mem_map.1 hn
  have := b.toNat_lt
  exact ⟨by omega, by omega⟩
theorem bts_nums (L : List UInt8) : bts (strOfNums (L.map (fun b => (b.toNat : Int)))) = L := by
  simp [strOfNums, bts, List.map_map, Function.comp_def]

set_option maxRecDepth 100000 in
set_option maxHeartbeats 8000000 in
theorem printP (F : Nat → Prop) (w : World) (p : Nat) (l : List (List Pt)) (hP : PaR F w p l) (hlen : (rowsT l).length ≤ 7000000) :
    Calls Try.prog 8 #[.pointer (some ⟨p, 0, none⟩)] w fun e w' => ∃ s, e = .returned (.string s) ∧ bts s = rowsT l ∧ Below w.heap.size w w' := by
  obtain ⟨ad, c, b, off, sa, sc, vs, h⟩ := hP
  have k14 := pr_rows l (fun r hr => pr_row r (prRows l r hr)) F w ad c b off w.heap.size [] none 0 0 h.at' h.rows h.fine.1 h.fine.2.2 (World.ownsRow_nil _ _ _ _) (fun b hb => ⟨by simp [Value.ownBlock], h.lt b hb⟩) (by omega) (Nat.le_refl _)
  have c0 := h.blk.cell 0
  obtain ⟨n, hn⟩ : ∃ n, l.length = n := ⟨_, rfl⟩
  rw [hn] at k14 c0
  have c0 : w.cell? ⟨p, 0, none⟩ = some (.slice ad n c) := c0
  obtain ⟨R, hR⟩ : ∃ R, rowsT l = R := ⟨_, rfl⟩
  rw [hR, List.nil_append] at k14
  rw [hR]
  clear h hn hR hlen
  unfold PrR at k14
  go_enter Try.func8, Try.ntmps8
  go_wp2_with (go_at_call 14; refine k14.mono ?_; rintro e w3 ⟨a3, m3, c3, rfl, h1, h2, h3⟩; have hcv : (convert 59 9 (.slice a3 m3 c3)).run Try.prog w3 = .ok (.string (strOfNums (R.map (fun b => (b.toNat : Int))))) w3 := run_string_of 59 5 9 Try.underlying59 Try.underlying5 Try.underlying9 (sl_of_owns (by rw [← bC_cells]; exact h2) (byteL R)); have H3 := hidden h3; clear k14 h1 h2 h3)
  go_ret
  exact ⟨_, rfl, bts_nums R, H3.out.chg.below (Nat.le_refl _) (fun i e => by simp [Value.ownBlock] at e)⟩

set_option maxRecDepth 100000 in
theorem at39 (v : Value) (w : World) : (Instr.typeAssert (.iface 39 v) 26 39 true).run Try.prog w = .ok (.tuple #[v, .bool true]) w := by rfl
set_option maxRecDepth 100000 in
set_option maxHeartbeats 8000000 in
theorem faultP (g : Nat) (k : Nat) (w : World) (h : Blk w g 41 [.int .i64 (k : Int), .int .i64 80]) :
    Calls Try.prog 7 #[.iface 39 (.pointer (some ⟨g, 0, none⟩))] w fun e w' => e = .returned (.tuple #[.int .i64 (k : Int), .int .i64 80, .bool true]) ∧ Below w.heap.size w w' := by
  have e0 : w.cell? ⟨g, 0, none⟩ = some (.int .i64 (k : Int)) := h.cell 0
  have e1 : w.cell? ⟨g, 1, none⟩ = some (.int .i64 80) := h.cell 1
  have k1 := fun w => at39 (.pointer (some ⟨g, 0, none⟩)) w
  clear h
  go_enter Try.func7, Try.ntmps7
  go_wp2_with fail
  go_quiet (fail)
  go_wp2
  go_ret3
  exact ⟨rfl, below_drewN (Below.refl _ _) _⟩

/-- What the machine takes, reckoned. -/
def takesF (E : Es) (M : List Sp) : Nat → Nat → Bool → List UInt8 → Bool
  | 0, _, _, _ => false
  | f + 1, op, en, L => if L = [] then en else match fp L with
    | none => false
    | some (c, k) => takesF E M f (stF E.last op c 0 M 0 false).1 (stF E.last op c 0 M 0 false).2 (L.drop k)
theorem takesF_iff (E : Es) (M : List Sp) : ∀ (f op : Nat) (en : Bool) (L : List UInt8), L.length < f → (takesF E M f op en L = true ↔ OpB E M op en L)
  | 0, op, en, L, h => by omega
  | f + 1, op, en, L, h => by
    rw [takesF]
    by_cases h0 : L = []
    · rw [if_pos h0, h0, opb_nil]
    · rw [if_neg h0]
      cases h1 : fp L with
      | none =>
        simp only [Bool.false_eq_true, false_iff]
        exact opb_none h0 h1
      | some ck =>
        obtain ⟨c, k⟩ := ck
        simp only
        have hk := fp_len h1
        rw [takesF_iff E M f _ _ (L.drop k) (by rw [List.length_drop]; omega), ← opb_step h1]
theorem means_takes (l : List (List Pt)) (L : List UInt8) : Means l L ↔ takesF (machL l).1 (machL l).2 (L.length + 1) (machL l).1.first (machL l).1.emp L = true := by
  rw [takesF_iff _ _ _ _ _ _ (by omega), opb_means]

/-! ### the document's examples -/
def T1 : List (List Pt) := [[.grp [[.chr 120], [.chr 121]], .rep (.chr 122) 63]]
def T2 : List (List Pt) := [[.rep (.grp [[.rep (.grp [[.rep (.chr 97) 42]]) 42]]) 42, .chr 98]]
set_option maxRecDepth 100000
theorem prs1 : prs [40, 120, 124, 121, 41, 122, 63] = .ok T1 7 := by kernel_rfl
theorem prs2 : prs [40, 40, 97, 42, 41, 42, 41, 42, 98] = .ok T2 9 := by kernel_rfl
theorem prs3 : prs [91, 98, 45, 97, 93] = .bad 3 := by kernel_rfl
theorem wds1 : rowsW T1 [] = some [⟨#[120]⟩, ⟨#[120, 122]⟩, ⟨#[121]⟩, ⟨#[121, 122]⟩] := by kernel_rfl
theorem wds2 : rowsW T2 [] = none := by kernel_rfl
theorem txt1 : rowsT T1 = [40, 120, 124, 121, 41, 122, 63] := by kernel_rfl
theorem mt1 : takesF (machL T1).1 (machL T1).2 3 (machL T1).1.first (machL T1).1.emp [120, 122] = true := by kernel_rfl
theorem mt2 : takesF (machL T1).1 (machL T1).2 2 (machL T1).1.first (machL T1).1.emp [122] = false := by kernel_rfl
theorem mt3 : takesF (machL T2).1 (machL T2).2 4 (machL T2).1.first (machL T2).1.emp [97, 97, 98] = true := by kernel_rfl
theorem mt4 : takesF (machL T2).1 (machL T2).2 3 (machL T2).1.first (machL T2).1.emp [97, 97] = false := by kernel_rfl

end Go.Proofs.Ytndegcgcbhcokaa
