/-
  The machine: either.
-/
import Derived.Test.YtndegcgcbhcokaaPtQ
namespace Go.Proofs.Ytndegcgcbhcokaa
open Go.RowKit
set_option linter.unusedVariables false
set_option linter.unusedSimpArgs false

/-- Ends, as cells. -/
def esC (e : Es) : List Value := [.int .u64 (e.first : Int), .int .u64 (e.last : Int), .bool e.emp]
def esV (e : Es) : Value := .agg #[.int .u64 (e.first : Int), .int .u64 (e.last : Int), .bool e.emp]
def Es.b64 (e : Es) : Prop := e.first < 18446744073709551616 ∧ e.last < 18446744073709551616
theorem res_either (tmps : Array Value) (w : World) (g : Nat) (e : Es) (hp : tmps.getD 4 undef = .pointer (some ⟨g, 0, none⟩)) (h : Blk w g 52 (esC e)) :
    (results Try.f29 tmps).run Try.prog w = .ok (esV e) w := by
  have h0 : w.cell? ⟨g, 0, none⟩ = some (.int .u64 (e.first : Int)) := h.cell 0
  have h1 : w.cell? ⟨g, 1, none⟩ = some (.int .u64 (e.last : Int)) := h.cell 1
  have h2 : w.cell? ⟨g, 2, none⟩ = some (.bool e.emp) := h.cell 2
  have hr : Try.f29.results = #[.cell 4 52] := by kernel_rfl
  have hp' : tmps[4]?.getD undef = .pointer (some ⟨g, 0, none⟩) := by simpa using hp
  simp [results, hr, hp', asAddr, loadVar, h0, h1, h2, go_sem, esV]
theorem or64 {a b : Nat} (ha : a < 18446744073709551616) (hb : b < 18446744073709551616) : bits .or .u64 (a : Int) (b : Int) = ((a ||| b : Nat) : Int) := u64_or_nat a b ha hb

set_option maxRecDepth 100000 in
set_option maxHeartbeats 4000000 in
theorem eitherP (a b : Es) (ha : a.b64) (hb : b.b64) (w : World) : Calls Try.prog 29 #[esV a, esV b] w fun e w' => e = .returned (esV (a.either b)) ∧ Below w.heap.size w w' := by
  obtain ⟨af, al, ae⟩ := a
  obtain ⟨bf, bl, be⟩ := b
  have o1 := or64 ha.1 hb.1
  have o2 := or64 ha.2 hb.2
  have hal : Below w.heap.size w (((w.alloc (.cells #[.int .u64 (af : Int), .int .u64 (al : Int), .bool ae] 52)).alloc (.cells #[.int .u64 (bf : Int), .int .u64 (bl : Int), .bool be] 52)).alloc (.cells #[.int .u64 0, .int .u64 0, .bool false] 52)) := by
    have h1 := (Below.refl w.heap.size w).alloc (Nat.le_refl _) (.cells #[.int .u64 (af : Int), .int .u64 (al : Int), .bool ae] 52)
    have h2 := h1.alloc h1.size (.cells #[.int .u64 (bf : Int), .int .u64 (bl : Int), .bool be] 52)
    exact h2.alloc h2.size _
  have HBK : Hid (∀ (f l : Nat) (e : Bool), Blk (((w.alloc (.cells #[.int .u64 (af : Int), .int .u64 (al : Int), .bool ae] 52)).alloc (.cells #[.int .u64 (bf : Int), .int .u64 (bl : Int), .bool be] 52)).alloc (.cells #[.int .u64 (f : Int), .int .u64 (l : Int), .bool e] 52)) (w.heap.size + 1 + 1) 52 (esC ⟨f, l, e⟩) ∧ Below w.heap.size w (((w.alloc (.cells #[.int .u64 (af : Int), .int .u64 (al : Int), .bool ae] 52)).alloc (.cells #[.int .u64 (bf : Int), .int .u64 (bl : Int), .bool be] 52)).alloc (.cells #[.int .u64 (f : Int), .int .u64 (l : Int), .bool e] 52))) := hidden (fun f l e => by
    refine ⟨?_, ?_⟩
    · have := Blk.new ((w.alloc (.cells #[.int .u64 (af : Int), .int .u64 (al : Int), .bool ae] 52)).alloc (.cells #[.int .u64 (bf : Int), .int .u64 (bl : Int), .bool be] 52)) 52 (esC ⟨f, l, e⟩)
      rw [show ((w.alloc (.cells #[.int .u64 (af : Int), .int .u64 (al : Int), .bool ae] 52)).alloc (.cells #[.int .u64 (bf : Int), .int .u64 (bl : Int), .bool be] 52)).heap.size = w.heap.size + 1 + 1 by simp] at this
      exact this
    · have h1 := (Below.refl w.heap.size w).alloc (Nat.le_refl _) (.cells #[.int .u64 (af : Int), .int .u64 (al : Int), .bool ae] 52)
      have h2 := h1.alloc h1.size (.cells #[.int .u64 (bf : Int), .int .u64 (bl : Int), .bool be] 52)
      exact h2.alloc h2.size _)
  clear hal ha hb
  have hE : esV ((⟨af, al, ae⟩ : Es).either ⟨bf, bl, be⟩) = esV ⟨af ||| bf, al ||| bl, ae || be⟩ := rfl
  rw [hE]
  clear hE
  obtain ⟨R, hR⟩ : ∃ R, esV ⟨af ||| bf, al ||| bl, ae || be⟩ = R := ⟨_, rfl⟩
  have HR := hidden hR
  rw [hR]
  clear hR
  simp only [esV]
  go_enter Try.func29, Try.ntmps29
  cases ae
  · go_wp2
    refine bodyPost_ret (res_either _ _ (w.heap.size + 1 + 1) ⟨af ||| bf, al ||| bl, be⟩ rfl (HBK.out _ _ _).1) rfl ?_
    exact ⟨by rw [← HR.out]; rfl, (HBK.out _ _ _).2⟩
  · go_wp2
    refine bodyPost_ret (res_either _ _ (w.heap.size + 1 + 1) ⟨af ||| bf, al ||| bl, true⟩ rfl (HBK.out _ _ _).1) rfl ?_
    exact ⟨by rw [← HR.out]; rfl, (HBK.out _ _ _).2⟩

end Go.Proofs.Ytndegcgcbhcokaa
