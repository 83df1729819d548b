/-
  A chunk all of whose memory is new; the statements' own shown.
-/
import Derived.Test.YtcgjmioncbihhaaDoorChT
import Derived.Test.YtcgjmioncbihhaaDoorLwA
namespace Go.Proofs.YtcgjmioncbihhaaDoor
open Go.RowKit
set_option linter.unusedVariables false
set_option linter.unusedSimpArgs false

/-- A chunk all of whose memory is new since w0. -/
def CB (w0 w : World) (c p : Nat) (most : Int) (l : List Sm) : Prop := ∃ rb, CS w c p rb most l ∧ (w0.heap.size ≤ c ∧ w0.heap.size ≤ p ∧ ∀ i, rb = some i → w0.heap.size ≤ i) ∧ Below w0.heap.size w0 w
theorem CB.bel {w0 w : World} {c p : Nat} {most : Int} {l : List Sm} (h : CB w0 w c p most l) : Below w0.heap.size w0 w := by
  obtain ⟨_, _, _, h⟩ := h
  exact h
theorem CB.later {w0 w w' : World} {c p : Nat} {most : Int} {l : List Sm} (h : CB w0 w c p most l) (hb : Below w.heap.size w w') : CB w0 w' c p most l := by
  obtain ⟨rb, h1, h2, h3⟩ := h
  exact ⟨rb, h1.later hb, h2, h3.trans (hb.mono h3.size)⟩
theorem cnew_b (w0 w : World) (most : Int) (hm : I64 most) (hlo : 2 ≤ w0.heap.size) (h : Below w0.heap.size w0 w) :
    Calls Tryd.prog 17 #[.int .i64 most] w fun e w' => ∃ c p, e = .returned (.pointer (some ⟨c, 0, none⟩)) ∧ CB w0 w' c p most [] ∧ Below w.heap.size w w' := by
  have hs := h.size
  refine (newP w most hm (by omega)).mono ?_
  rintro e w' ⟨c, p, rfl, h1, h2, h3, h4⟩
  exact ⟨c, p, rfl, ⟨none, h3, ⟨by omega, by omega, by simp⟩, h.trans (h4.mono h.size)⟩, h4⟩
theorem capp_b (w0 w : World) (c p : Nat) (most : Int) (l : List Sm) (s : Sm) (h : CB w0 w c p most l) (hG : Gv w0) (hs : OkS s) (hl : l.length ≤ 1000000) :
    Calls Tryd.prog 8 #[.pointer (some ⟨c, 0, none⟩), .int .i64 s.t, .int .u64 (s.v : Int)] w fun e w' => e = .returned (.bool (decide (((encC (l ++ [s])).length : Int) ≤ most))) ∧ CB w0 w' c p most (if ((encC (l ++ [s])).length : Int) ≤ most then l ++ [s] else l) := by
  obtain ⟨rb, h1, h2, h3⟩ := h
  refine (cappendP w c p rb most l s h1 (hG.later h3) hs hl).mono ?_
  rintro e w' ⟨rfl, rb', k1, k2, k3⟩
  refine ⟨rfl, rb', k1, ⟨h2.1, h2.2.1, ?_⟩, h3.trans (k2.below h3.size (fun i hi => ?_))⟩
  · rcases k3 with rfl | ⟨g, rfl, hg⟩
    · exact h2.2.2
    · intro i hi
      injection hi with hi
      have := h3.size
      omega
  · rcases hi with (rfl | hi) | rfl
    · exact h2.2.1
    · exact h2.2.2 i hi
    · exact h2.1
theorem clen_b (w0 w : World) (c p : Nat) (most : Int) (l : List Sm) (h : CB w0 w c p most l) :
    Calls Tryd.prog 10 #[.pointer (some ⟨c, 0, none⟩)] w fun e w' => e = .returned (.int .i64 (l.length : Int)) ∧ w' = w := by
  obtain ⟨rb, h1, _⟩ := h
  exact clenP w c p rb most l h1
theorem cbytes_b (w0 w : World) (c p : Nat) (most : Int) (l : List Sm) (h : CB w0 w c p most l) (hl : l.length ≤ 1000000) :
    Calls Tryd.prog 18 #[.pointer (some ⟨c, 0, none⟩)] w (BtP w (encC l)) := by
  obtain ⟨rb, h1, _⟩ := h
  exact cbytesP w c p rb most l h1 hl

def sA : Sm := ⟨1000, 5⟩
def sB : Sm := ⟨1060, 5⟩
def sC : Sm := ⟨1120, 5⟩
def sD : Sm := ⟨1180, 4⟩
def sE : Sm := ⟨1, 1⟩
theorem okA : OkS sA ∧ OkS sB ∧ OkS sC ∧ OkS sD ∧ OkS sE := by
  refine ⟨⟨?_, ?_⟩, ⟨?_, ?_⟩, ⟨?_, ?_⟩, ⟨?_, ?_⟩, ⟨?_, ?_⟩⟩ <;> simp [I64, sA, sB, sC, sD, sE]
theorem enc1 : ((encC ([] ++ [sA])).length : Int) ≤ 128 := by decide +kernel
theorem enc2 : ((encC ([] ++ [sA] ++ [sB])).length : Int) ≤ 128 := by decide +kernel
theorem enc3 : ((encC ([] ++ [sA] ++ [sB] ++ [sC])).length : Int) ≤ 128 := by decide +kernel
theorem enc4 : ((encC ([] ++ [sA] ++ [sB] ++ [sC] ++ [sD])).length : Int) ≤ 128 := by decide +kernel
theorem enc5 : ((encC ([] ++ [sE])).length : Int) ≤ 17 := by decide +kernel
theorem enc6 : ¬ ((encC ([] ++ [sE] ++ [sE])).length : Int) ≤ 17 := by decide +kernel
def shB : List Int := [4, 0, 0, 0, 0, 0, 0, 3, 232, 0, 0, 0, 0, 0, 0, 0, 5, 158, 7, 240, 32]
theorem enc7 : encC ([] ++ [sA] ++ [sB] ++ [sC] ++ [sD]) = shB := by decide +kernel
theorem rd0 : rdR [0] = none := by
  have : (Q.dec [0]).1 = 0 := by decide +kernel
  unfold rdR
  rw [if_neg (by simp), if_pos this]
theorem rd4 : rdR shB = some [sA, sB, sC, sD] := by
  rw [← enc7]
  have := rd_enc (l := [sA, sB, sC, sD]) (by
    intro x hx
    simp at hx
    rcases hx with rfl | rfl | rfl | rfl
    · exact okA.1
    · exact okA.2.1
    · exact okA.2.2.1
    · exact okA.2.2.2.1) (by decide)
  simpa using this

end Go.Proofs.YtcgjmioncbihhaaDoor
