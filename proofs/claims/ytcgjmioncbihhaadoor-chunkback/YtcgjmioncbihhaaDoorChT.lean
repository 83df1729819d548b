/-
  Package chunk: New, Len, Bytes; a chunk as a whole.
-/
import Derived.Test.YtcgjmioncbihhaaDoorChU
namespace Go.Proofs.YtcgjmioncbihhaaDoor
open Go.RowKit
set_option linter.unusedVariables false
set_option linter.unusedSimpArgs false

/-- A chunk in memory: its samples. -/
structure CS (w : World) (c p : Nat) (rb : Option Nat) (most : Int) (l : List Sm) : Prop where
  blk : Blk w c 58 (chC most l.length (tl l) p)
  ws : WS w p rb (rowB l)
  ok : ∀ x ∈ l, OkS x
  most : I64 most
  lo : 1 < p ∧ ∀ i, rb = some i → 1 < i
/-- Where it lies. -/
def FC (c p : Nat) (rb : Option Nat) : Nat → Prop := fun i => fpt p rb i ∨ i = c
theorem CS.later {w w' : World} {c p : Nat} {rb : Option Nat} {most : Int} {l : List Sm} (h : CS w c p rb most l) (hb : Below w.heap.size w w') : CS w' c p rb most l :=
  ⟨h.blk.later hb, h.ws.later hb, h.ok, h.most, h.lo⟩
theorem CS.chg {F : Nat → Prop} {w w' : World} {c p : Nat} {rb : Option Nat} {most : Int} {l : List Sm} (h : CS w c p rb most l) (hc : Chg F w w') (hF : ∀ i, FC c p rb i → ¬ F i) : CS w' c p rb most l :=
  ⟨hc.blk h.blk (hF c (.inr rfl)), h.ws.chg hc (fun i hi => hF i (.inl hi)), h.ok, h.most, h.lo⟩
theorem built56 (p : Nat) : Tryd.prog.built 56 [(0, .pointer (some ⟨p, 0, none⟩))] = some #[.pointer (some ⟨p, 0, none⟩)] := by kernel_rfl
theorem built58 (most : Int) (p : Nat) : Tryd.prog.built 58 [(0, .int .i64 most), (3, .agg #[.pointer (some ⟨p, 0, none⟩)])] = some (chC most 0 ⟨0, 0, 0⟩ p).toArray := by kernel_rfl

set_option maxRecDepth 100000 in
set_option maxHeartbeats 8000000 in
theorem newP (w : World) (most : Int) (hm : I64 most) (hlo : 2 ≤ w.heap.size) :
    Calls Tryd.prog 17 #[.int .i64 most] w fun e w' => ∃ c p, e = .returned (.pointer (some ⟨c, 0, none⟩)) ∧ w.heap.size ≤ c ∧ w.heap.size ≤ p ∧ CS w' c p none most [] ∧ Below w.heap.size w w' := by
  have hmb := hm
  unfold I64 at hmb
  go_enter Tryd.func17, Tryd.ntmps17
  go_wp2_with fail
  refine (newWriter_any w).mono ?_
  rintro e w1 ⟨rfl, hW, bl1⟩
  have HW := hidden hW
  have BL1 := hidden bl1
  clear hW bl1
  go_wp2_with (first
    | (refine wpList_build_to rfl 56 #[(0, .tmp 4)] rfl [(0, .pointer (some ⟨w.heap.size, 0, none⟩))] #[.pointer (some ⟨w.heap.size, 0, none⟩)] rfl (built56 _) ?_)
    | (refine wpList_build_to rfl 58 #[(0, .tmp 3), (3, .tmp 5)] rfl [(0, .int .i64 most), (3, .agg #[.pointer (some ⟨w.heap.size, 0, none⟩)])] (chC most 0 ⟨0, 0, 0⟩ w.heap.size).toArray rfl (built58 _ _) ?_)
    | (refine wpList_box_blk rfl 58 (.tmp 6) rfl (chC most 0 ⟨0, 0, 0⟩ w.heap.size) rfl ?_; intro w2 B2 bl2 hz2))
  go_ret
  refine ⟨w1.heap.size, w.heap.size, rfl, BL1.out.size, Nat.le_refl _, ⟨B2, HW.out.later bl2, by simp, hm, by omega, by simp⟩, BL1.out.trans (bl2.mono BL1.out.size)⟩

set_option maxRecDepth 100000 in
theorem clenP (w : World) (c p : Nat) (rb : Option Nat) (most : Int) (l : List Sm) (h : CS w c p rb most l) :
    Calls Tryd.prog 10 #[.pointer (some ⟨c, 0, none⟩)] w fun e w' => e = .returned (.int .i64 (l.length : Int)) ∧ w' = w := by
  have c1 := h.blk.cell 1
  simp [chC] at c1
  clear h
  go_enter Tryd.func10, Tryd.ntmps10
  go_wp2
  go_ret
  exact ⟨rfl, rfl⟩

/-- What Append leaves. -/
theorem cappendP (w : World) (c p : Nat) (rb : Option Nat) (most : Int) (l : List Sm) (s : Sm) (h : CS w c p rb most l) (hG : Gv w) (hs : OkS s) (hl : l.length ≤ 1000000) :
    Calls Tryd.prog 8 #[.pointer (some ⟨c, 0, none⟩), .int .i64 s.t, .int .u64 (s.v : Int)] w fun e w' => e = .returned (.bool (decide (((encC (l ++ [s])).length : Int) ≤ most))) ∧ ∃ rb', CS w' c p rb' most (if ((encC (l ++ [s])).length : Int) ≤ most then l ++ [s] else l) ∧ Chg (FC c p rb) w w' ∧ Moved w rb rb' := by
  have hr := room_on l s most
  refine (appendP w c p rb most l.length (tl l) (rowB l) s h.blk h.ws hG (tl_ok h.ok) hs hl (by have := rowB_le h.ok; omega) h.lo h.most).mono ?_
  rintro e w' ⟨rfl, hA⟩
  refine ⟨by rw [decide_eq_decide.2 hr], ?_⟩
  by_cases hh : ((encC (l ++ [s])).length : Int) ≤ most
  · rw [if_pos (hr.2 hh)] at hA
    rw [if_pos hh]
    obtain ⟨k1, rb', k2, k3, k4⟩ := hA
    refine ⟨rb', ⟨?_, ?_, ?_, h.most, h.lo.1, ?_⟩, k3, k4⟩
    · rw [tl_on, List.length_append]; exact k1
    · rw [rowB_on]; exact k2
    · intro x hx
      rcases List.mem_append.1 hx with hx | hx
      · exact h.ok x hx
      · rw [List.mem_singleton.1 hx]; exact hs
    · rcases k4 with rfl | ⟨g, rfl, hg⟩
      · exact h.lo.2
      · intro i hi
        injection hi with hi
        have := h.blk.lt
        have h0 := World.block_lt_of_cell? w _ (hG.tab 0 (by omega))
        simp at h0
        omega
  · rw [if_neg (fun e => hh (hr.1 e))] at hA
    rw [if_neg hh]
    obtain ⟨k1, rb', k2, k3, k4⟩ := hA
    refine ⟨rb', ⟨k1, k2, h.ok, h.most, h.lo.1, ?_⟩, k3, k4⟩
    rcases k4 with rfl | ⟨g, rfl, hg⟩
    · exact h.lo.2
    · intro i hi
      injection hi with hi
      have h0 := World.block_lt_of_cell? w _ (hG.tab 0 (by omega))
      simp at h0
      omega

end Go.Proofs.YtcgjmioncbihhaaDoor
