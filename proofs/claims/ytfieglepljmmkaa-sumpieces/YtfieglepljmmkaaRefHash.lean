import Derived.Test.YtfieglepljmmkaaApp
import Derived.Test.YtfieglepljmmkaaRefOf
namespace Go.Proofs.Ytfieglepljmmkaa
open Go.RowKit
set_option linter.unusedVariables false

def fpt (p : Nat) (rb : Option Nat) : Nat → Prop := fun i => i = p ∨ rb = some i
theorem fpt_moved {w : World} {p : Nat} {rb rb' : Option Nat} (h : Moved w rb rb') : ∀ i, i < w.heap.size → fpt p rb' i → fpt p rb i := by
  intro i hi hf
  rcases hf with rfl | hf
  · exact .inl rfl
  · rcases h with rfl | ⟨g, rfl, hg⟩
    · exact .inr hf
    · simp at hf
      omega
/-- The document's hash that has been handed m: its block, its row's block. -/
structure RR (w : World) (q : Nat) (rb : Option Nat) (m : List Int) (v : Value) : Prop where
  ne : rb ≠ some q
  own : v.ownBlock = rb
  blk : Blk w q 55 [v]
  row : w.ownsRow 0 5 1 v m.length (cells8 m)
  byte : Byte m
def RH (w : World) (q : Nat) (rb : Option Nat) (m : List Int) : Prop := ∃ v, RR w q rb m v
theorem RH.lt {w : World} {q : Nat} {rb : Option Nat} {m : List Int} (h : RH w q rb m) : ∀ i, fpt q rb i → i < w.heap.size := by
  obtain ⟨v, h⟩ := h
  rintro i (rfl | hi)
  · exact h.blk.lt
  · have := h.own
    subst this
    exact owns_lt h.row i hi
theorem RH.tg {w : World} {q : Nat} {rb : Option Nat} {m : List Int} (h : RH w q rb m) : ∀ i, fpt q rb i → Tg w i 55 ∨ Tg w i 5 := by
  obtain ⟨v, h⟩ := h
  rintro i (rfl | hi)
  · exact .inl h.blk.tg
  · exact .inr (owns_tg h.row i (by rw [h.own]; exact hi))
theorem RH.chg {F : Nat → Prop} {a b : World} {q : Nat} {rb : Option Nat} {m : List Int} (h : RH a q rb m) (hc : Chg F a b) (hF : ∀ i, fpt q rb i → ¬ F i) : RH b q rb m := by
  obtain ⟨v, h0, h1, h2, h3, h4⟩ := h
  subst h1
  exact ⟨v, h0, rfl, hc.blk h2 (hF q (.inl rfl)), hc.owns h3 (fun g hg => hF g (.inr hg)), h4⟩

theorem built55 : Try.prog.built 55 [] = some #[.slice none 0 0] := by kernel_rfl
theorem refNew_any (w : World) : Calls Try.prog 15 #[] w fun e w' => e = .returned (.pointer (some ⟨w.heap.size, 0, none⟩)) ∧ RH w' w.heap.size none [] ∧ Below w.heap.size w w' := by
  have hb := built55
  go_enter Try.func15, Try.ntmps15
  go_wp2_with (first
    | (refine wpList_build_to rfl 55 #[] rfl [] #[.slice none 0 0] ?_ hb ?_; kernel_rfl)
    | (refine wpList_box_blk rfl 55 (.tmp 1) rfl [.slice none 0 0] rfl ?_; intro w2 B2 bl2 hz2))
  go_ret
  exact ⟨rfl, ⟨.slice none 0 0, by simp, rfl, B2, World.ownsRow_nil _ _ _ _, fun n hn => by simp at hn⟩, bl2⟩

set_option maxHeartbeats 1000000 in
theorem refWrite_any (q : Nat) (rb : Option Nat) (m l : List Int) (ad : Option Addr) (n c : Nat) (w : World) (h : RH w q rb m) (hs : Sl w ad n l) (hnone : ad = none → n = 0 ∧ c = 0) (hb : m.length + n ≤ 140737488355328) :
    Calls Try.prog 17 #[.pointer (some ⟨q, 0, none⟩), .slice ad n c] w fun e w' => e = .returned (.tuple #[]) ∧ ∃ rb', RH w' q rb' (m ++ l) ∧ Chg (fpt q rb) w w' ∧ Moved w rb rb' := by
  obtain ⟨i0, hi, hz0, hz1, hz2⟩ := info_parts info5e
  obtain ⟨v, hR⟩ := h
  have c0 : w.cell? ⟨q, 0, none⟩ = some v := hR.blk.cell 0
  obtain ⟨av, cv, rfl⟩ := owns_form hR.row
  have HR := hidden hR
  have HS := hidden hs
  have HNO := hidden hnone
  have hone : (Value.slice av m.length cv).oneCell' = true := rfl
  clear hR hs hnone hone
  go_enter Try.func17, Try.ntmps17
  go_wp2_with (first
    | (at_builtin; refine wpList_appends w rfl (.tmp 8) (.tmp 9) 22 rfl 5 i0 (.int .u8 0) Try.underlying22 hi hz0 hz1 hz2 rfl (.slice av m.length cv) m.length m rfl HR.out.row ad n c l rfl HS.out HNO.out hb ?_; intro v' w2 ho hC hM; rw [HR.out.own] at hC hM; have hB := hC.blk HR.out.blk (fun e => HR.out.ne e); have d0 : w2.cell? ⟨q, 0, none⟩ = some (.slice av m.length cv) := hB.cell 0; have f0 := hB.frozen 0; obtain ⟨a2, c2, rfl⟩ := owns_form ho; have HO := hidden ho; have HC := hidden hC; have HM := hidden hM; have HB := hidden hB; clear ho hC hM hB c0))
  go_end0
  have hne : (Value.slice a2 (m.length + n) c2).ownBlock ≠ some q := by
    intro e
    rcases HM.out with h0 | ⟨g, h0, hg⟩
    · exact HR.out.ne (by rw [← h0]; exact e)
    · rw [h0] at e
      have := HR.out.blk.lt
      simp at e
      omega
  have hl : (m ++ l).length = m.length + n := by rw [List.length_append, HS.out.len]
  refine ⟨rfl, _, ⟨.slice a2 (m.length + n) c2, hne, rfl, HB.out.set 0 _, ?_, HR.out.byte.append HS.out.byte⟩, (HC.out.mono (G := fpt q rb) (fun i _ hi => .inr hi)).trans (Chg.set ⟨q, 0, none⟩ _ w2) (fun i _ hi => .inl hi), HM.out⟩
  rw [hl]
  exact ownsRow_setCell_other HO.out hne _

set_option maxRecDepth 100000 in
set_option maxHeartbeats 1000000 in
theorem refSum_any (q : Nat) (rb : Option Nat) (m : List Int) (w : World) (h : RH w q rb m) (hb : m.length ≤ 140737488351232) :
    Calls Try.prog 19 #[.pointer (some ⟨q, 0, none⟩)] w fun e w' => e = .returned (.agg (cells8 (digest m)).toArray) ∧ Below w.heap.size w w' := by
  obtain ⟨v, hR⟩ := h
  obtain ⟨av, cv, rfl⟩ := owns_form hR.row
  have HR := hidden hR
  clear hR
  have hlen : (cells8 (digest m)).length = 32 := by rw [cells8_length, digest, outSt_len]
  have hone := cells8_one (digest m)
  have H13 : Hid (∀ W, Lat w W → Calls Try.prog 13 #[.slice av m.length cv] W fun e w' => e = .returned (.agg (cells8 (digest m)).toArray) ∧ Below W.heap.size W w') := fun W hL =>
    refOf_any av m.length cv m W (sl_of_owns ((Chg.of_below (F := fun _ => False) hL).owns HR.out.row (fun _ _ h => h)) HR.out.byte) (owns_cap HR.out.row).2.2.2 hb
  generalize hT : cells8 (digest m) = T at *
  have HT : Unit → cells8 (digest m) = T := fun _ => hT
  clear hT
  go_enter Try.func19, Try.ntmps19
  go_wp2_with (first
    | (refine wpList_alloc_blk rfl 27 rfl 2 rfl _ new27 ?_; intro w1 B1 bl1 hz1; clear hz1; have c0 : w1.cell? ⟨q, 0, none⟩ = some (.slice av m.length cv) := (HR.out.blk.later bl1).cell 0))
  refine (H13.out w1 bl1).mono ?_
  rintro e w2 ⟨rfl, hb2⟩
  have B2 := B1.later hb2
  have hst := blk_stored (l := T) B2 (by rw [hlen]; rfl)
  have hbb : Below w.heap.size w (w2.setCells w.heap.size 0 T) := (bl1.trans (hb2.mono bl1.size)).trans (below_sets (Nat.le_refl _) T 0 w2)
  have HBB := hidden hbb
  have HB2 := hidden B2
  clear B1 bl1 hb2 c0 hbb B2
  go_wp2_with (first
    | refine wpList_store_blk rfl 27 (.tmp 2) (.tmp 7) rfl rfl w.heap.size HB2.out rfl rfl (by rw [hlen]; rfl) (by rw [info27, hlen]) hone ?_)
  refine bodyPost_ret (results_cell_row rfl _ _ w.heap.size 27 _ (0, 0) _ rfl hst Try.underlying27 rfl (by rw [info27]; simp [hlen])) rfl ?_
  exact ⟨rfl, HBB.out⟩

end Go.Proofs.Ytfieglepljmmkaa
