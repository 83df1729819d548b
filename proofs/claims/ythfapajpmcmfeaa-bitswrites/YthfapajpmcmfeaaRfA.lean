import Derived.Test.YthfapajpmcmfeaaRdA
import Derived.Deep.RegionLaw
namespace Go.Proofs.Ythfapajpmcmfeaa
open Go.RowKit
set_option linter.unusedVariables false

/-- The document's reader: its block, its row, how many bits were got. -/
def SS (w : World) (q : Nat) (L : List Bool) (t : Nat) : Prop := t ≤ L.length ∧ ∃ v, Blk w q 61 [v, .int .i64 (t : Int)] ∧ w.ownsRow 0 4 1 v L.length (L.map Value.bool) ∧ v.ownBlock ≠ some q
theorem SS.chg {F : Nat → Prop} {a b : World} {q t : Nat} {L : List Bool} (h : SS a q L t) (hc : Chg F a b) (hq : ¬ F q) (hr : ∀ g cs, a.heap[g]? = some (.cells cs 4 (0, 0)) → ¬ F g) : SS b q L t := by
  obtain ⟨h1, v, h2, h3, h4⟩ := h
  refine ⟨h1, v, hc.blk h2 hq, hc.owns h3 (fun g hg => ?_), h4⟩
  rcases h3.2 with ⟨rfl, _⟩ | ⟨g', cap, cur, rfl, hb, hh, r⟩
  · cases hg
  · obtain rfl : g' = g := by simpa [Value.ownBlock] using hg
    exact hr g' cur hh
theorem SS.same {a b : World} {q t : Nat} {L : List Bool} (h : SS a q L t) (hc : Chg (fun _ => False) a b) : SS b q L t := h.chg hc (fun e => e) (fun _ _ _ e => e)
theorem SS.step {a : World} {q t t2 : Nat} {L : List Bool} (h : SS a q L t) (h2 : t2 ≤ L.length) : SS (a.setCell ⟨q, 1, none⟩ (.int .i64 (t2 : Int))) q L t2 := by
  obtain ⟨h1, v, hB, hO, hne⟩ := h
  exact ⟨h2, v, hB.set 1 _, ownsRow_setCell_other hO hne _, hne⟩

theorem leftR_any (q t : Nat) (L : List Bool) (w : World) (h : SS w q L t) (hl : L.length ≤ 70368744177664) : Calls Try.prog 16 #[.pointer (some ⟨q, 0, none⟩)] w fun e w' => e = .returned (.int .i64 ((L.length - t : Nat) : Int)) ∧ Chg (fun _ => False) w w' := by
  obtain ⟨ht, v, hB, hO, hne⟩ := h
  obtain ⟨ad, c, rfl⟩ := owns_form hO
  obtain ⟨n, hn⟩ : ∃ n, L.length = n := ⟨_, rfl⟩
  rw [hn] at hB hl ht ⊢
  have c0 : w.cell? ⟨q, 0, none⟩ = some (.slice ad n c) := hB.cell 0
  have c1 : w.cell? ⟨q, 1, none⟩ = some (.int .i64 (t : Int)) := hB.cell 1
  clear hB hO hne hn
  go_enter Try.func16, Try.ntmps16
  go_wp2_with fail
  go_region
  go_wp2_with fail
  go_ret
  refine ⟨?_, Chg.drew _ _⟩
  show Ending.returned (.int .i64 ((n : Int) - (t : Int))) = _
  congr 2
  omega

theorem bit_eq (y : Int) (k : Nat) (hy : 0 ≤ y ∧ y ≤ 255) : (bits .and .u8 (y / 2 ^ k) 1 == 1) = y.toNat.testBit k := by
  have e : y = ((y.toNat : Nat) : Int) := by omega
  have hl : y.toNat < 256 := by omega
  generalize y.toNat = z at *
  subst e
  have e1 : (z : Int) / 2 ^ k = ((z / 2 ^ k : Nat) : Int) := by simp
  have hz : z / 2 ^ k < 256 := Nat.lt_of_le_of_lt (Nat.div_le_self _ _) hl
  rw [e1, show (1 : Int) = ((1 : Nat) : Int) from rfl, u8_and_nat _ _ hz (by omega), Nat.and_one_is_mod]
  unfold Nat.testBit
  rw [Nat.shiftRight_eq_div_pow, Nat.and_comm, Nat.and_one_is_mod]
  rcases Nat.mod_two_eq_zero_or_one (z / 2 ^ k) with h | h <;> rw [h] <;> rfl

theorem info4 : (Try.prog.info? 4).map (fun i => (i.zero, i.size, i.bytes)) = some (some (.bool false), 1, 1) := by kernel_rfl
theorem built61 : Try.prog.built 61 [] = some #[.slice none 0 0, .int .i64 0] := by kernel_rfl

theorem Pushed.chg2 {u w6 : World} {v : Value} {g6 : Nat} (hp : Pushed u w6 v g6) : Chg (fun i => v.ownBlock = some i) u w6 ∧ Moved u v.ownBlock (some g6) := by
  rcases hp with ⟨h1, h2⟩ | ⟨h1, h2⟩
  · exact ⟨Chg.of_grown (F := fun i => v.ownBlock = some i) h2 (fun i hi => by rw [h1]; exact hi), .inl h1.symm⟩
  · exact ⟨Chg.of_grown (F := fun i => v.ownBlock = some i) h2 (fun i hi => by cases hi), .inr ⟨g6, rfl, h1⟩⟩
/-- A new bit behind the row of the document's reader. -/
theorem push_bit {w wr w6 : World} {q n c : Nat} {av : Option Addr} {L : List Bool} {o : Obj} {g6 c6 : Nat} {b : Bool} (hB : Blk wr q 61 [.slice av n c, .int .i64 0]) (hO : wr.ownsRow (q + 1) 4 1 (.slice av n c) n (L.map Value.bool)) (hbl : Below q w wr) (hq : q ≤ w.heap.size)
    (ho : w6.ownsRow (q + 1) 4 1 (.slice (some ⟨g6, 0, none⟩) (n + 1) c6) (n + 1) (L.map Value.bool ++ [.bool b])) (hp : Pushed (wr.alloc o).drew w6 (.slice av n c) g6) :
    Blk w6 q 61 [.slice av n c, .int .i64 0] ∧ Blk (w6.setCell ⟨q, 0, none⟩ (.slice (some ⟨g6, 0, none⟩) (n + 1) c6)) q 61 [.slice (some ⟨g6, 0, none⟩) (n + 1) c6, .int .i64 0] ∧
      (w6.setCell ⟨q, 0, none⟩ (.slice (some ⟨g6, 0, none⟩) (n + 1) c6)).ownsRow (q + 1) 4 1 (.slice (some ⟨g6, 0, none⟩) (n + 1) c6) (n + 1) ((L ++ [b]).map Value.bool) ∧ Below q w (w6.setCell ⟨q, 0, none⟩ (.slice (some ⟨g6, 0, none⟩) (n + 1) c6)) := by
  obtain ⟨h1, h2⟩ := hp.chg2
  have h3 : Chg (fun i => (Value.slice av n c).ownBlock = some i) wr w6 := ((Chg.alloc (fun _ => False) wr o).trans (Chg.drew (fun _ => False) _) (fun _ _ h => h) |>.mono (fun _ _ h => h.elim)).trans h1 (fun _ _ h => h)
  have hlo : ∀ i, (Value.slice av n c).ownBlock = some i → q + 1 ≤ i := fun i hi => (hO.lt i hi).1
  have hB6 : Blk w6 q 61 [.slice av n c, .int .i64 0] := h3.blk hB (fun e => by have := hlo q e; omega)
  have hg6 : q ≠ g6 := by
    have := (ho.lt g6 rfl).1
    omega
  refine ⟨hB6, hB6.set 0 _, ?_, ?_⟩
  · rw [List.map_append]
    exact ownsRow_setCell_other ho (by simpa [Value.ownBlock] using Ne.symm hg6) _
  · have a1 : Below q w w6 := hbl.trans (h3.below (Nat.le_trans hq hbl.size) (fun i hi => by have := hlo i hi; omega))
    exact a1.setCell (p := ⟨q, 0, none⟩) (Nat.le_refl _) _

set_option maxHeartbeats 2000000 in
theorem newReaderR_any (ad : Option Addr) (n c : Nat) (l : List Int) (w : World) (h : Sl w ad n l) (hn : n ≤ 1099511627776) :
    Calls Try.prog 12 #[.slice ad n c] w fun e w' => ∃ q, e = .returned (.pointer (some ⟨q, 0, none⟩)) ∧ w.heap.size ≤ q ∧ (∀ w'', Chg (fun i => i < w.heap.size) w' w'' → SS w'' q ((List.range (8 * n)).map (bt l)) 0) ∧ Below w.heap.size w w' := by
  obtain ⟨i0, hi, hz0, hz1, hz2⟩ := info_parts info4
  have hb := built61
  have HS := hidden h
  clear h
  go_enter Try.func12, Try.ntmps12
  go_wp2_with (first
    | (refine wpList_build_to rfl 61 #[] rfl [] #[.slice none 0 0, .int .i64 0] ?_ hb ?_; kernel_rfl)
    | (refine wpList_box_blk rfl 61 (.tmp 6) rfl [.slice none 0 0, .int .i64 0] rfl ?_; intro w2 B2 bl2 hzz2; clear hzz2))
  obtain ⟨q, hq⟩ : ∃ q, w.heap.size = q := ⟨_, rfl⟩
  rw [hq] at B2 bl2 ⊢
  have HQ := hidden hq
  have HB2 := hidden B2
  have HBL2 := hidden bl2
  clear hq B2 bl2 hb
  go_loopw [4] (fun iv wr => ∃ (i : Nat) (v : Value), i ≤ n ∧ iv = .int .i64 (i : Int) ∧ Blk wr q 61 [v, .int .i64 0] ∧ wr.ownsRow (q + 1) 4 1 v (8 * i) (((List.range (8 * i)).map (bt l)).map Value.bool) ∧ Below q w wr) (fun iv _ => n - (intOf iv).toNat)
  case atStart => exact ⟨0, .slice none 0 0, Nat.zero_le _, rfl, HB2.out, World.ownsRow_nil _ _ _ _, HBL2.out⟩
  case round =>
    rename World => wr
    obtain ⟨i, v, hin, rfl, hB, hO, hbl⟩ := hrel
    have HB := hidden hB
    have HO := hidden hO
    have HBL := hidden hbl
    clear hB hO hbl HB2 HBL2
    by_cases hlt : i < n
    · go_wp2_with fail
      obtain ⟨w0, rfl⟩ : ∃ w0 : World, w0 = wr := ⟨_, rfl⟩
      go_loopw [5] (fun kv wr => ∃ (j : Nat) (v : Value), j ≤ 8 ∧ kv = .int .i64 (7 - (j : Int)) ∧ Blk wr q 61 [v, .int .i64 0] ∧ wr.ownsRow (q + 1) 4 1 v (8 * i + j) (((List.range (8 * i + j)).map (bt l)).map Value.bool) ∧ Below q w wr) (fun kv _ => (intOf kv + 1).toNat)
      case atStart => exact ⟨0, v, Nat.zero_le _, rfl, HB.out, HO.out, HBL.out⟩
      case round =>
        obtain ⟨j, v, hj, rfl, hB, hO, hbl⟩ := hrel
        have HB := hidden hB
        have HO := hidden hO
        have HBL := hidden hbl
        clear hB hO hbl
        by_cases hj8 : j < 8
        · obtain ⟨av, cv, rfl⟩ := owns_form HO.out
          obtain ⟨b, off, rfl, hbt, hcell⟩ := HS.out.at (by omega)
          have c0 : wr.cell? ⟨q, 0, none⟩ = some (.slice av (8 * i + j) cv) := HB.out.cell 0
          have cy : wr.cell? ⟨b, off + i, none⟩ = some (.int .u8 (l.getD i 0)) := by
            rw [HBL.out.cell (p := ⟨b, off + i, none⟩) (by rw [← HQ.out]; exact hbt)]
            exact hcell i hlt
          have hyb := HS.out.byte.at i
          obtain ⟨y, hy⟩ : ∃ y, l.getD i 0 = y := ⟨_, rfl⟩
          rw [hy] at cy hyb
          obtain ⟨k, hk⟩ : ∃ k, 7 - j = k := ⟨_, rfl⟩
          have hki : 7 - (j : Int) = (k : Int) := by omega
          have HBIT : Hid (bt l (8 * i + j) = y.toNat.testBit k) := by
            show bt l (8 * i + j) = y.toNat.testBit k
            unfold bt
            rw [show (8 * i + j) / 8 = i by omega, hy, show 7 - (8 * i + j) % 8 = k by omega]
          have HBE := hidden (bit_eq y k hyb)
          obtain ⟨mm, hmm⟩ : ∃ mm, 8 * i + j = mm := ⟨_, rfl⟩
          have hmmb : mm ≤ 8796093022208 := by omega
          have HMM := hidden hmm
          rw [hmm] at c0 HB HO HBIT
          have HBLS : Hid (q + 1 ≤ wr.heap.size) := HB.out.lt
          have HQL : Hid (q ≤ w.heap.size) := by
            have := HQ.out
            show q ≤ w.heap.size
            omega
          have HK := hidden hk
          have hqlt : q < wr.heap.size := HB.out.lt
          have hblt : b < wr.heap.size := by have := HQ.out; omega
          clear hcell hy hk hmm hbt
          rw [hki]
          go_wp2_with fail
          go_region_law (refine step_push _ (by rfl) (.tmp 22) (.tmp 31) 54 (by rfl) 4 i0 (.bool false) 1 Try.underlying54 hi hz0 hz1 hz2 (by rfl) (q + 1) (.slice av mm cv) mm (((List.range mm).map (bt l)).map Value.bool) (by rfl) (by exact (Chg.drew (fun _ => False) _).owns ((Chg.alloc (fun _ => False) wr _).owns HO.out (fun _ _ h => h)) (fun _ _ h => h)) ⟨wr.heap.size, 0, none⟩ (.bool (bits .and .u8 (y / 2 ^ k) 1 == 1)) (by rfl) (by simp) (by rfl) (by unfold maxLen; omega) (by omega) (by have := HBLS.out; simp; omega) ?_; intro g6 c6 w6 ho6 hp6; obtain ⟨r1, r2, r3, r4⟩ := push_bit HB.out HO.out HBL.out HQL.out ho6 hp6; have e0 : w6.cell? ⟨q, 0, none⟩ = some (.slice av mm cv) := r1.cell 0; have f0 := r1.frozen 0; have HR2 := hidden r2; have HR3 := hidden r3; have HR4 := hidden r4; clear r1 r2 r3 r4 ho6 hp6)
          all_goals
            clear e0 f0 c0 cy
            rw [HBE.out, ← HBIT.out] at HR3
            go_wp2_with fail
            refine ⟨⟨j + 1, _, by omega, ?_, HR2.out, ?_, HR4.out⟩, ?_⟩
            · have := HK.out
              congr 1
              omega
            · rw [show 8 * i + (j + 1) = mm + 1 by have := HMM.out; omega, List.range_succ, List.map_append]
              exact HR3.out
            · show ((k : Int) - 1 + 1).toNat < ((k : Int) + 1).toNat
              omega
        · obtain rfl : j = 8 := by omega
          go_wp2_with fail
          refine ⟨⟨i + 1, v, by omega, ?_, HB.out, ?_, HBL.out⟩, ?_⟩
          · go_num
          · rw [show 8 * (i + 1) = 8 * i + 8 by omega]
            exact HO.out
          · simp [intOf]
            omega
    · obtain rfl : i = n := by omega
      go_wp2_with fail
      go_ret
      refine ⟨q, rfl, by rw [HQ.out]; omega, fun w'' hc => ?_, by rw [HQ.out]; exact HBL.out⟩
      rw [HQ.out] at hc
      have hl : ((List.range (8 * i)).map (bt l)).length = 8 * i := by simp
      refine ⟨Nat.zero_le _, v, hc.blk HB.out (by omega), ?_, ?_⟩
      · rw [hl]
        have := hc.owns HO.out (fun g hg => ?_)
        · rcases this.2 with h0 | ⟨g, cap, cur, r1, r2, r3⟩
          · exact ⟨this.1, .inl h0⟩
          · exact ⟨this.1, .inr ⟨g, cap, cur, r1, by omega, r3⟩⟩
        · have := (HO.out.lt g hg).1
          omega
      · intro e
        have := (HO.out.lt q e).1
        omega

end Go.Proofs.Ythfapajpmcmfeaa
