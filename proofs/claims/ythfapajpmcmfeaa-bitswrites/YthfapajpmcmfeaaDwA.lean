import Derived.Test.YthfapajpmcmfeaaRfB
import Derived.Test.YthfapajpmcmfeaaWrC
namespace Go.Proofs.Ythfapajpmcmfeaa
open Go.RowKit
set_option linter.unusedVariables false

/-- The document's writer: its block, its row's block, its row. -/
structure DR (w : World) (q : Nat) (rb : Option Nat) (L : List Bool) (v : Value) : Prop where
  ne : rb ≠ some q
  own : v.ownBlock = rb
  blk : Blk w q 56 [v]
  row : w.ownsRow 0 4 1 v L.length (L.map Value.bool)
def DS (w : World) (q : Nat) (rb : Option Nat) (L : List Bool) : Prop := ∃ v, DR w q rb L v
theorem DR.lt {w : World} {q : Nat} {rb : Option Nat} {L : List Bool} {v : Value} (h : DR w q rb L v) : ∀ i, fpt q rb i → i < w.heap.size := by
  rintro i (rfl | hi)
  · exact h.blk.lt
  · have := h.own
    subst this
    exact owns_lt h.row i hi
theorem DS.lt {w : World} {q : Nat} {rb : Option Nat} {L : List Bool} (h : DS w q rb L) : ∀ i, fpt q rb i → i < w.heap.size := by
  obtain ⟨v, h⟩ := h
  exact h.lt
theorem DR.chg {F : Nat → Prop} {a b : World} {q : Nat} {rb : Option Nat} {L : List Bool} {v : Value} (h : DR a q rb L v) (hc : Chg F a b) (hF : ∀ i, fpt q rb i → ¬ F i) : DR b q rb L v := by
  obtain ⟨h0, h1, h2, h3⟩ := h
  subst h1
  exact ⟨h0, rfl, hc.blk h2 (hF q (.inl rfl)), hc.owns h3 (fun g hg => hF g (.inr hg))⟩
theorem DS.chg {F : Nat → Prop} {a b : World} {q : Nat} {rb : Option Nat} {L : List Bool} (h : DS a q rb L) (hc : Chg F a b) (hF : ∀ i, fpt q rb i → ¬ F i) : DS b q rb L := by
  obtain ⟨v, h⟩ := h
  exact ⟨v, h.chg hc hF⟩
theorem DR.push {w w6 : World} {q : Nat} {rb : Option Nat} {L : List Bool} {ad : Option Addr} {n c : Nat} (h : DR w q rb L (.slice ad n c)) {o : Obj} {g6 c6 : Nat} {b : Bool}
    (ho : w6.ownsRow 0 4 1 (.slice (some ⟨g6, 0, none⟩) (n + 1) c6) (n + 1) (L.map Value.bool ++ [.bool b])) (hn : L.length = n) (hp : Pushed (w.alloc o).drew w6 (.slice ad n c) g6) :
    Blk w6 q 56 [.slice ad n c] ∧ DR (w6.setCell ⟨q, 0, none⟩ (.slice (some ⟨g6, 0, none⟩) (n + 1) c6)) q (some g6) (L ++ [b]) (.slice (some ⟨g6, 0, none⟩) (n + 1) c6) ∧
      Chg (fpt q rb) w (w6.setCell ⟨q, 0, none⟩ (.slice (some ⟨g6, 0, none⟩) (n + 1) c6)) ∧ Moved w rb (some g6) := by
  obtain ⟨h1, h2⟩ := hp.chg2
  have hsz : w.heap.size ≤ (w.alloc o).drew.heap.size := (Chg.alloc (fun _ => False) w o).size
  have h3 : Chg (fun i => (Value.slice ad n c).ownBlock = some i) w w6 := ((Chg.alloc (fun _ => False) w o).trans (Chg.drew (fun _ => False) _) (fun _ _ h => h) |>.mono (fun _ _ h => h.elim)).trans h1 (fun _ _ h => h)
  rw [h.own] at h3 h2
  have h2' : Moved w rb (some g6) := by
    rcases h2 with e | ⟨g, e, hg⟩
    · exact .inl e
    · exact .inr ⟨g, e, by omega⟩
  have hB : Blk w6 q 56 [.slice ad n c] := h3.blk h.blk (fun e => h.ne e)
  have hne : g6 ≠ q := by
    rintro rfl
    rcases h2' with e | ⟨g, e, hg⟩
    · exact h.ne e.symm
    · have := h.blk.lt
      simp at e
      omega
  refine ⟨hB, ⟨by simpa using hne, rfl, hB.set 0 _, ?_⟩, (h3.mono (G := fpt q rb) (fun i _ hi => .inr hi)).trans (Chg.set ⟨q, 0, none⟩ _ w6) (fun i _ hi => .inl hi), h2'⟩
  rw [List.map_append, List.length_append, hn]
  exact ownsRow_setCell_other ho (by simpa [Value.ownBlock] using hne) _

theorem built56 : Try.prog.built 56 [] = some #[.slice none 0 0] := by kernel_rfl
theorem newWriterR_any (w : World) : Calls Try.prog 8 #[] w fun e w' => e = .returned (.pointer (some ⟨w.heap.size, 0, none⟩)) ∧ DS w' w.heap.size none [] ∧ Below w.heap.size w w' := by
  have hb := built56
  go_enter Try.func8, Try.ntmps8
  go_wp2_with (first
    | (refine wpList_build_to rfl 56 #[] rfl [] #[.slice none 0 0] ?_ hb ?_; kernel_rfl)
    | (refine wpList_box_blk rfl 56 (.tmp 1) rfl [.slice none 0 0] rfl ?_; intro w2 B2 bl2 hz2))
  go_ret
  exact ⟨rfl, ⟨.slice none 0 0, by simp, rfl, B2, World.ownsRow_nil _ _ _ _⟩, bl2⟩

theorem lenR_any (q : Nat) (rb : Option Nat) (L : List Bool) (w : World) (h : DS w q rb L) : Calls Try.prog 23 #[.pointer (some ⟨q, 0, none⟩)] w fun e w' => e = .returned (.int .i64 (L.length : Int)) ∧ w' = w := by
  obtain ⟨v, h⟩ := h
  obtain ⟨ad, c, rfl⟩ := owns_form h.row
  have c0 : w.cell? ⟨q, 0, none⟩ = some (.slice ad L.length c) := h.blk.cell 0
  clear h
  go_enter Try.func23, Try.ntmps23
  go_wp2_with fail
  go_ret
  exact ⟨rfl, rfl⟩

theorem clamped_any (n : Int) (w : World) : Calls Try.prog 28 #[.int .i64 n] w fun e w' => e = .returned (.int .i64 (cl n : Int)) ∧ w' = w := by
  go_enter Try.func28, Try.ntmps28
  go_wp2_with fail
  all_goals
    go_ret
    refine ⟨?_, rfl⟩
    show Ending.returned (Value.int .i64 _) = _
    congr 2
    unfold cl
    omega

theorem bit64_eq (v k : Nat) (hv : v < 18446744073709551616) : (bits .and .u64 ((v : Int) / 2 ^ k) 1 == 1) = v.testBit k := by
  have e1 : (v : Int) / 2 ^ k = ((v / 2 ^ k : Nat) : Int) := by simp
  have hz : v / 2 ^ k < 18446744073709551616 := Nat.lt_of_le_of_lt (Nat.div_le_self _ _) hv
  rw [e1, show (1 : Int) = ((1 : Nat) : Int) from rfl, u64_and_nat _ _ hz (by omega), Nat.and_one_is_mod]
  unfold Nat.testBit
  rw [Nat.shiftRight_eq_div_pow, Nat.and_comm, Nat.and_one_is_mod]
  rcases Nat.mod_two_eq_zero_or_one (v / 2 ^ k) with h | h <;> rw [h] <;> rfl
theorem low_snoc (v k j : Nat) (h : j < k) : (low v k).take (j + 1) = (low v k).take j ++ [v.testBit (k - 1 - j)] := by
  rw [List.take_add_one]
  congr 1
  simp [low, h]

set_option maxHeartbeats 2000000 in
theorem putR_any (q : Nat) (rb : Option Nat) (L : List Bool) (v : Nat) (n : Int) (w : World) (h : DS w q rb L) (hv : v < 18446744073709551616) (hL : L.length ≤ 1099511627776) :
    Calls Try.prog 21 #[.pointer (some ⟨q, 0, none⟩), .int .u64 (v : Int), .int .i64 n] w fun e w' => e = .returned (.tuple #[]) ∧ ∃ rb', DS w' q rb' (L ++ low v (cl n)) ∧ Chg (fpt q rb) w w' ∧ Moved w rb rb' := by
  obtain ⟨i0, hi, hz0, hz1, hz2⟩ := info_parts info4
  obtain ⟨v0, hD⟩ := h
  have HD := hidden hD
  clear hD
  go_enter Try.func21, Try.ntmps21
  go_wp2_with fail
  refine (clamped_any n w).mono ?_
  rintro e w' ⟨rfl, hw⟩
  obtain rfl := hw.symm
  clear hw
  have hk := cl_le n
  obtain ⟨k, hkd⟩ : ∃ k, cl n = k := ⟨_, rfl⟩
  rw [hkd] at hk ⊢
  have HKD := hidden hkd
  clear hkd
  go_wp2_with fail
  go_loopw [6] (fun iv wr => ∃ (j : Nat) (rb' : Option Nat) (v' : Value), j ≤ k ∧ iv = .int .i64 ((k : Int) - 1 - (j : Int)) ∧ DR wr q rb' (L ++ (low v k).take j) v' ∧ Chg (fpt q rb) w wr ∧ Moved w rb rb') (fun iv _ => (intOf iv + 1).toNat)
  case atStart => exact ⟨0, rb, v0, Nat.zero_le _, by simp, by simpa using HD.out, Chg.refl _ _, .inl rfl⟩
  case round =>
    rename World => wr
    obtain ⟨j, rb', v', hj, rfl, hD, hC, hM⟩ := hrel
    clear HD
    have HD := hidden hD
    have HC := hidden hC
    have HM := hidden hM
    clear hD hC hM
    by_cases hlt : j < k
    · obtain ⟨av, cv, rfl⟩ := owns_form HD.out.row
      obtain ⟨m, hm⟩ : ∃ m, (L ++ (low v k).take j).length = m := ⟨_, rfl⟩
      have hmb : m ≤ 1099511627840 := by
        rw [← hm, List.length_append, List.length_take, low_len]
        omega
      obtain ⟨M, hMd⟩ : ∃ M, L ++ (low v k).take j = M := ⟨_, rfl⟩
      rw [hMd] at HD hm
      have hrow := HD.out.row
      rw [hm] at hrow HD
      have c0 : wr.cell? ⟨q, 0, none⟩ = some (.slice av m cv) := HD.out.blk.cell 0
      have hqlt : q < wr.heap.size := HD.out.blk.lt
      obtain ⟨t, ht⟩ : ∃ t, k - 1 - j = t := ⟨_, rfl⟩
      have hti : (k : Int) - 1 - (j : Int) = (t : Int) := by omega
      have HT := hidden ht
      have HMM := hidden hm
      have HMD := hidden hMd
      have HROW := hidden hrow
      have HBE := hidden (bit64_eq v t hv)
      clear ht hm hMd hrow
      rw [hti]
      go_wp2_with fail
      go_region_law (refine step_push _ (by rfl) (.tmp 18) (.tmp 24) 54 (by rfl) 4 i0 (.bool false) 1 Try.underlying54 hi hz0 hz1 hz2 (by rfl) 0 (.slice av m cv) m (M.map Value.bool) (by rfl) (by exact (Chg.drew (fun _ => False) _).owns ((Chg.alloc (fun _ => False) wr _).owns HROW.out (fun _ _ h => h)) (fun _ _ h => h)) ⟨wr.heap.size, 0, none⟩ (.bool (bits .and .u64 ((v : Int) / 2 ^ t) 1 == 1)) (by rfl) (by simp) (by rfl) (by unfold maxLen; omega) (by omega) (Nat.zero_le _) ?_; intro g6 c6 w6 ho6 hp6; obtain ⟨r1, r2, r3, r4⟩ := HD.out.push ho6 HMM.out hp6; have e0 : w6.cell? ⟨q, 0, none⟩ = some (.slice av m cv) := r1.cell 0; have f0 := r1.frozen 0; have HR2 := hidden r2; have HR3 := hidden r3; have HR4 := hidden r4; clear r1 r2 r3 r4 ho6 hp6)
      all_goals
        clear e0 f0 c0
        rw [HBE.out] at HR2
        go_wp2_with fail
        refine ⟨⟨j + 1, some g6, .slice (some ⟨g6, 0, none⟩) (m + 1) c6, by omega, ?_, ?_, HC.out.trans HR3.out (fun i hi hf => fpt_moved HM.out i hi hf), HM.out.trans HR4.out HC.out.size⟩, ?_⟩
        · have := HT.out
          congr 1
          omega
        · rw [low_snoc v k j hlt, ← List.append_assoc, HMD.out, HT.out]
          exact HR2.out
        · show ((t : Int) - 1 + 1).toNat < ((t : Int) + 1).toNat
          omega
    · obtain rfl : j = k := by omega
      go_wp2_with fail
      go_end0
      refine ⟨rfl, rb', ⟨v', ?_⟩, HC.out, HM.out⟩
      have := HD.out
      rw [List.take_of_length_le (by rw [low_len]; omega)] at this
      rw [HKD.out]
      exact this

end Go.Proofs.Ythfapajpmcmfeaa
