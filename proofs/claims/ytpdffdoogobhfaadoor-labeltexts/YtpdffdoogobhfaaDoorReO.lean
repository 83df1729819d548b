/-
  The document's reader: quote.
-/
import Derived.Test.YtpdffdoogobhfaaDoorReI
import Derived.Test.YtpdffdoogobhfaaDoorReH
namespace Go.Proofs.YtpdffdoogobhfaaDoor
open Go.RowKit
set_option linter.unusedVariables false
set_option linter.unusedSimpArgs false

/-- What the document's quote answers. -/
def Qe (S : List UInt8) (a : Nat) (z : Int) (v : ByteArray) (a' : Nat) (z' : Int) : Prop :=
  a ≤ a' ∧ a' ≤ S.length ∧ v.size ≤ 65 ∧ (0 ≤ z → a' = a ∧ z' = z) ∧
  (z < 0 → (z' = z ∧ ∃ acc : List UInt8, v = oft (acc.take 65) ∧ ∀ J p nm, run (S.drop a) a (.s4 J p nm) = run (S.drop a') a' (.s5 (J.add ⟨oft nm, oft acc⟩ p))) ∨
    (z' = (a' : Int) ∧ ∀ J p nm, run (S.drop a) a (.s4 J p nm) = .fault a'))

theorem t65_size (acc : List UInt8) : (oft (acc.take 65)).size = min 65 acc.length := by rw [size_bts, bts_oft, List.length_take]
theorem bts_one (x : UInt8) : bts (strOfNums [(x.toNat : Int)]) = [x] := by
  simp [strOfNums, bts]
theorem t65_less {acc : List UInt8} (h : acc.length ≤ 64) (x : UInt8) : oft (acc.take 65) ++ strOfNums [(x.toNat : Int)] = oft ((acc ++ [x]).take 65) := by
  refine bts_inj ?_
  rw [bts_app, bts_oft, bts_oft, bts_one, List.take_of_length_le (by omega), List.take_of_length_le (by simp; omega)]
theorem t65_more {acc : List UInt8} (h : ¬ acc.length ≤ 64) (x : UInt8) : oft (acc.take 65) = oft ((acc ++ [x]).take 65) := by
  rw [List.take_append_of_le_length (by omega)]
theorem kc56 (x : UInt8) (w : World) (g : Nat) (hg : g = w.heap.size) : (convert 56 9 (.slice (some ⟨g, 0, none⟩) 1 1)).run Tryd.prog (w.alloc (.cells #[.int .u8 (x.toNat : Int)] 5)) = .ok (.string (strOfNums [(x.toNat : Int)])) (w.alloc (.cells #[.int .u8 (x.toNat : Int)] 5)) :=
  run_string_of 56 5 9 Tryd.underlying56 Tryd.underlying5 Tryd.underlying9 (sl_lit _ [(x.toNat : Int)] (fun z hz => by simp at hz; have := x.toNat_lt; omega) 5 _ 1 rfl _ rfl _ hg)

set_option maxRecDepth 100000 in
set_option maxHeartbeats 8000000 in
theorem rquotedP (r : Nat) (s : ByteArray) (a : Nat) (z : Int) (w : World) (h : Re w r s a z) (ha : a ≤ s.size) (hs : s.size ≤ 4611686018427387904) (h32 : z < 0 → (bts s)[a]? ≠ some 32) :
    Calls Tryd.prog 45 #[.pointer (some ⟨r, 0, none⟩)] w fun e w' => ∃ v a' z', e = .returned (.string v) ∧ Qe (bts s) a z v a' z' ∧ Re w' r s a' z' ∧ Chg (fun i => i = r) w w' := by
  have kT := rtakeP r s a z 34 w h ha hs
  have hla : a ≤ (bts s).length := by rw [← size_bts]; exact ha
  by_cases hp : pk (bts s) a z = some 34
  · rw [tkA, if_pos hp, tkZ, if_pos hp] at kT
    have hz : z < 0 := by
      unfold pk at hp
      split at hp
      · assumption
      · cases hp
    have h34 : (bts s)[a]? = some 34 := by rw [pk, if_pos hz] at hp; exact hp
    have hlt : a < s.size := by have := (List.getElem?_eq_some_iff.1 h34).1; rw [← size_bts] at this; exact this
    have hQ : Hid (∀ J p nm, run ((bts s).drop a) a (.s4 J p nm) = run ((bts s).drop (a + 1)) (a + 1) (.qt J p nm [])) := hidden (fun J p nm => by
      rw [drop_at h34, run_some (st' := .qt J p nm []) (by simp [step])])
    have HZ := hidden hz
    clear hp h34 h hz
    go_enter Tryd.func45, Tryd.ntmps45
    go_wp2_with (go_at_call 41; refine kT.mono ?_; rintro e w1 ⟨rfl, h1, hc1⟩; have HR1 := hidden h1; have HC1 := hidden hc1; clear h1 hc1 kT)
    go_loopw [3] (fun s3 wx => ∃ (i : Nat) (acc : List UInt8), s3 = .string (oft (acc.take 65)) ∧ i ≤ s.size ∧ a ≤ i ∧ Hid (∀ J p nm, run ((bts s).drop a) a (.s4 J p nm) = run ((bts s).drop i) i (.qt J p nm acc)) ∧ Hid (Re wx r s i z) ∧ Hid (Chg (fun i => i = r) w wx)) (fun _ wx => s.size - rdAt r wx)
    case atStart => exact ⟨a + 1, [], rfl, by omega, by omega, hQ, HR1, HC1⟩
    case round =>
      rename World => wr
      obtain ⟨i, acc, rfl, his, hai, hrel, hrd, hch⟩ := hrel
      have kP := rpeekP r s i z wr hrd.out hs
      have hli : Hid (i ≤ (bts s).length) := hidden (by rw [← size_bts]; exact his)
      cases hp : pk (bts s) i z with
      | none =>
        rw [hp] at kP
        simp only [pkC, Option.isSome] at kP
        have hno : (bts s)[i]? = none := by rw [pk, if_pos HZ.out] at hp; exact hp
        have HQ2 : Hid (Qe (bts s) a z ⟨#[]⟩ i (failZ i z)) := by
          refine ⟨hai, hli.out, by decide, fun h => absurd h (by have := HZ.out; omega), fun _ => Or.inr ⟨by rw [failZ, if_pos HZ.out], fun J p nm => ?_⟩⟩
          rw [hrel.out J p nm, List.drop_of_length_le (List.getElem?_eq_none_iff.1 hno)]; rfl
        have kF : ∀ n, Calls Tryd.prog 47 #[.pointer (some ⟨r, 0, none⟩)] (wr.drewN n) fun e w' => e = .returned (.tuple #[]) ∧ Re w' r s i (failZ i z) ∧ Chg (fun i => i = r) (wr.drewN n) w' := fun n => rfailP r s i z _ (hrd.out.drewN n)
        clear hp hno hrel
        go_wp2_with (first
          | (go_at_call 42; refine kP.mono ?_; rintro e w1 ⟨rfl, n, rfl⟩; have kG := kF n; clear kP kF)
          | (go_at_call 47; refine kG.mono ?_; rintro e w2 ⟨rfl, h2, hc2⟩; have H2 := hidden h2; have HC2 := hidden hc2; clear kG h2 hc2))
        go_ret
        exact ⟨_, _, _, rfl, HQ2.out, H2.out, hch.out.trans ((Chg.drewN (fun i => i = r) wr _).trans HC2.out (fun _ _ e => e)) (fun _ _ e => e)⟩
      | some x =>
        rw [hp] at kP
        simp only [pkC, Option.isSome] at kP
        have hx : (bts s)[i]? = some x := by rw [pk, if_pos HZ.out] at hp; exact hp
        have hlt2 : i < s.size := by have := (List.getElem?_eq_some_iff.1 hx).1; rw [← size_bts] at this; exact this
        have hrr : Hid (∀ J p nm, run ((bts s).drop a) a (.s4 J p nm) = run (x :: (bts s).drop (i + 1)) i (.qt J p nm acc)) := hidden (fun J p nm => by rw [hrel.out J p nm, drop_at hx])
        have e92 := beq92 x
        have e34 := beq34 x
        have e10 := beq10 x
        have k1 : ∀ n, (wr.drewN n).cell? ⟨r, 1, none⟩ = some (.int .i64 (i : Int)) := fun n => hrd.out.cell 1
        have f1 : ∀ n, (wr.drewN n).frozen? ⟨r, 1, none⟩ = false := fun n => hrd.out.frozen 1
        have HS : Hid (∀ n, Re ((wr.drewN n).setCell ⟨r, 1, none⟩ (.int .i64 ((i : Int) + 1))) r s (i + 1) z) := hidden (fun n => by have := (hrd.out.drewN n).set (i + 1); simpa using this)
        have HCS : Hid (∀ n, Chg (fun i => i = r) w ((wr.drewN n).setCell ⟨r, 1, none⟩ (.int .i64 ((i : Int) + 1)))) := hidden (fun n => by have := chg_step (b := i + 1) (n := n) hch.out; simpa using this)
        clear hp hx hrel
        by_cases h1 : x = 10
        · rw [decide_eq_true h1] at e10
          have HQ2 : Hid (Qe (bts s) a z ⟨#[]⟩ i (failZ i z)) := by
            refine ⟨hai, hli.out, by decide, fun h => absurd h (by have := HZ.out; omega), fun _ => Or.inr ⟨by rw [failZ, if_pos HZ.out], fun J p nm => ?_⟩⟩
            rw [hrr.out J p nm, run_none (by subst h1; simp [step])]
          have kF : ∀ n, Calls Tryd.prog 47 #[.pointer (some ⟨r, 0, none⟩)] (wr.drewN n) fun e w' => e = .returned (.tuple #[]) ∧ Re w' r s i (failZ i z) ∧ Chg (fun i => i = r) (wr.drewN n) w' := fun n => rfailP r s i z _ (hrd.out.drewN n)
          clear h1 hrr k1 f1 e92 e34 HS HCS
          go_wp2_with (first
            | (go_at_call 42; refine kP.mono ?_; rintro e w1 ⟨rfl, n, rfl⟩; have kG := kF n; clear kP kF)
            | (go_at_call 47; refine kG.mono ?_; rintro e w2 ⟨rfl, h2, hc2⟩; have H2 := hidden h2; have HC2 := hidden hc2; clear kG h2 hc2))
          go_ret
          exact ⟨_, _, _, rfl, HQ2.out, H2.out, hch.out.trans ((Chg.drewN (fun i => i = r) wr _).trans HC2.out (fun _ _ e => e)) (fun _ _ e => e)⟩
        · rw [decide_eq_false h1] at e10
          by_cases h2 : x = 34
          · rw [decide_eq_true h2] at e34
            have HQ2 : Hid (Qe (bts s) a z (oft (acc.take 65)) (i + 1) z) := by
              refine ⟨by omega, by rw [← size_bts]; omega, by rw [t65_size]; omega, fun h => absurd h (by have := HZ.out; omega), fun _ => Or.inl ⟨rfl, acc, rfl, fun J p nm => ?_⟩⟩
              rw [hrr.out J p nm, run_some (st' := .s5 (J.add ⟨oft nm, oft acc⟩ p)) (by simp [step, h2])]
            clear h1 h2 hrr e92
            go_wp2_with (go_at_call 42; refine kP.mono ?_; rintro e w1 ⟨rfl, n, rfl⟩; have d1 := k1 n; have g1 := f1 n; clear kP k1 f1)
            go_ret
            exact ⟨_, _, _, rfl, HQ2.out, HS.out _, HCS.out _⟩
          · rw [decide_eq_false h2] at e34
            by_cases h3 : x = 92
            · rw [decide_eq_true h3] at e92
              have hrr2 : Hid (∀ J p nm, run ((bts s).drop a) a (.s4 J p nm) = run ((bts s).drop (i + 1)) (i + 1) (.es J p nm acc)) := hidden (fun J p nm => by rw [hrr.out J p nm, run_some (st' := .es J p nm acc) (by simp [step, h1, h2, h3])])
              have kP2 : ∀ w5, Re w5 r s (i + 1) z → Calls Tryd.prog 42 #[.pointer (some ⟨r, 0, none⟩)] w5 fun e w' => e = .returned (.tuple #[.int .u8 (pkC (pk (bts s) (i + 1) z) : Int), .bool (pk (bts s) (i + 1) z).isSome]) ∧ ∃ n, w' = w5.drewN n := fun w5 h5 => rpeekP r s (i + 1) z w5 h5 hs
              have hli1 : Hid (i + 1 ≤ (bts s).length) := hidden (by rw [← size_bts]; omega)
              clear h1 h2 h3 hrr
              cases hp2 : pk (bts s) (i + 1) z with
              | none =>
                rw [hp2] at kP2
                simp only [pkC, Option.isSome] at kP2
                have hno : (bts s)[i + 1]? = none := by rw [pk, if_pos HZ.out] at hp2; exact hp2
                have HQ2 : Hid (Qe (bts s) a z ⟨#[]⟩ (i + 1) (failZ (i + 1) z)) := by
                  refine ⟨by omega, hli1.out, by decide, fun h => absurd h (by have := HZ.out; omega), fun _ => Or.inr ⟨by rw [failZ, if_pos HZ.out], fun J p nm => ?_⟩⟩
                  rw [hrr2.out J p nm, List.drop_of_length_le (List.getElem?_eq_none_iff.1 hno)]; rfl
                have kF : ∀ w5, Re w5 r s (i + 1) z → Calls Tryd.prog 47 #[.pointer (some ⟨r, 0, none⟩)] w5 fun e w' => e = .returned (.tuple #[]) ∧ Re w' r s (i + 1) (failZ (i + 1) z) ∧ Chg (fun i => i = r) w5 w' := fun w5 h5 => rfailP r s (i + 1) z _ h5
                clear hp2 hno hrr2
                go_wp2_with (first
                  | (go_at_call 42; refine kP.mono ?_; rintro e w1 ⟨rfl, n, rfl⟩; have d1 := k1 n; have g1 := f1 n; have KQ := hidden (HS.out n); have KC := hidden (HCS.out n); clear kP k1 f1)
                  | (go_at_call 42; refine (kP2 _ KQ.out).mono ?_; rintro e w2 ⟨rfl, m, rfl⟩; have kG := kF _ (KQ.out.drewN m); clear kP2 kF)
                  | (go_at_call 47; refine kG.mono ?_; rintro e w3 ⟨rfl, h2, hc2⟩; have H2 := hidden h2; have HC2 := hidden hc2; clear kG h2 hc2))
                go_ret
                exact ⟨_, _, _, rfl, HQ2.out, H2.out, KC.out.trans ((Chg.drewN (fun i => i = r) _ _).trans HC2.out (fun _ _ e => e)) (fun _ _ e => e)⟩
              | some y =>
                rw [hp2] at kP2
                simp only [pkC, Option.isSome] at kP2
                have hy : (bts s)[i + 1]? = some y := by rw [pk, if_pos HZ.out] at hp2; exact hp2
                have hlt3 : i + 1 < s.size := by have := (List.getElem?_eq_some_iff.1 hy).1; rw [← size_bts] at this; exact this
                have a92 := beq92 y
                have a34 := beq34 y
                have a110 := beq110 y
                have b92 : (((y.toNat : Nat) : Int) != 92) = !decide (y = 92) := by rw [bne, beq92]
                have b34 : (((y.toNat : Nat) : Int) != 34) = !decide (y = 34) := by rw [bne, beq34]
                have b110 : (((y.toNat : Nat) : Int) != 110) = !decide (y = 110) := by rw [bne, beq110]
                have hrr3 : Hid (∀ J p nm, run ((bts s).drop a) a (.s4 J p nm) = run (y :: (bts s).drop (i + 1 + 1)) (i + 1) (.es J p nm acc)) := hidden (fun J p nm => by rw [hrr2.out J p nm, drop_at hy])
                clear hp2 hy hrr2
                by_cases hE : y = 92 ∨ y = 34 ∨ y = 110
                · have hs2 : Hid (∀ (w5 : World), Re w5 r s (i + 1) z → ∀ q, Re ((w5.drewN q).setCell ⟨r, 1, none⟩ (.int .i64 ((i : Int) + 1 + 1))) r s (i + 2) z) := hidden (fun w5 h5 q => by have := (h5.drewN q).set (i + 2); simpa [show ((i : Int) + 1 + 1) = (i : Int) + 2 by omega] using this)
                  have hc5 : Hid (∀ (w5 : World), Chg (fun i => i = r) w w5 → ∀ q, Chg (fun i => i = r) w ((w5.drewN q).setCell ⟨r, 1, none⟩ (.int .i64 ((i : Int) + 1 + 1)))) := hidden (fun w5 h5 q => by have := chg_step (b := i + 2) (n := q) h5; simpa [show ((i : Int) + 1 + 1) = (i : Int) + 2 by omega] using this)
                  have KB : Hid (∀ (w5 : World), Re w5 r s (i + 1) z → ∀ q, (w5.drewN q).cell? ⟨r, 1, none⟩ = some (.int .i64 ((i : Int) + 1)) ∧ (w5.drewN q).frozen? ⟨r, 1, none⟩ = false) := hidden (fun w5 h5 q => ⟨by have := h5.cell 1; simpa using this, h5.frozen 1⟩)
                  have HN : Hid (∀ m : UInt8, m = (if y = 110 then 10 else y) → ∀ J p nm, run ((bts s).drop a) a (.s4 J p nm) = run ((bts s).drop (i + 2)) (i + 2) (.qt J p nm (acc ++ [m]))) := hidden (fun m hm J p nm => by
                    rw [hrr3.out J p nm, run_some (st' := .qt J p nm (acc ++ [m]))]
                    rw [hm]
                    rcases hE with e | e | e <;> subst e <;> simp [step])
                  clear hrr3
                  have hT := t65_size acc
                  obtain ⟨T, hTe⟩ : ∃ T, oft (acc.take 65) = T := ⟨_, rfl⟩
                  rw [hTe] at hT
                  have HTE := hidden hTe
                  rw [hTe]
                  rcases hE with e | e | e
                  · rw [decide_eq_true e] at b92
                    rw [decide_eq_false (by rw [e]; decide)] at a110
                    clear a34 a92 b34 b110
                    simp only [Bool.not_true] at b92
                    have HN2 := hidden (HN.out y (by rw [e]; rfl))
                    clear HN e
                    by_cases hl : acc.length ≤ 64
                    · have hT2 : (T.size : Int) ≤ 64 := by omega
                      have hT3 : T.size + (strOfNums [(y.toNat : Int)]).size ≤ 9223372036854775807 := by rw [size_bts (strOfNums _), bts_one]; simp; omega
                      have HL : Hid (oft (acc.take 65) ++ strOfNums [(y.toNat : Int)] = oft ((acc ++ [y]).take 65)) := hidden (t65_less hl y)
                      have kc : ∀ n m' : Nat, (convert 56 9 (.slice (some ⟨wr.heap.size, 0, none⟩) 1 1)).run Tryd.prog (((((wr.drewN n).setCell ⟨r, 1, none⟩ (.int .i64 ((i : Int) + 1))).drewN m').setCell ⟨r, 1, none⟩ (.int .i64 ((i : Int) + 1 + 1))).alloc (.cells #[.int .u8 (y.toNat : Int)] 5)) = .ok (.string (strOfNums [(y.toNat : Int)])) (((((wr.drewN n).setCell ⟨r, 1, none⟩ (.int .i64 ((i : Int) + 1))).drewN m').setCell ⟨r, 1, none⟩ (.int .i64 ((i : Int) + 1 + 1))).alloc (.cells #[.int .u8 (y.toNat : Int)] 5)) := fun n m' => kc56 y _ _ (by simp)
                      clear hl hT hTe
                      go_wp2_with (first
                        | (go_at_call 42; refine kP.mono ?_; rintro e w1 ⟨rfl, n, rfl⟩; have d1 := k1 n; have g1 := f1 n; have KQ := hidden (HS.out n); have KC := hidden (HCS.out n); clear kP k1 f1)
                        | (go_at_call 42; refine (kP2 _ KQ.out).mono ?_; rintro e w2 ⟨rfl, m', rfl⟩; obtain ⟨d2, g2⟩ := KB.out _ KQ.out m'; clear kP2))
                      have hB := (Below.refl _ ((((wr.drewN n).setCell ⟨r, 1, none⟩ (.int .i64 ((i : Int) + 1))).drewN m').setCell ⟨r, 1, none⟩ (.int .i64 ((i : Int) + 1 + 1)))).alloc (Nat.le_refl _) (.cells #[.int .u8 (y.toNat : Int)] 5)
                      have hR := (hs2.out _ KQ.out m').later hB
                      refine ⟨⟨i + 2, acc ++ [y], by rw [← HL.out, HTE.out], by omega, by omega, HN2, hR, hidden ((hc5.out _ KC.out m').trans (Chg.of_below hB) (fun _ _ e => e))⟩, ?_⟩
                      rw [Re.at' hR, hrd.out.at']
                      omega
                    · have hT2 : ¬ (T.size : Int) ≤ 64 := by omega
                      have HL := hidden (t65_more hl y)
                      clear hl hT hTe
                      go_wp2_with (first
                        | (go_at_call 42; refine kP.mono ?_; rintro e w1 ⟨rfl, n, rfl⟩; have d1 := k1 n; have g1 := f1 n; have KQ := hidden (HS.out n); have KC := hidden (HCS.out n); clear kP k1 f1)
                        | (go_at_call 42; refine (kP2 _ KQ.out).mono ?_; rintro e w2 ⟨rfl, m', rfl⟩; obtain ⟨d2, g2⟩ := KB.out _ KQ.out m'; clear kP2))
                      have hR := hs2.out _ KQ.out m'
                      refine ⟨⟨i + 2, acc ++ [y], by rw [← HL.out, HTE.out], by omega, by omega, HN2, hR, hidden (hc5.out _ KC.out m')⟩, ?_⟩
                      rw [Re.at' hR, hrd.out.at']
                      omega
                  · rw [decide_eq_false (by rw [e]; decide)] at b92
                    rw [decide_eq_true e] at b34
                    rw [decide_eq_false (by rw [e]; decide)] at a110
                    clear a34 a92 b110
                    simp only [Bool.not_true, Bool.not_false] at b92 b34
                    have HN2 := hidden (HN.out y (by rw [e]; rfl))
                    clear HN e
                    by_cases hl : acc.length ≤ 64
                    · have hT2 : (T.size : Int) ≤ 64 := by omega
                      have hT3 : T.size + (strOfNums [(y.toNat : Int)]).size ≤ 9223372036854775807 := by rw [size_bts (strOfNums _), bts_one]; simp; omega
                      have HL : Hid (oft (acc.take 65) ++ strOfNums [(y.toNat : Int)] = oft ((acc ++ [y]).take 65)) := hidden (t65_less hl y)
                      have kc : ∀ n m' : Nat, (convert 56 9 (.slice (some ⟨wr.heap.size, 0, none⟩) 1 1)).run Tryd.prog (((((wr.drewN n).setCell ⟨r, 1, none⟩ (.int .i64 ((i : Int) + 1))).drewN m').setCell ⟨r, 1, none⟩ (.int .i64 ((i : Int) + 1 + 1))).alloc (.cells #[.int .u8 (y.toNat : Int)] 5)) = .ok (.string (strOfNums [(y.toNat : Int)])) (((((wr.drewN n).setCell ⟨r, 1, none⟩ (.int .i64 ((i : Int) + 1))).drewN m').setCell ⟨r, 1, none⟩ (.int .i64 ((i : Int) + 1 + 1))).alloc (.cells #[.int .u8 (y.toNat : Int)] 5)) := fun n m' => kc56 y _ _ (by simp)
                      clear hl hT hTe
                      go_wp2_with (first
                        | (go_at_call 42; refine kP.mono ?_; rintro e w1 ⟨rfl, n, rfl⟩; have d1 := k1 n; have g1 := f1 n; have KQ := hidden (HS.out n); have KC := hidden (HCS.out n); clear kP k1 f1)
                        | (go_at_call 42; refine (kP2 _ KQ.out).mono ?_; rintro e w2 ⟨rfl, m', rfl⟩; obtain ⟨d2, g2⟩ := KB.out _ KQ.out m'; clear kP2))
                      have hB := (Below.refl _ ((((wr.drewN n).setCell ⟨r, 1, none⟩ (.int .i64 ((i : Int) + 1))).drewN m').setCell ⟨r, 1, none⟩ (.int .i64 ((i : Int) + 1 + 1)))).alloc (Nat.le_refl _) (.cells #[.int .u8 (y.toNat : Int)] 5)
                      have hR := (hs2.out _ KQ.out m').later hB
                      refine ⟨⟨i + 2, acc ++ [y], by rw [← HL.out, HTE.out], by omega, by omega, HN2, hR, hidden ((hc5.out _ KC.out m').trans (Chg.of_below hB) (fun _ _ e => e))⟩, ?_⟩
                      rw [Re.at' hR, hrd.out.at']
                      omega
                    · have hT2 : ¬ (T.size : Int) ≤ 64 := by omega
                      have HL := hidden (t65_more hl y)
                      clear hl hT hTe
                      go_wp2_with (first
                        | (go_at_call 42; refine kP.mono ?_; rintro e w1 ⟨rfl, n, rfl⟩; have d1 := k1 n; have g1 := f1 n; have KQ := hidden (HS.out n); have KC := hidden (HCS.out n); clear kP k1 f1)
                        | (go_at_call 42; refine (kP2 _ KQ.out).mono ?_; rintro e w2 ⟨rfl, m', rfl⟩; obtain ⟨d2, g2⟩ := KB.out _ KQ.out m'; clear kP2))
                      have hR := hs2.out _ KQ.out m'
                      refine ⟨⟨i + 2, acc ++ [y], by rw [← HL.out, HTE.out], by omega, by omega, HN2, hR, hidden (hc5.out _ KC.out m')⟩, ?_⟩
                      rw [Re.at' hR, hrd.out.at']
                      omega
                  · rw [decide_eq_false (by rw [e]; decide)] at b92
                    rw [decide_eq_false (by rw [e]; decide)] at b34
                    rw [decide_eq_true e] at b110
                    rw [decide_eq_true e] at a110
                    clear a34 a92
                    simp only [Bool.not_true, Bool.not_false] at b92 b34 b110
                    have HN2 := hidden (HN.out 10 (by rw [e]; rfl))
                    clear HN e
                    by_cases hl : acc.length ≤ 64
                    · have hT2 : (T.size : Int) ≤ 64 := by omega
                      have hT3 : T.size + (strOfNums [(10 : Int)]).size ≤ 9223372036854775807 := by rw [size_bts (strOfNums _), show bts (strOfNums [10]) = [10] from bts_one 10]; simp; omega
                      have HL : Hid (oft (acc.take 65) ++ strOfNums [(10 : Int)] = oft ((acc ++ [10]).take 65)) := hidden (t65_less hl 10)
                      have kc : ∀ n m' : Nat, (convert 56 9 (.slice (some ⟨wr.heap.size, 0, none⟩) 1 1)).run Tryd.prog (((((wr.drewN n).setCell ⟨r, 1, none⟩ (.int .i64 ((i : Int) + 1))).drewN m').setCell ⟨r, 1, none⟩ (.int .i64 ((i : Int) + 1 + 1))).alloc (.cells #[.int .u8 (10 : Int)] 5)) = .ok (.string (strOfNums [(10 : Int)])) (((((wr.drewN n).setCell ⟨r, 1, none⟩ (.int .i64 ((i : Int) + 1))).drewN m').setCell ⟨r, 1, none⟩ (.int .i64 ((i : Int) + 1 + 1))).alloc (.cells #[.int .u8 (10 : Int)] 5)) := fun n m' => kc56 10 _ _ (by simp)
                      clear hl hT hTe
                      go_wp2_with (first
                        | (go_at_call 42; refine kP.mono ?_; rintro e w1 ⟨rfl, n, rfl⟩; have d1 := k1 n; have g1 := f1 n; have KQ := hidden (HS.out n); have KC := hidden (HCS.out n); clear kP k1 f1)
                        | (go_at_call 42; refine (kP2 _ KQ.out).mono ?_; rintro e w2 ⟨rfl, m', rfl⟩; obtain ⟨d2, g2⟩ := KB.out _ KQ.out m'; clear kP2))
                      have hB := (Below.refl _ ((((wr.drewN n).setCell ⟨r, 1, none⟩ (.int .i64 ((i : Int) + 1))).drewN m').setCell ⟨r, 1, none⟩ (.int .i64 ((i : Int) + 1 + 1)))).alloc (Nat.le_refl _) (.cells #[.int .u8 (10 : Int)] 5)
                      have hR := (hs2.out _ KQ.out m').later hB
                      refine ⟨⟨i + 2, acc ++ [10], by rw [← HL.out, HTE.out], by omega, by omega, HN2, hR, hidden ((hc5.out _ KC.out m').trans (Chg.of_below hB) (fun _ _ e => e))⟩, ?_⟩
                      rw [Re.at' hR, hrd.out.at']
                      omega
                    · have hT2 : ¬ (T.size : Int) ≤ 64 := by omega
                      have HL := hidden (t65_more hl 10)
                      clear hl hT hTe
                      go_wp2_with (first
                        | (go_at_call 42; refine kP.mono ?_; rintro e w1 ⟨rfl, n, rfl⟩; have d1 := k1 n; have g1 := f1 n; have KQ := hidden (HS.out n); have KC := hidden (HCS.out n); clear kP k1 f1)
                        | (go_at_call 42; refine (kP2 _ KQ.out).mono ?_; rintro e w2 ⟨rfl, m', rfl⟩; obtain ⟨d2, g2⟩ := KB.out _ KQ.out m'; clear kP2))
                      have hR := hs2.out _ KQ.out m'
                      refine ⟨⟨i + 2, acc ++ [10], by rw [← HL.out, HTE.out], by omega, by omega, HN2, hR, hidden (hc5.out _ KC.out m')⟩, ?_⟩
                      rw [Re.at' hR, hrd.out.at']
                      omega
                · obtain ⟨n92, n34, n110⟩ : y ≠ 92 ∧ y ≠ 34 ∧ y ≠ 110 := ⟨fun e => hE (Or.inl e), fun e => hE (Or.inr (Or.inl e)), fun e => hE (Or.inr (Or.inr e))⟩
                  rw [decide_eq_false n92] at b92
                  rw [decide_eq_false n34] at b34
                  rw [decide_eq_false n110] at b110
                  simp only [Bool.not_false] at b92 b34 b110
                  clear a92 a34 a110
                  have HQ2 : Hid (Qe (bts s) a z ⟨#[]⟩ (i + 1) (failZ (i + 1) z)) := by
                    refine ⟨by omega, hli1.out, by decide, fun h => absurd h (by have := HZ.out; omega), fun _ => Or.inr ⟨by rw [failZ, if_pos HZ.out], fun J p nm => ?_⟩⟩
                    rw [hrr3.out J p nm, run_none (by simp [step, n92, n34, n110])]
                  have kF : ∀ w5, Re w5 r s (i + 1) z → Calls Tryd.prog 47 #[.pointer (some ⟨r, 0, none⟩)] w5 fun e w' => e = .returned (.tuple #[]) ∧ Re w' r s (i + 1) (failZ (i + 1) z) ∧ Chg (fun i => i = r) w5 w' := fun w5 h5 => rfailP r s (i + 1) z _ h5
                  clear hE n92 n34 n110 hrr3
                  go_wp2_with (first
                    | (go_at_call 42; refine kP.mono ?_; rintro e w1 ⟨rfl, n, rfl⟩; have d1 := k1 n; have g1 := f1 n; have KQ := hidden (HS.out n); have KC := hidden (HCS.out n); clear kP k1 f1)
                    | (go_at_call 42; refine (kP2 _ KQ.out).mono ?_; rintro e w2 ⟨rfl, m, rfl⟩; have kG := kF _ (KQ.out.drewN m); clear kP2 kF)
                    | (go_at_call 47; refine kG.mono ?_; rintro e w3 ⟨rfl, h2, hc2⟩; have H2 := hidden h2; have HC2 := hidden hc2; clear kG h2 hc2))
                  go_ret
                  exact ⟨_, _, _, rfl, HQ2.out, H2.out, KC.out.trans ((Chg.drewN (fun i => i = r) _ _).trans HC2.out (fun _ _ e => e)) (fun _ _ e => e)⟩
            · rw [decide_eq_false h3] at e92
              have HN : Hid (∀ J p nm, run ((bts s).drop a) a (.s4 J p nm) = run ((bts s).drop (i + 1)) (i + 1) (.qt J p nm (acc ++ [x]))) := hidden (fun J p nm => by rw [hrr.out J p nm, run_some (st' := .qt J p nm (acc ++ [x])) (by simp [step, h1, h2, h3])])
              have kc : ∀ n : Nat, (convert 56 9 (.slice (some ⟨wr.heap.size, 0, none⟩) 1 1)).run Tryd.prog (((wr.drewN n).setCell ⟨r, 1, none⟩ (.int .i64 ((i : Int) + 1))).alloc (.cells #[.int .u8 (x.toNat : Int)] 5)) = .ok (.string (strOfNums [(x.toNat : Int)])) (((wr.drewN n).setCell ⟨r, 1, none⟩ (.int .i64 ((i : Int) + 1))).alloc (.cells #[.int .u8 (x.toNat : Int)] 5)) := fun n => kc56 x _ _ (by simp)
              have hT := t65_size acc
              obtain ⟨T, hTe⟩ : ∃ T, oft (acc.take 65) = T := ⟨_, rfl⟩
              rw [hTe] at hT
              have HTE := hidden hTe
              clear h1 h2 h3 hrr
              by_cases hl : acc.length ≤ 64
              · have hT2 : (T.size : Int) ≤ 64 := by omega
                have hT3 : T.size + (strOfNums [(x.toNat : Int)]).size ≤ 9223372036854775807 := by rw [size_bts (strOfNums _), bts_one]; simp; omega
                have HL := hidden (t65_less hl x)
                clear hl hT
                rw [hTe]
                clear hTe
                go_wp2_with (go_at_call 42; refine kP.mono ?_; rintro e w1 ⟨rfl, n, rfl⟩; have d1 := k1 n; have g1 := f1 n; clear kP k1 f1)
                have hB := (Below.refl _ ((wr.drewN n).setCell ⟨r, 1, none⟩ (.int .i64 ((i : Int) + 1)))).alloc (Nat.le_refl _) (.cells #[.int .u8 (x.toNat : Int)] 5)
                have hR := (HS.out n).later hB
                refine ⟨⟨i + 1, acc ++ [x], by rw [← HL.out, HTE.out], by omega, by omega, HN, hR, hidden ((HCS.out n).trans (Chg.of_below hB) (fun _ _ e => e))⟩, ?_⟩
                rw [Re.at' hR, hrd.out.at']
                omega
              · have hT2 : ¬ (T.size : Int) ≤ 64 := by omega
                have HL := hidden (t65_more hl x)
                clear hl hT
                rw [hTe]
                clear hTe
                go_wp2_with (go_at_call 42; refine kP.mono ?_; rintro e w1 ⟨rfl, n, rfl⟩; have d1 := k1 n; have g1 := f1 n; clear kP k1 f1)
                refine ⟨⟨i + 1, acc ++ [x], by rw [← HL.out, HTE.out], by omega, by omega, HN, HS.out n, hidden (HCS.out n)⟩, ?_⟩
                rw [Re.at' (HS.out n), hrd.out.at']
                omega
  · rw [tkA, if_neg hp, tkZ, if_neg hp] at kT
    have hz1 : (0 : Int) ≤ failZ a z := by unfold failZ; split <;> omega
    have HQ2 : Hid (Qe (bts s) a z ⟨#[]⟩ a (failZ a (failZ a z))) := by
      have e : failZ a (failZ a z) = failZ a z := by rw [failZ, if_neg (by omega)]
      rw [e]
      refine ⟨Nat.le_refl _, hla, by decide, fun h => ⟨rfl, by rw [failZ, if_neg (by omega)]⟩, fun hz => Or.inr ⟨by rw [failZ, if_pos hz], fun J p nm => ?_⟩⟩
      rw [pk, if_pos hz] at hp
      cases hx : (bts s)[a]? with
      | none => rw [List.drop_of_length_le (List.getElem?_eq_none_iff.1 hx)]; rfl
      | some x =>
        rw [drop_at hx, run_none]
        have h1 : x ≠ 34 := fun e => hp (by rw [hx, e])
        have h2 : x ≠ 32 := fun e => h32 hz (by rw [hx, e])
        simp [step, h1, h2]
    have hpn : pk (bts s) a (failZ a z) = none := by rw [pk, if_neg (by omega)]
    have kP : ∀ w5, Re w5 r s a (failZ a z) → Calls Tryd.prog 42 #[.pointer (some ⟨r, 0, none⟩)] w5 fun e w' => e = .returned (.tuple #[.int .u8 (pkC (pk (bts s) a (failZ a z)) : Int), .bool (pk (bts s) a (failZ a z)).isSome]) ∧ ∃ n, w' = w5.drewN n := fun w5 h5 => rpeekP r s a (failZ a z) w5 h5 hs
    rw [hpn] at kP
    simp only [pkC, Option.isSome] at kP
    have kF : ∀ w5, Re w5 r s a (failZ a z) → Calls Tryd.prog 47 #[.pointer (some ⟨r, 0, none⟩)] w5 fun e w' => e = .returned (.tuple #[]) ∧ Re w' r s a (failZ a (failZ a z)) ∧ Chg (fun i => i = r) w5 w' := fun w5 h5 => rfailP r s a (failZ a z) _ h5
    clear hp hpn h
    go_enter Tryd.func45, Tryd.ntmps45
    go_wp2_with (go_at_call 41; refine kT.mono ?_; rintro e w1 ⟨rfl, h1, hc1⟩; have HR1 := hidden h1; have HC1 := hidden hc1; clear h1 hc1 kT)
    go_loopw [3] (fun s3 wx => wx = w1) (fun _ wx => 0)
    case atStart => exact rfl
    case round =>
      subst hrel
      go_wp2_with (first
        | (go_at_call 42; refine (kP _ HR1.out).mono ?_; rintro e w2 ⟨rfl, n, rfl⟩; have kG := kF _ (HR1.out.drewN n); clear kP kF)
        | (go_at_call 47; refine kG.mono ?_; rintro e w3 ⟨rfl, h2, hc2⟩; have H2 := hidden h2; have HC2 := hidden hc2; clear kG h2 hc2))
      go_ret
      exact ⟨_, _, _, rfl, HQ2.out, H2.out, HC1.out.trans ((Chg.drewN (fun i => i = r) _ _).trans HC2.out (fun _ _ e => e)) (fun _ _ e => e)⟩

end Go.Proofs.YtpdffdoogobhfaaDoor
