/-
  The program's reader: a matcher.
-/
import Derived.Test.YtanlgplgplncdaaDoorMrD
import Derived.Test.YtanlgplgplncdaaDoorMtI
namespace Go.Proofs.YtanlgplgplncdaaDoor.L
open Go.RowKit
set_option linter.unusedVariables false
set_option linter.unusedSimpArgs false

theorem run_wd (J : Jm) (p : Nat) : ∀ (l : List UInt8) (i : Nat) (nm : List UInt8), runM l i (.wd J p nm) = runM (l.drop (wsz false l)) (i + wsz false l) (.s3 J p (nm ++ l.take (wsz false l)))
  | [], i, nm => by simp [wsz, runM_nil]; rfl
  | c :: t, i, nm => by
    unfold wsz
    by_cases hl : lead false c = true
    · rw [if_pos hl, runM_some (st' := .wd J p (nm ++ [c])) (by simp [stepM, hl]), run_wd J p t (i + 1) (nm ++ [c])]
      simp only [List.drop_succ_cons, List.take_succ_cons, List.append_assoc, List.singleton_append]
      congr 1
      omega
    · rw [if_neg hl]
      have hlf : lead false c = false := by simpa using hl
      simp only [List.drop_zero, List.take_zero, List.append_nil, Nat.add_zero]
      by_cases h1 : c = 32
      · subst h1
        rw [runM_some (st' := .s3 J p nm) (by simp [stepM, hlf]), runM_some (st' := .s3 J p nm) (by simp [stepM])]
      · by_cases h2 : c = 61
        · subst h2
          rw [runM_some (st' := .eq J p nm) (by simp [stepM, hlf]), runM_some (st' := .eq J p nm) (by simp [stepM])]
        · by_cases h3 : c = 33
          · subst h3
            rw [runM_some (st' := .ba J p nm) (by simp [stepM, hlf]), runM_some (st' := .ba J p nm) (by simp [stepM])]
          · rw [runM_none (by simp [stepM, hlf, h1, h2, h3]), runM_none (by simp [stepM, h1, h2, h3])]
theorem run_word {S : List UInt8} {a : Nat} (h0 : 0 < wsz true (S.drop a)) (J : Jm) : runM (S.drop a) a (.s2 J) = runM (S.drop (wAt S a)) (wAt S a) (.s3 J a ((S.drop a).take (wsz true (S.drop a)))) := by
  unfold wAt
  rw [← List.drop_drop]
  cases hd : S.drop a with
  | nil => rw [hd] at h0; simp [wsz] at h0
  | cons c t =>
    rw [hd] at h0
    unfold wsz at h0 ⊢
    by_cases hl : lead true c = true
    · rw [if_pos hl]
      have hlt : lett c = true := by simpa [lead] using hl
      have n32 : c ≠ 32 := by rintro rfl; revert hlt; decide
      rw [runM_some (st' := .wd J a [c]) (by simp [stepM, n32, hlt]), run_wd J a t (a + 1) [c]]
      simp only [List.drop_succ_cons, List.take_succ_cons, List.singleton_append]
      congr 1
      omega
    · rw [if_neg hl] at h0; omega
theorem run_noword {S : List UInt8} {a : Nat} (h0 : wsz true (S.drop a) = 0) (h32 : S[a]? ≠ some 32) (J : Jm) : runM (S.drop a) a (.s2 J) = .fault a := by
  refine run_none_of (fun x hx => ?_) (fun _ => rfl)
  have n32 : x ≠ 32 := fun e => h32 (by rw [hx, e])
  rw [drop_at hx] at h0
  unfold wsz at h0
  have hlt : lett x = false := by
    cases hl : lett x with
    | false => rfl
    | true => rw [if_pos (by unfold lead; rw [hl]; rfl)] at h0; omega
  simp [stepM, n32, hlt]

def MaD (S : List UInt8) (a : Nat) (m : Mt) (a' : Nat) (ok : Bool) : Prop :=
  a ≤ a' ∧ a' ≤ S.length ∧ OkM m ∧ (ok = true → ∀ J, runM (S.drop a) a (.s2 J) = runM (S.drop a') a' (.s5 (J.add m a))) ∧ (ok = false → ∀ J, runM (S.drop a) a (.s2 J) = .fault a')
theorem info31z : (Tryd.prog.info? 31).map (fun i => i.zero.map (·.cells)) = some (some (mC zM).toArray) := by kernel_rfl
theorem built31z : Tryd.prog.built 31 [] = some (mC zM).toArray := by kernel_rfl
theorem built31 (x y : ByteArray) (o : Int) : Tryd.prog.built 31 [(0, .string x), (1, .int .i64 o), (2, .string y)] = some (mC ⟨x, o, y⟩).toArray := by kernel_rfl
theorem okM_z : OkM zM := ⟨by show 0 ≤ _; omega, by show 0 ≤ _; omega, by show (-9223372036854775808 : Int) ≤ 0; omega, by show (0 : Int) ≤ _; omega⟩
theorem res_matcher (tmps : Array Value) (w : World) (g : Nat) (x : Mt) (c : Value) (hp : tmps.getD 2 undef = .pointer (some ⟨g, 0, none⟩)) (h : Blk w g 31 (mC x)) (h3 : tmps.getD 3 undef = c) :
    (results Tryd.f30 tmps).run Tryd.prog w = .ok (.tuple #[.agg (mC x).toArray, c]) w := by
  have hr : Tryd.f30.results = #[.cell 2 31, .tmp 3] := by kernel_rfl
  have hp' : tmps[2]?.getD undef = .pointer (some ⟨g, 0, none⟩) := by simpa using hp
  have h3' : tmps[3]?.getD undef = c := by simpa using h3
  have c0 := h.cell 0
  have c1 := h.cell 1
  have c2 := h.cell 2
  simp [mC] at c0 c1 c2
  simp [results, hr, hp', h3', asAddr, loadVar, c0, c1, c2, mC, go_sem]
theorem size_oft (l : List UInt8) : (oft l).size = l.length := by rw [size_bts, bts_oft]

set_option maxRecDepth 100000 in
set_option maxHeartbeats 4000000 in
theorem matcherP (r : Nat) (s : ByteArray) (a : Nat) (w : World) (h : Rd w r s a) (ha : a ≤ s.size) (hs : s.size ≤ 140737488355328) (h32 : (bts s)[a]? ≠ some 32) :
    Calls Tryd.prog 30 #[.pointer (some ⟨r, 0, none⟩)] w fun e w' => ∃ (m : Mt) (a' : Nat) (ok : Bool), e = .returned (.tuple #[.agg (mC m).toArray, .bool ok]) ∧ MaD (bts s) a m a' ok ∧ Rd w' r s a' ∧ Chg (fun i => i = r) w w' := by
  have hsz := size_bts s
  have HSZ := hidden hsz
  have haS : a ≤ (bts s).length := by omega
  have hwl := wAt_le haS
  have hwg := wAt_ge (bts s) a
  have WOR : Hid (∀ w1, Rd w1 r s a → Calls Tryd.prog 40 #[.pointer (some ⟨r, 0, none⟩)] w1 fun e w' => e = .returned (.tuple #[.string (oft (((bts s).drop a).take (wsz true ((bts s).drop a)))), .bool (decide (0 < wsz true ((bts s).drop a)))]) ∧ Rd w' r s (wAt (bts s) a) ∧ Chg (fun i => i = r) w1 w') := hidden (fun w1 h1 => wordP r s a w1 h1 ha hs)
  have OPP : Hid (∀ w1 b, b ≤ s.size → Rd w1 r s b → Calls Tryd.prog 41 #[.pointer (some ⟨r, 0, none⟩)] w1 fun e w' => ∃ o a' ok, e = .returned (.tuple #[.int .i64 o, .bool ok]) ∧ OpD (bts s) b o a' ok ∧ Rd w' r s a' ∧ Chg (fun i => i = r) w1 w') := hidden (fun w1 b hb h1 => opP r s b w1 h1 hb hs)
  have QUO : Hid (∀ w1 b, b ≤ s.size → Rd w1 r s b → Calls Tryd.prog 42 #[.pointer (some ⟨r, 0, none⟩)] w1 fun e w' => ∃ v a' ok, e = .returned (.tuple #[.string v, .bool ok]) ∧ Qd (bts s) b v a' ok ∧ Rd w' r s a' ∧ Chg (fun i => i = r) w1 w') := hidden (fun w1 b hb h1 => quoteP r s b w1 h1 hb hs)
  have RW : Hid (0 < wsz true ((bts s).drop a) → ∀ J, runM ((bts s).drop a) a (.s2 J) = runM ((bts s).drop (wAt (bts s) a)) (wAt (bts s) a) (.s3 J a (((bts s).drop a).take (wsz true ((bts s).drop a))))) := hidden (fun h0 J => run_word h0 J)
  have RN : Hid (wsz true ((bts s).drop a) = 0 → ∀ J, runM ((bts s).drop a) a (.s2 J) = .fault a) := hidden (fun h0 J => run_noword h0 h32 J)
  have HNM : Hid ((((bts s).drop a).take (wsz true ((bts s).drop a))).length ≤ s.size) := hidden (by rw [List.length_take, List.length_drop]; omega)
  have HWZ : Hid (wAt (bts s) a = a + wsz true ((bts s).drop a)) := hidden rfl
  have HH := hidden h
  have hrw : Hid (r < w.heap.size) := hidden (Blk.lt h)
  generalize ((bts s).drop a).take (wsz true ((bts s).drop a)) = nm at *
  generalize wAt (bts s) a = b at *
  generalize hzz : wsz true ((bts s).drop a) = z at *
  clear hzz h h32 hsz
  go_enter Tryd.func30, Tryd.ntmps30
  go_wp2_with (refine wpList_alloc_blk rfl 31 rfl 2 rfl (mC zM) info31z ?_; intro w1 B1 bl1 hz1; have HB1 := hidden B1; have BL1 := hidden bl1; clear B1 bl1 hz1)
  have HR1 := hidden (HH.out.chg (Chg.of_below (F := fun _ => False) BL1.out) (fun h => h))
  have C1 : Hid (Chg (fun i => i = r) w w1) := hidden (Chg.of_below BL1.out)
  refine (WOR.out w1 HR1.out).mono ?_
  rintro e w2 ⟨rfl, h2, hc2⟩
  have HR2 := hidden h2
  have C2 := hidden (C1.out.trans hc2 (fun _ _ e => e))
  have HB2 := hidden (hc2.blk HB1.out (by have := hrw.out; omega))
  clear h2 hc2 HR1
  by_cases hz0 : 0 < z
  · have hzt : decide (0 < z) = true := decide_eq_true hz0
    have RW2 := hidden (RW.out hz0)
    rw [hzt]
    clear hz0 hzt RN RW
    go_wp2_with fail
    refine (OPP.out w2 b (by have := HSZ.out; omega) HR2.out).mono ?_
    rintro e w3 ⟨o, a3, ok3, rfl, hD3, h3, hc3⟩
    have D3 := hidden hD3
    have HR3 := hidden h3
    have C3 := hidden (C2.out.trans hc3 (fun _ _ e => e))
    have HB3 := hidden (hc3.blk HB2.out (by have := hrw.out; omega))
    clear h3 hc3 hD3 HR2 HB2
    have hbz : b ≤ s.size := by have := HSZ.out; omega
    have ha3 : a3 ≤ s.size := by have := D3.out.2.1; have := HSZ.out; omega
    have hb3 := D3.out.1
    have ho3 := D3.out.2.2.1
    cases ok3 with
    | false =>
      go_wp2_with (first
        | (refine wpList_build_to rfl 31 #[] rfl [] (mC zM).toArray rfl built31z ?_)
        | (refine wpList_store_blk rfl 31 (.tmp 2) (.tmp 23) rfl rfl w.heap.size (l := mC zM) HB3.out rfl rfl rfl size31 (one_mC zM) ?_))
      have hN := blk_stored (l := mC zM) HB3.out rfl
      have hcs := Chg.sets w.heap.size (mC zM) 0 w3
      refine bodyPost_ret (res_matcher _ _ w.heap.size _ _ rfl hN rfl) rfl ?_
      refine ⟨zM, a3, false, rfl, ⟨by omega, D3.out.2.1, okM_z, (fun h => by cases h), fun _ J => by rw [RW2.out J]; exact D3.out.2.2.2.2 rfl J a nm⟩, HR3.out.chg hcs (by have := hrw.out; omega), ?_⟩
      exact (C3.out.trans hcs (fun i hi e => by have e' : i = w.heap.size := e; omega))
    | true =>
      go_wp2_with fail
      refine (QUO.out w3 a3 ha3 HR3.out).mono ?_
      rintro e w4 ⟨v, a4, ok4, rfl, hD4, h4, hc4⟩
      have D4 := hidden hD4
      have HR4 := hidden h4
      have C4 := hidden (C3.out.trans hc4 (fun _ _ e => e))
      have HB4 := hidden (hc4.blk HB3.out (by have := hrw.out; omega))
      clear h4 hc4 hD4 HR3 HB3
      have ha4 := D4.out.1
      have hv4 : v.size ≤ s.size := by have := D4.out.2.2.1; have := HSZ.out; omega
      go_wp2_with (first
        | (refine wpList_build_to rfl 31 #[(0, .tmp 29), (1, .tmp 30), (2, .tmp 31)] rfl [(0, .string (oft nm)), (1, .int .i64 o), (2, .string v)] (mC ⟨oft nm, o, v⟩).toArray rfl (built31 _ _ _) ?_)
        | (refine wpList_store_blk rfl 31 (.tmp 2) (.tmp 32) rfl rfl w.heap.size (l := mC ⟨oft nm, o, v⟩) HB4.out rfl rfl rfl size31 (one_mC _) ?_))
      have hN := blk_stored (l := mC ⟨oft nm, o, v⟩) HB4.out rfl
      have hcs := Chg.sets w.heap.size (mC ⟨oft nm, o, v⟩) 0 w4
      refine bodyPost_ret (res_matcher _ _ w.heap.size _ _ rfl hN rfl) rfl ?_
      refine ⟨⟨oft nm, o, v⟩, a4, ok4, rfl, ⟨by omega, D4.out.2.1, ⟨by show (oft nm).size ≤ _; rw [size_oft]; have := HNM.out; omega, by show v.size ≤ _; omega, by show (-9223372036854775808 : Int) ≤ o; omega, by show o ≤ _; omega⟩, fun hk J => ?_, fun hk J => ?_⟩, HR4.out.chg hcs (by have := hrw.out; omega), ?_⟩
      · rw [RW2.out J, D3.out.2.2.2.1 rfl J a nm]
        exact D4.out.2.2.2.1 hk J a nm o
      · rw [RW2.out J, D3.out.2.2.2.1 rfl J a nm]
        exact D4.out.2.2.2.2 hk J a nm o
      · exact (C4.out.trans hcs (fun i hi e => by have e' : i = w.heap.size := e; omega))
  · have hzf : decide (0 < z) = false := decide_eq_false hz0
    have RN2 := hidden (RN.out (by omega))
    have HBA : Hid (b = a) := hidden (by have := HWZ.out; omega)
    rw [hzf]
    clear hz0 hzf RN RW
    go_wp2_with (first
      | (refine wpList_build_to rfl 31 #[] rfl [] (mC zM).toArray rfl built31z ?_)
      | (refine wpList_store_blk rfl 31 (.tmp 2) (.tmp 15) rfl rfl w.heap.size (l := mC zM) HB2.out rfl rfl rfl size31 (one_mC zM) ?_))
    have hN := blk_stored (l := mC zM) HB2.out rfl
    have hcs := Chg.sets w.heap.size (mC zM) 0 w2
    refine bodyPost_ret (res_matcher _ _ w.heap.size _ _ rfl hN rfl) rfl ?_
    refine ⟨zM, b, false, rfl, ⟨hwg, hwl, okM_z, (fun h => by cases h), fun _ J => by rw [RN2.out J, HBA.out]⟩, HR2.out.chg hcs (by have := hrw.out; omega), ?_⟩
    exact (C2.out.trans hcs (fun i hi e => by have e' : i = w.heap.size := e; omega))

end Go.Proofs.YtanlgplgplncdaaDoor.L
