/-
  The document's reader of matchers: quote.
-/
import Derived.Test.YtanlgplgplncdaaGreatDoorTxC
namespace Go.Proofs.YtanlgplgplncdaaGreatDoor.L
open Go.RowKit
set_option linter.unusedVariables false
set_option linter.unusedSimpArgs false

def nums (l : List UInt8) : List Int := l.map fun x => (x.toNat : Int)
theorem nums_byte (l : List UInt8) : Byte (nums l) := by
  intro n hn
  simp only [nums, List.mem_map] at hn
  obtain ⟨x, _, rfl⟩ := hn
  have := x.toNat_lt
  omega
theorem nums_len (l : List UInt8) : (nums l).length = l.length := by simp [nums]
theorem str_nums (l : List UInt8) : strOfNums (nums l) = oft l := by
  simp [strOfNums, oft, nums, List.map_map, Function.comp_def]
theorem info5q : (Tryz.prog.info? 5).map (fun i => (i.zero, i.size, i.bytes)) = some (some (.int .u8 0), 1, 1) := by kernel_rfl
/-- A byte behind a row of bytes. -/
theorem wpList_pushB (w : World) {ops : Array Oper} {rest : List Oper} {o : Oper} {a : Act} {Q : Exit → Act → World → Prop} (hgd : o.guard = none) (s x : Operand)
    (ho : o.op = .call { callee := .builtin .append, args := #[s, x], argTypes := #[73, 73] }) (base : Nat) (v : Value) (n : Nat) (xs : List Value) (hs : a.eval s = v) (w0 : World) (hown : w0.ownsRow base 5 1 v n xs) (y : Int)
    (hw : w = w0.alloc (.cells #[.int .u8 y] 5)) (hx : a.eval x = .slice (some ⟨w0.heap.size, 0, none⟩) 1 1) (hn : n ≤ 1000000000) (hbase : base ≤ w0.heap.size)
    (h : ∀ g' c' w', w'.ownsRow base 5 1 (.slice (some ⟨g', 0, none⟩) (n + 1) c') (n + 1) (xs ++ [.int .u8 y]) → Chg (fun i => v.ownBlock = some i) w0 w' → Moved w0 v.ownBlock (some g') → wpList Tryz.prog ops Q rest (a.put o.dst (.slice (some ⟨g', 0, none⟩) (n + 1) c')) w') :
    wpList Tryz.prog ops Q (o :: rest) a w := by
  subst hw
  obtain ⟨i0, hi0, hz0, hz1, hz2⟩ := info_parts info5q
  refine wpList_pushN _ hgd s x 73 ho 5 i0 (.int .u8 0) 1 1 Tryz.underlying73 hi0 hz0 hz1 hz2 rfl (by omega) base v n xs hs (hown.alloc _) ⟨w0.heap.size, 0, none⟩ [.int .u8 y] hx rfl (fun j u hu => by
    have := (Blk.new w0 5 [.int .u8 y]).cell (0 + j)
    rw [Addr.add_lit]
    refine this.trans ?_
    rw [Nat.zero_add]
    exact hu) (fun u hu => by simp at hu; subst hu; rfl) (by unfold maxLen; omega) (by omega) (by simp; omega) ?_
  intro g' c' w' ho' hp'
  exact h g' c' w' ho' hp'.chg2.1 hp'.chg2.2

/-- What a round of quote holds. -/
structure QI (w : World) (r : Nat) (s : ByteArray) (a : Nat) (z : Int) (wx : World) (i : Nat) (acc : List UInt8) (al : Option Addr) (n cl : Nat) : Prop where
  re : Re wx r s i z
  own : wx.ownsRow w.heap.size 5 1 (.slice al n cl) n (cells8 (nums (acc.take 200)))
  ch : Chg (fun i => i = r) w wx
  len : n = (acc.take 200).length
  il : i ≤ s.size
  ai : a < i
  run : ∀ J p nm o, runM ((bts s).drop a) a (.s4 J p nm o) = runM ((bts s).drop i) i (.qt J p nm o acc)
theorem QI.drewN {w : World} {r : Nat} {s : ByteArray} {a : Nat} {z : Int} {wx : World} {i : Nat} {acc : List UInt8} {al : Option Addr} {n cl : Nat} (h : QI w r s a z wx i acc al n cl) (m : Nat) : QI w r s a z (wx.drewN m) i acc al n cl :=
  ⟨h.re.drewN m, (Chg.drewN (fun _ => False) wx m).owns h.own (fun _ _ e => e), h.ch.trans (Chg.drewN (fun i => i = r) wx m) (fun _ _ e => e), h.len, h.il, h.ai, h.run⟩
/-- What is held where the place has gone on, ahead of the byte that is put. -/
structure QJ (w : World) (r : Nat) (s : ByteArray) (z : Int) (wx : World) (i : Nat) (acc : List UInt8) (al : Option Addr) (n cl : Nat) : Prop where
  re : Re wx r s i z
  own : wx.ownsRow w.heap.size 5 1 (.slice al n cl) n (cells8 (nums (acc.take 200)))
  ch : Chg (fun i => i = r) w wx
  len : n = (acc.take 200).length
theorem QI.bump {w : World} {r : Nat} {s : ByteArray} {a : Nat} {z : Int} {wx : World} {i : Nat} {acc : List UInt8} {al : Option Addr} {n cl : Nat} (h : QI w r s a z wx i acc al n cl) (hr : r < w.heap.size) : QJ w r s z (wx.setCell ⟨r, 1, none⟩ (.int .i64 ((i : Int) + 1))) (i + 1) acc al n cl := by
  have hc := Chg.set ⟨r, 1, none⟩ (.int .i64 ((i : Int) + 1)) wx
  refine ⟨by have := h.re.set (i + 1); simpa using this, hc.owns h.own (fun g hg e => ?_), h.ch.trans hc (fun _ _ e => e), h.len⟩
  have := (h.own.lt g hg).1
  have e' : g = r := e
  omega
theorem QJ.bump {w : World} {r : Nat} {s : ByteArray} {z : Int} {wx : World} {i : Nat} {acc : List UInt8} {al : Option Addr} {n cl : Nat} (h : QJ w r s z wx (i + 1) acc al n cl) (hr : r < w.heap.size) (m : Nat) : QJ w r s z ((wx.drewN m).setCell ⟨r, 1, none⟩ (.int .i64 ((i : Int) + 1 + 1))) (i + 2) acc al n cl := by
  have hc := Chg.set ⟨r, 1, none⟩ (.int .i64 ((i : Int) + 1 + 1)) (wx.drewN m)
  have hd := Chg.drewN (fun _ => False) wx m
  refine ⟨by have := (h.re.drewN m).set (i + 2); simpa [Int.add_assoc] using this, hc.owns (hd.owns h.own (fun _ _ e => e)) (fun g hg e => ?_), (h.ch.trans (Chg.drewN (fun i => i = r) wx m) (fun _ _ e => e)).trans hc (fun _ _ e => e), h.len⟩
  have := (h.own.lt g hg).1
  have e' : g = r := e
  omega
theorem QJ.keep {w : World} {r : Nat} {s : ByteArray} {a : Nat} {z : Int} {wx : World} {i : Nat} {acc : List UInt8} {al : Option Addr} {n cl : Nat} (h : QJ w r s z wx i acc al n cl) (hn : ¬ n < 200) (y : UInt8) (il : i ≤ s.size) (ai : a < i) (run : ∀ J p nm o, runM ((bts s).drop a) a (.s4 J p nm o) = runM ((bts s).drop i) i (.qt J p nm o (acc ++ [y]))) : QI w r s a z wx i (acc ++ [y]) al n cl := by
  have hl : 200 ≤ acc.length := by have := h.len; rw [List.length_take] at this; omega
  have e : (acc ++ [y]).take 200 = acc.take 200 := by rw [List.take_append_of_le_length hl]
  exact ⟨h.re, by rw [e]; exact h.own, h.ch, by rw [e]; exact h.len, il, ai, run⟩
theorem QJ.push {w : World} {r : Nat} {s : ByteArray} {a : Nat} {z : Int} {wx w' : World} {i : Nat} {acc : List UInt8} {al : Option Addr} {n cl g' c' : Nat} (h : QJ w r s z wx i acc al n cl) (hr : r < w.heap.size) (hn : n < 200) (y : UInt8) (il : i ≤ s.size) (ai : a < i) (run : ∀ J p nm o, runM ((bts s).drop a) a (.s4 J p nm o) = runM ((bts s).drop i) i (.qt J p nm o (acc ++ [y])))
    (ho : w'.ownsRow w.heap.size 5 1 (.slice (some ⟨g', 0, none⟩) (n + 1) c') (n + 1) (cells8 (nums (acc.take 200)) ++ [.int .u8 (y.toNat : Int)])) (hc : Chg (fun i => (Value.slice al n cl).ownBlock = some i) wx w') : QI w r s a z w' i (acc ++ [y]) (some ⟨g', 0, none⟩) (n + 1) c' := by
  have hl : acc.length < 200 := by have := h.len; rw [List.length_take] at this; omega
  have e1 : acc.take 200 = acc := List.take_of_length_le (by omega)
  have e2 : (acc ++ [y]).take 200 = acc ++ [y] := List.take_of_length_le (by simp; omega)
  have hl2 := h.len
  rw [e1] at hl2 ho
  have hne : ∀ g, (Value.slice al n cl).ownBlock = some g → g ≠ r := fun g hg => by have := (h.own.lt g hg).1; omega
  refine ⟨hc.blk h.re (fun e => hne _ e rfl), by rw [e2]; simpa [nums, cells8] using ho, h.ch.trans hc (fun b hb e => ?_), by rw [e2]; simp; omega, il, ai, run⟩
  have := (h.own.lt b e).1
  omega

theorem qt_plain {S : List UInt8} {i : Nat} {x : UInt8} (hx : S[i]? = some x) (h1 : x ≠ 34) (h2 : x ≠ 10) (h3 : x ≠ 92) (J : Jm) (p : Nat) (nm : List UInt8) (o : Int) (b : List UInt8) : runM (S.drop i) i (.qt J p nm o b) = runM (S.drop (i + 1)) (i + 1) (.qt J p nm o (b ++ [x])) := by
  rw [drop_at hx, runM_some (st' := .qt J p nm o (b ++ [x])) (by simp [stepM, h1, h2, h3])]
theorem qt_esc {S : List UInt8} {i : Nat} {d y : UInt8} (hx : S[i]? = some 92) (hd : S[i + 1]? = some d) (h : (d = 92 ∧ y = 92) ∨ (d = 34 ∧ y = 34) ∨ (d = 110 ∧ y = 10)) (J : Jm) (p : Nat) (nm : List UInt8) (o : Int) (b : List UInt8) : runM (S.drop i) i (.qt J p nm o b) = runM (S.drop (i + 2)) (i + 2) (.qt J p nm o (b ++ [y])) := by
  rw [drop_at hx, runM_some (st' := .es J p nm o b) (by simp [stepM]), drop_at hd, runM_some (st' := .qt J p nm o (b ++ [y])) (by rcases h with ⟨rfl, rfl⟩ | ⟨rfl, rfl⟩ | ⟨rfl, rfl⟩ <;> simp [stepM])]
theorem qt_bad {S : List UInt8} {i : Nat} (hx : S[i]? = some 92) (h1 : S[i + 1]? ≠ some 92) (h2 : S[i + 1]? ≠ some 34) (h3 : S[i + 1]? ≠ some 110) (J : Jm) (p : Nat) (nm : List UInt8) (o : Int) (b : List UInt8) : runM (S.drop i) i (.qt J p nm o b) = .fault (i + 1) := by
  rw [drop_at hx, runM_some (st' := .es J p nm o b) (by simp [stepM])]
  refine run_none_of (fun x hx => ?_) (fun _ => rfl)
  have n1 : x ≠ 92 := fun e => h1 (by rw [hx, e])
  have n2 : x ≠ 34 := fun e => h2 (by rw [hx, e])
  have n3 : x ≠ 110 := fun e => h3 (by rw [hx, e])
  simp [stepM, n1, n2, n3]
theorem qt_fault {S : List UInt8} {i : Nat} (h : S[i]? = none ∨ S[i]? = some 10) (J : Jm) (p : Nat) (nm : List UInt8) (o : Int) (b : List UInt8) : runM (S.drop i) i (.qt J p nm o b) = .fault i := by
  refine run_none_of (fun x hx => ?_) (fun _ => rfl)
  rw [hx] at h
  rcases h with h | h
  · cases h
  · injection h with h; subst h; simp [stepM]
theorem qt_end {S : List UInt8} {i : Nat} (hx : S[i]? = some 34) (J : Jm) (p : Nat) (nm : List UInt8) (o : Int) (b : List UInt8) : runM (S.drop i) i (.qt J p nm o b) = runM (S.drop (i + 1)) (i + 1) (.s5 (J.add ⟨oft nm, o, oft b⟩ p)) := by
  rw [drop_at hx, runM_some (st' := .s5 (J.add ⟨oft nm, o, oft b⟩ p)) (by simp [stepM])]
theorem oft_200 (acc : List UInt8) : (oft (acc.take 200)).size ≤ 200 := by rw [size_bts, bts_oft, List.length_take]; omega

set_option maxRecDepth 100000 in
set_option maxHeartbeats 0 in
theorem rquotedP (r : Nat) (s : ByteArray) (a : Nat) (z : Int) (w : World) (h : Re w r s a z) (ha : a ≤ s.size) (hs : s.size ≤ 140737488355328) (h32 : z < 0 → (bts s)[a]? ≠ some 32) :
    Calls Tryz.prog 37 #[.pointer (some ⟨r, 0, none⟩)] w fun e w' => ∃ v a' z', e = .returned (.string v) ∧ Qe (bts s) a z v a' z' ∧ Re w' r s a' z' ∧ Chg (fun i => i = r) w w' := by
  have kT := rtakeP r s a z 34 w h ha hs (by decide)
  have haS : a ≤ (bts s).length := by rw [← size_bts]; exact ha
  have hrw : r < w.heap.size := Blk.lt h
  have HRW := hidden hrw
  have HSZ := hidden (size_bts s)
  clear h hrw
  by_cases hp : pk (bts s) a z = some 34
  · rw [tkA, if_pos hp, tkZ, if_pos hp] at kT
    have kT2 : Calls Tryz.prog 33 #[.pointer (some ⟨r, 0, none⟩), .int .u8 34] w fun e w' => e = .returned (.tuple #[]) ∧ Re w' r s (a + 1) z ∧ Chg (fun i => i = r) w w' := kT
    obtain ⟨p1, hz, p3⟩ := pk_lt hp
    have HRUN : Hid (∀ J p nm o, runM ((bts s).drop a) a (.s4 J p nm o) = runM ((bts s).drop (a + 1)) (a + 1) (.qt J p nm o [])) := hidden (fun J p nm o => by rw [drop_at p3, runM_some (st' := .qt J p nm o []) (by simp [stepM])])
    have ha1 : a + 1 ≤ s.size := by rw [HSZ.out]; omega
    clear hp kT p1 p3 h32 haS
    go_enter Tryz.func37, Tryz.ntmps37
    go_wp2_with (go_at_call 33; refine kT2.mono ?_; rintro e w1 ⟨rfl, h1, hc1⟩; have HQ1 : Hid (QI w r s a z w1 (a + 1) [] none 0 0) := hidden ⟨h1, World.ownsRow_nil _ _ _ _, hc1, rfl, ha1, by omega, HRUN.out⟩; clear kT2 h1 hc1)
    go_loopw [3] (fun s3 wx => ∃ (i : Nat) (acc : List UInt8) (al : Option Addr) (n cl : Nat), s3 = .slice al n cl ∧ i ≤ s.size ∧ Hid (QI w r s a z wx i acc al n cl)) (fun _ wx => s.size - rdAt r wx)
    case atStart => exact ⟨a + 1, [], none, 0, 0, rfl, ha1, HQ1⟩
    case round =>
      rename World => wr
      obtain ⟨i, acc, al, n, cl, rfl, hil, hQ⟩ := hrel
      clear HQ1 HRUN
      have c2 : wr.cell? ⟨r, 2, none⟩ = some (.int .i64 z) := hQ.out.re.cell 2
      have c0 : wr.cell? ⟨r, 0, none⟩ = some (.string s) := hQ.out.re.cell 0
      have c1 : wr.cell? ⟨r, 1, none⟩ = some (.int .i64 (i : Int)) := hQ.out.re.cell 1
      have kF : Hid (∀ wx j, Re wx r s j z → Calls Tryz.prog 39 #[.pointer (some ⟨r, 0, none⟩)] wx fun e w' => e = .returned (.tuple #[]) ∧ Re w' r s j (failZ j z) ∧ Chg (fun i => i = r) wx w') := hidden (fun wx j h => rfailP r s j z wx h)
      have HAT := hidden hQ.out.re.at'
      by_cases hlt : i < s.size
      · have g1 : ¬ (s.size : Int) ≤ (i : Int) := by omega
        have g2 : decide ((s.size : Int) ≤ (i : Int)) = false := decide_eq_false g1
        have g3 : decide (s.size ≤ i) = false := decide_eq_false (by omega)
        have hltz : (i : Int) < (s.size : Int) := by omega
        obtain ⟨x, hx, hx2⟩ := byte_atM s hlt
        have e10 := beq10 x
        by_cases h10 : x = 10
        · rw [decide_eq_true h10] at e10
          have HQe : Hid (Qe (bts s) a z ⟨#[]⟩ i (failZ i z)) := hidden ⟨by have := hQ.out.ai; omega, by rw [← HSZ.out]; exact hil, by decide, fun h => by omega, fun _ => Or.inr ⟨by rw [failZ, if_pos hz], fun J p nm o => by rw [hQ.out.run J p nm o]; exact qt_fault (.inr (by rw [hx2, h10])) J p nm o acc⟩⟩
          clear hx2 h10
          go_wp2
          go_quiet (fail)
          have HD := hidden (hQ.out.drewN nq)
          have kG := kF.out _ i HD.out.re
          generalize wr.drewN nq = wq at *
          go_wp2_with (go_at_call 39; refine kG.mono ?_; rintro e w3 ⟨rfl, h3, hc3⟩; have H3 := hidden h3; have HC3 := hidden hc3; clear kG h3 hc3)
          go_ret
          exact ⟨_, _, _, rfl, HQe.out, H3.out, HD.out.ch.trans HC3.out (fun _ _ e => e)⟩
        · rw [decide_eq_false h10] at e10
          go_wp2
          go_quiet (fail)
          have HD := hidden (hQ.out.drewN nq)
          clear hQ c0 c1 c2
          generalize wr.drewN nq = wq at *
          have c0 : wq.cell? ⟨r, 0, none⟩ = some (.string s) := HD.out.re.cell 0
          have c1 : wq.cell? ⟨r, 1, none⟩ = some (.int .i64 (i : Int)) := HD.out.re.cell 1
          go_wp2
          go_quiet (fail)
          have HE := hidden (HD.out.drewN nq)
          clear HD c0 c1
          generalize wq.drewN nq = wp at *
          have c1 : wp.cell? ⟨r, 1, none⟩ = some (.int .i64 (i : Int)) := HE.out.re.cell 1
          have f1 : wp.frozen? ⟨r, 1, none⟩ = false := HE.out.re.frozen 1
          have HJ : Hid (QJ w r s z (wp.setCell ⟨r, 1, none⟩ (.int .i64 ((i : Int) + 1))) (i + 1) acc al n cl) := hidden (HE.out.bump HRW.out)
          have e34 := beq34 x
          have e92 := beq92 x
          by_cases h34 : x = 34
          · rw [decide_eq_true h34] at e34
            have HQe : Hid (Qe (bts s) a z (oft (acc.take 200)) (i + 1) z) := hidden ⟨by have := HE.out.ai; omega, by rw [← HSZ.out]; omega, oft_200 acc, fun h => by omega, fun _ => Or.inl ⟨rfl, acc, rfl, fun J p nm o => by rw [HE.out.run J p nm o]; exact qt_end (by rw [hx2, h34]) J p nm o acc⟩⟩
            have hcv := run_string_of (P := Tryz.prog) 73 5 9 Tryz.underlying73 Tryz.underlying5 Tryz.underlying9 (cap := cl) (sl_of_owns HJ.out.own (nums_byte _))
            rw [str_nums] at hcv
            clear hx2 h34 h10
            go_wp2
            go_ret
            exact ⟨_, _, _, rfl, HQe.out, HJ.out.re, HJ.out.ch⟩
          · rw [decide_eq_false h34] at e34
            by_cases h92 : x = 92
            · rw [decide_eq_true h92] at e92
              have hxx : (bts s)[i]? = some 92 := by rw [hx2, h92]
              have kP := rpeekP r s (i + 1) z _ HJ.out.re hs
              have b92 := pkC_beq (pk (bts s) (i + 1) z) 92 (by omega) (by omega)
              have b34 := pkC_beq (pk (bts s) (i + 1) z) 34 (by omega) (by omega)
              have b110 := pkC_beq (pk (bts s) (i + 1) z) 110 (by omega) (by omega)
              clear h10 h34 h92 hx2
              by_cases h92 : pk (bts s) (i + 1) z = some 92
              · skip
                have hdd : (bts s)[i + 1]? = some 92 := (pk_lt h92).2.2
                have hl2 : i + 2 ≤ s.size := by have := get_lt hdd; rw [HSZ.out]; omega
                have hr2 : Hid (∀ J p nm o, runM ((bts s).drop a) a (.s4 J p nm o) = runM ((bts s).drop (i + 2)) (i + 2) (.qt J p nm o (acc ++ [92]))) := hidden (fun J p nm o => by rw [HE.out.run J p nm o]; exact qt_esc hxx hdd (by decide) J p nm o acc)
                have hai := HE.out.ai
                rw [h92] at kP
                have kP2 : Calls Tryz.prog 34 #[.pointer (some ⟨r, 0, none⟩)] (wp.setCell ⟨r, 1, none⟩ (.int .i64 ((i : Int) + 1))) fun e w' => e = .returned (.int .u8 92) ∧ ∃ n, w' = (wp.setCell ⟨r, 1, none⟩ (.int .i64 ((i : Int) + 1))).drewN n := kP
                have HJ2 : Hid (∀ m, QJ w r s z (((wp.setCell ⟨r, 1, none⟩ (.int .i64 ((i : Int) + 1))).drewN m).setCell ⟨r, 1, none⟩ (.int .i64 ((i : Int) + 1 + 1))) (i + 2) acc al n cl) := hidden (fun m => HJ.out.bump HRW.out m)
                have k1 : ∀ m, ((wp.setCell ⟨r, 1, none⟩ (.int .i64 ((i : Int) + 1))).drewN m).cell? ⟨r, 1, none⟩ = some (.int .i64 ((i : Int) + 1)) := fun m => by have := (HJ.out.re.drewN m).cell 1; simpa using this
                have k2 : ∀ m, ((wp.setCell ⟨r, 1, none⟩ (.int .i64 ((i : Int) + 1))).drewN m).frozen? ⟨r, 1, none⟩ = false := fun m => (HJ.out.re.drewN m).frozen 1
                clear b92 b34 b110 kP hdd hxx h92
                by_cases hn : n < 200
                · have hnz : (n : Int) < 200 := by omega
                  go_upto_region 20 with (go_at_call 34; refine kP2.mono ?_; rintro e w2 ⟨rfl, m, rfl⟩; have d1 := k1 m; have g4 := k2 m; have HJ3 := hidden (HJ2.out m); clear kP2 k1 k2)
                  generalize ((wp.setCell ⟨r, 1, none⟩ (.int .i64 ((i : Int) + 1))).drewN m).setCell ⟨r, 1, none⟩ (.int .i64 ((i : Int) + 1 + 1)) = wz at *
                  go_wp2_with (refine wpList_pushB _ rfl (.tmp 86) (.tmp 88) rfl w.heap.size _ n _ rfl wz HJ3.out.own 92 rfl rfl (by omega) HJ3.out.ch.size ?_; intro g7 c7 w7 ho7 hc7 _; have HQ7 := hidden (HJ3.out.push HRW.out hn 92 hl2 (by omega) hr2.out ho7 hc7); clear ho7 hc7)
                  refine ⟨⟨i + 2, acc ++ [92], some ⟨g7, 0, none⟩, n + 1, c7, by first | rfl | simp, hl2, HQ7⟩, ?_⟩
                  rw [HQ7.out.re.at', HAT.out]
                  omega
                · have hnz : ¬ (n : Int) < 200 := by omega
                  go_upto_region 20 with (go_at_call 34; refine kP2.mono ?_; rintro e w2 ⟨rfl, m, rfl⟩; have d1 := k1 m; have g4 := k2 m; have HJ3 := hidden (HJ2.out m); clear kP2 k1 k2)
                  generalize ((wp.setCell ⟨r, 1, none⟩ (.int .i64 ((i : Int) + 1))).drewN m).setCell ⟨r, 1, none⟩ (.int .i64 ((i : Int) + 1 + 1)) = wz at *
                  have HQ7 := hidden (HJ3.out.keep hn 92 hl2 (by omega) hr2.out)
                  go_wp2
                  refine ⟨⟨i + 2, acc ++ [92], al, n, cl, rfl, hl2, HQ7⟩, ?_⟩
                  rw [HQ7.out.re.at', HAT.out]
                  omega
              · rw [decide_eq_false (show ¬ pk (bts s) (i + 1) z = some (UInt8.ofNat 92) from h92)] at b92
                by_cases h34 : pk (bts s) (i + 1) z = some 34
                · skip
                  have hdd : (bts s)[i + 1]? = some 34 := (pk_lt h34).2.2
                  have hl2 : i + 2 ≤ s.size := by have := get_lt hdd; rw [HSZ.out]; omega
                  have hr2 : Hid (∀ J p nm o, runM ((bts s).drop a) a (.s4 J p nm o) = runM ((bts s).drop (i + 2)) (i + 2) (.qt J p nm o (acc ++ [34]))) := hidden (fun J p nm o => by rw [HE.out.run J p nm o]; exact qt_esc hxx hdd (by decide) J p nm o acc)
                  have hai := HE.out.ai
                  rw [h34] at kP
                  have kP2 : Calls Tryz.prog 34 #[.pointer (some ⟨r, 0, none⟩)] (wp.setCell ⟨r, 1, none⟩ (.int .i64 ((i : Int) + 1))) fun e w' => e = .returned (.int .u8 34) ∧ ∃ n, w' = (wp.setCell ⟨r, 1, none⟩ (.int .i64 ((i : Int) + 1))).drewN n := kP
                  have HJ2 : Hid (∀ m, QJ w r s z (((wp.setCell ⟨r, 1, none⟩ (.int .i64 ((i : Int) + 1))).drewN m).setCell ⟨r, 1, none⟩ (.int .i64 ((i : Int) + 1 + 1))) (i + 2) acc al n cl) := hidden (fun m => HJ.out.bump HRW.out m)
                  have k1 : ∀ m, ((wp.setCell ⟨r, 1, none⟩ (.int .i64 ((i : Int) + 1))).drewN m).cell? ⟨r, 1, none⟩ = some (.int .i64 ((i : Int) + 1)) := fun m => by have := (HJ.out.re.drewN m).cell 1; simpa using this
                  have k2 : ∀ m, ((wp.setCell ⟨r, 1, none⟩ (.int .i64 ((i : Int) + 1))).drewN m).frozen? ⟨r, 1, none⟩ = false := fun m => (HJ.out.re.drewN m).frozen 1
                  clear b92 b34 b110 kP hdd hxx h92 h34
                  by_cases hn : n < 200
                  · have hnz : (n : Int) < 200 := by omega
                    go_upto_region 20 with (go_at_call 34; refine kP2.mono ?_; rintro e w2 ⟨rfl, m, rfl⟩; have d1 := k1 m; have g4 := k2 m; have HJ3 := hidden (HJ2.out m); clear kP2 k1 k2)
                    generalize ((wp.setCell ⟨r, 1, none⟩ (.int .i64 ((i : Int) + 1))).drewN m).setCell ⟨r, 1, none⟩ (.int .i64 ((i : Int) + 1 + 1)) = wz at *
                    go_wp2_with (refine wpList_pushB _ rfl (.tmp 86) (.tmp 88) rfl w.heap.size _ n _ rfl wz HJ3.out.own 34 rfl rfl (by omega) HJ3.out.ch.size ?_; intro g7 c7 w7 ho7 hc7 _; have HQ7 := hidden (HJ3.out.push HRW.out hn 34 hl2 (by omega) hr2.out ho7 hc7); clear ho7 hc7)
                    refine ⟨⟨i + 2, acc ++ [34], some ⟨g7, 0, none⟩, n + 1, c7, by first | rfl | simp, hl2, HQ7⟩, ?_⟩
                    rw [HQ7.out.re.at', HAT.out]
                    omega
                  · have hnz : ¬ (n : Int) < 200 := by omega
                    go_upto_region 20 with (go_at_call 34; refine kP2.mono ?_; rintro e w2 ⟨rfl, m, rfl⟩; have d1 := k1 m; have g4 := k2 m; have HJ3 := hidden (HJ2.out m); clear kP2 k1 k2)
                    generalize ((wp.setCell ⟨r, 1, none⟩ (.int .i64 ((i : Int) + 1))).drewN m).setCell ⟨r, 1, none⟩ (.int .i64 ((i : Int) + 1 + 1)) = wz at *
                    have HQ7 := hidden (HJ3.out.keep hn 34 hl2 (by omega) hr2.out)
                    go_wp2
                    refine ⟨⟨i + 2, acc ++ [34], al, n, cl, rfl, hl2, HQ7⟩, ?_⟩
                    rw [HQ7.out.re.at', HAT.out]
                    omega
                · rw [decide_eq_false (show ¬ pk (bts s) (i + 1) z = some (UInt8.ofNat 34) from h34)] at b34
                  by_cases h110 : pk (bts s) (i + 1) z = some 110
                  · skip
                    have hdd : (bts s)[i + 1]? = some 110 := (pk_lt h110).2.2
                    have hl2 : i + 2 ≤ s.size := by have := get_lt hdd; rw [HSZ.out]; omega
                    have hr2 : Hid (∀ J p nm o, runM ((bts s).drop a) a (.s4 J p nm o) = runM ((bts s).drop (i + 2)) (i + 2) (.qt J p nm o (acc ++ [10]))) := hidden (fun J p nm o => by rw [HE.out.run J p nm o]; exact qt_esc hxx hdd (by decide) J p nm o acc)
                    have hai := HE.out.ai
                    rw [h110] at kP
                    have kP2 : Calls Tryz.prog 34 #[.pointer (some ⟨r, 0, none⟩)] (wp.setCell ⟨r, 1, none⟩ (.int .i64 ((i : Int) + 1))) fun e w' => e = .returned (.int .u8 110) ∧ ∃ n, w' = (wp.setCell ⟨r, 1, none⟩ (.int .i64 ((i : Int) + 1))).drewN n := kP
                    have HJ2 : Hid (∀ m, QJ w r s z (((wp.setCell ⟨r, 1, none⟩ (.int .i64 ((i : Int) + 1))).drewN m).setCell ⟨r, 1, none⟩ (.int .i64 ((i : Int) + 1 + 1))) (i + 2) acc al n cl) := hidden (fun m => HJ.out.bump HRW.out m)
                    have k1 : ∀ m, ((wp.setCell ⟨r, 1, none⟩ (.int .i64 ((i : Int) + 1))).drewN m).cell? ⟨r, 1, none⟩ = some (.int .i64 ((i : Int) + 1)) := fun m => by have := (HJ.out.re.drewN m).cell 1; simpa using this
                    have k2 : ∀ m, ((wp.setCell ⟨r, 1, none⟩ (.int .i64 ((i : Int) + 1))).drewN m).frozen? ⟨r, 1, none⟩ = false := fun m => (HJ.out.re.drewN m).frozen 1
                    clear b92 b34 b110 kP hdd hxx h92 h34 h110
                    by_cases hn : n < 200
                    · have hnz : (n : Int) < 200 := by omega
                      go_upto_region 20 with (go_at_call 34; refine kP2.mono ?_; rintro e w2 ⟨rfl, m, rfl⟩; have d1 := k1 m; have g4 := k2 m; have HJ3 := hidden (HJ2.out m); clear kP2 k1 k2)
                      generalize ((wp.setCell ⟨r, 1, none⟩ (.int .i64 ((i : Int) + 1))).drewN m).setCell ⟨r, 1, none⟩ (.int .i64 ((i : Int) + 1 + 1)) = wz at *
                      go_wp2_with (refine wpList_pushB _ rfl (.tmp 86) (.tmp 88) rfl w.heap.size _ n _ rfl wz HJ3.out.own 10 rfl rfl (by omega) HJ3.out.ch.size ?_; intro g7 c7 w7 ho7 hc7 _; have HQ7 := hidden (HJ3.out.push HRW.out hn 10 hl2 (by omega) hr2.out ho7 hc7); clear ho7 hc7)
                      refine ⟨⟨i + 2, acc ++ [10], some ⟨g7, 0, none⟩, n + 1, c7, by first | rfl | simp, hl2, HQ7⟩, ?_⟩
                      rw [HQ7.out.re.at', HAT.out]
                      omega
                    · have hnz : ¬ (n : Int) < 200 := by omega
                      go_upto_region 20 with (go_at_call 34; refine kP2.mono ?_; rintro e w2 ⟨rfl, m, rfl⟩; have d1 := k1 m; have g4 := k2 m; have HJ3 := hidden (HJ2.out m); clear kP2 k1 k2)
                      generalize ((wp.setCell ⟨r, 1, none⟩ (.int .i64 ((i : Int) + 1))).drewN m).setCell ⟨r, 1, none⟩ (.int .i64 ((i : Int) + 1 + 1)) = wz at *
                      have HQ7 := hidden (HJ3.out.keep hn 10 hl2 (by omega) hr2.out)
                      go_wp2
                      refine ⟨⟨i + 2, acc ++ [10], al, n, cl, rfl, hl2, HQ7⟩, ?_⟩
                      rw [HQ7.out.re.at', HAT.out]
                      omega
                  · rw [decide_eq_false (show ¬ pk (bts s) (i + 1) z = some (UInt8.ofNat 110) from h110)] at b110
                    have q92 : (((pkC (pk (bts s) (i + 1) z) : Nat) : Int) == 92) = false := b92
                    have q34 : (((pkC (pk (bts s) (i + 1) z) : Nat) : Int) == 34) = false := b34
                    have q110 : (((pkC (pk (bts s) (i + 1) z) : Nat) : Int) == 110) = false := b110
                    have HQe : Hid (Qe (bts s) a z ⟨#[]⟩ (i + 1) (failZ (i + 1) z)) := hidden ⟨by have := HE.out.ai; omega, by rw [← HSZ.out]; omega, by decide, fun h => by omega, fun _ => Or.inr ⟨by rw [failZ, if_pos hz], fun J p nm o => by rw [HE.out.run J p nm o]; rw [pk, if_pos hz] at h92 h34 h110; exact qt_bad hxx h92 h34 h110 J p nm o acc⟩⟩
                    generalize ((pkC (pk (bts s) (i + 1) z) : Nat) : Int) = X at *
                    have p92 : (X != 92) = true := by simp only [bne, q92, Bool.not_false]
                    have p34 : (X != 34) = true := by simp only [bne, q34, Bool.not_false]
                    have p110 : (X != 110) = true := by simp only [bne, q110, Bool.not_false]
                    have kG2 : Hid (∀ m, Calls Tryz.prog 39 #[.pointer (some ⟨r, 0, none⟩)] ((wp.setCell ⟨r, 1, none⟩ (.int .i64 ((i : Int) + 1))).drewN m) fun e w' => e = .returned (.tuple #[]) ∧ Re w' r s (i + 1) (failZ (i + 1) z) ∧ Chg (fun i => i = r) ((wp.setCell ⟨r, 1, none⟩ (.int .i64 ((i : Int) + 1))).drewN m) w') := hidden (fun m => kF.out _ (i + 1) (HJ.out.re.drewN m))
                    clear b92 b34 b110 h92 h34 h110 hxx
                    go_wp2_with (first
                      | (go_at_call 34; refine kP.mono ?_; rintro e w2 ⟨rfl, m, rfl⟩; have kG := kG2.out m; clear kP kG2)
                      | (go_at_call 39; refine kG.mono ?_; rintro e w3 ⟨rfl, h3, hc3⟩; have H3 := hidden h3; have HC3 := hidden hc3; clear kG h3 hc3))
                    go_ret
                    exact ⟨_, _, _, rfl, HQe.out, H3.out, HJ.out.ch.trans ((Chg.drewN (fun i => i = r) _ _).trans HC3.out (fun _ _ e => e)) (fun _ _ e => e)⟩
            · rw [decide_eq_false h92] at e92
              have hr2 : Hid (∀ J p nm o, runM ((bts s).drop a) a (.s4 J p nm o) = runM ((bts s).drop (i + 1)) (i + 1) (.qt J p nm o (acc ++ [x]))) := hidden (fun J p nm o => by rw [HE.out.run J p nm o]; exact qt_plain hx2 h34 h10 h92 J p nm o acc)
              have hai := HE.out.ai
              clear hx2 h34 h10 h92
              by_cases hn : n < 200
              · have hnz : (n : Int) < 200 := by omega
                go_upto_region 20 with fail
                generalize wp.setCell ⟨r, 1, none⟩ (.int .i64 ((i : Int) + 1)) = wz at *
                go_wp2_with (refine wpList_pushB _ rfl (.tmp 86) (.tmp 88) rfl w.heap.size _ n _ rfl wz HJ.out.own (x.toNat : Int) rfl rfl (by omega) HJ.out.ch.size ?_; intro g7 c7 w7 ho7 hc7 _; have HQ7 := hidden (HJ.out.push HRW.out hn x (by omega) (by omega) hr2.out ho7 hc7); clear ho7 hc7)
                refine ⟨⟨i + 1, acc ++ [x], some ⟨g7, 0, none⟩, n + 1, c7, by first | rfl | simp, by omega, HQ7⟩, ?_⟩
                rw [HQ7.out.re.at', HAT.out]
                omega
              · have hnz : ¬ (n : Int) < 200 := by omega
                go_upto_region 20 with fail
                generalize wp.setCell ⟨r, 1, none⟩ (.int .i64 ((i : Int) + 1)) = wz at *
                have HQ7 := hidden (HJ.out.keep hn x (by omega) (by omega) hr2.out)
                go_wp2
                refine ⟨⟨i + 1, acc ++ [x], al, n, cl, rfl, by omega, HQ7⟩, ?_⟩
                rw [HQ7.out.re.at', HAT.out]
                omega
      · have g1 : (s.size : Int) ≤ (i : Int) := by omega
        have g2 : decide ((s.size : Int) ≤ (i : Int)) = true := decide_eq_true g1
        have HQe : Hid (Qe (bts s) a z ⟨#[]⟩ i (failZ i z)) := hidden ⟨by have := hQ.out.ai; omega, by rw [← HSZ.out]; exact hil, by decide, fun h => by omega, fun _ => Or.inr ⟨by rw [failZ, if_pos hz], fun J p nm o => by rw [hQ.out.run J p nm o]; exact qt_fault (.inl (List.getElem?_eq_none (by rw [← HSZ.out]; omega))) J p nm o acc⟩⟩
        go_wp2
        go_quiet (fail)
        have HD := hidden (hQ.out.drewN nq)
        have kG := kF.out _ i HD.out.re
        generalize wr.drewN nq = wq at *
        go_wp2_with (go_at_call 39; refine kG.mono ?_; rintro e w3 ⟨rfl, h3, hc3⟩; have H3 := hidden h3; have HC3 := hidden hc3; clear kG h3 hc3)
        go_ret
        exact ⟨_, _, _, rfl, HQe.out, H3.out, HD.out.ch.trans HC3.out (fun _ _ e => e)⟩
  · rw [tkA, if_neg hp, tkZ, if_neg hp] at kT
    have kT2 : Calls Tryz.prog 33 #[.pointer (some ⟨r, 0, none⟩), .int .u8 34] w fun e w' => e = .returned (.tuple #[]) ∧ Re w' r s a (failZ a z) ∧ Chg (fun i => i = r) w w' := kT
    have hz1 : (0 : Int) ≤ failZ a z := by unfold failZ; split <;> omega
    have HQe : Hid (Qe (bts s) a z ⟨#[]⟩ a (failZ a z)) := hidden (by
      refine ⟨Nat.le_refl _, haS, by decide, fun h => ⟨rfl, by rw [failZ, if_neg (by omega)]⟩, fun hz => Or.inr ⟨by rw [failZ, if_pos hz], fun J p nm o => ?_⟩⟩
      rw [pk, if_pos hz] at hp
      refine run_none_of (fun x hx => ?_) (fun _ => rfl)
      have n1 : x ≠ 34 := fun e => hp (by rw [hx, e])
      have n2 : x ≠ 32 := fun e => h32 hz (by rw [hx, e])
      simp [stepM, n1, n2])
    generalize failZ a z = z1 at *
    have hz2 : ¬ z1 < 0 := by omega
    clear hp kT h32
    go_enter Tryz.func37, Tryz.ntmps37
    go_wp2_with (go_at_call 33; refine kT2.mono ?_; rintro e w1 ⟨rfl, h1, hc1⟩; have HR1 := hidden h1; have HC1 := hidden hc1; clear h1 hc1 kT2)
    have c2 : w1.cell? ⟨r, 2, none⟩ = some (.int .i64 z1) := HR1.out.cell 2
    go_loopw [3] (fun s3 wx => wx = w1) (fun _ wx => 0)
    case atStart => exact rfl
    case round =>
      subst hrel
      go_wp2
      go_ret
      exact ⟨_, _, _, rfl, HQe.out, HR1.out, HC1.out⟩

end Go.Proofs.YtanlgplgplncdaaGreatDoor.L
