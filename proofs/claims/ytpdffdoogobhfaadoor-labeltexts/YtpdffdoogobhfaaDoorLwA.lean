import Derived.Test.YtpdffdoogobhfaaDoorPaH
import Derived.Test.YtpdffdoogobhfaaDoorLbB
import Derived.Laws.StructEq
import Derived.Test.YtpdffdoogobhfaaDoorAnyW
/-
  The statements' own: same, fault.
-/
namespace Go.Proofs.YtpdffdoogobhfaaDoor
open Go.RowKit
set_option linter.unusedVariables false
set_option linter.unusedSimpArgs false

set_option maxRecDepth 100000 in
theorem neq35 (x y : Lb) (w : World) : (binOp .neq 35 (.agg #[.string x.n, .string x.v]) (.agg #[.string y.n, .string y.v])).run Tryd.prog w = .ok (.bool !(decide (x = y))) w := by
  have h : (Op.equalIn 10000 35 (.agg #[.string x.n, .string x.v]) (.agg #[.string y.n, .string y.v])).run Tryd.prog w = .ok (x.n.toList == y.n.toList && x.v.toList == y.v.toList) w := by
    rw [run_equalIn_struct w 9999 35 _ _ (by kernel_rfl) (by kernel_rfl)]
    simp [Op.eqFields, Program.fieldsOf, go_sem, part]
    by_cases h1 : x.n.toList = y.n.toList <;> by_cases h2 : x.v.toList = y.v.toList <;> simp [h1, h2]
  rw [run_neq_struct, h]
  simp only [Result.andThen]
  congr 3
  rw [Bool.eq_iff_iff]
  simp only [Bool.and_eq_true, beq_iff_eq, decide_eq_true_eq, toList_bts]
  exact ⟨fun h => Lb.ext' h.1 h.2, fun h => by rw [h]; exact ⟨rfl, rfl⟩⟩

set_option maxRecDepth 100000 in
set_option maxHeartbeats 4000000 in
theorem sameP (ad bd : Option Addr) (c d : Nat) (l m : List Lb) (w : World) (hL : Ls w ad l) (hM : Ls w bd m) (hl : l.length ≤ 9223372036854775807) (hm : m.length ≤ 9223372036854775807) :
    Calls Tryd.prog 12 #[.slice ad l.length c, .slice bd m.length d] w fun e w' => e = .returned (.bool (decide (l = m))) ∧ Below w.heap.size w w' := by
  obtain ⟨n, hn⟩ : ∃ n, l.length = n := ⟨_, rfl⟩
  obtain ⟨k, hk⟩ : ∃ k, m.length = k := ⟨_, rfl⟩
  rw [hn] at hl ⊢
  rw [hk] at hm ⊢
  by_cases hnk : n = k
  · subst hnk
    obtain ⟨R, hR⟩ : ∃ R, decide (l = m) = R := ⟨_, rfl⟩
    have HR := hidden hR
    have HL := hidden hL
    have HM := hidden hM
    have HN := hidden hn
    have HK := hidden hk
    rw [hR]
    clear hR hL hM hn hk
    go_enter Tryd.func12, Tryd.ntmps12
    go_wp2
    go_loopw [5] (fun s0 wx => ∃ i : Nat, s0 = .int .i64 (i : Int) ∧ i ≤ n ∧ Hid (decide (l.drop i = m.drop i) = R) ∧ Hid (Below w.heap.size w wx)) (fun s0 _ => n - (intOf s0).toNat)
    case atStart => exact ⟨0, rfl, by omega, hidden (by simpa using HR.out), hidden (Below.refl _ _)⟩
    case round =>
      rename World => wr
      obtain ⟨i, rfl, hi, hrel, hbel⟩ := hrel
      by_cases hlt : i < n
      · have hltz : (i : Int) < (n : Int) := by omega
        obtain ⟨b, off, x, rfl, hb, hx, hx', c0, c1, z0, z1⟩ := (HL.out.later hbel.out).get (i := i) (by rw [HN.out]; exact hlt)
        obtain ⟨b', off', y, rfl, hb', hy, hy', d0, d1, y0, y1⟩ := (HM.out.later hbel.out).get (i := i) (by rw [HK.out]; exact hlt)
        have hdx : l.drop i = x :: l.drop (i + 1) := by rw [← hx']; exact List.drop_eq_getElem_cons _
        have hdy : m.drop i = y :: m.drop (i + 1) := by rw [← hy']; exact List.drop_eq_getElem_cons _
        have hR1 : Hid (decide (x = y ∧ l.drop (i + 1) = m.drop (i + 1)) = R) := hidden (by have := hrel.out; rw [hdx, hdy] at this; rw [← this]; congr 1; simp)
        have hq := fun w => neq35 x y w
        clear hx hx' hy hy' hdx hdy hrel
        by_cases hxy : x = y
        · have hd : decide (x = y) = true := decide_eq_true hxy
          rw [hd] at hq
          have hR2 : Hid (decide (l.drop (i + 1) = m.drop (i + 1)) = R) := hidden (by have := hR1.out; rw [← this]; congr 1; simp [hxy])
          clear hxy hd hR1
          go_wp2
          go_quiet (fail)
          go_wp2
          refine ⟨⟨i + 1, by first | rfl | simp, by omega, hR2, hidden (below_drewN hbel.out _)⟩, ?_⟩
          simp [intOf]
          omega
        · have hd : decide (x = y) = false := decide_eq_false hxy
          rw [hd] at hq
          have hR2 : Hid (R = false) := hidden (by have := hR1.out; rw [← this]; exact decide_eq_false (fun h => hxy h.1))
          clear hxy hd hR1
          go_wp2
          go_quiet (fail)
          go_wp2
          go_ret
          exact ⟨by rw [hR2.out]; rfl, below_drewN hbel.out _⟩
      · have hltz : ¬ (i : Int) < (n : Int) := by omega
        have hR2 : Hid (R = true) := hidden (by have := hrel.out; rw [← this, List.drop_of_length_le (by rw [HN.out]; omega), List.drop_of_length_le (by rw [HK.out]; omega)]; simp)
        go_wp2
        go_ret
        exact ⟨by rw [hR2.out]; rfl, hbel.out⟩
  · have hR : decide (l = m) = false := decide_eq_false (fun e => hnk (by rw [← hn, ← hk, e]))
    rw [hR]
    have z : ((n : Int) == (k : Int)) = false := by simp; omega
    clear hL hM hn hk hR
    go_enter Tryd.func12, Tryd.ntmps12
    go_wp2
    go_ret
    exact ⟨rfl, Below.refl _ _⟩

set_option maxRecDepth 100000 in
theorem assert64 (g : Nat) (w : World) : (Instr.typeAssert (.iface 64 (.pointer (some ⟨g, 0, none⟩))) 39 64 true).run Tryd.prog w = .ok (.tuple #[.pointer (some ⟨g, 0, none⟩), .bool true]) w := by
  rfl
set_option maxRecDepth 100000 in
theorem faultN (w : World) : Calls Tryd.prog 23 #[.nilIface] w fun e w' => e = .returned (.tuple #[.int .i64 0, .int .i64 0, .bool true]) ∧ Below w.heap.size w w' := by
  go_enter Tryd.func23, Tryd.ntmps23
  go_wp2
  go_ret3
  exact ⟨rfl, Below.refl _ _⟩

set_option maxRecDepth 100000 in
theorem faultF (g : Nat) (p : Int) (w : World) (hB : Blk w g 67 [.int .i64 p, .int .i64 70]) : Calls Tryd.prog 23 #[.iface 64 (.pointer (some ⟨g, 0, none⟩))] w fun e w' => e = .returned (.tuple #[.int .i64 p, .int .i64 70, .bool true]) ∧ Below w.heap.size w w' := by
  have c0 : w.cell? ⟨g, 0, none⟩ = some (.int .i64 p) := hB.cell 0
  have c1 : w.cell? ⟨g, 1, none⟩ = some (.int .i64 70) := hB.cell 1
  have ha := fun w => assert64 g w
  clear hB
  go_enter Tryd.func23, Tryd.ntmps23
  go_wp2
  go_quiet (fail)
  go_wp2
  go_ret3
  exact ⟨rfl, below_drewN (Below.refl _ _) _⟩

/-- What a Parse has answered, later. -/
theorem PaR.later {w w' w'' : World} {s : ByteArray} {v err : Value} (h : PaR w s w' v err) (hb : Below w'.heap.size w' w'') : PaR w s w'' v err := by
  rcases h with ⟨p, g, h1, h2, h3, h4, h5, h6⟩ | ⟨l, h1, h2, h3, h4⟩
  · exact Or.inl ⟨p, g, h1, h2, h3, h4, h5, h6.later hb⟩
  · exact Or.inr ⟨l, h1, h2, (Chg.of_below (F := fun _ => False) hb).owns h3 (fun _ _ h => h), h4⟩

end Go.Proofs.YtpdffdoogobhfaaDoor

/-
  The statements' own: the document's examples.
-/
namespace Go.Proofs.YtpdffdoogobhfaaDoor
open Go.RowKit
set_option linter.unusedVariables false
set_option linter.unusedSimpArgs false

def xA : Lb := ⟨⟨#[97]⟩, ⟨#[120]⟩⟩
def xB : Lb := ⟨⟨#[98]⟩, ⟨#[121]⟩⟩
def xC : Lb := ⟨⟨#[97]⟩, ⟨#[120, 34, 92]⟩⟩
def xD : Lb := ⟨⟨#[98]⟩, ⟨#[10]⟩⟩
def tx1 : ByteArray := ⟨#[32, 123, 32, 98, 32, 61, 32, 34, 121, 34, 44, 97, 61, 34, 120, 34, 125]⟩
def tx2 : ByteArray := ⟨#[123, 97, 61, 34, 120, 92, 113, 34, 125]⟩
def tx3 : ByteArray := ⟨#[123, 98, 61, 34, 120, 34, 44, 32, 97, 61, 34, 121, 34, 44, 32, 98, 61, 34, 122, 34, 125]⟩
def tx4 : List UInt8 := [123, 97, 61, 34, 120, 92, 34, 92, 92, 34, 44, 32, 98, 61, 34, 92, 110, 34, 125]
theorem right_ab : right [xA, xB] = true := by decide +kernel
theorem srt_ba : srt [xB, xA] = [xA, xB] := ((srt_any (l := [xB, xA]) (m := [xA, xB]) (List.Perm.swap _ _ _) (right_srt right_ab)).2 right_ab).symm
theorem run_tx1 : run (bts tx1) 0 .s0 = .done ⟨[xB, xA], none⟩ := by kernel_rfl
theorem run_tx2 : run (bts tx2) 0 .s0 = .fault 6 := by kernel_rfl
theorem run_tx3 : run (bts tx3) 0 .s0 = .done ⟨[⟨⟨#[98]⟩, ⟨#[120]⟩⟩, ⟨⟨#[97]⟩, ⟨#[121]⟩⟩], some 15⟩ := by kernel_rfl
theorem parse_tx1 : parseL (bts tx1) = .inr [xA, xB] := by rw [parseL, run_tx1]; simp [Rs.told, srt_ba]
theorem parse_tx2 : parseL (bts tx2) = .inl 6 := by rw [parseL, run_tx2]; rfl
theorem parse_tx3 : parseL (bts tx3) = .inl 15 := by rw [parseL, run_tx3]; rfl
theorem right_cd : right [xC, xD] = true := by decide +kernel
theorem print_cd : printL [xC, xD] = tx4 := by rw [printL, if_pos right_cd]; rfl
theorem sortOk_ba : sortOk [xB, xA] = true := by rw [sortOk, srt_ba, right_ab]; rfl
theorem get_b : getL [xA, xB] [98] = [121] := by decide +kernel

theorem ls_blk {w : World} {g : Nat} {l : List Lb} (h : Blk w g 35 (cL l)) (hz : Szs l) : Ls w (some ⟨g, 0, none⟩) l := by
  refine ⟨hz, fun h0 => ⟨g, 0, rfl, h.lt, fun i x hx => ?_⟩⟩
  have hc := cL_get l i x hx
  rw [Nat.zero_add, h.cell, h.cell]
  exact hc
theorem szs_cd : Szs [xC, xD] := by
  intro x hx
  simp at hx
  rcases hx with rfl | rfl <;> decide
theorem szs_ba : Szs [xB, xA] := by
  intro x hx
  simp at hx
  rcases hx with rfl | rfl <;> decide
/-- A Parse whose answer is known. -/
theorem par_ok (B0 : Nat) (s : ByteArray) (l : List Lb) (w : World) (hs : s.size ≤ 140737488355328) (hT : Tb B0 w) (hp : parseL (bts s) = .inr l) :
    Calls Tryd.prog 25 #[.string s] w fun e w' => ∃ ad c, e = .returned (.tuple #[.slice ad l.length c, .nilIface]) ∧ w'.ownsRow w.heap.size 35 2 (.slice ad l.length c) l.length (cL l) ∧ Szs l ∧ Below w.heap.size w w' := by
  refine (parseP B0 s w hs hT).mono ?_
  rintro e w' ⟨v, err, rfl, h, hb⟩
  rcases h with ⟨p, g, h1, _⟩ | ⟨l', h1, rfl, h3, h4⟩
  · rw [hp] at h1; cases h1
  · rw [hp] at h1; cases h1
    obtain ⟨ad, c, rfl, _⟩ := owns_formL h3
    exact ⟨ad, c, rfl, h3, h4, hb⟩
theorem par_no (B0 : Nat) (s : ByteArray) (p : Nat) (w : World) (hs : s.size ≤ 140737488355328) (hT : Tb B0 w) (hp : parseL (bts s) = .inl p) :
    Calls Tryd.prog 25 #[.string s] w fun e w' => ∃ g, e = .returned (.tuple #[.slice none 0 0, .iface 64 (.pointer (some ⟨g, 0, none⟩))]) ∧ w.heap.size ≤ g ∧ Blk w' g 67 [.int .i64 (p : Int), .int .i64 70] ∧ Below w.heap.size w w' := by
  refine (parseP B0 s w hs hT).mono ?_
  rintro e w' ⟨v, err, rfl, h, hb⟩
  rcases h with ⟨p', g, h1, _, rfl, rfl, h5, h6⟩ | ⟨l', h1, _⟩
  · rw [hp] at h1; cases h1
    exact ⟨g, rfl, h5, h6, hb⟩
  · rw [hp] at h1; cases h1
theorem sort_ok (B0 : Nat) (ad : Option Addr) (c : Nat) (l : List Lb) (w : World) (hL : Ls w ad l) (hno : ad = none → l = [] ∧ c = 0) (hlen : l.length ≤ 9223372036854775807) (hT : Tb B0 w) :
    Calls Tryd.prog 9 #[.slice ad l.length c] w fun e w' => ∃ a' c', e = .returned (.tuple #[.slice a' (bif sortOk l then l.length else 0) c', .int .i64 (errL (sortOk l))]) ∧ w'.ownsRow w.heap.size 35 2 (.slice a' (bif sortOk l then l.length else 0) c') (bif sortOk l then l.length else 0) (cL (bif sortOk l then srt l else [])) ∧ Below w.heap.size w w' := by
  refine (sortP B0 ad c l w hL hno hlen hT).mono ?_
  rintro e w' ⟨v, rfl, h1, h2⟩
  obtain ⟨a', c', rfl, _⟩ := owns_formL h1
  exact ⟨a', c', rfl, h1, h2⟩

theorem par_tx1 (B0 : Nat) (w : World) (hT : Tb B0 w) : Calls Tryd.prog 25 #[.string ⟨#[32, 123, 32, 98, 32, 61, 32, 34, 121, 34, 44, 97, 61, 34, 120, 34, 125]⟩] w fun e w' => ∃ ad c, e = .returned (.tuple #[.slice ad 2 c, .nilIface]) ∧ w'.ownsRow w.heap.size 35 2 (.slice ad 2 c) 2 (cL [xA, xB]) ∧ Szs [xA, xB] ∧ Below w.heap.size w w' := par_ok B0 tx1 [xA, xB] w (by decide) hT parse_tx1
theorem par_tx2 (B0 : Nat) (w : World) (hT : Tb B0 w) : Calls Tryd.prog 25 #[.string ⟨#[123, 97, 61, 34, 120, 92, 113, 34, 125]⟩] w fun e w' => ∃ g, e = .returned (.tuple #[.slice none 0 0, .iface 64 (.pointer (some ⟨g, 0, none⟩))]) ∧ w.heap.size ≤ g ∧ Blk w' g 67 [.int .i64 6, .int .i64 70] ∧ Below w.heap.size w w' := par_no B0 tx2 6 w (by decide) hT parse_tx2
theorem par_tx3 (B0 : Nat) (w : World) (hT : Tb B0 w) : Calls Tryd.prog 25 #[.string ⟨#[123, 98, 61, 34, 120, 34, 44, 32, 97, 61, 34, 121, 34, 44, 32, 98, 61, 34, 122, 34, 125]⟩] w fun e w' => ∃ g, e = .returned (.tuple #[.slice none 0 0, .iface 64 (.pointer (some ⟨g, 0, none⟩))]) ∧ w.heap.size ≤ g ∧ Blk w' g 67 [.int .i64 15, .int .i64 70] ∧ Below w.heap.size w w' := par_no B0 tx3 15 w (by decide) hT parse_tx3
theorem sort_ba (B0 : Nat) (w : World) (hT : Tb B0 w) : Calls Tryd.prog 9 #[.slice (some ⟨w.heap.size, 0, none⟩) 2 2] (w.alloc (.cells #[.string ⟨#[98]⟩, .string ⟨#[121]⟩, .string ⟨#[97]⟩, .string ⟨#[120]⟩] 35)) fun e w' => ∃ a' c', e = .returned (.tuple #[.slice a' 2 c', .int .i64 0]) ∧ w'.ownsRow 0 35 2 (.slice a' 2 c') 2 (cL [xA, xB]) ∧ Below w.heap.size w w' := by
  have hal : Below w.heap.size w (w.alloc (.cells #[.string ⟨#[98]⟩, .string ⟨#[121]⟩, .string ⟨#[97]⟩, .string ⟨#[120]⟩] 35)) := (Below.refl _ _).alloc (Nat.le_refl _) _
  have hB : Blk (w.alloc (.cells #[.string ⟨#[98]⟩, .string ⟨#[121]⟩, .string ⟨#[97]⟩, .string ⟨#[120]⟩] 35)) w.heap.size 35 (cL [xB, xA]) := Blk.new w 35 (cL [xB, xA])
  have k := sort_ok B0 (some ⟨w.heap.size, 0, none⟩) 2 [xB, xA] _ (ls_blk hB szs_ba) (fun e => by cases e) (by decide) (hT.later hal)
  rw [sortOk_ba, srt_ba] at k
  refine Calls.mono k ?_
  rintro e w' ⟨a', c', rfl, h1, h2⟩
  exact ⟨a', c', rfl, owns_base h1 (fun _ _ => Nat.zero_le _), hal.trans (h2.mono hal.size)⟩
theorem print_tx (B0 : Nat) (g : Nat) (w : World) (hT : Tb B0 w) (hB : Blk w g 35 (cL [xC, xD])) : Calls Tryd.prog 20 #[.slice (some ⟨g, 0, none⟩) 2 2] w fun e w' => e = .returned (.string ⟨#[123, 97, 61, 34, 120, 92, 34, 92, 92, 34, 44, 32, 98, 61, 34, 92, 110, 34, 125]⟩) ∧ Below w.heap.size w w' := by
  have := printP B0 (some ⟨g, 0, none⟩) 2 [xC, xD] w (ls_blk hB szs_cd) (by decide) hT
  rw [print_cd] at this
  exact this
theorem szs_ab : Szs [xA, xB] := szs_ba.perm (List.Perm.swap _ _ _)
theorem same_ab (ad bd : Option Addr) (c d b b' : Nat) (w : World) (hL : w.ownsRow b 35 2 (.slice ad 2 c) 2 (cL [xA, xB])) (hM : w.ownsRow b' 35 2 (.slice bd 2 d) 2 (cL [xA, xB])) : Calls Tryd.prog 12 #[.slice ad 2 c, .slice bd 2 d] w fun e w' => e = .returned (.bool true) ∧ Below w.heap.size w w' := by
  have := sameP ad bd c d [xA, xB] [xA, xB] w (ls_of_owns hL szs_ab) (ls_of_owns hM szs_ab) (by decide) (by decide)
  rw [decide_eq_true rfl] at this
  exact this
theorem right_tx (B0 : Nat) (ad : Option Addr) (c b : Nat) (w : World) (hT : Tb B0 w) (hL : w.ownsRow b 35 2 (.slice ad 2 c) 2 (cL [xA, xB])) : Calls Tryd.prog 14 #[.slice ad 2 c] w fun e w' => e = .returned (.int .i64 0) ∧ Below w.heap.size w w' := by
  have := rightP B0 ad c [xA, xB] w (ls_of_owns hL szs_ab) (by decide) hT
  rw [right_ab] at this
  exact this
theorem get_tx (ad : Option Addr) (c b : Nat) (w : World) (hL : w.ownsRow b 35 2 (.slice ad 2 c) 2 (cL [xA, xB])) : Calls Tryd.prog 16 #[.slice ad 2 c, .string ⟨#[98]⟩] w fun e w' => e = .returned (.string ⟨#[121]⟩) ∧ Below w.heap.size w w' := by
  refine (getP ad c [xA, xB] ⟨#[98]⟩ w (ls_of_owns hL szs_ab) (by decide)).mono ?_
  rintro e w' ⟨r, rfl, h1, h2⟩
  refine ⟨?_, h2⟩
  rw [← oft_bts r, h1]
  rw [show bts ⟨#[98]⟩ = [98] from rfl, get_b]
  rfl
theorem owl {w w' : World} {b e s : Nat} {v : Value} {n : Nat} {xs : List Value} (h : w.ownsRow b e s v n xs) (hb : Below w.heap.size w w') : w'.ownsRow b e s v n xs := (Chg.of_below (F := fun _ => False) hb).owns h (fun _ _ h => h)
set_option maxRecDepth 100000 in
set_option maxHeartbeats 8000000 in
theorem shownP (B0 : Nat) (w : World) (hT : Tb B0 w) : Calls Tryd.prog 7 #[] w fun e w' => e = .returned (.bool true) ∧ Below w.heap.size w w' := by
  have k1 := par_tx1 B0 (w.alloc (.cells #[.string ⟨#[97]⟩, .string ⟨#[120, 34, 92]⟩, .string ⟨#[98]⟩, .string ⟨#[10]⟩] 35)) (hT.later ((Below.refl _ _).alloc (Nat.le_refl _) _))
  have hB0 : Hid (Blk (w.alloc (.cells #[.string ⟨#[97]⟩, .string ⟨#[120, 34, 92]⟩, .string ⟨#[98]⟩, .string ⟨#[10]⟩] 35)) w.heap.size 35 (cL [xC, xD])) := Blk.new w 35 (cL [xC, xD])
  have hb0 : Hid (Below w.heap.size w (w.alloc (.cells #[.string ⟨#[97]⟩, .string ⟨#[120, 34, 92]⟩, .string ⟨#[98]⟩, .string ⟨#[10]⟩] 35))) := (Below.refl _ _).alloc (Nat.le_refl _) _
  have HT := hidden hT
  clear hT
  go_enter Tryd.func7, Tryd.ntmps7
  go_wp2_with (first
    | (go_at_call 25; refine k1.mono ?_; intro e w1 hX; obtain ⟨a1, c1, hv, ho1, hz1, hb1⟩ := hX; subst hv; have B1 := hb0.out.trans (hb1.mono hb0.out.size); have P1 := hB0.out.later hb1; have k2 := par_tx2 B0 w1 (HT.out.later B1); clear k1)
    | (go_at_call 25; refine k2.mono ?_; intro e w2 hX; obtain ⟨g2, hv, hg2, hB2, hb2⟩ := hX; subst hv; have B2 := B1.trans (hb2.mono B1.size); have o2 := owl ho1 hb2; have P2 := P1.later hb2; have k3 := par_tx3 B0 w2 (HT.out.later B2); clear k2)
    | (go_at_call 25; refine k3.mono ?_; intro e w3 hX; obtain ⟨g3, hv, hg3, hB3, hb3⟩ := hX; subst hv; have B3 := B2.trans (hb3.mono B2.size); have o3 := owl o2 hb3; have F2 := hB2.later hb3; have P3 := P2.later hb3; have k4 := sort_ba B0 w3 (HT.out.later B3); clear k3)
    | (go_at_call 9; refine k4.mono ?_; intro e w4 hX; obtain ⟨a4, c4, hv, ho4, hb4⟩ := hX; subst hv; have B4 := B3.trans (hb4.mono B3.size); have o4 := owl o3 hb4; have F3 := hB3.later hb4; have P4 := P3.later hb4; have k5 := faultF g2 6 w4 (F2.later hb4); clear k4)
    | (go_at_call 23; refine k5.mono ?_; intro e w5 hX; obtain ⟨hv, hb5⟩ := hX; subst hv; have B5 := B4.trans (hb5.mono B4.size); have o5 := owl o4 hb5; have s5 := owl ho4 hb5; have P5 := P4.later hb5; have k6 := faultF g3 15 w5 (F3.later hb5); clear k5)
    | (go_at_call 23; refine k6.mono ?_; intro e w6 hX; obtain ⟨hv, hb6⟩ := hX; subst hv; have B6 := B5.trans (hb6.mono B5.size); have o6 := owl o5 hb6; have s6 := owl s5 hb6; have P6 := P5.later hb6; have k7 := same_ab _ _ _ _ _ _ w6 s6 o6; clear k6)
    | (go_at_call 12; refine k7.mono ?_; intro e w7 hX; obtain ⟨hv, hb7⟩ := hX; subst hv; have B7 := B6.trans (hb7.mono B6.size); have o7 := owl o6 hb7; have s7 := owl s6 hb7; have k8 := print_tx B0 w.heap.size w7 (HT.out.later B7) (P6.later hb7); clear k7)
    | (go_at_call 20; refine k8.mono ?_; intro e w8 hX; obtain ⟨hv, hb8⟩ := hX; subst hv; have B8 := B7.trans (hb8.mono B7.size); have o8 := owl o7 hb8; have s8 := owl s7 hb8; obtain ⟨bb, off, x, ha1, hlt, hx, hx', q0, q1, _, _⟩ := (ls_of_owns o8 szs_ab).get (i := 0) (by decide); subst ha1; have q0' : w8.cell? ⟨bb, off, none⟩ = some (.string ⟨#[97]⟩) := (by rw [Nat.zero_mul, Nat.add_zero] at q0; rw [q0, ← hx']; rfl); have k9 := right_tx B0 _ _ _ w8 (HT.out.later B8) s8; clear k8 q0 q1 hx hx')
    | (go_at_call 14; refine k9.mono ?_; intro e w9 hX; obtain ⟨hv, hb9⟩ := hX; subst hv; have B9 := B8.trans (hb9.mono B8.size); have s9 := owl s8 hb9; have kx := get_tx _ _ _ w9 s9; clear k9)
    | (go_at_call 16; refine kx.mono ?_; intro e wx hX; obtain ⟨hv, hbx⟩ := hX; subst hv; have BX := B9.trans (hbx.mono B9.size); clear kx))
  go_ret
  exact ⟨rfl, BX⟩

end Go.Proofs.YtpdffdoogobhfaaDoor

/-
  LabelOrders: its region that draws its order.
-/
namespace Go.Proofs.YtpdffdoogobhfaaDoor
open Go Go.RowKit
set_option linter.unusedVariables false
set_option linter.unusedSimpArgs false

set_option maxRecDepth 100000 in
set_option maxHeartbeats 2000000 in
theorem orders_r17 (b off n c i : Nat) (xn xv : ByteArray) (w : World) (a0 : Act) (Q : Exit → Act → World → Prop) (hsz : a0.tmps.size = 138)
    (s12 : a0.tmps.getD 12 undef = .slice (some ⟨b, off, none⟩) n c)
    (s15 : a0.tmps.getD 15 undef = .int .i64 (i : Int))
    (hin : (i : Int) < (n : Int)) (hinN : i < n)
    (c0 : ∀ w1, Lat w w1 → w1.cell? ⟨b, off + i * 2, none⟩ = some (.string xn)) (c1 : ∀ w1, Lat w w1 → w1.cell? ⟨b, off + i * 2 + 1, none⟩ = some (.string xv))
    (hcall : ∀ w1, Lat w w1 → Calls Tryd.prog 16 #[.slice (some ⟨b, off, none⟩) n c, .string xn] w1 fun e w' => e = .returned (.string xv) ∧ Below w1.heap.size w1 w')
    (hQ : ∀ (v85 v86 v87 v88 v89 v90 v91 v92 v93 v94 v95 v96 : Value) (w1 : World), Lat w w1 → Q .normal (((((((((((((a0.put (some 85) v85).put (some 86) v86).put (some 87) v87).put (some 88) v88).put (some 89) v89).put (some 90) v90).put (some 91) v91).put (some 92) v92).put (some 93) v93).put (some 94) v94).put (some 95) v95).put (some 96) v96).put (some 97) (.bool false)) w1) :
    Code.wp Tryd.prog ((Tryd.f6.body.bind (findRegion 17)).getD .skip) Q a0 w := by
  conv => arg 2; whnf
  refine wp_region_inv Lat (TV [.slice (some ⟨b, off, none⟩) n c, .slice (some ⟨b, off, none⟩) n c, .int .i64 (i : Int), .pointer (some ⟨b, off + i * 2, none⟩), .pointer (some ⟨b, off + i * 2, none⟩), .string xn, .string xv, .slice (some ⟨b, off, none⟩) n c, .int .i64 (i : Int), .pointer (some ⟨b, off + i * 2, none⟩), .pointer (some ⟨b, off + i * 2 + 1, none⟩), .string xv, .bool false]) (by kernel_rfl) (by kernel_rfl) (by kernel_rfl) (by rw [hsz]; kernel_rfl) (by kernel_rfl) Lat.refl Lat.trans (TV.stable _) (Lat.draw w) ?hop ?hdone
  case hdone =>
    intro a w1 hL hS hT
    have k97 : a.tmps.getD 97 undef = .bool false := hT 12 _ rfl _ rfl
    have he := same_puts hS
    have hQ2 := hQ (a.tmps.getD 85 undef) (a.tmps.getD 86 undef) (a.tmps.getD 87 undef) (a.tmps.getD 88 undef) (a.tmps.getD 89 undef) (a.tmps.getD 90 undef) (a.tmps.getD 91 undef) (a.tmps.getD 92 undef) (a.tmps.getD 93 undef) (a.tmps.getD 94 undef) (a.tmps.getD 95 undef) (a.tmps.getD 96 undef) w1 hL
    rw [← k97] at hQ2
    rw [he]
    exact hQ2
  case hop =>
    intro i o hi
    have hlt : i < 13 := (Array.getElem?_eq_some_iff.1 hi).1
    rcases (show i = 0 ∨ i = 1 ∨ i = 2 ∨ i = 3 ∨ i = 4 ∨ i = 5 ∨ i = 6 ∨ i = 7 ∨ i = 8 ∨ i = 9 ∨ i = 10 ∨ i = 11 ∨ i = 12 by omega) with rfl | rfl | rfl | rfl | rfl | rfl | rfl | rfl | rfl | rfl | rfl | rfl | rfl
    · obtain rfl := Option.some.inj hi
      clear hi hlt
      intro a w1 hL hS hD
      have e12 : a.tmps.getD 12 undef = .slice (some ⟨b, off, none⟩) n c := (hS.slot 12 (by kernel_rfl)).trans s12
      refine step_yes rfl ?_
      exact ok_value Lat.refl (.slice (some ⟨b, off, none⟩) n c) (by simp [execOp, Act.eval, e12, go_sem]) (TV.mk rfl)
    · obtain rfl := Option.some.inj hi
      clear hi hlt
      intro a w1 hL hS hD
      have e12 : a.tmps.getD 12 undef = .slice (some ⟨b, off, none⟩) n c := (hS.slot 12 (by kernel_rfl)).trans s12
      refine step_yes rfl ?_
      exact ok_value Lat.refl (.slice (some ⟨b, off, none⟩) n c) (by simp [execOp, Act.eval, e12, go_sem]) (TV.mk rfl)
    · obtain rfl := Option.some.inj hi
      clear hi hlt
      intro a w1 hL hS hD
      have e15 : a.tmps.getD 15 undef = .int .i64 (i : Int) := (hS.slot 15 (by kernel_rfl)).trans s15
      refine step_yes rfl ?_
      exact ok_value Lat.refl (.int .i64 (i : Int)) (by simp [execOp, Act.eval, e15, go_sem]) (TV.mk rfl)
    · obtain rfl := Option.some.inj hi
      clear hi hlt
      intro a w1 hL hS hD
      have d1 : a.tmps.getD 86 undef = .slice (some ⟨b, off, none⟩) n c := hD ⟨1, .data⟩ (by simp) rfl _ rfl _ rfl
      have d2 : a.tmps.getD 87 undef = .int .i64 (i : Int) := hD ⟨2, .data⟩ (by simp) rfl _ rfl _ rfl
      refine step_yes rfl ?_
      exact ok_value Lat.refl (.pointer (some ⟨b, off + i * 2, none⟩)) (by simp [execOp, Act.eval, d1, d2, hin, hinN, go_sem]) (TV.mk rfl)
    · obtain rfl := Option.some.inj hi
      clear hi hlt
      intro a w1 hL hS hD
      have d3 : a.tmps.getD 88 undef = .pointer (some ⟨b, off + i * 2, none⟩) := hD ⟨3, .data⟩ (by simp) rfl _ rfl _ rfl
      refine step_yes rfl ?_
      exact ok_value Lat.refl (.pointer (some ⟨b, off + i * 2, none⟩)) (by simp [execOp, Act.eval, d3, go_sem]) (TV.mk rfl)
    · obtain rfl := Option.some.inj hi
      clear hi hlt
      intro a w1 hL hS hD
      have d4 : a.tmps.getD 89 undef = .pointer (some ⟨b, off + i * 2, none⟩) := hD ⟨4, .data⟩ (by simp) rfl _ rfl _ rfl
      refine step_yes rfl ?_
      exact ok_value Lat.refl (.string xn) (by simp [execOp, Act.eval, d4, c0 w1 hL, go_sem]) (TV.mk rfl)
    · obtain rfl := Option.some.inj hi
      clear hi hlt
      intro a w1 hL hS hD
      have d0 : a.tmps.getD 85 undef = .slice (some ⟨b, off, none⟩) n c := hD ⟨0, .data⟩ (by simp) rfl _ rfl _ rfl
      have d5 : a.tmps.getD 90 undef = .string xn := hD ⟨5, .data⟩ (by simp) rfl _ rfl _ rfl
      refine step_yes rfl ?_
      refine ok_call (f := 16) (args := #[.slice (some ⟨b, off, none⟩) n c, .string xn]) (by simp [execOp, resolve, Act.eval, d0, d5, go_sem]) ?_
      refine (hcall w1 hL).mono ?_
      rintro e w' ⟨rfl, hb⟩
      exact ⟨_, rfl, hb, TV.mk rfl⟩
    · obtain rfl := Option.some.inj hi
      clear hi hlt
      intro a w1 hL hS hD
      have e12 : a.tmps.getD 12 undef = .slice (some ⟨b, off, none⟩) n c := (hS.slot 12 (by kernel_rfl)).trans s12
      refine step_yes rfl ?_
      exact ok_value Lat.refl (.slice (some ⟨b, off, none⟩) n c) (by simp [execOp, Act.eval, e12, go_sem]) (TV.mk rfl)
    · obtain rfl := Option.some.inj hi
      clear hi hlt
      intro a w1 hL hS hD
      have e15 : a.tmps.getD 15 undef = .int .i64 (i : Int) := (hS.slot 15 (by kernel_rfl)).trans s15
      refine step_yes rfl ?_
      exact ok_value Lat.refl (.int .i64 (i : Int)) (by simp [execOp, Act.eval, e15, go_sem]) (TV.mk rfl)
    · obtain rfl := Option.some.inj hi
      clear hi hlt
      intro a w1 hL hS hD
      have d7 : a.tmps.getD 92 undef = .slice (some ⟨b, off, none⟩) n c := hD ⟨7, .data⟩ (by simp) rfl _ rfl _ rfl
      have d8 : a.tmps.getD 93 undef = .int .i64 (i : Int) := hD ⟨8, .data⟩ (by simp) rfl _ rfl _ rfl
      refine step_yes rfl ?_
      exact ok_value Lat.refl (.pointer (some ⟨b, off + i * 2, none⟩)) (by simp [execOp, Act.eval, d7, d8, hin, hinN, go_sem]) (TV.mk rfl)
    · obtain rfl := Option.some.inj hi
      clear hi hlt
      intro a w1 hL hS hD
      have d9 : a.tmps.getD 94 undef = .pointer (some ⟨b, off + i * 2, none⟩) := hD ⟨9, .data⟩ (by simp) rfl _ rfl _ rfl
      refine step_yes rfl ?_
      exact ok_value Lat.refl (.pointer (some ⟨b, off + i * 2 + 1, none⟩)) (by simp [execOp, Act.eval, d9, go_sem]) (TV.mk rfl)
    · obtain rfl := Option.some.inj hi
      clear hi hlt
      intro a w1 hL hS hD
      have d10 : a.tmps.getD 95 undef = .pointer (some ⟨b, off + i * 2 + 1, none⟩) := hD ⟨10, .data⟩ (by simp) rfl _ rfl _ rfl
      refine step_yes rfl ?_
      exact ok_value Lat.refl (.string xv) (by simp [execOp, Act.eval, d10, c1 w1 hL, go_sem]) (TV.mk rfl)
    · obtain rfl := Option.some.inj hi
      clear hi hlt
      intro a w1 hL hS hD
      have d6 : a.tmps.getD 91 undef = .string xv := hD ⟨6, .data⟩ (by simp) rfl _ rfl _ rfl
      have d11 : a.tmps.getD 96 undef = .string xv := hD ⟨11, .data⟩ (by simp) rfl _ rfl _ rfl
      refine step_yes rfl ?_
      exact ok_value Lat.refl (.bool false) (by simp [execOp, Act.eval, d6, d11, go_sem]) (TV.mk rfl)

end Go.Proofs.YtpdffdoogobhfaaDoor
