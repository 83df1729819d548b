/-
  Print: what stands for one code point.
-/
import Derived.Test.YtndegcgcbhcokaaDoorPuV
import Derived.Lib.AppendStr
namespace Go.Proofs.YtndegcgcbhcokaaDoor
open Go.RowKit
set_option linter.unusedVariables false
set_option maxRecDepth 100000
set_option linter.unusedSimpArgs false

theorem info5 : (Tryd.prog.info? 5).map (fun i => (i.zero, i.size, i.bytes)) = some (some (.int .u8 0), 1, 1) := by kernel_rfl
/-- Bytes, as cells. -/
def bC (L : List UInt8) : List Value := L.map fun b => Value.int .u8 b.toNat
theorem bC_length (L : List UInt8) : (bC L).length = L.length := by simp [bC]
theorem bC_append (a b : List UInt8) : bC (a ++ b) = bC a ++ bC b := by simp [bC]
theorem bC_str (s : ByteArray) : Lib.strCells s = bC (bts s) := rfl

def chrT (c : Nat) : List UInt8 := (if isSg c then [92] else []) ++ bts (str c)
def spanT (s : Nat × Nat) : List UInt8 := chrT s.1 ++ (if s.1 = s.2 then [] else (if s.1 + 1 < s.2 then [45] else []) ++ chrT s.2)
/-- What print answers: the bytes, behind those that were there. -/
def PrR (base : Nat) (o : Option Nat) (w : World) (L : List UInt8) (e : Ending) (w' : World) : Prop :=
  ∃ a' m' c', e = .returned (.slice a' m' c') ∧ L.length = m' ∧ w'.ownsRow base 5 1 (.slice a' m' c') m' (bC L) ∧ Cm w w' o (Value.slice a' m' c').ownBlock
theorem PrR.pre {base : Nat} {o o1 : Option Nat} {w w1 w' : World} {L : List UInt8} {e : Ending} (h : PrR base o1 w1 L e w') (hc : Cm w w1 o o1) : PrR base o w L e w' := by
  obtain ⟨a, m, c, rfl, h1, h2, h3⟩ := h
  exact ⟨a, m, c, rfl, h1, h2, hc.trans h3⟩
theorem Cm.below {w w' : World} {o : Option Nat} (h : Below w.heap.size w w') : Cm w w' o o := ⟨Chg.of_below h, .inl rfl⟩
theorem Cm.pushed {w w9 : World} {v : Value} {g : Nat} {ob : Obj} (h : Pushed (w.alloc ob) w9 v g) (n c : Nat) : Cm w w9 v.ownBlock (Value.slice (some ⟨g, 0, none⟩) n c).ownBlock := ⟨h.chg.1, h.chg.2⟩
theorem form5 {w : World} {base : Nat} {v : Value} {n : Nat} {xs : List Value} (h : w.ownsRow base 5 1 v n xs) : ∃ ad c, v = .slice ad n c := by
  obtain ⟨ad, c, e, _⟩ := owns_formS h
  exact ⟨ad, c, e⟩

theorem run_append_strM (w : World) (base : Nat) (ty : TypeId) (i : TypeInfo) (hi : Tryd.prog.info? 5 = some i) (hz : i.zero = some (.int .u8 0)) (hsize : i.size = 1) (hby : i.bytes = 1) (ad : Option Addr) (n c : Nat) (xs : List Value) (hown : w.ownsRow base 5 1 (.slice ad n c) n xs) (s : ByteArray) (hs0 : 0 < s.size) (hb : n + s.size ≤ 100000000) (hbase : base ≤ w.heap.size) :
    ∃ a' c' w', (Builtin.append_ #[79, 9] ty #[.slice ad n c, .string s]).run Tryd.prog w = .ok (.slice a' (n + s.size) c') w' ∧ w'.ownsRow base 5 1 (.slice a' (n + s.size) c') (n + s.size) (xs ++ Lib.strCells s) ∧ Cm w w' (Value.slice ad n c).ownBlock (Value.slice a' (n + s.size) c').ownBlock := by
  obtain ⟨v', w', hr, h1, h2, _⟩ := Lib.run_append_own_string (P := Tryd.prog) w base 79 9 ty 5 i Tryd.underlying79 Tryd.underlying9 hi hz hsize hby (.slice ad n c) n xs hown s (by unfold maxLen; omega) (by omega) hbase
  obtain ⟨a', c', rfl⟩ := form5 h1
  refine ⟨a', c', w', hr, h1, Chg.of_grown h2 (fun i e => e), ?_⟩
  have hxl : xs.length = n := by simpa using hown.1
  rcases hown.2 with ⟨e0, e1⟩ | ⟨g, cap, cur, e0, hbg, hg, hnc, hcm, hcs, htake⟩
  · injection e0 with e0 e2 e3
    subst e0 e3 e1
    have hr2 := run_append_nil_string (P := Tryd.prog) w 79 9 ty 5 i (.int .u8 0) Tryd.underlying79 Tryd.underlying9 hi hz s hs0 (by omega) (by rw [hby]; omega)
    rw [hr2] at hr
    injection hr with hr _
    injection hr with hr _ _
    subst hr
    exact .inr ⟨w.heap.size, by simp [Value.ownBlock], Nat.le_refl _⟩
  · injection e0 with e0 _ e3
    subst e0 e3
    by_cases hroom : n + s.size ≤ c
    · have hr2 := Lib.run_append_room_string (P := Tryd.prog) w 79 9 ty 5 i Tryd.underlying79 Tryd.underlying9 hi hsize g n c cur hg s hroom (by omega)
      rw [hr2] at hr
      injection hr with hr _
      injection hr with hr _ _
      subst hr
      exact .inl (by simp [Value.ownBlock])
    · have hr2 := Lib.run_append_grow_string (P := Tryd.prog) w 79 9 ty 5 i (.int .u8 0) Tryd.underlying79 Tryd.underlying9 hi hz ⟨g, 0, none⟩ n c xs (by rw [hsize]; omega) (hown.cells (g := g) (by simp [Value.ownBlock])) s (by omega) (by omega) (by rw [hby]; exact growslice_fits (by omega) (by omega))
      rw [hr2] at hr
      injection hr with hr _
      injection hr with hr _ _
      subst hr
      exact .inr ⟨w.heap.size, by simp [Value.ownBlock], Nat.le_refl _⟩
theorem wpList_strM (w : World) {ops : Array Oper} {rest : List Oper} {o : Oper} {a : Act} {Q : Exit → Act → World → Prop} (hgd : o.guard = none) (sl x : Operand) (ho : o.op = .call { callee := .builtin .append, args := #[sl, x], argTypes := #[79, 9] }) (base : Nat) (i : TypeInfo) (hi : Tryd.prog.info? 5 = some i) (hz : i.zero = some (.int .u8 0)) (hsize : i.size = 1) (hby : i.bytes = 1)
    (ad : Option Addr) (n c : Nat) (xs : List Value) (hs : a.eval sl = .slice ad n c) (hown : w.ownsRow base 5 1 (.slice ad n c) n xs) (s : ByteArray) (hx : a.eval x = .string s) (hs0 : 0 < s.size) (hb : n + s.size ≤ 100000000) (hbase : base ≤ w.heap.size)
    (h : ∀ a' c' w', w'.ownsRow base 5 1 (.slice a' (n + s.size) c') (n + s.size) (xs ++ Lib.strCells s) → Cm w w' (Value.slice ad n c).ownBlock (Value.slice a' (n + s.size) c').ownBlock → wpList Tryd.prog ops Q rest (a.put o.dst (.slice a' (n + s.size) c')) w') : wpList Tryd.prog ops Q (o :: rest) a w := by
  refine wpList_plain hgd fun K hK => ?_
  obtain ⟨a', c', w', hr, h2, h3⟩ := run_append_strM w base o.type i hi hz hsize hby ad n c xs hown s hs0 hb hbase
  unfold Oper.wp execOp
  simp only [ho, resolve, invoke, builtin, Sem.run_bind, Sem.run_pure, Result.andThen_ok, List.map_toArray, List.map_cons, List.map_nil, hs, hx, hr]
  exact hK _ _ (h a' c' w' h2 h3)
theorem str_pos (c : Nat) : 0 < (str c).size := by
  unfold str Utf8.encode
  simp only
  repeat' split
  all_goals simp [ByteArray.size]
/-- One byte behind others. -/
theorem wpList_byte (w : World) {ops : Array Oper} {rest : List Oper} {o : Oper} {a : Act} {Q : Exit → Act → World → Prop} (hgd : o.guard = none) (sl x : Operand) (ho : o.op = .call { callee := .builtin .append, args := #[sl, x], argTypes := #[79, 79] }) (base : Nat) (i : TypeInfo) (hi : Tryd.prog.info? 5 = some i) (hz : i.zero = some (.int .u8 0)) (hsize : i.size = 1) (hby : i.bytes = 1)
    (ad : Option Addr) (n c : Nat) (L : List UInt8) (hs : a.eval sl = .slice ad n c) (hown : w.ownsRow base 5 1 (.slice ad n c) n (bC L)) (b : UInt8) (bv : Int) (hbv : bv = (b.toNat : Int)) (w0 : World) (hw0 : w = w0.alloc (.cells #[.int .u8 bv] 5)) (hx : a.eval x = .slice (some ⟨w0.heap.size, 0, none⟩) 1 1) (hb : n ≤ 100000000) (hbase : base ≤ w0.heap.size)
    (h : ∀ g' c' w', w'.ownsRow base 5 1 (.slice (some ⟨g', 0, none⟩) (n + 1) c') (n + 1) (bC (L ++ [b])) → Cm w0 w' (Value.slice ad n c).ownBlock (Value.slice (some ⟨g', 0, none⟩) (n + 1) c').ownBlock → wpList Tryd.prog ops Q rest (a.put o.dst (.slice (some ⟨g', 0, none⟩) (n + 1) c')) w') : wpList Tryd.prog ops Q (o :: rest) a w := by
  subst hw0 hbv
  refine wpList_push _ hgd sl x 79 ho 5 i (.int .u8 0) 1 Tryd.underlying79 hi hz hsize hby rfl base (.slice ad n c) n (bC L) hs hown ⟨w0.heap.size, 0, none⟩ (.int .u8 (b.toNat : Int)) hx ((Blk.new w0 5 [.int .u8 (b.toNat : Int)]).cell 0) rfl (by unfold maxLen; omega) (by omega) (by simp; omega) ?_
  intro g' c' w' h1 h2
  exact h g' c' w' (by rw [bC_append]; exact h1) (Cm.pushed h2 _ _)

set_option maxRecDepth 100000 in
set_option maxHeartbeats 8000000 in
theorem charPrP (x : Nat) (base : Nat) (L : List UInt8) (ad : Option Addr) (n c : Nat) (w : World) (hown : w.ownsRow base 5 1 (.slice ad n c) n (bC L)) (hn : n ≤ 10000000) (hbase : base ≤ w.heap.size) :
    Calls Tryd.prog 94 #[.int .i32 (x : Int), .slice ad n c] w (PrR base (Value.slice ad n c).ownBlock w (L ++ chrT x)) := by
  obtain ⟨i0, hi0, hz0, hz1, hz2⟩ := info_parts info5
  have HI := hidden hi0
  have hln : L.length = n := by have := hown.1; rw [bC_length] at this; omega
  have HLN := hidden hln
  have HOW := hidden hown
  have HBS := hidden hbase
  obtain ⟨sx, hsx⟩ : ∃ sx, str x = sx := ⟨_, rfl⟩
  have hsx2 : Utf8.encode (x : Int) = sx := hsx
  have hss := str_size x
  rw [hsx] at hss
  have kS := isSignP x
  obtain ⟨R, hR⟩ : ∃ R, L ++ chrT x = R := ⟨_, rfl⟩
  rw [hR]
  have hs0 := str_pos x
  rw [hsx] at hs0
  have HFIN : Hid (∀ (w1 : World) (L1 : List UInt8) (o1 : Option Nat) (n1 : Nat), L1.length = n1 → L1 ++ bts sx = R → Cm w w1 (Value.slice ad n c).ownBlock o1 → ∀ a' c' w', w'.ownsRow base 5 1 (.slice a' (n1 + sx.size) c') (n1 + sx.size) (bC L1 ++ Lib.strCells sx) → Cm w1 w' o1 (Value.slice a' (n1 + sx.size) c').ownBlock → PrR base (Value.slice ad n c).ownBlock w R (.returned (.slice a' (n1 + sx.size) c')) w') := hidden (fun w1 L1 o1 n1 h1 h2 h3 a' c' w' h4 h5 => by
    refine ⟨a', n1 + sx.size, c', rfl, ?_, ?_, h3.trans h5⟩
    · rw [← h2, List.length_append, h1, size_bts]
    · rw [← h2, bC_append, ← bC_str]; exact h4)
  cases hb : isSg x with
  | false =>
    have HR : Hid (L ++ bts sx = R) := hidden (by rw [← hR, chrT, hb, hsx]; rfl)
    rw [hb] at kS
    clear hi0 hln hown hbase hR hsx hb
    go_enter Tryd.func94, Tryd.ntmps94
    go_wp2_with (first
      | (go_at_call 73; refine (kS _).mono ?_; rintro e w2 ⟨rfl, rfl⟩; clear kS)
      | (refine wpList_strM _ rfl (.tmp 10) (.tmp 12) rfl base i0 HI.out hz0 hz1 hz2 ad n c (bC L) rfl HOW.out sx rfl hs0 (by omega) HBS.out ?_; intro a3 c3 w3 h1 h2; have H3 := hidden (HFIN.out _ L _ n HLN.out HR.out (Cm.refl _ _) a3 c3 w3 h1 h2); clear h1 h2))
    go_ret
    exact H3.out
  | true =>
    have HR : Hid ((L ++ [92]) ++ bts sx = R) := hidden (by rw [← hR, chrT, hb, hsx, List.append_assoc]; rfl)
    rw [hb] at kS
    clear hi0 hln hown hbase hR hsx hb
    go_enter Tryd.func94, Tryd.ntmps94
    go_wp2_with (first
      | (go_at_call 73; refine (kS _).mono ?_; rintro e w2 ⟨rfl, rfl⟩; clear kS)
      | (refine wpList_byte _ rfl (.tmp 7) (.tmp 8) rfl base i0 HI.out hz0 hz1 hz2 ad n c L rfl (HOW.out.alloc _) 92 92 rfl _ rfl rfl (by omega) HBS.out ?_; intro g4 c4 w4 h1 h2; have H4 := hidden h1; have C4 := hidden h2; clear h1 h2)
      | (refine wpList_strM _ rfl (.tmp 10) (.tmp 12) rfl base i0 HI.out hz0 hz1 hz2 (some ⟨g4, 0, none⟩) (n + 1) c4 (bC (L ++ [92])) rfl H4.out sx rfl hs0 (by omega) (by have := HBS.out; have := C4.out.chg.size; omega) ?_; intro a3 c3 w3 h1 h2; have H3 := hidden (HFIN.out _ (L ++ [92]) _ (n + 1) (by simp [HLN.out]) HR.out C4.out a3 c3 w3 h1 h2); clear h1 h2))
    go_ret
    exact H3.out

set_option maxRecDepth 100000 in
set_option maxHeartbeats 8000000 in
theorem anyPrP (base : Nat) (L : List UInt8) (ad : Option Addr) (n c : Nat) (w : World) (hown : w.ownsRow base 5 1 (.slice ad n c) n (bC L)) (hn : n ≤ 10000000) (hbase : base ≤ w.heap.size) :
    Calls Tryd.prog 95 #[.agg #[], .slice ad n c] w (PrR base (Value.slice ad n c).ownBlock w (L ++ [46])) := by
  obtain ⟨i0, hi0, hz0, hz1, hz2⟩ := info_parts info5
  have HI := hidden hi0
  have hln : L.length = n := by have := hown.1; rw [bC_length] at this; omega
  have HLN := hidden hln
  have hal : Below w.heap.size w (w.alloc (.cells #[] 128)) := (Below.refl _ w).alloc (Nat.le_refl _) _
  have HAL := hidden hal
  have HOW : Hid ((w.alloc (.cells #[] 128)).ownsRow base 5 1 (.slice ad n c) n (bC L)) := hidden (hown.alloc _)
  have HBS := hidden hbase
  clear hi0 hln hown hbase hal
  go_enter Tryd.func95, Tryd.ntmps95
  go_wp2_with (refine wpList_byte _ rfl (.tmp 5) (.tmp 6) rfl base i0 HI.out hz0 hz1 hz2 ad n c L rfl (HOW.out.alloc _) 46 46 rfl (w.alloc (.cells #[] 128)) rfl (by simp; rfl) (by omega) (by have := HBS.out; simp; omega) ?_; intro g4 c4 w4 h1 h2; have H4 := hidden h1; have C4 := hidden h2; clear h1 h2)
  go_ret
  exact ⟨_, n + 1, c4, rfl, by simp [HLN.out], H4.out, (Cm.below HAL.out).trans C4.out⟩

end Go.Proofs.YtndegcgcbhcokaaDoor
