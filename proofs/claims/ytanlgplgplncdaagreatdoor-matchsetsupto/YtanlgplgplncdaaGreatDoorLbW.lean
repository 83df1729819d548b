import Derived.Test.YtanlgplgplncdaaGreatDoorLbS
import Derived.Lib.AppendStr
/-
  A strings.Builder of the call's own: WriteByte, WriteString, String.
-/
namespace Go.Proofs.YtanlgplgplncdaaGreatDoor.L
open Go.RowKit
set_option linter.unusedVariables false
set_option linter.unusedSimpArgs false

theorem size58 : (Tryz.prog.info? 75).map (·.size) = some 2 := by kernel_rfl
theorem lies58 : liesAt Tryz.prog Tryz.prog.depth 75 (2 / Tryz.prog.cellsOf 75) 0 75 1 = true := by kernel_rfl
theorem info5 : (Tryz.prog.info? 5).map (fun i => (i.zero, i.size, i.bytes)) = some (some (.int .u8 0), 1, 1) := by kernel_rfl

set_option maxHeartbeats 1000000 in
set_option maxRecDepth 100000 in
theorem copyCheckP (B b : Nat) (bs : List Value) (w : World) (h : Lib.IsBuilder 75 5 B b bs w) :
    Calls Tryz.prog 47 #[.pointer (some ⟨b, 0, none⟩)] w fun e w' => e = .returned (.tuple #[]) ∧ Lib.BuilderAt 75 5 B b (.pointer (some ⟨b, 0, none⟩)) bs w' ∧ Below B w w' ∧ Chg (fun i => i = b) w w' := by
  obtain ⟨j, hj, hjs⟩ := Option.map_eq_some_iff.1 size58
  rcases h with h | h
  · have c0 := h.cell0
    have f0 := h.frozen0
    have hsh := h.shape
    have HH := hidden h
    clear h
    go_enter Tryz.func47, Tryz.ntmps47
    go_wp2
    rw [Lib.run_to_unsafe w ⟨b, 0, none⟩ Tryz.underlying72 Tryz.underlying130 hj (by rw [hjs]; decide) hsh (Nat.zero_lt_succ 1)]
    simp only [Result.andThen]
    rw [Oper.upon_value]
    go_wp2
    rw [run_callFunc_extern Tryz.func64 (by kernel_rfl) (by kernel_rfl) (by kernel_rfl) (e := Extern.AbiNoEscape.same) (by kernel_rfl), Lib.run_noEscape]
    simp only [Result.andThen]
    rw [Oper.upon_value]
    go_wp2
    rw [Lib.run_from_unsafe w ⟨b, 0, none⟩ Tryz.underlying130 Tryz.underlying72 hj hsh lies58]
    simp only [Result.andThen]
    rw [Oper.upon_value]
    go_wp2
    go_end0
    exact ⟨rfl, HH.out.used _, (Below.refl B w).setCell (p := ⟨b, 0, none⟩) HH.out.1 _, Chg.set ⟨b, 0, none⟩ _ w⟩
  · have c0 := h.cell0
    have HH := hidden h
    clear h
    go_enter Tryz.func47, Tryz.ntmps47
    go_wp2
    rw [Lib.run_neq_ptr_same w _ Tryz.underlying72 hj]
    go_wp2
    go_end0
    exact ⟨rfl, HH.out, Below.refl _ _, Chg.refl _ _⟩

/-- What writing into a builder may change. -/
def Wr (b : Nat) (w w' : World) : Prop := Chg (fun i => i = b ∨ Tg w i 5) w w'
theorem Wr.trans {b : Nat} {u v w : World} (h : Wr b u v) (k : Wr b v w) : Wr b u w := by
  refine Chg.trans h k fun i hi hk => ?_
  rcases hk with e | ⟨cs, fr, e⟩
  · exact Or.inl e
  · by_cases hF : i = b ∨ Tg u i 5
    · exact hF
    · have := h.block i hi hF
      rw [this] at e
      exact Or.inr ⟨cs, fr, e⟩
theorem Wr.of {b : Nat} {w w' : World} (h : Below w.heap.size w w') : Wr b w w' := Chg.of_below h
theorem Wr.refl (b : Nat) (w : World) : Wr b w w := Chg.refl _ _
theorem Wr.blk {b g t : Nat} {w w' : World} {l : List Value} (h : Wr b w w') (hB : Blk w g t l) (h1 : g ≠ b) (h5 : t ≠ 5) : Blk w' g t l :=
  Chg.blk h hB (fun e => by
    rcases e with e | e
    · exact h1 e
    · exact h5 (hB.tg.one e))

/-- The builder's own block, and its row. -/
theorem bd_parts {B b : Nat} {p : Value} {bs : List Value} {w : World} (h : Lib.BuilderAt 75 5 B b p bs w) : ∃ ao n c, Blk w b 75 [p, .slice ao n c] ∧ B ≤ b ∧ w.ownsRow B 5 1 (.slice ao n c) bs.length bs ∧ (Value.slice ao n c).ownBlock ≠ some b := by
  obtain ⟨hB, v, hb, hown, hne⟩ := h
  obtain ⟨ao, c, rfl⟩ := owns_form hown
  exact ⟨ao, _, c, hb, hB, hown, hne⟩
theorem bd_put {B b : Nat} {p v v' : Value} {bs' : List Value} {w : World} (hb : Blk w b 75 [p, v]) (hB : B ≤ b) (hown : w.ownsRow B 5 1 v' bs'.length bs') : Lib.BuilderAt 75 5 B b p bs' (w.setCell ⟨b, 1, none⟩ v') :=
  Lib.BuilderAt.put hB hb hown (by decide)

set_option maxHeartbeats 1000000 in
set_option maxRecDepth 100000 in
theorem writeByteP (B b : Nat) (bs : List Value) (c : Int) (w : World) (h : Lib.IsBuilder 75 5 B b bs w) (hlen : bs.length + 1 ≤ 140737488355328) (hBw : B ≤ w.heap.size) :
    Calls Tryz.prog 48 #[.pointer (some ⟨b, 0, none⟩), .int .u8 c] w fun e w' => e = .returned .nilIface ∧ Lib.BuilderAt 75 5 B b (.pointer (some ⟨b, 0, none⟩)) (bs ++ [.int .u8 c]) w' ∧ Below B w w' ∧ Wr b w w' := by
  obtain ⟨i0, hi0, hz0, hz1, hz2⟩ := info_parts info5
  go_enter Tryz.func48, Tryz.ntmps48
  go_wp2_with (go_at_call 47; refine (copyCheckP B b bs _ h).mono ?_)
  rintro e w1 ⟨rfl, h1, hb1, hcc⟩
  obtain ⟨ao, n, cc, hblk, hB, hown, hne⟩ := bd_parts h1
  have c0 : w1.cell? ⟨b, 0, none⟩ = some (.pointer (some ⟨b, 0, none⟩)) := hblk.cell 0
  have c1 : w1.cell? ⟨b, 1, none⟩ = some (.slice ao n cc) := hblk.cell 1
  have f1 := hblk.frozen 1
  have HS := hidden hb1.size
  have HB := hidden hblk
  have HO := hidden hown
  clear hblk hown h1
  go_wp2_with (refine wpList_push _ rfl _ _ 73 rfl 5 i0 (.int .u8 0) 1 Tryz.underlying73 hi0 hz0 hz1 hz2 rfl B _ bs.length bs rfl (HO.out.alloc _) ⟨w1.heap.size, 0, none⟩ (.int .u8 c) rfl (by simp) rfl (by unfold maxLen; omega) (by omega) (by have := HS.out; simp; omega) ?_)
  intro g' c' w2 ho2 hp2
  have hch := hp2.chg
  have hb2 : Blk w2 b 75 [.pointer (some ⟨b, 0, none⟩), .slice ao n cc] := hch.1.blk HB.out (fun e => hne e)
  have d0 : w2.cell? ⟨b, 0, none⟩ = some (.pointer (some ⟨b, 0, none⟩)) := hb2.cell 0
  have d1 : w2.cell? ⟨b, 1, none⟩ = some (.slice ao n cc) := hb2.cell 1
  have e1 := hb2.frozen 1
  have HB2 := hidden hb2
  have HO2 := hidden ho2
  have HC := hidden hch
  clear hb2 ho2 hp2 hch
  go_wp2
  go_ret
  refine ⟨rfl, bd_put HB2.out hB (by simpa using HO2.out), ?_⟩
  have hW1 : Wr b w w1 := hcc.mono (fun i _ e => Or.inl e)
  have hW2 : Wr b w1 w2 := HC.out.1.mono (fun i _ e => Or.inr (owns_tg HO.out i e))
  exact ⟨(hb1.trans (HC.out.1.below (by have := HS.out; omega) (fun i hi => (HO.out.lt i hi).1))).setCell (p := ⟨b, 1, none⟩) hB _, (hW1.trans hW2).trans ((Chg.set ⟨b, 1, none⟩ _ w2).mono (fun i _ e => Or.inl e))⟩

set_option maxHeartbeats 1000000 in
set_option maxRecDepth 100000 in
theorem writeStringP (B b : Nat) (bs : List Value) (s : ByteArray) (w : World) (h : Lib.IsBuilder 75 5 B b bs w) (hlen : bs.length + s.size ≤ 140737488355328) (hBw : B ≤ w.heap.size) :
    Calls Tryz.prog 27 #[.pointer (some ⟨b, 0, none⟩), .string s] w fun e w' => e = .returned (.tuple #[.int .i64 s.size, .nilIface]) ∧ Lib.BuilderAt 75 5 B b (.pointer (some ⟨b, 0, none⟩)) (bs ++ Lib.strCells s) w' ∧ Below B w w' ∧ Wr b w w' := by
  obtain ⟨i0, hi0, hz0, hz1, hz2⟩ := info_parts info5
  go_enter Tryz.func27, Tryz.ntmps27
  go_wp2_with (go_at_call 47; refine (copyCheckP B b bs _ h).mono ?_)
  rintro e w1 ⟨rfl, h1, hb1, hcc⟩
  obtain ⟨ao, n, cc, hblk, hB, hown, hne⟩ := bd_parts h1
  have c0 : w1.cell? ⟨b, 0, none⟩ = some (.pointer (some ⟨b, 0, none⟩)) := hblk.cell 0
  have c1 : w1.cell? ⟨b, 1, none⟩ = some (.slice ao n cc) := hblk.cell 1
  have f1 := hblk.frozen 1
  have HS := hidden hb1.size
  have HB := hidden hblk
  have HO := hidden hown
  clear hblk hown h1
  go_wp2_with (refine Lib.wpList_append_own_string _ rfl _ _ 73 9 rfl B 5 i0 Tryz.underlying73 Tryz.underlying9 hi0 hz0 hz1 hz2 _ _ _ rfl HO.out s rfl (by unfold maxLen; omega) (by omega) (by have := HS.out; omega) ?_)
  intro v' w2 ho2 hgrow hno
  have hb2 : Blk w2 b 75 [.pointer (some ⟨b, 0, none⟩), .slice ao n cc] := by
    show w2.heap[b]? = _
    rw [hgrow.block b HB.out.lt (fun e => hne e.symm)]; exact HB.out
  have d0 : w2.cell? ⟨b, 0, none⟩ = some (.pointer (some ⟨b, 0, none⟩)) := hb2.cell 0
  have d1 : w2.cell? ⟨b, 1, none⟩ = some (.slice ao n cc) := hb2.cell 1
  have e1 := hb2.frozen 1
  have HB2 := hidden hb2
  have HO2 := hidden ho2
  have HC := hidden hgrow
  obtain ⟨a2, c2, rfl⟩ := owns_form ho2
  clear hb2 ho2 hgrow
  go_wp2
  go_ret2
  refine ⟨rfl, bd_put HB2.out hB (by simpa [Lib.strCells_length] using HO2.out), ?_⟩
  have hW1 : Wr b w w1 := hcc.mono (fun i _ e => Or.inl e)
  have hW2 : Wr b w1 w2 := Chg.of_grown HC.out (fun i e => Or.inr (owns_tg HO.out i e))
  exact ⟨(hb1.grown HC.out (by have := HS.out; omega) (fun k hk => (HO.out.lt k hk).1)).setCell (p := ⟨b, 1, none⟩) hB _, (hW1.trans hW2).trans ((Chg.set ⟨b, 1, none⟩ _ w2).mono (fun i _ e => Or.inl e))⟩

theorem extra169 : Builder.Extra Tryz.prog Tryz.lays169_ren where
  sizeBuilder := by kernel_rfl
  liesBuilder := by kernel_rfl
  t5 := Tryz.underlying5
  a5 := Tryz.isAgg5
  z5 := Tryz.sizeOf5
  v5 := Tryz.zeroValue5
  infoByte := by kernel_rfl
  cellsByte := by kernel_rfl
  sizeByte := by kernel_rfl
  neB5 := by decide
theorem stringP (B b : Nat) (l : List UInt8) (w : World) (h : Lib.IsBuilder 75 5 B b (Lib.byteCells l) w) (hBw : B ≤ w.heap.size) :
    Calls Tryz.prog 30 #[.pointer (some ⟨b, 0, none⟩)] w fun e w' => e = .returned (.string (oft l)) ∧ Below B w w' :=
  Any.Builder_String_any Tryz.lays169 extra169 B b l w h hBw

/-- A new builder. -/
theorem bd_new (w : World) : Lib.IsBuilder 75 5 w.heap.size w.heap.size (Lib.byteCells []) (w.alloc (.cells #[.pointer none, .slice none 0 0] 75)) :=
  Or.inl ⟨Nat.le_refl _, .slice none 0 0, Blk.new w 75 [.pointer none, .slice none 0 0], World.ownsRow_nil _ _ _ _, by simp [Value.ownBlock]⟩
/-- A builder, while blocks below it change. -/
theorem bd_keep {B b : Nat} {bs : List Value} {w w' : World} (h : Lib.IsBuilder 75 5 B b bs w) (hc : Chg (fun i => i < B) w w') : Lib.IsBuilder 75 5 B b bs w' := by
  have key : ∀ p, Lib.BuilderAt 75 5 B b p bs w → Lib.BuilderAt 75 5 B b p bs w' := by
    rintro p ⟨hB, v, hb, hown, hne⟩
    refine ⟨hB, v, ?_, hc.owns hown (fun g hg hlt => ?_), hne⟩
    · exact hc.blk (g := b) (l := [p, v]) hb (by omega)
    · have := (hown.lt g hg).1; omega
  rcases h with h | h
  · exact Or.inl (key _ h)
  · exact Or.inr (key _ h)
theorem strCells_bts (s : ByteArray) : Lib.strCells s = Lib.byteCells (bts s) := by
  simp [Lib.strCells, Lib.byteCells, bts]
theorem byteCells_app (a b : List UInt8) : Lib.byteCells (a ++ b) = Lib.byteCells a ++ Lib.byteCells b := by
  simp [Lib.byteCells]
theorem byteCells_len (a : List UInt8) : (Lib.byteCells a).length = a.length := by simp [Lib.byteCells]
theorem byteCells_one (x : UInt8) : Lib.byteCells [x] = [.int .u8 (x.toNat : Int)] := by simp [Lib.byteCells]

theorem wsP (B b : Nat) (l : List UInt8) (s : ByteArray) (w : World) (h : Lib.IsBuilder 75 5 B b (Lib.byteCells l) w) (hlen : l.length + (bts s).length ≤ 140737488355328) (hBw : B ≤ w.heap.size) :
    Calls Tryz.prog 27 #[.pointer (some ⟨b, 0, none⟩), .string s] w fun e w' => e = .returned (.tuple #[.int .i64 s.size, .nilIface]) ∧ Lib.IsBuilder 75 5 B b (Lib.byteCells (l ++ bts s)) w' ∧ Below B w w' ∧ Wr b w w' := by
  refine (writeStringP B b (Lib.byteCells l) s w h (by rw [byteCells_len, size_bts]; exact hlen) hBw).mono ?_
  rintro e w' ⟨rfl, h1, h2, h3⟩
  exact ⟨rfl, by rw [byteCells_app, ← strCells_bts]; exact Or.inr h1, h2, h3⟩
theorem wbP (B b : Nat) (l : List UInt8) (x : UInt8) (w : World) (h : Lib.IsBuilder 75 5 B b (Lib.byteCells l) w) (hlen : l.length + 1 ≤ 140737488355328) (hBw : B ≤ w.heap.size) :
    Calls Tryz.prog 48 #[.pointer (some ⟨b, 0, none⟩), .int .u8 (x.toNat : Int)] w fun e w' => e = .returned .nilIface ∧ Lib.IsBuilder 75 5 B b (Lib.byteCells (l ++ [x])) w' ∧ Below B w w' ∧ Wr b w w' := by
  refine (writeByteP B b (Lib.byteCells l) (x.toNat : Int) w h (by rw [byteCells_len]; exact hlen) hBw).mono ?_
  rintro e w' ⟨rfl, h1, h2, h3⟩
  exact ⟨rfl, by rw [byteCells_app, byteCells_one]; exact Or.inr h1, h2, h3⟩

end Go.Proofs.YtanlgplgplncdaaGreatDoor.L

/-
  Print.
-/
namespace Go.Proofs.YtanlgplgplncdaaGreatDoor.L
open Go.RowKit
set_option linter.unusedVariables false
set_option linter.unusedSimpArgs false

theorem beq8 (x : UInt8) (k : Nat) (hk : k < 256) : (((x.toNat : Nat) : Int) == (k : Int)) = decide (x = UInt8.ofNat k) := by
  rw [Bool.eq_iff_iff]
  simp only [beq_iff_eq, decide_eq_true_eq]
  constructor
  · intro h
    have : x.toNat = k := by omega
    rw [← this]; simp
  · intro h
    rw [h]; simp; omega
theorem beq92 (x : UInt8) : (((x.toNat : Nat) : Int) == 92) = decide (x = 92) := beq8 x 92 (by omega)
theorem beq34 (x : UInt8) : (((x.toNat : Nat) : Int) == 34) = decide (x = 34) := beq8 x 34 (by omega)
theorem beq10 (x : UInt8) : (((x.toNat : Nat) : Int) == 10) = decide (x = 10) := beq8 x 10 (by omega)
theorem beq110 (x : UInt8) : (((x.toNat : Nat) : Int) == 110) = decide (x = 110) := beq8 x 110 (by omega)
theorem beq32 (x : UInt8) : (((x.toNat : Nat) : Int) == 32) = decide (x = 32) := beq8 x 32 (by omega)
theorem beq123 (x : UInt8) : (((x.toNat : Nat) : Int) == 123) = decide (x = 123) := beq8 x 123 (by omega)
theorem beq125 (x : UInt8) : (((x.toNat : Nat) : Int) == 125) = decide (x = 125) := beq8 x 125 (by omega)
theorem beq61 (x : UInt8) : (((x.toNat : Nat) : Int) == 61) = decide (x = 61) := beq8 x 61 (by omega)
theorem beq44 (x : UInt8) : (((x.toNat : Nat) : Int) == 44) = decide (x = 44) := beq8 x 44 (by omega)
theorem qt1_len (c : UInt8) : (qt1 c).length ≤ 2 := by
  unfold qt1
  repeat' split
  all_goals simp
theorem qtL_cons (c : UInt8) (t : List UInt8) : qtL (c :: t) = qt1 c ++ qtL t := by simp [qtL]
theorem qtL_len : ∀ l : List UInt8, (qtL l).length ≤ 2 * l.length
  | [] => by simp [qtL]
  | c :: t => by rw [qtL_cons, List.length_append]; have := qt1_len c; have := qtL_len t; simp; omega
theorem isName_len {n : List UInt8} (h : isName n = true) : n.length ≤ 32 := by
  simp only [isName, Bool.and_eq_true, decide_eq_true_eq] at h; exact h.1.1
theorem isVal_len {n : List UInt8} (h : isVal n = true) : n.length ≤ 64 := by
  simp only [isVal, Bool.and_eq_true, decide_eq_true_eq] at h; exact h.1.2
theorem text_len {x : Lb} (h : x.fits = true) : x.text.length ≤ 200 := by
  simp only [Lb.fits, Bool.and_eq_true] at h
  have h1 := isName_len h.1
  have h2 := isVal_len h.2
  have h3 := qtL_len (bts x.v)
  simp only [Lb.text, List.length_append, List.length_cons, List.length_nil]
  omega
theorem prF_len : ∀ (l : List Lb) (f : Bool), (∀ x ∈ l, x.fits = true) → (prF f l).length ≤ 202 * l.length + 1
  | [], f, _ => by simp [prF]
  | x :: t, f, h => by
    have h1 := text_len (h x (by simp))
    have h2 := prF_len t false (fun y hy => h y (by simp [hy]))
    cases f <;> simp [prF] <;> omega
theorem prF_short {l : List Lb} (h : right l = true) : (prF true l).length ≤ 2000 := by
  obtain ⟨h1, h2, h3, _⟩ := (right_iff l).1 h
  have := prF_len l true h3
  omega

set_option maxRecDepth 100000 in
set_option maxHeartbeats 2000000 in
theorem writeQuotedP (B b : Nat) (l : List UInt8) (s : ByteArray) (w : World) (h : Lib.IsBuilder 75 5 B b (Lib.byteCells l) w) (hs : s.size ≤ 9223372036854775807) (hlen : l.length + (qtL (bts s)).length ≤ 140737488355328) (hBw : B ≤ w.heap.size) :
    Calls Tryz.prog 29 #[.pointer (some ⟨b, 0, none⟩), .string s] w fun e w' => e = .returned (.tuple #[]) ∧ Lib.IsBuilder 75 5 B b (Lib.byteCells (l ++ qtL (bts s))) w' ∧ Below B w w' ∧ Wr b w w' := by
  obtain ⟨R, hR⟩ : ∃ R, l ++ qtL (bts s) = R := ⟨_, rfl⟩
  have HR := hidden hR
  have HLEN : Hid (R.length ≤ 140737488355328) := by show _ ≤ _; rw [← hR, List.length_append]; exact hlen
  rw [hR]
  have HH := hidden h
  clear hR h hlen
  go_enter Tryz.func29, Tryz.ntmps29
  go_wp2
  go_loopw [8] (fun s0 wx => ∃ (i : Nat) (l' : List UInt8), s0 = .int .i64 (i : Int) ∧ i ≤ s.size ∧ Hid (l' ++ qtL ((bts s).drop i) = R) ∧ Hid (Lib.IsBuilder 75 5 B b (Lib.byteCells l') wx) ∧ Hid (Below B w wx ∧ Wr b w wx)) (fun s0 _ => s.size - (intOf s0).toNat)
  case atStart => exact ⟨0, l, rfl, by omega, hidden (by simpa using HR.out), HH, hidden ⟨Below.refl _ _, Wr.refl _ _⟩⟩
  case round =>
    rename World => wr
    obtain ⟨i, l', rfl, hi, hrel, hbd, hbel⟩ := hrel
    by_cases hlt : i < s.size
    · have hltz : (i : Int) < (s.size : Int) := by omega
      obtain ⟨x, hx, _, hdr⟩ := byte_at s hlt
      have hR1 : Hid (l' ++ (qt1 x ++ qtL ((bts s).drop (i + 1))) = R) := by
        have := hrel.out; rw [hdr, qtL_cons] at this; exact this
      have hl2 : Hid (l'.length + (qt1 x).length ≤ 140737488355328) := by
        show _ ≤ _
        have := HLEN.out; rw [← hR1.out] at this; simp only [List.length_append] at this; omega
      have hsz : Hid (B ≤ wr.heap.size) := hidden (Nat.le_trans hBw hbel.out.1.size)
      clear hrel hdr
      have e92 := beq92 x
      have e34 := beq34 x
      have e10 := beq10 x
      have fin : ∀ (p : List UInt8) (w3 : World), qt1 x = p → Lib.IsBuilder 75 5 B b (Lib.byteCells (l' ++ p)) w3 → Below B wr w3 → Wr b wr w3 → ∃ (i' : Nat) (l2 : List UInt8), Value.int .i64 ((i : Int) + 1) = .int .i64 (i' : Int) ∧ i' ≤ s.size ∧ Hid (l2 ++ qtL ((bts s).drop i') = R) ∧ Hid (Lib.IsBuilder 75 5 B b (Lib.byteCells l2) w3) ∧ Hid (Below B w w3 ∧ Wr b w w3) := by
        intro p w3 hp h3 h4 h5
        refine ⟨i + 1, l' ++ p, by simp, by omega, hidden ?_, h3, hidden ⟨hbel.out.1.trans h4, hbel.out.2.trans h5⟩⟩
        have := hR1.out; rw [hp] at this; simpa using this
      by_cases h1 : x = 92 ∨ x = 34
      · have hq : qt1 x = [92] ++ [x] := by rcases h1 with rfl | rfl <;> rfl
        have hl3 : l'.length + 2 ≤ 140737488355328 := by have := hl2.out; rw [hq] at this; simp at this; omega
        have k1 : Calls Tryz.prog 48 #[.pointer (some ⟨b, 0, none⟩), .int .u8 92] wr fun e w' => e = .returned .nilIface ∧ Lib.IsBuilder 75 5 B b (Lib.byteCells (l' ++ [92])) w' ∧ Below B wr w' ∧ Wr b wr w' := wbP B b l' 92 wr hbd.out (by omega) hsz.out
        have k2 : ∀ w2, Lib.IsBuilder 75 5 B b (Lib.byteCells (l' ++ [92])) w2 → B ≤ w2.heap.size → Calls Tryz.prog 48 #[.pointer (some ⟨b, 0, none⟩), .int .u8 (x.toNat : Int)] w2 fun e w' => e = .returned .nilIface ∧ Lib.IsBuilder 75 5 B b (Lib.byteCells (l' ++ [92] ++ [x])) w' ∧ Below B w2 w' ∧ Wr b w2 w' := fun w2 h2 hz => wbP B b (l' ++ [92]) x w2 h2 (by simp; omega) hz
        have K2 := hidden k2
        have FIN := hidden (fin _ · hq)
        clear hq hl2 k2 fin
        rcases h1 with rfl | rfl
        · have f1 : ((92 : UInt8).toNat : Int) = 92 := rfl
          go_wp2_with (go_at_call 48; refine k1.mono ?_)
          first | rintro e w2 rfl h2 hb2 hc2 | rintro e w2 ⟨rfl, h2, hb2, hc2⟩
          have k3 := K2.out w2 h2 (Nat.le_trans hsz.out hb2.size)
          clear k1
          go_wp2_with (go_at_call 48; refine k3.mono ?_)
          first | rintro e w3 rfl h3 hb3 hc3 | rintro e w3 ⟨rfl, h3, hb3, hc3⟩
          have F := hidden (FIN.out w3 (by simpa using h3) (hb2.trans hb3) (hc2.trans hc3))
          clear h3 hb3 hc3 h2 hb2 hc2 k3
          go_wp2
          refine ⟨F.out, ?_⟩
          simp [intOf]
          omega
        · have f1 : ((34 : UInt8).toNat : Int) = 34 := rfl
          go_wp2_with (go_at_call 48; refine k1.mono ?_)
          first | rintro e w2 rfl h2 hb2 hc2 | rintro e w2 ⟨rfl, h2, hb2, hc2⟩
          have k3 := K2.out w2 h2 (Nat.le_trans hsz.out hb2.size)
          clear k1
          go_wp2_with (go_at_call 48; refine k3.mono ?_)
          first | rintro e w3 rfl h3 hb3 hc3 | rintro e w3 ⟨rfl, h3, hb3, hc3⟩
          have F := hidden (FIN.out w3 (by simpa using h3) (hb2.trans hb3) (hc2.trans hc3))
          clear h3 hb3 hc3 h2 hb2 hc2 k3
          go_wp2
          refine ⟨F.out, ?_⟩
          simp [intOf]
          omega
      · obtain ⟨n1, n2⟩ := not_or.1 h1
        rw [decide_eq_false n1] at e92
        rw [decide_eq_false n2] at e34
        by_cases h3 : x = 10
        · rw [decide_eq_true h3] at e10
          have hq : qt1 x = [92, 110] := by rw [h3]; rfl
          have k1 := wsP B b l' ⟨#[92, 110]⟩ wr hbd.out (by have := hl2.out; rw [hq] at this; exact this) hsz.out
          have FIN := hidden (fin _ · hq)
          clear h1 n1 n2 h3 hq hl2 fin
          go_wp2_with (go_at_call 27; refine k1.mono ?_)
          first | rintro e w3 rfl h3 hb3 hc3 | rintro e w3 ⟨rfl, h3, hb3, hc3⟩
          have F := hidden (FIN.out w3 h3 hb3 hc3)
          clear h3 hb3 hc3 k1
          go_wp2
          refine ⟨F.out, ?_⟩
          simp [intOf]
          omega
        · rw [decide_eq_false h3] at e10
          have hq : qt1 x = [x] := by simp [qt1, n1, n2, h3]
          have k1 := wbP B b l' x wr hbd.out (by have := hl2.out; rw [hq] at this; exact this) hsz.out
          have FIN := hidden (fin _ · hq)
          clear h1 n1 n2 h3 hq hl2 fin
          go_wp2_with (go_at_call 48; refine k1.mono ?_)
          first | rintro e w3 rfl h3 hb3 hc3 | rintro e w3 ⟨rfl, h3, hb3, hc3⟩
          have F := hidden (FIN.out w3 h3 hb3 hc3)
          clear h3 hb3 hc3 k1
          go_wp2
          refine ⟨F.out, ?_⟩
          simp [intOf]
          omega
    · have hltz : ¬ (i : Int) < (s.size : Int) := by omega
      go_wp2
      go_end0
      have := hrel.out
      rw [List.drop_of_length_le (by rw [← size_bts]; omega)] at this
      have e : l' = R := by simpa [qtL] using this
      exact ⟨rfl, by rw [← e]; exact hbd.out, hbel.out.1, hbel.out.2⟩

theorem lb1 : (bts ⟨#[123]⟩).length = 1 := rfl
theorem lb2 : (bts ⟨#[44, 32]⟩).length = 2 := rfl
theorem lb3 : (bts ⟨#[61, 34]⟩).length = 2 := rfl
theorem lb4 : (bts ⟨#[34]⟩).length = 1 := rfl
end Go.Proofs.YtanlgplgplncdaaGreatDoor.L
