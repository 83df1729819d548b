/-
  A strings.Builder of the call's own: WriteByte, WriteString, String.
-/
import Derived.Test.YtanlgplgplncdaaDoorMtM
import Derived.Lib.AppendStr
namespace Go.Proofs.YtanlgplgplncdaaDoor.L
open Go.RowKit
set_option linter.unusedVariables false
set_option linter.unusedSimpArgs false

theorem size58 : (Tryd.prog.info? 64).map (·.size) = some 2 := by kernel_rfl
theorem lies58 : liesAt Tryd.prog Tryd.prog.depth 64 (2 / Tryd.prog.cellsOf 64) 0 64 1 = true := by kernel_rfl
theorem info5 : (Tryd.prog.info? 5).map (fun i => (i.zero, i.size, i.bytes)) = some (some (.int .u8 0), 1, 1) := by kernel_rfl

set_option maxHeartbeats 1000000 in
set_option maxRecDepth 100000 in
theorem copyCheckP (B b : Nat) (bs : List Value) (w : World) (h : Lib.IsBuilder 64 5 B b bs w) :
    Calls Tryd.prog 25 #[.pointer (some ⟨b, 0, none⟩)] w fun e w' => e = .returned (.tuple #[]) ∧ Lib.BuilderAt 64 5 B b (.pointer (some ⟨b, 0, none⟩)) bs w' ∧ Below B w w' ∧ Chg (fun i => i = b) w w' := by
  obtain ⟨j, hj, hjs⟩ := Option.map_eq_some_iff.1 size58
  rcases h with h | h
  · have c0 := h.cell0
    have f0 := h.frozen0
    have hsh := h.shape
    have HH := hidden h
    clear h
    go_enter Tryd.func25, Tryd.ntmps25
    go_wp2
    rw [Lib.run_to_unsafe w ⟨b, 0, none⟩ Tryd.underlying61 Tryd.underlying94 hj (by rw [hjs]; decide) hsh (Nat.zero_lt_succ 1)]
    simp only [Result.andThen]
    rw [Oper.upon_value]
    go_wp2
    rw [run_callFunc_extern Tryd.func38 (by kernel_rfl) (by kernel_rfl) (by kernel_rfl) (e := Extern.AbiNoEscape.same) (by kernel_rfl), Lib.run_noEscape]
    simp only [Result.andThen]
    rw [Oper.upon_value]
    go_wp2
    rw [Lib.run_from_unsafe w ⟨b, 0, none⟩ Tryd.underlying94 Tryd.underlying61 hj hsh lies58]
    simp only [Result.andThen]
    rw [Oper.upon_value]
    go_wp2
    go_end0
    exact ⟨rfl, HH.out.used _, (Below.refl B w).setCell (p := ⟨b, 0, none⟩) HH.out.1 _, Chg.set ⟨b, 0, none⟩ _ w⟩
  · have c0 := h.cell0
    have HH := hidden h
    clear h
    go_enter Tryd.func25, Tryd.ntmps25
    go_wp2
    rw [Lib.run_neq_ptr_same w _ Tryd.underlying61 hj]
    go_wp2
    go_end0
    exact ⟨rfl, HH.out, Below.refl _ _, Chg.refl _ _⟩

/-- What writing into a builder may change. -/
def Wr (b : Nat) (w w' : World) : Prop := Chg (fun i => i = b ∨ Tg w i 5) w w'
theorem Wr.trans {b : Nat} {u v w : World} (h : Wr b u v) (k : Wr b v w) : Wr b u w := by
  refine Chg.trans h k fun i hi hk => ?_
  rcases hk with e | ⟨cs, fr, e⟩
  · exact Or.inl e
  · by_cases hF : i = b ∨ Tg u i 5
    · exact hF
    · have := h.block i hi hF
      rw [this] at e
      exact Or.inr ⟨cs, fr, e⟩
theorem Wr.of {b : Nat} {w w' : World} (h : Below w.heap.size w w') : Wr b w w' := Chg.of_below h
theorem Wr.refl (b : Nat) (w : World) : Wr b w w := Chg.refl _ _
theorem Wr.blk {b g t : Nat} {w w' : World} {l : List Value} (h : Wr b w w') (hB : Blk w g t l) (h1 : g ≠ b) (h5 : t ≠ 5) : Blk w' g t l :=
  Chg.blk h hB (fun e => by
    rcases e with e | e
    · exact h1 e
    · exact h5 (hB.tg.one e))

/-- The builder's own block, and its row. -/
theorem bd_parts {B b : Nat} {p : Value} {bs : List Value} {w : World} (h : Lib.BuilderAt 64 5 B b p bs w) : ∃ ao n c, Blk w b 64 [p, .slice ao n c] ∧ B ≤ b ∧ w.ownsRow B 5 1 (.slice ao n c) bs.length bs ∧ (Value.slice ao n c).ownBlock ≠ some b := by
  obtain ⟨hB, v, hb, hown, hne⟩ := h
  obtain ⟨ao, c, rfl⟩ := owns_form hown
  exact ⟨ao, _, c, hb, hB, hown, hne⟩
theorem bd_put {B b : Nat} {p v v' : Value} {bs' : List Value} {w : World} (hb : Blk w b 64 [p, v]) (hB : B ≤ b) (hown : w.ownsRow B 5 1 v' bs'.length bs') : Lib.BuilderAt 64 5 B b p bs' (w.setCell ⟨b, 1, none⟩ v') :=
  Lib.BuilderAt.put hB hb hown (by decide)

set_option maxHeartbeats 1000000 in
set_option maxRecDepth 100000 in
theorem writeByteP (B b : Nat) (bs : List Value) (c : Int) (w : World) (h : Lib.IsBuilder 64 5 B b bs w) (hlen : bs.length + 1 ≤ 140737488355328) (hBw : B ≤ w.heap.size) :
    Calls Tryd.prog 26 #[.pointer (some ⟨b, 0, none⟩), .int .u8 c] w fun e w' => e = .returned .nilIface ∧ Lib.BuilderAt 64 5 B b (.pointer (some ⟨b, 0, none⟩)) (bs ++ [.int .u8 c]) w' ∧ Below B w w' ∧ Wr b w w' := by
  obtain ⟨i0, hi0, hz0, hz1, hz2⟩ := info_parts info5
  go_enter Tryd.func26, Tryd.ntmps26
  go_wp2_with (go_at_call 25; refine (copyCheckP B b bs _ h).mono ?_)
  rintro e w1 ⟨rfl, h1, hb1, hcc⟩
  obtain ⟨ao, n, cc, hblk, hB, hown, hne⟩ := bd_parts h1
  have c0 : w1.cell? ⟨b, 0, none⟩ = some (.pointer (some ⟨b, 0, none⟩)) := hblk.cell 0
  have c1 : w1.cell? ⟨b, 1, none⟩ = some (.slice ao n cc) := hblk.cell 1
  have f1 := hblk.frozen 1
  have HS := hidden hb1.size
  have HB := hidden hblk
  have HO := hidden hown
  clear hblk hown h1
  go_wp2_with (refine wpList_push _ rfl _ _ 62 rfl 5 i0 (.int .u8 0) 1 Tryd.underlying62 hi0 hz0 hz1 hz2 rfl B _ bs.length bs rfl (HO.out.alloc _) ⟨w1.heap.size, 0, none⟩ (.int .u8 c) rfl (by simp) rfl (by unfold maxLen; omega) (by omega) (by have := HS.out; simp; omega) ?_)
  intro g' c' w2 ho2 hp2
  have hch := hp2.chg
  have hb2 : Blk w2 b 64 [.pointer (some ⟨b, 0, none⟩), .slice ao n cc] := hch.1.blk HB.out (fun e => hne e)
  have d0 : w2.cell? ⟨b, 0, none⟩ = some (.pointer (some ⟨b, 0, none⟩)) := hb2.cell 0
  have d1 : w2.cell? ⟨b, 1, none⟩ = some (.slice ao n cc) := hb2.cell 1
  have e1 := hb2.frozen 1
  have HB2 := hidden hb2
  have HO2 := hidden ho2
  have HC := hidden hch
  clear hb2 ho2 hp2 hch
  go_wp2
  go_ret
  refine ⟨rfl, bd_put HB2.out hB (by simpa using HO2.out), ?_⟩
  have hW1 : Wr b w w1 := hcc.mono (fun i _ e => Or.inl e)
  have hW2 : Wr b w1 w2 := HC.out.1.mono (fun i _ e => Or.inr (owns_tg HO.out i e))
  exact ⟨(hb1.trans (HC.out.1.below (by have := HS.out; omega) (fun i hi => (HO.out.lt i hi).1))).setCell (p := ⟨b, 1, none⟩) hB _, (hW1.trans hW2).trans ((Chg.set ⟨b, 1, none⟩ _ w2).mono (fun i _ e => Or.inl e))⟩

set_option maxHeartbeats 1000000 in
set_option maxRecDepth 100000 in
theorem writeStringP (B b : Nat) (bs : List Value) (s : ByteArray) (w : World) (h : Lib.IsBuilder 64 5 B b bs w) (hlen : bs.length + s.size ≤ 140737488355328) (hBw : B ≤ w.heap.size) :
    Calls Tryd.prog 17 #[.pointer (some ⟨b, 0, none⟩), .string s] w fun e w' => e = .returned (.tuple #[.int .i64 s.size, .nilIface]) ∧ Lib.BuilderAt 64 5 B b (.pointer (some ⟨b, 0, none⟩)) (bs ++ Lib.strCells s) w' ∧ Below B w w' ∧ Wr b w w' := by
  obtain ⟨i0, hi0, hz0, hz1, hz2⟩ := info_parts info5
  go_enter Tryd.func17, Tryd.ntmps17
  go_wp2_with (go_at_call 25; refine (copyCheckP B b bs _ h).mono ?_)
  rintro e w1 ⟨rfl, h1, hb1, hcc⟩
  obtain ⟨ao, n, cc, hblk, hB, hown, hne⟩ := bd_parts h1
  have c0 : w1.cell? ⟨b, 0, none⟩ = some (.pointer (some ⟨b, 0, none⟩)) := hblk.cell 0
  have c1 : w1.cell? ⟨b, 1, none⟩ = some (.slice ao n cc) := hblk.cell 1
  have f1 := hblk.frozen 1
  have HS := hidden hb1.size
  have HB := hidden hblk
  have HO := hidden hown
  clear hblk hown h1
  go_wp2_with (refine Lib.wpList_append_own_string _ rfl _ _ 62 9 rfl B 5 i0 Tryd.underlying62 Tryd.underlying9 hi0 hz0 hz1 hz2 _ _ _ rfl HO.out s rfl (by unfold maxLen; omega) (by omega) (by have := HS.out; omega) ?_)
  intro v' w2 ho2 hgrow hno
  have hb2 : Blk w2 b 64 [.pointer (some ⟨b, 0, none⟩), .slice ao n cc] := by
    show w2.heap[b]? = _
    rw [hgrow.block b HB.out.lt (fun e => hne e.symm)]; exact HB.out
  have d0 : w2.cell? ⟨b, 0, none⟩ = some (.pointer (some ⟨b, 0, none⟩)) := hb2.cell 0
  have d1 : w2.cell? ⟨b, 1, none⟩ = some (.slice ao n cc) := hb2.cell 1
  have e1 := hb2.frozen 1
  have HB2 := hidden hb2
  have HO2 := hidden ho2
  have HC := hidden hgrow
  obtain ⟨a2, c2, rfl⟩ := owns_form ho2
  clear hb2 ho2 hgrow
  go_wp2
  go_ret2
  refine ⟨rfl, bd_put HB2.out hB (by simpa [Lib.strCells_length] using HO2.out), ?_⟩
  have hW1 : Wr b w w1 := hcc.mono (fun i _ e => Or.inl e)
  have hW2 : Wr b w1 w2 := Chg.of_grown HC.out (fun i e => Or.inr (owns_tg HO.out i e))
  exact ⟨(hb1.grown HC.out (by have := HS.out; omega) (fun k hk => (HO.out.lt k hk).1)).setCell (p := ⟨b, 1, none⟩) hB _, (hW1.trans hW2).trans ((Chg.set ⟨b, 1, none⟩ _ w2).mono (fun i _ e => Or.inl e))⟩

theorem extra169 : Builder.Extra Tryd.prog Tryd.lays169_ren where
  sizeBuilder := by kernel_rfl
  liesBuilder := by kernel_rfl
  t5 := Tryd.underlying5
  a5 := Tryd.isAgg5
  z5 := Tryd.sizeOf5
  v5 := Tryd.zeroValue5
  infoByte := by kernel_rfl
  cellsByte := by kernel_rfl
  sizeByte := by kernel_rfl
  neB5 := by decide
theorem stringP (B b : Nat) (l : List UInt8) (w : World) (h : Lib.IsBuilder 64 5 B b (Lib.byteCells l) w) (hBw : B ≤ w.heap.size) :
    Calls Tryd.prog 20 #[.pointer (some ⟨b, 0, none⟩)] w fun e w' => e = .returned (.string (oft l)) ∧ Below B w w' :=
  Any.Builder_String_any Tryd.lays169 extra169 B b l w h hBw

/-- A new builder. -/
theorem bd_new (w : World) : Lib.IsBuilder 64 5 w.heap.size w.heap.size (Lib.byteCells []) (w.alloc (.cells #[.pointer none, .slice none 0 0] 64)) :=
  Or.inl ⟨Nat.le_refl _, .slice none 0 0, Blk.new w 64 [.pointer none, .slice none 0 0], World.ownsRow_nil _ _ _ _, by simp [Value.ownBlock]⟩
/-- A builder, while blocks below it change. -/
theorem bd_keep {B b : Nat} {bs : List Value} {w w' : World} (h : Lib.IsBuilder 64 5 B b bs w) (hc : Chg (fun i => i < B) w w') : Lib.IsBuilder 64 5 B b bs w' := by
  have key : ∀ p, Lib.BuilderAt 64 5 B b p bs w → Lib.BuilderAt 64 5 B b p bs w' := by
    rintro p ⟨hB, v, hb, hown, hne⟩
    refine ⟨hB, v, ?_, hc.owns hown (fun g hg hlt => ?_), hne⟩
    · exact hc.blk (g := b) (l := [p, v]) hb (by omega)
    · have := (hown.lt g hg).1; omega
  rcases h with h | h
  · exact Or.inl (key _ h)
  · exact Or.inr (key _ h)
theorem strCells_bts (s : ByteArray) : Lib.strCells s = Lib.byteCells (bts s) := by
  simp [Lib.strCells, Lib.byteCells, bts]
theorem byteCells_app (a b : List UInt8) : Lib.byteCells (a ++ b) = Lib.byteCells a ++ Lib.byteCells b := by
  simp [Lib.byteCells]
theorem byteCells_len (a : List UInt8) : (Lib.byteCells a).length = a.length := by simp [Lib.byteCells]
theorem byteCells_one (x : UInt8) : Lib.byteCells [x] = [.int .u8 (x.toNat : Int)] := by simp [Lib.byteCells]

theorem wsP (B b : Nat) (l : List UInt8) (s : ByteArray) (w : World) (h : Lib.IsBuilder 64 5 B b (Lib.byteCells l) w) (hlen : l.length + (bts s).length ≤ 140737488355328) (hBw : B ≤ w.heap.size) :
    Calls Tryd.prog 17 #[.pointer (some ⟨b, 0, none⟩), .string s] w fun e w' => e = .returned (.tuple #[.int .i64 s.size, .nilIface]) ∧ Lib.IsBuilder 64 5 B b (Lib.byteCells (l ++ bts s)) w' ∧ Below B w w' ∧ Wr b w w' := by
  refine (writeStringP B b (Lib.byteCells l) s w h (by rw [byteCells_len, size_bts]; exact hlen) hBw).mono ?_
  rintro e w' ⟨rfl, h1, h2, h3⟩
  exact ⟨rfl, by rw [byteCells_app, ← strCells_bts]; exact Or.inr h1, h2, h3⟩
theorem wbP (B b : Nat) (l : List UInt8) (x : UInt8) (w : World) (h : Lib.IsBuilder 64 5 B b (Lib.byteCells l) w) (hlen : l.length + 1 ≤ 140737488355328) (hBw : B ≤ w.heap.size) :
    Calls Tryd.prog 26 #[.pointer (some ⟨b, 0, none⟩), .int .u8 (x.toNat : Int)] w fun e w' => e = .returned .nilIface ∧ Lib.IsBuilder 64 5 B b (Lib.byteCells (l ++ [x])) w' ∧ Below B w w' ∧ Wr b w w' := by
  refine (writeByteP B b (Lib.byteCells l) (x.toNat : Int) w h (by rw [byteCells_len]; exact hlen) hBw).mono ?_
  rintro e w' ⟨rfl, h1, h2, h3⟩
  exact ⟨rfl, by rw [byteCells_app, byteCells_one]; exact Or.inr h1, h2, h3⟩

end Go.Proofs.YtanlgplgplncdaaDoor.L
