/-
  PoolPlays: the law's put.
-/
import Derived.Test.YtjlpkgepiajapaaDoorPpK
import Derived.Test.YtjlpkgepiajapaaDoorPpJ
import Derived.Laws.CopyRow
import Derived.BigQuiet
namespace Go.Proofs.YtjlpkgepiajapaaDoor
open Go.RowKit
set_option linter.unusedVariables false
set_option linter.unusedSimpArgs false


/-- 'copy' into a variable that is known whole. -/
theorem wpList_copy_blk {P : Program} {ops : Array Oper} {rest : List Oper} {o : Oper} {a : Act} {w : World} {Q : Exit → Act → World → Prop} (hgd : o.guard = none) (d s : Operand) (dT sT : TypeId)
    (ho : o.op = .call { callee := .builtin .copy, args := #[d, s], argTypes := #[dT, sT] }) (elem : TypeId) (hu : P.underlying dT = some (.slice elem)) (hsz : (P.info? elem).map (·.size) = some 1)
    (g off dLen dCap : Nat) (ad : Addr) (sLen sCap : Nat) (hd : a.eval d = .slice (some ⟨g, off, none⟩) dLen dCap) (hs : a.eval s = .slice (some ad) sLen sCap)
    (cur : List Value) (t : TypeId) (hB : Blk w g t cur) (cs : List Value) (hn : cs.length = Nat.min sLen dLen)
    (hsrc : ∀ j v, cs[j]? = some v → w.cell? (ad.add j) = some v) (hfit : off + cs.length ≤ cur.length) (h1 : ∀ v ∈ cs, v.oneCell' = true)
    (h : ∀ w', Blk w' g t (splice cur off cs) → w.grownBy w' (some g) → wpList P ops Q rest (a.put o.dst (goInt cs.length)) w') :
    wpList P ops Q (o :: rest) a w := by
  refine wpList_plain hgd fun K hK' => ?_
  have hrun := run_copy_row (P := P) w dT sT o.type elem g off dLen dCap ad sLen sCap cur.toArray t cs hu hsz hB hn hsrc (by simpa using hfit) h1
  unfold Oper.wp
  simp [execOp, ho, resolve, invoke, builtin, hd, hs, hrun, Result.andThen]
  exact hK' _ _ (h _ (show _ = _ by simpa [splice] using setRow_heap w g _ _ t _ hB) ⟨rfl, rfl, rfl, by simp [World.setRow], fun k _ hk => setRow_other w g k _ (fun e => hk (by simp [e]))⟩)
theorem size5 : (Tryd.prog.info? 5).map (·.size) = some 1 := by kernel_rfl
/-- 'copy' of what is read to the front of a row of bytes that is known whole. -/
theorem wpList_copy_in {ops : Array Oper} {rest : List Oper} {o : Oper} {a : Act} {w : World} {Q : Exit → Act → World → Prop} (hgd : o.guard = none) (d s : Operand)
    (ho : o.op = .call { callee := .builtin .copy, args := #[d, s], argTypes := #[40, 40] }) (g m : Nat) (a0 : Option Addr) (n cap0 : Nat) (hd : a.eval d = .slice (some ⟨g, 0, none⟩) m m) (hs : a.eval s = .slice a0 n cap0)
    (l cur : List Int) (hS : Sl w a0 n l) (hm : n ≤ m) (hcl : cur.length = m) (hB : Blk w g 5 (cells8 cur))
    (h : ∀ w', Blk w' g 5 (cells8 (l ++ cur.drop n)) → w.grownBy w' (some g) → wpList Tryd.prog ops Q rest (a.put o.dst (goInt n)) w') : wpList Tryd.prog ops Q (o :: rest) a w := by
  cases a0 with
  | none =>
    have h0 : n = 0 := by
      rcases Nat.eq_zero_or_pos n with h0 | h0
      · exact h0
      · obtain ⟨x, hx, _⟩ := hS.cell 0 h0
        cases hx
    subst h0
    have hl : l = [] := List.eq_nil_of_length_eq_zero hS.len
    subst hl
    refine wpList_plain hgd fun K hK' => ?_
    have hrun := run_copy_none (P := Tryd.prog) w 40 40 o.type 5 (some ⟨g, 0, none⟩) none m m 0 cap0 Tryd.underlying40 size5 (by simp)
    unfold Oper.wp
    simp [execOp, ho, resolve, invoke, builtin, hd, hs, hrun, Result.andThen]
    exact hK' _ _ (h w (by simpa using hB) (World.grownBy.refl _ _))
  | some x =>
    refine wpList_copy_blk hgd d s 40 40 ho 5 Tryd.underlying40 size5 g 0 m m x n cap0 hd hs (cells8 cur) 5 hB (cells8 l) (by rw [cells8_length, hS.len]; exact (Nat.min_eq_left hm).symm) hS.cells (by rw [cells8_length, cells8_length, hS.len]; omega) (cells8_one l) ?_
    intro w' h1 h2
    have e : splice (cells8 cur) 0 (cells8 l) = cells8 (l ++ cur.drop n) := by
      unfold splice
      rw [cells8_append, List.take_zero, List.nil_append, Nat.zero_add, cells8_length, hS.len]
      simp [cells8, List.map_drop]
    rw [e] at h1
    have h3 := h w' h1 h2
    rw [cells8_length, hS.len]
    exact h3


theorem cells8_set (l : List Int) (j : Nat) (x : Int) : (cells8 l).set j (.int .u8 x) = cells8 (l.set j x) := by simp [cells8, List.map_set]
theorem cells8_at {l : List Int} {j : Nat} {x : Int} (h : l[j]? = some x) : (cells8 l)[j]? = some (.int .u8 x) := by simp [cells8, h]
theorem sl_blk {w : World} {g M : Nat} {l : List Int} (h : Blk w g 5 (cells8 l)) (hb : Byte l) (hM : M ≤ l.length) : Sl w (some ⟨g, 0, none⟩) M (l.take M) := by
  refine ⟨by simp; omega, hb.take M, fun j hj => ⟨_, rfl, ?_⟩⟩
  rw [Addr.add_lit, Nat.zero_add, h.cell]
  have hlt : j < l.length := by omega
  simp [cells8, List.getD, hlt, hj]
/-- A step's cells. -/
def oC (kd on sl : Int) (s : ByteArray) (ad : Option Addr) (len c : Nat) : List Value := [.int .i64 kd, .int .i64 on, .int .i64 sl, .string s, .slice ad len c]
def Lim (st : Nat → Sx) : Prop := ∀ k i o d, st k i = some (o, d) → d.size ≤ 128
theorem Lim.up {st : Nat → Sx} {k : Nat} {s' : Sx} (h : Lim st) (h' : ∀ i o d, s' i = some (o, d) → d.size ≤ 128) : Lim (upF st k s') := by
  intro j i o d hj
  unfold upF at hj
  split at hj
  · exact h' i o d hj
  · exact h j i o d hj
theorem lim_put {s : Sx} {n : Nat} {k : Int} {l : List Int} (h : ∀ i o d, s i = some (o, d) → d.size ≤ 128) : ∀ i o d, (putS s n k l).2 i = some (o, d) → d.size ≤ 128 := by
  intro i o d hi
  unfold putS at hi
  split at hi
  · split at hi
    · exact h i o d hi
    · rename_i hl
      simp only at hi
      unfold upS at hi
      split at hi
      · simp only [Option.some.injEq, Prod.mk.injEq] at hi
        rw [← hi.2, size_str]
        omega
      · exact h i o d hi
  · exact h i o d hi

def ph2 (A B : World → Prop) (j : Nat) (w : World) : Prop := match j with
  | 0 => A w
  | _ => B w
/-- What put holds between. -/
def A8 (w0 : World) (v : Nat) (p r q n : Nat → Nat) (vb vn : Value) (Lb Ln : List Value) (ob gl : Nat) (cs : List Value) (st sr : Nat → Sx) (ys : List Int) (w : World) : Prop :=
  ∃ F B, PS w0 w v p r q n st sr F B vb vn Lb Ln ∧ Blk w ob 42 cs ∧ Blk w gl 5 (cells8 ys) ∧ (∀ j, j < 3 → ¬ RG (sr j) (B j) gl) ∧ ¬ OB Lb gl ∧ w0.heap.size ≤ gl
section
variable {w0 w w' : World} {v : Nat} {p r q n : Nat → Nat} {vb vn : Value} {Lb Ln : List Value} {ob gl : Nat} {cs : List Value} {st sr : Nat → Sx} {ys : List Int}
theorem A8.later (h : A8 w0 v p r q n vb vn Lb Ln ob gl cs st sr ys w) (b : Below w.heap.size w w') : A8 w0 v p r q n vb vn Lb Ln ob gl cs st sr ys w' := by
  obtain ⟨F, B, h1, h2, h3, h4⟩ := h
  exact ⟨F, B, h1.later b, h2.later b, h3.later b, h4⟩
theorem A8.set (h : A8 w0 v p r q n vb vn Lb Ln ob gl cs st sr ys w) (j : Nat) (x : Int) : A8 w0 v p r q n vb vn Lb Ln ob gl cs st sr (ys.set j x) (w.setCell ⟨gl, j, none⟩ (.int .u8 x)) := by
  obtain ⟨F, B, h1, h2, h3, h4, h5, h6⟩ := h
  have k := Chg.set ⟨gl, j, none⟩ (.int .u8 x) w
  refine ⟨F, B, h1.chg k (fun i (e : i = gl) => by rw [e]; exact h6) (fun i (e : i = gl) _ => by rw [e]; exact ⟨h3.tg, h4, h5⟩), k.blk h2 (fun (e : ob = gl) => h2.tg.ne h3.tg (by decide) e), ?_, h4, h5, h6⟩
  rw [← cells8_set]
  exact h3.set j _
theorem A8.pput {k M L : Nat} {sl ev : Int} {s' : Sx} {lm : List Int} (hk : k < 3) (hM : M ≤ ys.length) (hy : ys.take M = lm) (hb : Byte ys) (hev : putS (st k) (n k) sl lm = (ev, s')) (hL : M ≤ 9223372036854775807) (h : A8 w0 v p r q n vb vn Lb Ln ob gl cs st sr ys w) :
    Calls Tryd.prog 13 #[.pointer (some ⟨p k, 0, none⟩), .int .i64 sl, .slice (some ⟨gl, 0, none⟩) M L] w fun e w2 => e = .returned (.int .i64 ev) ∧ A8 w0 v p r q n vb vn Lb Ln ob gl cs (upF st k s') sr ys w2 := by
  obtain ⟨F, B, h1, h2, h3, h4, h5, h6⟩ := h
  have hsl := sl_blk h3 hb hM
  rw [hy] at hsl
  refine (putX sl _ M L lm (F k) (p k) (n k) (st k) w (h1.pq k hk) hsl hL).mono fun e w2 ⟨e1, F', e2, e3, e4⟩ => ?_
  rw [hev] at e1 e2
  refine ⟨e1, _, B, h1.pcall hk e2 e3 e4, e3.blk h2 (h1.notF hk h2.tg (by decide)), e3.blk h3 (h1.notF hk h3.tg (by decide)), h4, h5, h6⟩
theorem A8.rput {k M c : Nat} {ad : Option Addr} {sl ev : Int} {s' : Sx} {lm : List Int} (hk : k < 3) (hev : putS (sr k) (n k) sl lm = (ev, s')) (hs : Sl w0 ad M lm) (hno : ad = none → M = 0 ∧ c = 0) (hL : M ≤ 9223372036854775807) (h : A8 w0 v p r q n vb vn Lb Ln ob gl cs st sr ys w) :
    Calls Tryd.prog 38 #[.pointer (some ⟨r k, 0, none⟩), .int .i64 sl, .slice ad M c] w fun e w2 => e = .returned (.int .i64 ev) ∧ A8 w0 v p r q n vb vn Lb Ln ob gl cs st (upF sr k s') ys w2 := by
  obtain ⟨F, B, h1, h2, h3, h4, h5, h6⟩ := h
  refine (putR sl ad M c lm (r k) (q k) (n k) (sr k) (B k) w (h1.rp k hk) (hs.later h1.bel) hno hL).mono fun e w2 ⟨e1, e2⟩ => ?_
  rw [hev] at e1 e2
  obtain ⟨B9, hR9, c9, n9⟩ := e2
  obtain ⟨B', e3, e4⟩ := h1.rcall hk ⟨B9, hR9, c9, n9⟩
  have hq := (h1.rp k hk).row.tg
  refine ⟨e1, F, _, e3, c9.blk h2 (h2.tg.ne hq (by decide)), c9.blk h3 (h3.tg.ne hq (by decide)), fun j hj => ?_, h5, h6⟩
  by_cases e : j = k
  · subst e
    rw [upF_at, upF_at]
    intro hg
    rcases e4 gl hg with h7 | h7
    · exact h4 j hj h7
    · have := h3.lt; omega
  · rw [upF_off _ _ e, upF_off _ _ e]; exact h4 j hj
end
set_option maxRecDepth 100000 in
set_option maxHeartbeats 8000000 in
theorem putL (w0 : World) (v : Nat) (p r q n : Nat → Nat) (st : Nat → Sx) (F : Nat → Nat → Prop) (B : Nat → Nat → Value) (vb vn : Value) (Lb Ln : List Value) (k : Nat) (hk : k < 3) (kd on sl : Int) (s : ByteArray) (ad : Option Addr) (len c : Nat) (l : List Int) (w : World)
    (h : PS w0 w v p r q n st st F B vb vn Lb Ln) (hs : Sl w0 ad len l) (hno : ad = none → len = 0 ∧ c = 0) (hlc : len ≤ c) (hc : c ≤ 9223372036854775807) :
    Calls Tryd.prog 22 #[.pointer (some ⟨v, 0, none⟩), .int .i64 (k : Int), .agg #[.int .i64 kd, .int .i64 on, .int .i64 sl, .string s, .slice ad len c]] w fun e w' => e = .returned (.bool true) ∧ ∃ F' B', PS w0 w' v p r q n (upF st k (putS (st k) (n k) sl (l.take (min len 300))).2) (upF st k (putS (st k) (n k) sl (l.take (min len 300))).2) F' B' vb vn Lb Ln := by
  obtain ⟨M, hM, hM3, hMl⟩ : ∃ M, min len 300 = M ∧ M ≤ 300 ∧ M ≤ len := ⟨_, rfl, by omega, by omega⟩
  rw [hM]
  obtain ⟨lm, hlm⟩ : ∃ lm, l.take M = lm := ⟨_, rfl⟩
  rw [hlm]
  have hsm : Sl w0 ad M lm := by rw [← hlm]; exact hs.take hMl
  have hmi : min (len : Int) 300 = (M : Int) := by omega
  have hmx : max (M : Int) 0 = (M : Int) := by omega
  obtain ⟨L, hL⟩ : ∃ L : Nat, (M : Int) + 8 = (L : Int) := ⟨M + 8, by omega⟩
  have hLM : L = M + 8 := by omega
  have hmk := run_make_row' (P := Tryd.prog) 40 5 (.int .u8 0) 1 Tryd.underlying40 info5 rfl .i64 .i64 L (by omega) (by omega)
  have HP := hidden h
  have HSM := hidden hsm
  have HNO : Hid (ad = none → M = 0 ∧ c = 0) := hidden (fun e => ⟨by have := (hno e).1; omega, (hno e).2⟩)
  have HK := hidden hk
  have HLM := hidden hLM
  have hMc : M ≤ c := by omega
  obtain ⟨ev, s', hev⟩ : ∃ ev s', putS (st k) (n k) sl lm = (ev, s') := ⟨_, _, rfl⟩
  have HEV := hidden hev
  rw [hev]
  clear hs hno h hsm hlm hM hLM hev
  go_enter Tryd.func22, Tryd.ntmps22
  have BA : Hid (Blk ((w.alloc (.cells #[.int .i64 kd, .int .i64 on, .int .i64 sl, .string s, .slice ad len c] 42)).alloc (.cells (madeCells #[.int .u8 0] L) 5)) w.heap.size 42 (oC kd on sl s ad len c) ∧ Blk ((w.alloc (.cells #[.int .i64 kd, .int .i64 on, .int .i64 sl, .string s, .slice ad len c] 42)).alloc (.cells (madeCells #[.int .u8 0] L) 5)) (w.heap.size + 1) 5 (cells8 (List.replicate L 0)) ∧ Below w.heap.size w ((w.alloc (.cells #[.int .i64 kd, .int .i64 on, .int .i64 sl, .string s, .slice ad len c] 42)).alloc (.cells (madeCells #[.int .u8 0] L) 5))) := hidden (by
    have e3 : madeCells #[Value.int .u8 0] L = (cells8 (List.replicate L 0)).toArray := by
      rw [← Array.toList_inj, toList_madeCells_one]; simp [cells8]
    rw [e3]
    refine ⟨(Blk.new w 42 (oC kd on sl s ad len c)).alloc _, ?_, ?_⟩
    · have := Blk.new (w.alloc (.cells #[.int .i64 kd, .int .i64 on, .int .i64 sl, .string s, .slice ad len c] 42)) 5 (cells8 (List.replicate L 0))
      rw [World.size_alloc] at this
      exact this
    · exact ((Below.refl _ _).alloc (Nat.le_refl _) _).alloc (by simp) _)
  go_wp2_with (refine wpList_copy_in rfl (.tmp 24) (.tmp 25) rfl (w.heap.size + 1) L ad M c rfl rfl lm (List.replicate L 0) (HSM.out.later (HP.out.bel.trans (BA.out.2.2.mono HP.out.bel.size))) (by have := HLM.out; omega) (by simp) BA.out.2.1 ?_; intro w2 hb2 hg2; have HB2 := hidden (And.intro hb2 (Chg.of_grown (F := fun i => i = w.heap.size + 1) hg2 (fun i e => by injection e with e; exact e.symm))); clear hb2 hg2)
  have HA : Hid (A8 w0 v p r q n vb vn Lb Ln w.heap.size (w.heap.size + 1) (oC kd on sl s ad len c) st st (lm ++ (List.replicate L 0).drop M) w2) := hidden (by
    have hbw : Below w.heap.size w w2 := BA.out.2.2.trans (HB2.out.2.below BA.out.2.2.size (fun i e => by omega))
    refine ⟨F, B, HP.out.later hbw, HB2.out.2.blk BA.out.1 (by omega), HB2.out.1, fun j hj hg => ?_, fun hg => ?_, ?_⟩
    · have := RG.lt (HP.out.rp j hj) hg; omega
    · have := (HP.out.tb.tg hg).lt; omega
    · have := HP.out.bel.size; omega)
  have HBY : Hid (Byte (lm ++ (List.replicate L 0).drop M) ∧ (lm ++ (List.replicate L 0).drop M).length = L ∧ (lm ++ (List.replicate L 0).drop M).take M = lm) := hidden (by
    have h1 := HSM.out.len
    refine ⟨HSM.out.byte.append (fun x hx => ?_), by simp; have := HLM.out; omega, by rw [List.take_append_of_le_length (by omega), List.take_of_length_le (by omega)]⟩
    have := List.mem_of_mem_drop hx
    have := List.eq_of_mem_replicate this
    omega)
  generalize lm ++ (List.replicate L 0).drop M = y0 at HA HBY
  clear BA HB2 hmk
  generalize w.heap.size + 1 = gl at *
  generalize w.heap.size = ob at *
  have hML : M ≤ L := by have := HLM.out; omega
  have hL3 : L ≤ 308 := by have := HLM.out; omega
  clear hL hmi hmx
  go_loopw [9] (fun v9 wx => ∃ (i : Nat) (ys : List Int), v9 = .int .i64 (i : Int) ∧ M ≤ i ∧ i ≤ L ∧ Hid (A8 w0 v p r q n vb vn Lb Ln ob gl (oC kd on sl s ad len c) st st ys wx) ∧ Hid (Byte ys ∧ ys.length = L ∧ ys.take M = lm ∧ ∀ j, M ≤ j → j < i → ys[j]? = some 201)) (fun v9 _ => L - (intOf v9).toNat)
  case atStart => exact ⟨M, y0, rfl, by omega, hML, HA, hidden ⟨HBY.out.1, HBY.out.2.1, HBY.out.2.2, fun j h1 h2 => by omega⟩⟩
  case round =>
    obtain ⟨i, ys, rfl, hMi, hiL, hA, hY⟩ := hrel
    clear HA HBY
    by_cases hin : i < L
    · have hb := hA.out
      obtain ⟨_, _, _, _, hb3, _⟩ := hb
      have hy : ys[i]? = some (ys[i]'(by have := hY.out.2.1; omega)) := by simp
      generalize ys[i]'(by have := hY.out.2.1; omega) = y at hy
      have cy : wr.cell? ⟨gl, i, none⟩ = some (.int .u8 y) := by rw [hb3.cell]; exact cells8_at hy
      have fy := hb3.frozen i
      clear hb3 hy
      go_wp2_with fail
      refine ⟨⟨i + 1, ys.set i 201, by first | rfl | simp, by omega, by omega, hidden (hA.out.set i 201), hidden ?_⟩, ?_⟩
      · obtain ⟨h1, h2, h3, h4⟩ := hY.out
        refine ⟨fun x hx => ?_, by rw [List.length_set]; exact h2, by rw [List.take_set_of_le hMi]; exact h3, fun j hj hj2 => ?_⟩
        · rcases List.mem_or_eq_of_mem_set hx with h5 | h5
          · exact h1 x h5
          · omega
        · rw [List.getElem?_set]
          by_cases e : i = j
          · rw [if_pos e, if_pos (by omega)]
          · rw [if_neg e]; exact h4 j hj (by omega)
      · show L - ((i : Int) + 1).toNat < L - (i : Int).toNat
        omega
    · have hiL2 : i = L := by omega
      subst hiL2
      obtain ⟨hyb, hyl, hyt, hy2⟩ := hY.out
      have hall : Hid (∀ j, j < i → (j < M → ys[j]? = lm[j]?) ∧ (M ≤ j → ys[j]? = some 201)) := hidden (fun j hj => ⟨fun h1 => by rw [← hyt, List.getElem?_take_of_lt h1], fun h1 => hy2 j h1 hj⟩)
      have HYB := hidden (And.intro hyb (And.intro hyl hyt))
      clear hyb hyl hyt hy2 hY
      go_wp2_with (first
        | (refine pt_r8 v ob (p k) k gl i M c ad sl ev (ph2 (A8 w0 v p r q n vb vn Lb Ln ob gl (oC kd on sl s ad len c) st st ys) (A8 w0 v p r q n vb vn Lb Ln ob gl (oC kd on sl s ad len c) (upF st k s') st ys)) _ _ _ rfl rfl rfl rfl rfl rfl (by omega) (by omega) (by omega) (by omega) (by omega) (fun w1 ⟨j, hj, hI⟩ => by rcases (show j = 0 ∨ j = 1 by omega) with rfl | rfl <;> (obtain ⟨_, _, _, h2, _⟩ := hI; exact h2.cell 2)) (fun w1 ⟨j, hj, hI⟩ => by rcases (show j = 0 ∨ j = 1 by omega) with rfl | rfl <;> (obtain ⟨_, _, h1, _⟩ := hI; exact h1.cp HK.out)) (hA.out.later (Lat.draw _)) (fun w1 hI => A8.pput HK.out (by have := HYB.out.2.1; omega) HYB.out.2.2 HYB.out.1 HEV.out (by omega) hI) ?_; intro v38 v39 v40 v41 v42 v43 v44 v45 v46 v47 v48 v49 v50 w3 h3; have H3 := hidden h3; clear h3; simp only [Act.put, List.setIfInBounds_toArray, List.set_cons_succ, List.set_cons_zero])
        | (refine pt_r9 v ob (r k) k gl i M c ad sl ev (ph2 (A8 w0 v p r q n vb vn Lb Ln ob gl (oC kd on sl s ad len c) (upF st k s') st ys) (A8 w0 v p r q n vb vn Lb Ln ob gl (oC kd on sl s ad len c) (upF st k s') (upF st k s') ys)) _ _ _ rfl rfl rfl rfl rfl (by omega) (by omega) (fun w1 ⟨j, hj, hI⟩ => by rcases (show j = 0 ∨ j = 1 by omega) with rfl | rfl <;> (obtain ⟨_, _, _, h2, _⟩ := hI; exact h2.cell 2)) (fun w1 ⟨j, hj, hI⟩ => by rcases (show j = 0 ∨ j = 1 by omega) with rfl | rfl <;> (obtain ⟨_, _, h1, _⟩ := hI; exact h1.cr HK.out)) (H3.out.later (Lat.draw _)) (fun w1 hI => A8.rput HK.out HEV.out HSM.out HNO.out (by omega) hI) ?_; intro v51 v52 v53 v54 v55 v56 v57 v58 v59 v60 w4 h4; have H4 := hidden h4; clear h4; simp only [Act.put, List.setIfInBounds_toArray, List.set_cons_succ, List.set_cons_zero]))
      go_loopw [12] (fun v12 wx => ∃ (z : Nat) (zs : List Int), v12 = .int .i64 (z : Int) ∧ z ≤ i ∧ Hid (A8 w0 v p r q n vb vn Lb Ln ob gl (oC kd on sl s ad len c) (upF st k s') (upF st k s') zs wx) ∧ Hid (zs.length = i ∧ ∀ j, z ≤ j → zs[j]? = ys[j]?)) (fun v12 _ => i - (intOf v12).toNat)
      case atStart => exact ⟨0, ys, rfl, by omega, H4, hidden ⟨HYB.out.2.1, fun _ _ => rfl⟩⟩
      case round =>
        obtain ⟨z, zs, rfl, hz, hA4, hZ⟩ := hrel
        clear H3 H4 hA
        by_cases hzi : z < i
        · have hb := hA4.out
          obtain ⟨_, _, hPS, _, hb3, _⟩ := hb
          have hSl := HSM.out.later hPS.bel
          have fy := hb3.frozen z
          by_cases hzM : z < M
          · have hx : lm[z]? = some (lm[z]'(by have := HSM.out.len; omega)) := by simp
            generalize lm[z]'(by have := HSM.out.len; omega) = x at hx
            have hy : zs[z]? = some x := by rw [hZ.out.2 z (Nat.le_refl _), (hall.out z hzi).1 hzM]; exact hx
            have cy : wr.cell? ⟨gl, z, none⟩ = some (.int .u8 x) := by rw [hb3.cell]; exact cells8_at hy
            obtain ⟨bb, off, rfl, hcb⟩ : ∃ bb off, ad = some ⟨bb, off, none⟩ ∧ wr.cell? ⟨bb, off + z, none⟩ = some (.int .u8 x) := by
              obtain ⟨bb, off, e1, _, e2⟩ := hSl.at (show 0 < M by omega)
              refine ⟨bb, off, e1, ?_⟩
              rw [e2 z hzM]
              simp [List.getD, hx]
            have hxx : (x != x) = false := by simp
            have hd1 : decide ((z : Int) < (M : Int)) = true := by simp; omega
            have hzM' : (z : Int) < (M : Int) := by omega
            have hge : ¬ (M : Int) ≤ (z : Int) := by omega
            have hd2 : decide ((M : Int) ≤ (z : Int)) = false := by simp; omega
            have hd3 : decide (M ≤ z) = false := by simp; omega
            clear hb3 hSl hx hy hPS
            go_wp2_with fail
            go_quiet (fail)
            clear hcb
            go_wp2_with fail
            refine ⟨⟨z + 1, zs.set z 3, by first | rfl | simp, by omega, hidden ((hA4.out.later (below_drewN (Below.refl _ _) _)).set z 3), hidden ⟨by rw [List.length_set]; exact hZ.out.1, fun j hj => by rw [List.getElem?_set_ne (by omega)]; exact hZ.out.2 j (by omega)⟩⟩, ?_⟩
            show i - ((z : Int) + 1).toNat < i - (z : Int).toNat
            omega
          · have hy : zs[z]? = some 201 := by rw [hZ.out.2 z (Nat.le_refl _), (hall.out z hzi).2 (by omega)]
            have cy : wr.cell? ⟨gl, z, none⟩ = some (.int .u8 201) := by rw [hb3.cell]; exact cells8_at hy
            have hd1 : decide ((z : Int) < (M : Int)) = false := by simp; omega
            have hzM' : ¬ (z : Int) < (M : Int) := by omega
            have hge : (M : Int) ≤ (z : Int) := by omega
            have hd2 : decide ((M : Int) ≤ (z : Int)) = true := by simp; omega
            clear hb3 hSl hy hPS
            go_wp2_with fail
            go_quiet (fail)
            go_wp2_with fail
            refine ⟨⟨z + 1, zs.set z 3, by first | rfl | simp, by omega, hidden ((hA4.out.later (below_drewN (Below.refl _ _) _)).set z 3), hidden ⟨by rw [List.length_set]; exact hZ.out.1, fun j hj => by rw [List.getElem?_set_ne (by omega)]; exact hZ.out.2 j (by omega)⟩⟩, ?_⟩
            show i - ((z : Int) + 1).toNat < i - (z : Int).toNat
            omega
        · go_wp2_with fail
          go_ret
          obtain ⟨F', B', h9, _⟩ := hA4.out
          exact ⟨by first | rfl | simp, F', B', h9⟩

end Go.Proofs.YtjlpkgepiajapaaDoor
