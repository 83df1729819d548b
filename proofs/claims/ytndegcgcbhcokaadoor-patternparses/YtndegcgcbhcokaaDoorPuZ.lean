/-
  Print: spans, classes.
-/
import Derived.Test.YtndegcgcbhcokaaDoorPuY
namespace Go.Proofs.YtndegcgcbhcokaaDoor
open Go.RowKit
set_option linter.unusedVariables false
set_option linter.unusedSimpArgs false

theorem Cm.blk {w w' : World} {o o' : Option Nat} {g : Nat} {t : TypeId} {l : List Value} (h : Cm w w' o o') (hB : Blk w g t l) (ho : o ≠ some g) : Blk w' g t l ∧ o' ≠ some g := by
  refine ⟨h.chg.blk hB ho, fun e => ?_⟩
  rcases h.mv with e1 | ⟨g', e1, hg⟩
  · exact ho (by rw [← e1]; exact e)
  · rw [e1] at e; injection e with e; have := hB.lt; omega
/-- A printed row, as it is held between two steps. -/
structure Pw (base : Nat) (w wx : World) (o : Option Nat) (ad : Option Addr) (n c : Nat) (L : List UInt8) : Prop where
  own : wx.ownsRow base 5 1 (.slice ad n c) n (bC L)
  cm : Cm w wx o (Value.slice ad n c).ownBlock
  bs : base ≤ wx.heap.size
  len : L.length = n
theorem Pw.of {base : Nat} {w wx : World} {o : Option Nat} {ad : Option Addr} {n c : Nat} {L : List UInt8} (h1 : wx.ownsRow base 5 1 (.slice ad n c) n (bC L)) (h2 : Cm w wx o (Value.slice ad n c).ownBlock) (hb : base ≤ w.heap.size) : Pw base w wx o ad n c L :=
  ⟨h1, h2, Nat.le_trans hb h2.chg.size, by have := h1.1; rw [bC_length] at this; omega⟩
theorem Pw.start {base : Nat} {w wx : World} {ad : Option Addr} {n c : Nat} {L : List UInt8} (h1 : w.ownsRow base 5 1 (.slice ad n c) n (bC L)) (hb : base ≤ w.heap.size) (hl : Below w.heap.size w wx) : Pw base w wx (Value.slice ad n c).ownBlock ad n c L :=
  Pw.of (owl h1 hl) (Cm.below hl) hb
theorem Pw.next {base : Nat} {w wx w2 : World} {o : Option Nat} {ad a2 : Option Addr} {n c n2 c2 : Nat} {L L2 : List UInt8} (h : Pw base w wx o ad n c L) (h1 : w2.ownsRow base 5 1 (.slice a2 n2 c2) n2 (bC L2)) (h2 : Cm wx w2 (Value.slice ad n c).ownBlock (Value.slice a2 n2 c2).ownBlock) : Pw base w w2 o a2 n2 c2 L2 :=
  ⟨h1, h.cm.trans h2, Nat.le_trans h.bs h2.chg.size, by have := h1.1; rw [bC_length] at this; omega⟩
theorem Pw.fin {base : Nat} {w wx : World} {o : Option Nat} {ad : Option Addr} {n c : Nat} {L : List UInt8} (h : Pw base w wx o ad n c L) : PrR base o w L (.returned (.slice ad n c)) wx := ⟨ad, n, c, rfl, h.len, h.own, h.cm⟩

theorem str4 (c : Nat) : (bts (str c)).length ≤ 4 := by rw [← size_bts]; exact str_size c
theorem chrT_len (c : Nat) : (chrT c).length ≤ 5 := by
  unfold chrT
  have := str4 c
  simp only [List.length_append]
  split <;> simp <;> omega

set_option maxRecDepth 100000 in
set_option maxHeartbeats 8000000 in
theorem spanPrP (x y : Nat) (hx : x ≤ 1114111) (hy : y ≤ 1114111) (base : Nat) (L : List UInt8) (ad : Option Addr) (n c : Nat) (w : World) (hown : w.ownsRow base 5 1 (.slice ad n c) n (bC L)) (hn : n ≤ 9000000) (hbase : base ≤ w.heap.size) :
    Calls Tryd.prog 93 #[.agg #[.int .i32 (x : Int), .int .i32 (y : Int)], .slice ad n c] w (PrR base (Value.slice ad n c).ownBlock w (L ++ spanT (x, y))) := by
  obtain ⟨i0, hi0, hz0, hz1, hz2⟩ := info_parts info5
  have HI := hidden hi0
  obtain ⟨W, hW⟩ : ∃ W, w.alloc (.cells #[.int .i32 (x : Int), .int .i32 (y : Int)] 125) = W := ⟨_, rfl⟩
  have hal : Below w.heap.size w W := by rw [← hW]; exact (Below.refl _ w).alloc (Nat.le_refl _) _
  have B1 : Blk W w.heap.size 125 [.int .i32 (x : Int), .int .i32 (y : Int)] := by rw [← hW]; exact Blk.new w 125 _
  have hP0 := Pw.start hown hbase hal
  have hob : (Value.slice ad n c).ownBlock ≠ some w.heap.size := fun e => by have := owns_lt hown _ e; omega
  have k1 := charPrP x base L ad n c W hP0.own (by omega) hP0.bs
  have hc1 := chrT_len x
  have hc2 := chrT_len y
  have HP0 := hidden hP0
  have HB1 := hidden B1
  have HOB := hidden hob
  have HW := hidden hW
  rw [← hW] at k1
  obtain ⟨R, hR⟩ : ∃ R, L ++ spanT (x, y) = R := ⟨_, rfl⟩
  have HR := hidden hR
  rw [hR]
  obtain ⟨o, ho⟩ : ∃ o, (Value.slice ad n c).ownBlock = o := ⟨_, rfl⟩
  have HHO := hidden ho
  rw [ho] at k1 HP0 HOB ⊢
  clear hi0 hal B1 hP0 hob hW hR hown hbase ho
  unfold PrR at k1
  go_enter Tryd.func93, Tryd.ntmps93
  go_upto_region 2 with (go_at_call 94; refine k1.mono ?_; rintro e w2 ⟨a2, n2, c2, rfl, h1, h2, h3⟩; rw [HW.out] at h3; clear k1)
  have hcb := h3.blk HB1.out HOB.out
  have e0 : w2.cell? ⟨w.heap.size, 0, none⟩ = some (.int .i32 (x : Int)) := hcb.1.cell 0
  have e1 : w2.cell? ⟨w.heap.size, 1, none⟩ = some (.int .i32 (y : Int)) := hcb.1.cell 1
  have hP2 : Pw base w w2 o a2 n2 c2 (L ++ chrT x) := ⟨h2, HP0.out.cm.trans (by rw [HHO.out]; exact h3), Nat.le_trans HP0.out.bs h3.chg.size, h1⟩
  have HP2 := hidden hP2
  have hn2 : n2 ≤ n + 5 := by rw [← h1, List.length_append]; have := HP0.out.len; omega
  clear h1 h2 h3 hP2 HP0
  by_cases hxy : x = y
  · have hxz : ((x : Int) == (y : Int)) = true := by simp [hxy]
    have hxz2 : (x : Int) = (y : Int) := by omega
    have HRE : Hid (R = L ++ chrT x) := hidden (by rw [← HR.out, spanT, if_pos hxy, List.append_nil])
    clear hxy hcb
    go_wp2
    go_ret
    rw [HRE.out]
    exact HP2.out.fin
  · have hxz : ((x : Int) == (y : Int)) = false := by simp; omega
    have hxz2 : ¬ (x : Int) = (y : Int) := by omega
    by_cases hlt : x + 1 < y
    · have hltz : (x : Int) + 1 < (y : Int) := by omega
      have HRE : Hid (R = (L ++ chrT x ++ [45]) ++ chrT y) := hidden (by rw [← HR.out, spanT, if_neg hxy, if_pos hlt]; simp)
      have HOW := hidden HP2.out.own
      have HBS := hidden HP2.out.bs
      have HCB := hidden hcb
      have HK : Hid (∀ (g4 c4 : Nat) (w4 : World), w4.ownsRow base 5 1 (.slice (some ⟨g4, 0, none⟩) (n2 + 1) c4) (n2 + 1) (bC (L ++ chrT x ++ [45])) → Cm w2 w4 (Value.slice a2 n2 c2).ownBlock (Value.slice (some ⟨g4, 0, none⟩) (n2 + 1) c4).ownBlock → w4.cell? ⟨w.heap.size, 1, none⟩ = some (.int .i32 (y : Int)) ∧ Calls Tryd.prog 94 #[.int .i32 (y : Int), .slice (some ⟨g4, 0, none⟩) (n2 + 1) c4] w4 (PrR base o w R)) := hidden (fun g4 c4 w4 h1 h2 => by
        refine ⟨(h2.blk HCB.out.1 HCB.out.2).1.cell 1, ?_⟩
        have hP4 := HP2.out.next h1 h2
        rw [HRE.out]
        exact (charPrP y base _ _ _ _ w4 h1 (by omega) hP4.bs).mono (fun e w' h => h.pre hP4.cm))
      clear hxy hlt hcb
      go_wp2_with (first
        | (refine wpList_byte _ rfl (.tmp 21) (.tmp 22) rfl base i0 HI.out hz0 hz1 hz2 a2 n2 c2 (L ++ chrT x) rfl (HOW.out.alloc _) 45 45 rfl w2 rfl rfl (by omega) HBS.out ?_; intro g4 c4 w4 h1 h2; obtain ⟨f1, k4⟩ := HK.out g4 c4 w4 h1 h2; clear h1 h2 HK)
        | (go_at_call 94; refine k4.mono ?_; rintro e w5 ⟨a5, n5, c5, rfl, h5⟩; have H5 := hidden h5; clear k4 h5))
      go_ret
      exact ⟨a5, n5, c5, rfl, H5.out⟩
    · have hltz : ¬ (x : Int) + 1 < (y : Int) := by omega
      have HRE : Hid (R = (L ++ chrT x) ++ chrT y) := hidden (by rw [← HR.out, spanT, if_neg hxy, if_neg hlt]; simp)
      have k4 := (charPrP y base _ _ _ _ w2 HP2.out.own (by omega) HP2.out.bs).mono (fun e w' h => PrR.pre h HP2.out.cm)
      rw [← HRE.out] at k4
      clear hxy hlt hcb
      go_wp2_with (go_at_call 94; refine k4.mono ?_; rintro e w5 ⟨a5, n5, c5, rfl, h5⟩; have H5 := hidden h5; clear k4 h5)
      go_ret
      exact ⟨a5, n5, c5, rfl, H5.out⟩
theorem spanT_len (s : Nat × Nat) : (spanT s).length ≤ 11 := by
  unfold spanT
  have h1 := chrT_len s.1
  have h2 := chrT_len s.2
  simp only [List.length_append]
  split
  · simp; omega
  · simp only [List.length_append]
    split <;> simp <;> omega
theorem flat_len : ∀ l : Sn, (l.flatMap spanT).length ≤ 11 * l.length
  | [] => by simp
  | s :: t => by
    have := flat_len t
    have := spanT_len s
    simp only [List.flatMap_cons, List.length_append, List.length_cons]
    omega
theorem flat_snoc {l : Sn} {i : Nat} {o : Nat × Nat} (h : l[i]? = some o) : (l.take (i + 1)).flatMap spanT = (l.take i).flatMap spanT ++ spanT o := by
  rw [List.take_add_one, h]
  simp

set_option maxRecDepth 100000 in
set_option maxHeartbeats 8000000 in
theorem classPrP (F : Nat → Prop) (neg : Bool) (l : Sn) (ad0 : Option Addr) (c0 : Nat) (base : Nat) (L : List UInt8) (ad : Option Addr) (n c : Nat) (w : World) (hS : Ss w ad0 l) (hf : ∀ y, l ≠ [] → ad0 = some y → F y.block) (hl1 : l.length ≤ 1000) (hown : w.ownsRow base 5 1 (.slice ad n c) n (bC L)) (hF : ∀ b, F b → (Value.slice ad n c).ownBlock ≠ some b ∧ b < w.heap.size) (hn : n ≤ 8000000) (hbase : base ≤ w.heap.size) :
    Calls Tryd.prog 96 #[.agg #[.bool neg, .slice ad0 l.length c0], .slice ad n c] w (PrR base (Value.slice ad n c).ownBlock w (L ++ (91 :: (if neg then [94] else []) ++ l.flatMap spanT ++ [93]))) := by
  obtain ⟨i0, hi0, hz0, hz1, hz2⟩ := info_parts info5
  have HI := hidden hi0
  obtain ⟨nl, hnl⟩ : ∃ nl, l.length = nl := ⟨_, rfl⟩
  have HNL := hidden hnl
  rw [hnl] at hl1 ⊢
  obtain ⟨W, hW⟩ : ∃ W, w.alloc (.cells #[.bool neg, .slice ad0 nl c0] 131) = W := ⟨_, rfl⟩
  have hal : Below w.heap.size w W := by rw [← hW]; exact (Below.refl _ w).alloc (Nat.le_refl _) _
  have B1 : Blk W w.heap.size 131 [.bool neg, .slice ad0 nl c0] := by rw [← hW]; exact Blk.new w 131 _
  have hP0 := Pw.start hown hbase hal
  have hob : (Value.slice ad n c).ownBlock ≠ some w.heap.size := fun e => by have := owns_lt hown _ e; omega
  have HTK : Hid (∀ wx, Chg (fun b => (Value.slice ad n c).ownBlock = some b) w wx → Ss wx ad0 l) := hidden (fun wx hc => by
    have h : TkV F w (.slice ad0 l.length c0) l := ⟨ad0, c0, rfl, hS, hf, by omega⟩
    obtain ⟨a9, c9, e9, h9, _⟩ := h.keep hc (fun b hb e => (hF b hb).1 e)
    injection e9 with e9 _ _
    rw [e9]
    exact h9)
  have HP0 := hidden hP0
  have HB1 := hidden B1
  have HOB := hidden hob
  have HW := hidden hW
  have HFL := hidden (flat_len l)
  obtain ⟨R, hR⟩ : ∃ R, L ++ (91 :: (if neg then [94] else []) ++ l.flatMap spanT ++ [93]) = R := ⟨_, rfl⟩
  have HR := hidden hR
  rw [hR]
  obtain ⟨o, ho⟩ : ∃ o, (Value.slice ad n c).ownBlock = o := ⟨_, rfl⟩
  rw [ho] at HP0 HOB HTK ⊢
  have HOW : Hid ((w.alloc (.cells #[.bool neg, .slice ad0 nl c0] 131)).ownsRow base 5 1 (.slice ad n c) n (bC L)) := hidden (by rw [hW]; exact HP0.out.own)
  have HBS : Hid (base ≤ (w.alloc (.cells #[.bool neg, .slice ad0 nl c0] 131)).heap.size) := hidden (by rw [hW]; exact HP0.out.bs)
  have HHO := hidden ho
  have HBW := hidden hbase
  clear hi0 hal B1 hP0 hob hW hR hown hbase hS hf hF hnl ho
  -- what is held when the spans begin
  have HGO : Hid (∀ (aa : Option Addr) (m cc : Nat) (wx : World) (L1 : List UInt8), L1 = L ++ 91 :: (if neg then [94] else []) → wx.ownsRow base 5 1 (.slice aa m cc) m (bC L1) → Cm w wx o (Value.slice aa m cc).ownBlock → ∃ L2, Pw base w wx o aa m cc L2 ∧ L2 ++ ((l.drop 0).flatMap spanT) ++ [93] = R ∧ m + 11 * (nl - 0) ≤ 8500000) := hidden (fun aa m cc wx L1 hL1 h1 h2 => by
    have hP : Pw base w wx o aa m cc L1 := ⟨h1, h2, by have := HP0.out.bs; have := HP0.out.cm.chg.size; have := h2.chg.size; have := HBW.out; omega, by have := h1.1; rw [bC_length] at this; omega⟩
    refine ⟨L1, hP, ?_, ?_⟩
    · rw [← HR.out, hL1]; simp
    · have hm := hP.len
      have : L1.length ≤ n + 2 := by rw [hL1]; simp only [List.length_append, List.length_cons]; have := HP0.out.len; split <;> simp <;> omega
      omega)
  cases neg with
  | false =>
    go_enter Tryd.func96, Tryd.ntmps96
    go_wp2_with (refine wpList_byte _ rfl (.tmp 7) (.tmp 8) rfl base i0 HI.out hz0 hz1 hz2 ad n c L rfl (HOW.out.alloc _) 91 91 rfl _ rfl (by simp; rfl) (by omega) HBS.out ?_; intro g4 c4 w4 h1 h2; rw [HW.out, HHO.out] at h2; have hb4 := h2.blk HB1.out HOB.out; have f0 := hb4.1.cell 0; have f1 := hb4.1.cell 1; simp only [List.getElem?_cons_zero, List.getElem?_cons_succ] at f0 f1; have HST := hidden (HGO.out (some ⟨g4, 0, none⟩) (n + 1) c4 w4 (L ++ [91]) rfl h1 (HP0.out.cm.trans (by rw [HHO.out]; exact h2))); clear h1 h2 hb4)
    go_loopw [1, 18] (fun s1 s18 wx => ∃ (i m cc : Nat) (aa : Option Addr), s1 = .slice aa m cc ∧ s18 = .int .i64 (i : Int) ∧ i ≤ nl ∧ Hid (∃ L2, Pw base w wx o aa m cc L2 ∧ L2 ++ ((l.drop i).flatMap spanT) ++ [93] = R ∧ m + 11 * (nl - i) ≤ 8500000)) (fun _ s18 _ => nl - (intOf s18).toNat)
    case atStart => exact ⟨0, _, _, _, rfl, rfl, by omega, HST⟩
    case round =>
      rename World => wr
      obtain ⟨i, m, cc, aa, rfl, rfl, hi, hex⟩ := hrel
      obtain ⟨L2, hPw, hrel, hsz⟩ := hex.out
      clear hex
      by_cases hlt : i < nl
      · have hltz : (i : Int) < (nl : Int) := by omega
        obtain ⟨b, off, q, rfl, hb, hq, hq', d0, d1, y1, y2⟩ := (HTK.out wr hPw.cm.chg).get (i := i) (by rw [HNL.out]; exact hlt)
        obtain ⟨x1, x2⟩ := q
        simp only at d0 d1 y1 y2
        rw [drop_at hq, List.flatMap_cons] at hrel
        have hal2 : Below wr.heap.size wr (wr.alloc (.cells #[.int .i32 (x1 : Int), .int .i32 (x2 : Int)] 125)) := (Below.refl _ wr).alloc (Nat.le_refl _) _
        have k67 := (spanPrP x1 x2 y1 y2 base L2 aa m cc (wr.alloc (.cells #[.int .i32 (x1 : Int), .int .i32 (x2 : Int)] 125)) (owl hPw.own hal2) (by omega) (by have := hPw.bs; have := hal2.size; omega)).mono (fun e w' h => PrR.pre h (hPw.cm.trans (Cm.below hal2)))
        have hsl := spanT_len (x1, x2)
        have HNX : Hid (∀ a' m' c' w', w'.ownsRow base 5 1 (.slice a' m' c') m' (bC (L2 ++ spanT (x1, x2))) → Cm w w' o (Value.slice a' m' c').ownBlock → (L2 ++ spanT (x1, x2)).length = m' → ∃ L3, Pw base w w' o a' m' c' L3 ∧ L3 ++ ((l.drop (i + 1)).flatMap spanT) ++ [93] = R ∧ m' + 11 * (nl - (i + 1)) ≤ 8500000) := hidden (fun a' m' c' w' h1 h2 h3 => by
          refine ⟨_, ⟨h1, h2, by have := HBW.out; have := h2.chg.size; omega, h3⟩, by rw [← hrel]; simp, ?_⟩
          rw [List.length_append, hPw.len] at h3
          omega)
        clear hPw hrel hq hq' hal2 hsl
        unfold PrR at k67
        go_wp2_with (go_at_call 93; refine k67.mono ?_; rintro e w5 ⟨a5, n5, c5, rfl, h5, h6, h7⟩; have H5 := hidden (HNX.out a5 n5 c5 w5 h6 h7 h5); clear k67 h5 h6 h7 HNX)
        refine ⟨⟨i + 1, n5, c5, a5, by first | rfl | simp, by first | rfl | simp, by omega, H5⟩, ?_⟩
        simp [intOf]
        omega
      · have hltz : ¬ (i : Int) < (nl : Int) := by omega
        have hend : l.drop i = [] := List.drop_of_length_le (by rw [HNL.out]; omega)
        rw [hend] at hrel
        simp only [List.flatMap_nil, List.append_nil] at hrel
        have HREL := hidden hrel
        have HPW := hidden hPw
        clear hrel hPw hend
        go_wp2_with (refine wpList_byte _ rfl (.tmp 26) (.tmp 27) rfl base i0 HI.out hz0 hz1 hz2 aa m cc L2 rfl (HPW.out.own.alloc _) 93 93 rfl wr rfl rfl (by omega) HPW.out.bs ?_; intro g8 c8 w8 h1 h2; have H8 := hidden (HPW.out.next h1 h2).fin; clear h1 h2)
        go_ret
        rw [← HREL.out]
        exact H8.out

  | true =>
    go_enter Tryd.func96, Tryd.ntmps96
    go_wp2_with (first
      | (refine wpList_byte _ rfl (.tmp 7) (.tmp 8) rfl base i0 HI.out hz0 hz1 hz2 ad n c L rfl (HOW.out.alloc _) 91 91 rfl _ rfl (by simp; rfl) (by omega) HBS.out ?_; intro g4 c4 w4 h1 h2; rw [HW.out, HHO.out] at h2; have hb4 := h2.blk HB1.out HOB.out; have f0 := hb4.1.cell 0; simp only [List.getElem?_cons_zero, List.getElem?_cons_succ] at f0; have HB4 := hidden hb4; have HO4 := hidden h1; have HC4 : Hid (Cm w w4 o (Value.slice (some ⟨g4, 0, none⟩) (n + 1) c4).ownBlock) := hidden (HP0.out.cm.trans (by rw [HHO.out]; exact h2)); have HS4 : Hid (base ≤ w4.heap.size) := hidden (Nat.le_trans HP0.out.bs h2.chg.size); clear h1 h2 hb4)
      | (refine wpList_byte _ rfl (.tmp 12) (.tmp 13) rfl base i0 HI.out hz0 hz1 hz2 (some ⟨g4, 0, none⟩) (n + 1) c4 (L ++ [91]) rfl (HO4.out.alloc _) 94 94 rfl w4 rfl rfl (by omega) HS4.out ?_; intro g5 c5 w5 h1 h2; have hb5 := h2.blk HB4.out.1 HB4.out.2; have f2 := hb5.1.cell 1; simp only [List.getElem?_cons_zero, List.getElem?_cons_succ] at f2; have HST := hidden (HGO.out (some ⟨g5, 0, none⟩) (n + 1 + 1) c5 w5 (L ++ [91] ++ [94]) (by simp) h1 (HC4.out.trans h2)); clear h1 h2 hb5))
    go_loopw [1, 18] (fun s1 s18 wx => ∃ (i m cc : Nat) (aa : Option Addr), s1 = .slice aa m cc ∧ s18 = .int .i64 (i : Int) ∧ i ≤ nl ∧ Hid (∃ L2, Pw base w wx o aa m cc L2 ∧ L2 ++ ((l.drop i).flatMap spanT) ++ [93] = R ∧ m + 11 * (nl - i) ≤ 8500000)) (fun _ s18 _ => nl - (intOf s18).toNat)
    case atStart => exact ⟨0, _, _, _, rfl, rfl, by omega, HST⟩
    case round =>
      rename World => wr
      obtain ⟨i, m, cc, aa, rfl, rfl, hi, hex⟩ := hrel
      obtain ⟨L2, hPw, hrel, hsz⟩ := hex.out
      clear hex
      by_cases hlt : i < nl
      · have hltz : (i : Int) < (nl : Int) := by omega
        obtain ⟨b, off, q, rfl, hb, hq, hq', d0, d1, y1, y2⟩ := (HTK.out wr hPw.cm.chg).get (i := i) (by rw [HNL.out]; exact hlt)
        obtain ⟨x1, x2⟩ := q
        simp only at d0 d1 y1 y2
        rw [drop_at hq, List.flatMap_cons] at hrel
        have hal2 : Below wr.heap.size wr (wr.alloc (.cells #[.int .i32 (x1 : Int), .int .i32 (x2 : Int)] 125)) := (Below.refl _ wr).alloc (Nat.le_refl _) _
        have k67 := (spanPrP x1 x2 y1 y2 base L2 aa m cc (wr.alloc (.cells #[.int .i32 (x1 : Int), .int .i32 (x2 : Int)] 125)) (owl hPw.own hal2) (by omega) (by have := hPw.bs; have := hal2.size; omega)).mono (fun e w' h => PrR.pre h (hPw.cm.trans (Cm.below hal2)))
        have hsl := spanT_len (x1, x2)
        have HNX : Hid (∀ a' m' c' w', w'.ownsRow base 5 1 (.slice a' m' c') m' (bC (L2 ++ spanT (x1, x2))) → Cm w w' o (Value.slice a' m' c').ownBlock → (L2 ++ spanT (x1, x2)).length = m' → ∃ L3, Pw base w w' o a' m' c' L3 ∧ L3 ++ ((l.drop (i + 1)).flatMap spanT) ++ [93] = R ∧ m' + 11 * (nl - (i + 1)) ≤ 8500000) := hidden (fun a' m' c' w' h1 h2 h3 => by
          refine ⟨_, ⟨h1, h2, by have := HBW.out; have := h2.chg.size; omega, h3⟩, by rw [← hrel]; simp, ?_⟩
          rw [List.length_append, hPw.len] at h3
          omega)
        clear hPw hrel hq hq' hal2 hsl
        unfold PrR at k67
        go_wp2_with (go_at_call 93; refine k67.mono ?_; rintro e w5 ⟨a5, n5, c5, rfl, h5, h6, h7⟩; have H5 := hidden (HNX.out a5 n5 c5 w5 h6 h7 h5); clear k67 h5 h6 h7 HNX)
        refine ⟨⟨i + 1, n5, c5, a5, by first | rfl | simp, by first | rfl | simp, by omega, H5⟩, ?_⟩
        simp [intOf]
        omega
      · have hltz : ¬ (i : Int) < (nl : Int) := by omega
        have hend : l.drop i = [] := List.drop_of_length_le (by rw [HNL.out]; omega)
        rw [hend] at hrel
        simp only [List.flatMap_nil, List.append_nil] at hrel
        have HREL := hidden hrel
        have HPW := hidden hPw
        clear hrel hPw hend
        go_wp2_with (refine wpList_byte _ rfl (.tmp 26) (.tmp 27) rfl base i0 HI.out hz0 hz1 hz2 aa m cc L2 rfl (HPW.out.own.alloc _) 93 93 rfl wr rfl rfl (by omega) HPW.out.bs ?_; intro g8 c8 w8 h1 h2; have H8 := hidden (HPW.out.next h1 h2).fin; clear h1 h2)
        go_ret
        rw [← HREL.out]
        exact H8.out

end Go.Proofs.YtndegcgcbhcokaaDoor
