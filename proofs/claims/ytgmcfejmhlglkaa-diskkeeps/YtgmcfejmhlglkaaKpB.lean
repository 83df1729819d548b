/-
  Strings; three files as they are told.
-/
import Derived.Test.YtgmcfejmhlglkaaKpA
import Derived.Laws.IdiomStrings
namespace Go.Proofs.Ytgmcfejmhlglkaa
open Go.RowKit
set_option linter.unusedVariables false
set_option linter.unusedSimpArgs false

theorem str_size (l : List Int) : (strOfNums l).size = l.length := by simp [strOfNums, ByteArray.size]
theorem str_append (l m : List Int) : strOfNums l ++ strOfNums m = strOfNums (l ++ m) := by
  apply ByteArray.ext
  simp [strOfNums, ByteArray.data_append]
theorem str_take (l : List Int) (n : Nat) : (strOfNums l).extract 0 n = strOfNums (l.take n) := by
  apply ByteArray.ext
  simp [strOfNums, ByteArray.data_extract, List.map_take]

/-- '[]byte(s)'. -/
theorem wpList_bytes_of {w : World} {ops : Array Oper} {rest : List Oper} {o : Oper} {a : Act} {Q : Exit → Act → World → Prop} (hg : o.guard = none) (x : Operand) (ho : o.op = .convert 9 27 x) (l : List Int) (hb : Byte l) (n : Nat) (hn : l.length = n) (hx : a.eval x = .string (strOfNums l))
    (h : ∀ c w', Sl w' (some ⟨w.heap.size, 0, none⟩) n l → Below w.heap.size w w' → wpList Try.prog ops Q rest (a.put o.dst (.slice (some ⟨w.heap.size, 0, none⟩) n c)) w') : wpList Try.prog ops Q (o :: rest) a w := by
  have hr := run_bytes_of_string (P := Try.prog) w 9 27 5 (strOfNums l) Try.underlying9 Try.underlying27 Try.underlying5
  rw [str_size, hn] at hr
  refine wpList_plain hg fun K hK => ?_
  unfold Oper.wp
  simp only [execOp, ho, hx, Sem.run_bind, hr, Result.andThen_ok, Sem.run_pure]
  refine hK _ _ (h _ _ ⟨hn, hb, fun j hj => ⟨_, rfl, ?_⟩⟩ (((Below.refl _ _).trans ⟨rfl, rfl, rfl, Nat.le_refl _, fun _ _ => rfl⟩ : Below w.heap.size w w.drew).alloc (Nat.le_refl _) _))
  have e : ((⟨w.heap.size, 0, none⟩ : Addr).add j) = ⟨w.drew.heap.size, 0 + j, none⟩ := by rw [Addr.add_lit]; rfl
  rw [e, World.cell?_alloc_mark, Nat.zero_add, bytesRow_at _ _ j (by simp [strOfNums]; omega)]
  have hbj := hb (l.getD j 0) (by simp [List.getD, show j < l.length by omega])
  simp [strOfNums, List.getD, show j < l.length by omega] at hbj ⊢
  omega

def tcells : List Fl → List Value
  | [] => []
  | f :: r => .string (strOfNums f.b) :: .int .i64 (f.n : Int) :: tcells r
theorem tcells_length : ∀ L : List Fl, (tcells L).length = L.length * 2
  | [] => rfl
  | f :: r => by simp [tcells, tcells_length r]; omega
theorem tcells_s : ∀ (L : List Fl) (i : Nat) (x : Fl), L[i]? = some x → (tcells L)[i * 2]? = some (.string (strOfNums x.b))
  | [], i, x, h => by simp at h
  | f :: r, 0, x, h => by simp at h; subst h; simp [tcells]
  | f :: r, i + 1, x, h => by
    have := tcells_s r i x (by simpa using h)
    rw [show (i + 1) * 2 = i * 2 + 2 by omega]
    simpa [tcells] using this
theorem tcells_n : ∀ (L : List Fl) (i : Nat) (x : Fl), L[i]? = some x → (tcells L)[i * 2 + 1]? = some (.int .i64 (x.n : Int))
  | [], i, x, h => by simp at h
  | f :: r, 0, x, h => by simp at h; subst h; simp [tcells]
  | f :: r, i + 1, x, h => by
    have := tcells_n r i x (by simpa using h)
    rw [show (i + 1) * 2 + 1 = i * 2 + 1 + 2 by omega]
    simpa [tcells] using this
theorem tcells_set : ∀ (L : List Fl) (i : Nat) (f : Fl), tcells (L.set i f) = ((tcells L).set (i * 2) (.string (strOfNums f.b))).set (i * 2 + 1) (.int .i64 (f.n : Int))
  | [], i, f => by simp [tcells]
  | s :: l, 0, f => by simp [tcells]
  | s :: l, i + 1, f => by
    have := tcells_set l i f
    rw [show (i + 1) * 2 + 1 = i * 2 + 1 + 1 + 1 by omega, show (i + 1) * 2 = i * 2 + 1 + 1 by omega]
    simp [tcells, this]
theorem set_self {l : List Value} {i : Nat} {v : Value} (h : l[i]? = some v) : l.set i v = l := by
  apply List.ext_getElem?
  intro k
  rw [List.getElem?_set]
  split
  · rename_i hk
    subst hk
    rw [h, if_pos (List.getElem?_eq_some_iff.1 h).1]
  · rfl

theorem read_all {S : St} {i : Nat} {x : Fl} (hon : S.on = true) (hx : S.L[i]? = some x) : S.read (i : Int) 0 (x.b.length : Int) = (0, x.b) := by
  have hi := (List.getElem?_eq_some_iff.1 hx).1
  have h0 : S.refuse (i : Int) = 0 := by
    unfold St.refuse
    rw [hon, if_neg (by decide), if_pos (by omega)]
  unfold St.read
  rw [h0, if_neg (by simp), Int.toNat_natCast, hx]
  simp only
  rw [if_neg (by omega)]
  simp
theorem size_at {S : St} {i : Nat} {x : Fl} (hx : S.L[i]? = some x) : S.size (i : Int) = (x.b.length : Int) := by
  have hi := (List.getElem?_eq_some_iff.1 hx).1
  unfold St.size
  rw [if_pos (by omega), Int.toNat_natCast, hx]
theorem lasts_at {S : St} {i : Nat} {x : Fl} (hx : S.L[i]? = some x) : S.lasts (i : Int) = (x.n : Int) := by
  have hi := (List.getElem?_eq_some_iff.1 hx).1
  unfold St.lasts
  rw [if_pos (by omega), Int.toNat_natCast, hx]
theorem NB.file {w0 w : World} {p : Nat} {S : St} {Y : Nat → Prop} (h : NB w0 w p S Y) {i : Nat} {x : Fl} (hx : S.L[i]? = some x) : Byte x.b ∧ x.n ≤ x.b.length ∧ x.b.length ≤ 16777216 := by
  obtain ⟨F, h1, _⟩ := h
  obtain ⟨fb, fc, ad, c, y, hy, c0, c1, c2, ho, hb, ht, hl, h8, hF⟩ := h1.at i (List.getElem?_eq_some_iff.1 hx).1
  rw [hx] at hy
  obtain rfl := Option.some.inj hy
  exact ⟨hb, hl, ht⟩

set_option maxHeartbeats 2000000 in
theorem same_any (w0 w : World) (p : Nat) (S : St) (Y : Nat → Prop) (h : NB w0 w p S Y) (hon : S.on = true) (h3 : S.L.length = 3) :
    Calls Try.prog 19 #[.pointer (some ⟨p, 0, none⟩), .agg (tcells S.L).toArray] w fun e w' => e = .returned (.bool true) ∧ Below w.heap.size w w' := by
  obtain ⟨l6, hl6⟩ : ∃ l6, tcells S.L = l6 := ⟨_, rfl⟩
  rw [hl6]
  have HH := hidden h
  have HL6 := hidden hl6
  have HON := hidden hon
  clear h hl6 hon
  go_enter Try.func19, Try.ntmps19
  go_wp2_with (refine wpList_box_blk rfl 48 (.tmp 1) rfl l6 rfl ?_; intro w1 B1 bl1 hz1; have HB1 := hidden B1; have HBL := hidden bl1; clear B1 bl1 hz1)
  obtain ⟨bx, hbx⟩ : ∃ bx, w.heap.size = bx := ⟨_, rfl⟩
  have HBX := hidden hbx
  rw [hbx] at HB1
  simp only [hbx]
  go_loopw [5] (fun fv wr => ∃ f : Nat, f ≤ 3 ∧ fv = .int .i64 (f : Int) ∧ NB w0 wr p S Y ∧ Blk wr bx 48 l6 ∧ Below w.heap.size w wr) (fun fv _ => (3 - (intOf fv).toNat))
  case atStart => exact ⟨0, by omega, rfl, HH.out.later HBL.out, HB1.out, HBL.out⟩
  case round =>
    rename World => wr
    obtain ⟨f, hle, rfl, hN, hB, hb⟩ := hrel
    by_cases hf : f < 3
    · obtain ⟨x, hx⟩ : ∃ x, S.L[f]? = some x := ⟨_, List.getElem?_eq_getElem (by omega)⟩
      have hc0 : wr.cell? ⟨bx, f * 2, none⟩ = some (.string (strOfNums x.b)) := by rw [hB.cell, ← HL6.out]; exact tcells_s _ _ _ hx
      have hc1 : Hid (wr.cell? ⟨bx, f * 2 + 1, none⟩ = some (.int .i64 (x.n : Int))) := by show _ = _; rw [hB.cell, ← HL6.out]; exact tcells_n _ _ _ hx
      obtain ⟨hby, hxn, hxt⟩ := hN.file hx
      obtain ⟨sv, hsv⟩ : ∃ sv, strOfNums x.b = sv := ⟨_, rfl⟩
      have hsz := str_size x.b
      obtain ⟨n, hn⟩ : ∃ n, x.b.length = n := ⟨_, rfl⟩
      rw [hn] at hsz hxn hxt
      rw [hsv] at hc0 hsz
      have hf2 : (f : Int) < 3 := by omega
      have HRD := hidden (read_all HON.out hx)
      rw [hn] at HRD
      have HSZ := hidden (size_at hx)
      rw [hn] at HSZ
      have HLA := hidden (lasts_at hx)
      have HN := hidden hN
      have HB := hidden hB
      have Hb := hidden hb
      have HSV := hidden hsv
      have HBXL : Hid (bx < wr.heap.size) := hB.lt
      have HC0 := hidden hc0
      clear hN hB hb hx hn hsv hby
      go_wp2_with fail
      refine (read_b w0 wr p S Y (f : Int) 0 (n : Int) HN.out (by omega) (by omega)).mono ?_
      rintro e w2 ⟨ad, m, c, rfl, q1, q2, q3, q4⟩
      rw [HRD.out] at q1 ⊢
      have hst := fun w' (hl : Lat w2 w') => str_run (c := c) (q1.later hl)
      rw [HSV.out] at hst
      have HN2 := hidden q3
      have Hb2 := hidden (Hb.out.trans (q4.mono Hb.out.size))
      have HB2 := hidden (HB.out.later q4)
      have HST := hidden hst
      have HC0' : Hid (w2.cell? ⟨bx, f * 2, none⟩ = some (.string sv)) := by show _ = _; rw [← HC0.out]; exact World.cell?_of_block (q4.block _ HBXL.out)
      have HC1' : Hid (w2.cell? ⟨bx, f * 2 + 1, none⟩ = some (.int .i64 (x.n : Int))) := by show _ = _; rw [← hc1.out]; exact World.cell?_of_block (q4.block _ HBXL.out)
      have HBXL2 : Hid (bx < w2.heap.size) := HB2.out.lt
      clear q1 q2 q3 q4 hst HN Hb HB hc0 hc1 HC0
      simp only []
      go_wp2_with fail
      refine same_r5 p bx f n x.n m c ad sv _ _ _ (by rfl) (by rfl) (by rfl) (by rfl) (by rfl) (by rfl) hf hf2 hsz HST.out (fun w1 hl => by rw [← HC0'.out]; exact World.cell?_of_block (hl.block _ HBXL2.out)) (fun w1 hl => by rw [← HC1'.out]; exact World.cell?_of_block (hl.block _ HBXL2.out)) (fun w1 hl => by have := size_b w0 w1 p S Y (f : Int) (HN2.out.later hl); rw [HSZ.out] at this; exact this) (fun w1 hl => by have := lasts_b w0 w1 p S Y (f : Int) (HN2.out.later hl); rw [HLA.out] at this; exact this) ?_
      intros
      rename World => w3
      rename Lat w2 w3 => hL3
      have HN3 := hidden (HN2.out.later hL3)
      have HB3 := hidden (HB2.out.later hL3)
      have Hb3 := hidden (Hb2.out.trans (hL3.mono Hb2.out.size))
      clear hL3
      simp only [Act.put, List.setIfInBounds_toArray, List.set_cons_succ, List.set_cons_zero]
      go_wp2_with fail
      refine ⟨⟨f + 1, by omega, by first | rfl | simp, HN3.out, HB3.out, Hb3.out⟩, ?_⟩
      simp [intOf]
      omega
    · have HX := hidden hb
      clear hN hB hb
      go_wp2_with fail
      go_ret
      exact ⟨rfl, HX.out⟩

end Go.Proofs.Ytgmcfejmhlglkaa
