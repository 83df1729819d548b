import Derived.Test.YtndegcgcbhcokaaDoorQaR
import Derived.Test.YtndegcgcbhcokaaDoorQbJ
import Derived.Test.YtndegcgcbhcokaaDoorQbE
/-
  The document's Match.
-/
namespace Go.Proofs.YtndegcgcbhcokaaDoor
open Go.RowKit
set_option linter.unusedVariables false
set_option linter.unusedSimpArgs false

theorem rowsLen : ∀ (l : List (List Pt)), rowsFine l → ∀ r ∈ l, r.length ≤ 1000
  | [], _, r, h => by cases h
  | q :: t, hf, r, h => by
    simp only [rowsFine] at hf
    rcases List.mem_cons.1 h with e | h
    · rw [e]; exact hf.2.1
    · exact rowsLen t hf.2.2 r h
mutual
/-- ENDS TELLS WHERE WHAT A PART MEANS MAY END. -/
theorem endsP : ∀ p : Pt, p.fine → EnC p
  | .chr c, _ => ends_leaf _ trivial
  | .any, _ => ends_leaf _ trivial
  | .cls neg l, _ => ends_leaf _ trivial
  | .grp l, h => by
    simp only [Pt.fine] at h
    exact ends_grp l h.2 (ends_any l (fun r hr => ends_row r (endsRows l h.1 r hr)) (rowsLen l h.1))
  | .rep a s, h => by
    simp only [Pt.fine] at h
    exact ends_rep a s h.2 (endsP a h.1)
theorem endsRow : ∀ (r : List Pt), rowFine r → ∀ (p : Pt), p ∈ r → EnC p
  | [], _, p, h => by cases h
  | q :: t, hf, p, h => by
    simp only [rowFine] at hf
    rcases List.mem_cons.1 h with e | h
    · rw [e]; exact endsP q hf.1
    · exact endsRow t hf.2 p h
theorem endsRows : ∀ (l : List (List Pt)), rowsFine l → ∀ (r : List Pt), r ∈ l → ∀ p ∈ r, EnC p
  | [], _, r, h => by cases h
  | q :: t, hf, r, h => by
    simp only [rowsFine] at hf
    rcases List.mem_cons.1 h with e | h
    · rw [e]; exact endsRow q hf.1
    · exact endsRows t hf.2.2 r h
end

theorem anyP (l : List (List Pt)) (h : rowsFine l) : EnAny l := ends_any l (fun r hr => ends_row r (endsRows l h r hr)) (rowsLen l h)

theorem rs_inj : ∀ (t t' : Tx) (L : List UInt8), Rs L t → Rs L t' → t = t'
  | [], t', L, h, h' => by
    have : L = [] := by simpa using h.2
    rw [this] at h'
    exact (rs_nil h').symm
  | c :: t, [], L, h, h' => by
    have : L = [] := by simpa using h'.2
    rw [this] at h
    exact rs_nil h
  | c :: t, c' :: t', L, h, h' => by
    obtain ⟨h1, h2⟩ := rs_cons h
    obtain ⟨k1, k2⟩ := rs_cons h'
    obtain ⟨e1, e2⟩ := Prod.mk.inj (Option.some.inj (h1.symm.trans k1))
    rw [e2] at h2
    rw [e1, rs_inj t t' _ h2 k2]
theorem Rn.good {S : List UInt8} {a : Nat} {rl : List Int} {al : List Nat} (h : Rn S a rl al) : (∃ t : Tx, rl = t.map (fun (c : Nat) => (c : Int)) ∧ Rs (S.drop a) t) ∨ (rl.getLast? = some (-2) ∧ ∀ t, ¬ Rs (S.drop a) t) := by
  induction h with
  | fin => exact .inl ⟨[], rfl, by rw [List.drop_length]; exact Rs.nil⟩
  | bad a h hf =>
    refine .inr ⟨rfl, fun t ht => ?_⟩
    have hne : S.drop a ≠ [] := fun e => by
      have := congrArg List.length e
      rw [List.length_drop] at this
      simp at this
      omega
    exact rs_none hne hf (fun _ => True) ⟨t, ht, trivial⟩
  | step a c k cs ps hf h ih =>
    rcases ih with ⟨t, e, ht⟩ | ⟨e, ht⟩
    · refine .inl ⟨c :: t, by rw [e]; rfl, cons_rs hf ?_⟩
      rw [List.drop_drop]; exact ht
    · refine .inr ⟨?_, fun t' ht' => ?_⟩
      · cases cs with
        | nil => simp at e
        | cons x y => rw [List.getLast?_cons_cons]; exact e
      · cases t' with
        | nil =>
          have := ht'.2
          simp at this
          have hl := fp_len hf
          rw [List.length_drop] at hl
          omega
        | cons d t' =>
          obtain ⟨k1, k2⟩ := rs_cons ht'
          obtain ⟨e1, e2⟩ := Prod.mk.inj (Option.some.inj (hf.symm.trans k1))
          rw [← e2, List.drop_drop] at k2
          exact ht t' k2

set_option maxRecDepth 100000 in
set_option maxHeartbeats 0 in
/-- THE DOCUMENT'S MATCH TELLS WHAT THE TREE MEANS. -/
theorem matchN (B : Nat) {F : Nat → Prop} {w : World} {p : Nat} {l : List (List Pt)} {u : List Value} (hP : PaN F w p l u) (hfine : rowsFine l) (hl : l.length ≤ 1000) (v : ByteArray) (hv : v.size ≤ 200) (hT : Tb B w) (R : Bool) (hR : mB l (bts v) = R) :
    Calls Tryd.prog 21 #[.pointer (some ⟨p, 0, none⟩), .string v] w fun e w' => e = .returned (.bool R) ∧ Below w.heap.size w w' := by
  obtain ⟨i0, hi0, hz0, hz1, hz2⟩ := info_parts info4
  have HI := hidden hi0
  have kR := runesR B v w (by omega) hT
  have HP := hidden hP
  have HSH := hidden hP.an.sh
  have HEN := hidden (anyP l hfine)
  have HR := hidden hR
  have HL := hidden hl
  unfold RunesR at kR
  clear hi0 hP hfine hT hR hl
  go_enter Tryd.func21, Tryd.ntmps21
  go_upto_region 2 with (go_at_call 14; refine kR.mono ?_; rintro e w2 ⟨ra, n, rc, aa, ac, rl, al, rfl, hN, hU, hns⟩; have HN := hidden hN; have HU := hidden hU; clear kR hN hU)
  obtain ⟨rb, ab, q1, rfl, _, _, _, _, _⟩ := HU.out.rx (by omega)
  have hrl : rl.length = n := by have := HU.out.o1.1; simpa [c32] using this
  have HQ1 := hidden q1
  have HRL := hidden hrl
  have HB2 := hidden HU.out.bel
  clear q1 hrl
  rcases HN.out.good with ⟨t, ht, hrs⟩ | ⟨hlast, hno⟩
  · rw [List.drop_zero] at hrs
    have HRS := hidden hrs
    have HTT := hidden ht
    have htl : t.length = n := by have := HRL.out; rw [ht] at this; simpa using this
    have HTL := hidden htl
    have hcell : ∀ (i : Nat) (x : Nat), t[i]? = some x → ra = some ⟨rb, 0, none⟩ ∧ w2.cell? ⟨rb, i, none⟩ = some (.int .i32 (x : Int)) := fun i x hx => HQ1.out i x (by rw [ht, List.getElem?_map, hx]; rfl)
    have HCE := hidden hcell
    have HCP : Hid (CpV w2 ra t) := hidden (fun h0 => by
      cases t with
      | nil => exact absurd rfl h0
      | cons x y =>
        refine ⟨rb, 0, (hcell 0 x rfl).1, fun i z hz => ?_⟩
        rw [Nat.zero_add]
        exact (hcell i z hz).2)
    have HVC : Hid (∀ c ∈ t, c ≤ 1114111) := hidden (fun c hc => by have := hrs.1 c hc; unfold Vc at this; omega)
    have HMV : Hid (R = true ↔ rowsHas l t) := hidden (by
      rw [← HR.out, mB_iff]
      constructor
      · rintro ⟨t', h1, h2⟩
        rw [rs_inj t t' _ hrs h1]
        exact h2
      · exact fun h => ⟨t, hrs, h⟩)
    clear hcell hrs ht htl
    go_cut [24] from 13 to 24 (fun s wx => s = .bool false ∧ wx = w2)
    case first =>
      by_cases h0 : n = 0
      · have h0z : decide (0 < n) = false := decide_eq_false (by omega)
        clear h0
        go_wp2_with fail
        go_meet
        exact ⟨rfl, rfl⟩
      · have h0z : decide (0 < n) = true := decide_eq_true (by omega)
        obtain ⟨m, hm⟩ : ∃ m, n = m + 1 := ⟨n - 1, by omega⟩
        obtain ⟨x, hx⟩ : ∃ x, t[m]? = some x := ⟨_, List.getElem?_eq_getElem (by have := HTL.out; omega)⟩
        obtain ⟨e, k1⟩ := HCE.out m x hx
        subst e
        have k1' : w2.cell? ⟨rb, 0 + m, none⟩ = some (.int .i32 (x : Int)) := by rw [Nat.zero_add]; exact k1
        have hx2 : ¬ (x : Int) = -2 := by omega
        have em : (n : Int) - 1 = (m : Int) := by omega
        have em1 : (m : Int) < (n : Int) := by omega
        have HM := hidden hm
        have HX2 : Hid (((x : Int) == -2) = false) := hidden (by simp)
        clear hx hm h0 hx2
        go_wp2_with fail
        go_meet
        exact ⟨by rw [HX2.out], rfl⟩
    case rest =>
      obtain ⟨rfl, hwc⟩ := hcut
      obtain rfl := hwc.symm
      clear hwc
      have hn9 : n ≤ 200 := by omega
      go_upto_region 6 with (refine wpList_make_room _ rfl (.tmp 27) (.tmp 27) 91 rfl 4 i0 (.bool false) Tryd.underlying91 HI.out hz0 hz1 hz2 rfl .i64 .i64 ((n : Int) + 1) ((n : Int) + 1) (n + 1) (n + 1) rfl rfl (by omega) (by omega) (Nat.le_refl _) (by omega) ?_; intro w3 hB3 hs3 hb3; have F3 := hidden (Fil.new hb3 hB3 (fun k => decide (k = 0))); have HB3 := hidden (HB2.out.trans (hb3.mono HB2.out.size)); have G3 := hidden hb3; obtain ⟨⟨z, c0⟩, f0⟩ := F3.out.at (k := 0) (by omega); clear hB3 hs3 hb3)
      have F4 := hidden (F3.out.set (show 0 < n + 1 by omega))
      obtain ⟨w4, hw4⟩ : ∃ w4, w3.setCell ⟨w2.heap.size, 0, none⟩ (.bool true) = w4 := ⟨_, rfl⟩
      have F4' : Hid (∃ l', Blk w4 w2.heap.size 4 (bB l') ∧ l'.length = n + 1 ∧ ∀ i, i ≤ n → (l'[i]? = some true ↔ i = 0)) := hidden ⟨(List.replicate (n + 1) false).set 0 true, by rw [← hw4]; exact F4.out.blk, by simp, fun i hi => by
        rw [List.getElem?_set]
        by_cases h : 0 = i
        · subst h; simp
        · rw [if_neg h, List.getElem?_replicate, if_pos (by omega)]
          simp
          omega⟩
      have HB4 : Hid (Below w2.heap.size w2 w4) := hidden (by rw [← hw4]; exact F4.out.bel)
      have HB4w : Hid (Below w.heap.size w w4) := hidden (HB2.out.trans (HB4.out.mono HB2.out.size))
      rw [hw4]
      obtain ⟨fb, hfb, hfl, hft⟩ := F4'.out
      have HBL : Hid (BlV w4 (some ⟨w2.heap.size, 0, none⟩) fb) := hidden (fun _ => ⟨w2.heap.size, 0, rfl, fun i x hx => by rw [Nat.zero_add, hfb.cell, bB, List.getElem?_map, hx]; rfl⟩)
      have HFT := hidden hft
      have kE := HEN.out F w4 u ra (some ⟨w2.heap.size, 0, none⟩) rc (n + 1) t fb n (HP.out.later HB4w.out).an HL.out ⟨HCP.out.later HB4.out, HBL.out, HTL.out, hfl, by omega, HVC.out⟩
      have HRA := hidden (HP.out.later HB4w.out).blk.all
      clear hw4 hfb hft c0 f0
      unfold EnR at kE
      go_wp2_with (first
        | (refine wpList_load_mid rfl 70 (.tmp 33) rfl p 0 (by rfl) u _ HRA.out Tryd.underlying70 rfl (sz6 HSH.out) ?_)
        | (go_at_call 33; refine kE.mono ?_; rintro e w5 ⟨a5, c5, ob, rfl, q1, q2, q3, q4⟩; have Q2 := hidden q2; have Q3 := hidden q3; have Q4 := hidden q4; obtain ⟨b5, o5, rfl, hc5⟩ := q1 (fun e => (by rw [e] at q2; simp at q2)); obtain ⟨y, hy⟩ : ∃ y, ob[n]? = some y := ⟨_, List.getElem?_eq_getElem (by omega)⟩; have k5 := hc5 n y hy; have HY := hidden hy; clear kE q2 q3 q4 hc5 hy q1))
      go_ret
      refine ⟨?_, HB4w.out.trans (Q4.out.mono HB4w.out.size)⟩
      have hyR : y = R := by
        rw [Bool.eq_iff_iff, HMV.out]
        have h1 := Q3.out n (Nat.le_refl _)
        rw [HY.out] at h1
        have h2 : (y = true) ↔ En1 (rowsHas l) t (fun i => fb[i]? = some true) n := by rw [← h1]; simp
        rw [h2]
        constructor
        · rintro ⟨i, e1, e2, e3⟩
          obtain rfl := (HFT.out i e1).1 e2
          rw [List.drop_zero, List.take_of_length_le (by rw [HTL.out]; exact Nat.le_refl _)] at e3
          exact e3
        · intro h
          exact ⟨0, Nat.zero_le _, (HFT.out 0 (Nat.zero_le _)).2 rfl, by rw [List.drop_zero, List.take_of_length_le (by rw [HTL.out]; exact Nat.le_refl _)]; exact h⟩
      rw [← hyR]
      rfl
  · rw [List.drop_zero] at hno
    have hRf : R = false := by
      rw [← HR.out]
      cases h : mB l (bts v) with
      | false => rfl
      | true =>
        obtain ⟨t, h1, _⟩ := (mB_iff _ _).1 h
        exact absurd h1 (hno t)
    subst hRf
    have hne : rl ≠ [] := fun e => by rw [e] at hlast; simp at hlast
    obtain ⟨m, hm⟩ : ∃ m, n = m + 1 := ⟨n - 1, by have := HRL.out; have := List.length_pos_iff.2 hne; omega⟩
    have hx : rl[m]? = some (-2) := by
      rw [List.getLast?_eq_getElem?] at hlast
      have := HRL.out
      rw [show rl.length - 1 = m by omega] at hlast
      exact hlast
    obtain ⟨e, k1⟩ := HQ1.out m (-2) hx
    subst e
    have k1' : w2.cell? ⟨rb, 0 + m, none⟩ = some (.int .i32 (-2)) := by rw [Nat.zero_add]; exact k1
    have h0z : decide (0 < n) = true := decide_eq_true (by omega)
    have em : (n : Int) - 1 = (m : Int) := by omega
    have em1 : (m : Int) < (n : Int) := by omega
    have HM := hidden hm
    clear hx hm hne hlast hno
    go_wp2
    go_ret
    exact ⟨rfl, HB2.out⟩

end Go.Proofs.YtndegcgcbhcokaaDoor

/-
  The document's Print and Words.
-/
namespace Go.Proofs.YtndegcgcbhcokaaDoor
open Go.RowKit
set_option linter.unusedVariables false
set_option linter.unusedSimpArgs false

mutual
/-- TEXT WRITES A PART. -/
theorem textP : ∀ p : Pt, p.fine → TxC p
  | .chr c, _ => text_chr c
  | .any, _ => text_any
  | .cls neg l, _ => text_cls neg l
  | .grp l, h => by
    simp only [Pt.fine] at h
    exact text_grp l h.2 (text_rows l (fun r hr => ⟨text_row r (textRows l h.1 r hr), rowsLen l h.1 r hr⟩))
  | .rep a s, h => by
    simp only [Pt.fine] at h
    exact text_rep a s h.2 (textP a h.1)
theorem textRow : ∀ (r : List Pt), rowFine r → ∀ (p : Pt), p ∈ r → TxC p
  | [], _, p, h => by cases h
  | q :: t, hf, p, h => by
    simp only [rowFine] at hf
    rcases List.mem_cons.1 h with e | h
    · rw [e]; exact textP q hf.1
    · exact textRow t hf.2 p h
theorem textRows : ∀ (l : List (List Pt)), rowsFine l → ∀ (r : List Pt), r ∈ l → ∀ p ∈ r, TxC p
  | [], _, r, h => by cases h
  | q :: t, hf, r, h => by
    simp only [rowsFine] at hf
    rcases List.mem_cons.1 h with e | h
    · rw [e]; exact textRow q hf.1
    · exact textRows t hf.2.2 r h
end
theorem textAny (l : List (List Pt)) (h : rowsFine l) : TxAny l := text_rows l (fun r hr => ⟨text_row r (textRows l h r hr), rowsLen l h r hr⟩)
theorem cnt_row : ∀ (r : List Pt) (p : Pt), p ∈ r → p.cnt ≤ rowCnt r
  | [], p, h => by cases h
  | q :: t, p, h => by
    rw [rowCnt]
    rcases List.mem_cons.1 h with e | h
    · rw [e]; omega
    · have := cnt_row t p h; omega
theorem cnt_rows : ∀ (l : List (List Pt)) (r : List Pt), r ∈ l → rowCnt r ≤ rowsCnt l
  | [], r, h => by cases h
  | q :: t, r, h => by
    rw [rowsCnt]
    rcases List.mem_cons.1 h with e | h
    · rw [e]; omega
    · have := cnt_rows t r h; omega
mutual
/-- WORDS TELLS A PART'S WORDS. -/
theorem wordsNP : ∀ p : Pt, p.fine → p.cnt ≤ 64 → WdC p
  | .chr c, _, _ => wordsN_chr c
  | .any, _, _ => wordsN_any
  | .cls neg l, _, _ => wordsN_cls neg l
  | .grp l, h, hc => by
    simp only [Pt.fine] at h
    simp only [Pt.cnt] at hc
    exact wordsN_grp l h.2 (wordsN_rows l (fun r hr => ⟨wordsN_row r (fun p hp => ⟨wordsNRows l h.1 hc r hr p hp, by have := cnt_row r p hp; have := cnt_rows l r hr; omega⟩), rowsLen l h.1 r hr⟩))
  | .rep a s, h, hc => by
    simp only [Pt.fine] at h
    simp only [Pt.cnt] at hc
    exact wordsN_rep a s (wordsNP a h.1 hc)
theorem wordsNRow : ∀ (r : List Pt), rowFine r → rowCnt r ≤ 64 → ∀ (p : Pt), p ∈ r → WdC p
  | [], _, _, p, h => by cases h
  | q :: t, hf, hc, p, h => by
    simp only [rowFine] at hf
    rw [rowCnt] at hc
    rcases List.mem_cons.1 h with e | h
    · rw [e]; exact wordsNP q hf.1 (by omega)
    · exact wordsNRow t hf.2 (by omega) p h
theorem wordsNRows : ∀ (l : List (List Pt)), rowsFine l → rowsCnt l ≤ 64 → ∀ (r : List Pt), r ∈ l → ∀ p ∈ r, WdC p
  | [], _, _, r, h => by cases h
  | q :: t, hf, hc, r, h => by
    simp only [rowsFine] at hf
    rw [rowsCnt] at hc
    rcases List.mem_cons.1 h with e | h
    · rw [e]; exact wordsNRow q hf.1 (by omega)
    · exact wordsNRows t hf.2.2 (by omega) r h
end
theorem wordsNAny (l : List (List Pt)) (h : rowsFine l) (hc : rowsCnt l ≤ 64) : WdAny l :=
  wordsN_rows l (fun r hr => ⟨wordsN_row r (fun p hp => ⟨wordsNRows l h hc r hr p hp, by have := cnt_row r p hp; have := cnt_rows l r hr; omega⟩), rowsLen l h r hr⟩)

set_option maxRecDepth 100000 in
set_option maxHeartbeats 0 in
/-- WORDS. -/
theorem wordsTN (F : Nat → Prop) (w : World) (p : Nat) (u : List Value) (l : List (List Pt)) (hB : Blk w p 75 u) (hA : AnV F w l u) (hf : rowsFine l) (hc : rowsCnt l ≤ 64) (hl : l.length ≤ 1000) : Calls Tryd.prog 18 #[.pointer (some ⟨p, 0, none⟩)] w (WdN true (rowsW l []) w) := by
  have kE := wordsNAny l hf hc F w u hA hl
  obtain ⟨ad, c, b, off, rfl, h1, h2⟩ := hA
  obtain ⟨m, hm⟩ : ∃ m, l.length = m := ⟨_, rfl⟩
  obtain ⟨T, hT⟩ : ∃ T, rowsW l [] = T := ⟨_, rfl⟩
  rw [hm] at hB kE
  rw [hT] at kE ⊢
  have HB := hidden hB
  simp only [nV, sN] at kE
  have kE2 : Calls Tryd.prog 31 #[.agg #[.int .i64 7, .int .i32 0, .bool false, .int .u8 0, .slice none 0 0, .slice ad m c]] w (WdN true T w) := kE
  unfold WdN at kE2
  clear hB h1 h2 hm hT hl hc hf kE
  go_enter Tryd.func18, Tryd.ntmps18
  go_wp2_with (first
    | (refine wpList_load_blk rfl 70 (.tmp 6) rfl p HB.out rfl Tryd.underlying70 rfl info70s ?_; simp only [nV, sN])
    | (go_at_call 31; refine kE2.mono ?_; rintro e w3 ⟨a3, m3, c3, ok3, rfl, q1, q2⟩; have Q := hidden (And.intro q1 q2); clear kE2 q1 q2))
  go_ret2
  refine ⟨a3, m3, c3, ok3, rfl, Q.out.1, ?_⟩
  rcases Q.out.2 with h | ⟨h1, h2, h3⟩
  · exact .inl h
  · exact .inr ⟨h1, h2, fun _ => h3 trivial⟩

end Go.Proofs.YtndegcgcbhcokaaDoor
