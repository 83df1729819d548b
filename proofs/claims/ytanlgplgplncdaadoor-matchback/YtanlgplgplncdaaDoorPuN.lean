/-
  The machine: takes; Match.
-/
import Derived.Test.YtanlgplgplncdaaDoorPuM
namespace Go.Proofs.YtanlgplgplncdaaDoor
open Go.RowKit
set_option linter.unusedVariables false
set_option linter.unusedSimpArgs false

/-- Bytes that are the UTF-8 of t. -/
def Rs (L : List UInt8) (t : Tx) : Prop := (∀ c ∈ t, Vc c) ∧ L = t.flatMap enc
/-- What a pattern means, of bytes. -/
def Means (l : List (List Pt)) (L : List UInt8) : Prop := ∃ t, Rs L t ∧ rowsHas l t
theorem Rs.nil : Rs [] [] := ⟨by simp, rfl⟩
theorem rs_nil {t : Tx} (h : Rs [] t) : t = [] := by
  cases t with
  | nil => rfl
  | cons c t =>
    have := h.2
    simp only [List.flatMap_cons] at this
    exact absurd this.symm (enc_ne (h.1 c (by simp)) _)
theorem rs_cons {L : List UInt8} {c : Nat} {t : Tx} (h : Rs L (c :: t)) : fp L = some (c, (enc c).length) ∧ Rs (L.drop (enc c).length) t := by
  have h2 := h.2
  simp only [List.flatMap_cons] at h2
  refine ⟨fp_some.2 ⟨h.1 c (by simp), rfl, _, h2⟩, fun x hx => h.1 x (by simp [hx]), ?_⟩
  rw [h2, List.drop_left]
theorem cons_rs {L : List UInt8} {c k : Nat} {t : Tx} (h : fp L = some (c, k)) (ht : Rs (L.drop k) t) : Rs L (c :: t) := by
  obtain ⟨hv, hk, u, hu⟩ := fp_some.1 h
  refine ⟨fun x hx => ?_, ?_⟩
  · rcases List.mem_cons.1 hx with rfl | hx
    · exact hv
    · exact ht.1 x hx
  · simp only [List.flatMap_cons]
    rw [← ht.2, hk, hu, List.drop_left]
theorem rs_step {L : List UInt8} {c k : Nat} (h : fp L = some (c, k)) (P : Tx → Prop) : (∃ t, Rs L t ∧ P t) ↔ ∃ t, Rs (L.drop k) t ∧ P (c :: t) := by
  constructor
  · rintro ⟨t, h1, h2⟩
    cases t with
    | nil =>
      have := h1.2
      simp at this
      rw [this] at h
      have := fp_len h
      simp at this
      omega
    | cons d t =>
      obtain ⟨k1, k2⟩ := rs_cons h1
      obtain ⟨e1, e2⟩ := Prod.mk.inj (Option.some.inj (h.symm.trans k1))
      exact ⟨t, by rw [e2]; exact k2, by rw [e1]; exact h2⟩
  · rintro ⟨t, h1, h2⟩
    exact ⟨c :: t, cons_rs h h1, h2⟩
theorem rs_none {L : List UInt8} (h0 : L ≠ []) (h : fp L = none) (P : Tx → Prop) : ¬ ∃ t, Rs L t ∧ P t := by
  rintro ⟨t, h1, _⟩
  cases t with
  | nil => exact h0 (by simpa using h1.2)
  | cons d t =>
    have := (rs_cons h1).1
    rw [h] at this
    cases this

theorem opens_congr {fol lab : Nat → Nat → Prop} {last : Nat → Prop} {op op' : Nat → Prop} {d d' : Prop} (h1 : ∀ q, op q ↔ op' q) (h2 : d ↔ d') (t : Tx) : opens fol lab last op d t ↔ opens fol lab last op' d' t := by
  have e1 : op = op' := funext fun q => propext (h1 q)
  have e2 : d = d' := propext h2
  rw [e1, e2]
/-- Is what is open here to take the bytes? -/
def OpB (E : Es) (M : List Sp) (op : Nat) (en : Bool) (L : List UInt8) : Prop := ∃ t, Rs L t ∧ opens (folM M) (labM M) E.en.last (fun q => op.testBit q = true) (en = true) t
theorem opb_step {E : Es} {M : List Sp} {op : Nat} {en : Bool} {L : List UInt8} {c k : Nat} (h : fp L = some (c, k)) : OpB E M op en L ↔ OpB E M (stF E.last op c 0 M 0 false).1 (stF E.last op c 0 M 0 false).2 (L.drop k) := by
  unfold OpB
  rw [rs_step h]
  have key : ∀ t, opens (folM M) (labM M) E.en.last (fun q => op.testBit q = true) (en = true) (c :: t) ↔ opens (folM M) (labM M) E.en.last (fun q => (stF E.last op c 0 M 0 false).1.testBit q = true) ((stF E.last op c 0 M 0 false).2 = true) t := fun t => by
    rw [opens]
    refine opens_congr (fun q => ?_) ?_ t
    · rw [stF_1]
      simp only [Nat.zero_testBit, Bool.false_eq_true, false_or, Nat.zero_add]
      unfold stepS folM labM
      constructor
      · rintro ⟨p, h1, ⟨s, h2, h3⟩, s', h4, h5⟩
        rw [h2] at h4
        injection h4 with h4
        subst h4
        exact ⟨p, s, h2, h1, h3, h5⟩
      · rintro ⟨p, s, h2, h1, h3, h5⟩
        exact ⟨p, h1, ⟨s, h2, h3⟩, s, h2, h5⟩
    · rw [stF_2]
      simp only [Bool.false_eq_true, false_or, Nat.zero_add]
      unfold endS labM
      constructor
      · rintro ⟨p, h1, ⟨s, h2, h3⟩, h5⟩
        exact ⟨p, s, h2, h1, h3, h5⟩
      · rintro ⟨p, s, h2, h1, h3, h5⟩
        exact ⟨p, h1, ⟨s, h2, h3⟩, h5⟩
  exact ⟨fun ⟨t, h1, h2⟩ => ⟨t, h1, (key t).1 h2⟩, fun ⟨t, h1, h2⟩ => ⟨t, h1, (key t).2 h2⟩⟩
theorem opb_nil {E : Es} {M : List Sp} {op : Nat} {en : Bool} : OpB E M op en [] ↔ en = true := by
  constructor
  · rintro ⟨t, h1, h2⟩
    rw [rs_nil h1] at h2
    exact h2
  · exact fun h => ⟨[], Rs.nil, h⟩
theorem opb_none {E : Es} {M : List Sp} {op : Nat} {en : Bool} {L : List UInt8} (h0 : L ≠ []) (h : fp L = none) : ¬ OpB E M op en L := rs_none h0 h _
theorem opb_means (l : List (List Pt)) (L : List UInt8) : OpB (machL l).1 (machL l).2 (machL l).1.first (machL l).1.emp L ↔ Means l L := by
  unfold OpB Means
  constructor
  · rintro ⟨t, h1, h2⟩; exact ⟨t, h1, (mach_ok l t).1 h2⟩
  · rintro ⟨t, h1, h2⟩; exact ⟨t, h1, (mach_ok l t).2 h2⟩

def strSz : Value → Nat
  | .string x => x.size
  | _ => 0
theorem bts_nil {x : ByteArray} : bts x = [] ↔ x = ⟨#[]⟩ := by
  constructor
  · intro h; exact bts_inj (by rw [h]; rfl)
  · rintro rfl; rfl

set_option maxRecDepth 100000 in
set_option maxHeartbeats 8000000 in
theorem takesP (F : Nat → Prop) (w : World) (p : Nat) (l : List (List Pt)) (hP : PaR F w p l) (v : ByteArray) (hv : v.size ≤ 140737488355328) (R : Bool) (hR : R = true ↔ Means l (bts v)) :
    Calls Tryd.prog 47 #[.pointer (some ⟨p, 1, none⟩), .string v] w fun e w' => e = .returned (.bool R) ∧ Below w.heap.size w w' := by
  have HP := hidden hP
  have HR : Hid (R = true ↔ OpB (machL l).1 (machL l).2 (machL l).1.first (machL l).1.emp (bts v)) := hidden (hR.trans (opb_means l _).symm)
  obtain ⟨ad, c, b, off, sa, sc, vs, h⟩ := hP
  have hB := h.blk
  have hb64 := rowsAdd_b64 l ⟨0, 0, false⟩ [] (by simpa using h.cnt) (Es.b64.zero _)
  change (machL l).1.b64 at hb64
  have HST := hidden (fun w1 (hb : Below w.heap.size w w1) => stepP F w1 p l (HP.out.later hb))
  have HNB : Hid (∀ op x, (stF (machL l).1.last op x 0 (machL l).2 0 false).1 < 18446744073709551616) := hidden (fun op x => stF_b _ _ _ _ _ _ _ (by omega) h.sp.b64)
  clear h hR HP
  obtain ⟨⟨E, M⟩, hR⟩ : ∃ R, machL l = R := ⟨_, rfl⟩
  rw [hR] at hB hb64 HST HNB HR
  obtain ⟨fi, la, em⟩ := E
  simp only at hB hb64 HST HNB HR
  have c2 : w.cell? ⟨p, 2, none⟩ = some (.int .u64 (fi : Int)) := hB.cell 2
  have c4 : w.cell? ⟨p, 4, none⟩ = some (.bool em) := hB.cell 4
  have hf := hb64.1
  simp only at hf
  clear hB hb64 hR
  go_enter Tryd.func47, Tryd.ntmps47
  go_wp2_with fail
  go_quiet (fail)
  clear c2 c4
  go_wp2_with fail
  go_loopw [1, 5, 6] (fun s1 s5 s6 wx => ∃ (x : ByteArray) (op : Nat) (en : Bool), s1 = .string x ∧ s5 = .int .u64 (op : Int) ∧ s6 = .bool en ∧ x.size ≤ 140737488355328 ∧ op < 18446744073709551616 ∧ Hid (R = true ↔ OpB ⟨fi, la, em⟩ M op en (bts x)) ∧ Hid (Below w.heap.size w wx)) (fun s1 _ _ _ => strSz s1)
  case atStart => exact ⟨v, fi, em, rfl, rfl, rfl, hv, hf, HR, hidden (below_drewN (Below.refl _ _) _)⟩
  case round =>
    rename World => wr
    obtain ⟨x, op, en, rfl, rfl, rfl, hxs, hop, hrel, hbel⟩ := hrel
    clear HR hv hf
    by_cases hx : x = ⟨#[]⟩
    · have hE : Hid (R = en) := hidden (by
        have := hrel.out
        rw [bts_nil.2 hx, opb_nil] at this
        cases R <;> cases en <;> simp_all)
      have hem : x.toList.isEmpty = true := by rw [ByteArray.toList_eq]; show (bts x).isEmpty = true; rw [bts_nil.2 hx]; rfl
      clear hrel
      go_wp2
      go_ret
      exact ⟨by rw [hE.out]; rfl, hbel.out⟩
    · have hx0 : bts x ≠ [] := fun e => hx (bts_nil.1 e)
      have hem : x.toList.isEmpty = false := by rw [ByteArray.toList_eq]; show (bts x).isEmpty = false; cases hb : bts x <;> simp_all
      have kF := firstPointP x wr (by omega)
      have HSZ := hidden (size_bts x)
      cases hfp : fp (bts x) with
      | none =>
        rw [hfp] at kF
        simp only [Option.getD_none] at kF
        have hE : Hid (R = false) := hidden (by
          have := hrel.out
          cases R with
          | false => rfl
          | true => exact absurd (this.1 rfl) (opb_none hx0 hfp))
        clear hrel hfp hx0
        go_wp2_with (go_at_call 56; refine kF.mono ?_; rintro e w2 ⟨rfl, h2⟩; have H2 := hidden h2; clear kF h2)
        go_ret
        exact ⟨by rw [hE.out]; rfl, hbel.out.trans (H2.out.mono hbel.out.size)⟩
      | some ck =>
        obtain ⟨cc, k⟩ := ck
        rw [hfp] at kF
        simp only [Option.getD_some] at kF
        have hkl := fp_len hfp
        have hk1 : k ≤ x.size := by rw [HSZ.out]; exact hkl.2
        have hk0 : 1 ≤ k := hkl.1
        have hkz : (k : Int) ≤ (x.size : Int) := by omega
        have hkz0 : ((k : Int) == 0) = false := by simp; omega
        have hkz1 : ¬ (k : Int) = 0 := by omega
        have HST2 : Hid (∀ w2, Below wr.heap.size wr w2 → Calls Tryd.prog 57 #[.pointer (some ⟨p, 1, none⟩), .int .u64 (op : Int), .int .i32 (cc : Int)] w2 fun e w' => e = .returned (.tuple #[.int .u64 ((stF la op cc 0 M 0 false).1 : Int), .bool (stF la op cc 0 M 0 false).2]) ∧ Below w2.heap.size w2 w') := hidden (fun w2 hb => HST.out w2 (hbel.out.trans (hb.mono hbel.out.size)) op cc hop)
        have hnb := HNB.out op cc
        have HREL : Hid (R = true ↔ OpB ⟨fi, la, em⟩ M (stF la op cc 0 M 0 false).1 (stF la op cc 0 M 0 false).2 (bts (x.extract k x.size))) := hidden (by
          rw [hrel.out, opb_step hfp, bts_extract, List.take_of_length_le (by rw [List.length_drop, HSZ.out]; omega)])
        obtain ⟨⟨o2, e2⟩, ho2⟩ : ∃ r, stF la op cc 0 M 0 false = r := ⟨_, rfl⟩
        rw [ho2] at HST2 hnb HREL
        simp only at HST2 hnb HREL
        have HXS : Hid ((x.extract k x.size).size = x.size - k) := hidden (by rw [size_bts, bts_extract, List.take_of_length_le (by rw [List.length_drop, HSZ.out]; omega), List.length_drop, HSZ.out])
        clear hrel hfp hx0 ho2 hkl
        go_wp2_with (first
          | (go_at_call 56; refine kF.mono ?_; rintro e w2 ⟨rfl, h2⟩; have H2 := hidden h2; have kS := HST2.out w2 h2; clear kF h2)
          | (go_at_call 57; refine kS.mono ?_; rintro e w3 ⟨rfl, h3⟩; have H3 := hidden h3; clear kS h3))
        refine ⟨⟨x.extract k x.size, o2, e2, by first | rfl | simp, by first | rfl | simp, by first | rfl | simp, by rw [HXS.out]; omega, hnb, HREL, hidden ?_⟩, ?_⟩
        · have h4 := hbel.out.trans (H2.out.mono hbel.out.size)
          exact h4.trans (H3.out.mono h4.size)
        · simp only [strSz]
          rw [HXS.out]
          omega

set_option maxRecDepth 100000 in
set_option maxHeartbeats 8000000 in
/-- MATCH TELLS WHAT THE TREE MEANS. -/
theorem matchP (F : Nat → Prop) (w : World) (p : Nat) (l : List (List Pt)) (hP : PaR F w p l) (v : ByteArray) (hv : v.size ≤ 140737488355328) (R : Bool) (hR : R = true ↔ Means l (bts v)) :
    Calls Tryd.prog 36 #[.pointer (some ⟨p, 0, none⟩), .string v] w fun e w' => e = .returned (.bool R) ∧ Below w.heap.size w w' := by
  have k := takesP F w p l hP v hv R hR
  clear hP hR
  go_enter Tryd.func36, Tryd.ntmps36
  go_wp2_with (go_at_call 47; refine k.mono ?_; rintro e w2 ⟨rfl, h2⟩; have H2 := hidden h2; clear k h2)
  go_ret
  exact ⟨rfl, H2.out⟩

end Go.Proofs.YtanlgplgplncdaaDoor
