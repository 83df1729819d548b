import Derived.Test.YtlppibigceeimaaDoorSeY
import Derived.Laws.StructEq
/-
  Package series: Drop.
-/
namespace Go.Proofs.YtlppibigceeimaaDoor
open Go.RowKit
set_option linter.unusedVariables false
set_option linter.unusedSimpArgs false

/-- What Drop leaves. -/
def DpP (F : Nat → Prop) (w : World) (S p n : Nat) (st : K.Sx) (Z : ByteArray → List En) (o : ByteArray) (w' : World) : Prop :=
  ∃ F' gv, SQ F' w' S p n (relN st gv) (rmZ Z o) ∧ Chg F w w' ∧ K.Nw w F F' ∧ ∀ i, i ∈ gv ↔ i ∈ (Z o).flatMap slF
theorem dp_end {F : Nat → Prop} {w wx wz : World} {S p n T r : Nat} {st : K.Sx} {Z : ByteArray → List En} {sh : ByteArray → Option Nat} {R : ByteArray → Int → Value} {G : Nat → Prop} {o : ByteArray} {gv : List Nat} {lo : List (ByteArray × Value)}
    (hst : Stm w S p T sh R Z) (hG : ∀ i, G i → ¬ SFp T sh R Z i) (hF : ∀ i, F i ↔ (SFp T sh R Z i ∨ G i)) (hZ : SZ n st Z) (hP0 : K.PQ G w p n st) (hD : DM w p n G st gv r wx) (hgv : ∀ i, i ∈ gv ↔ i ∈ (Z o).flatMap slF)
    (hlo : ∀ o, al lo o = (sh o).map fun sb => Value.map (some sb)) (htop : Ml Value.string wz T (rm lo o)) (hcz : Chg (fun i => i = T) wx wz) : DpP F w S p n st Z o wz := by
  obtain ⟨Gx, hp, hnw⟩ := hD.pool
  have hcx := hD.chg
  have hr := hD.ge
  have hszx := hcx.size
  have hTlt : T < w.heap.size := (hst.tag (.inl rfl)).1
  have hTtag : ∀ t, ¬ Tg w T t := by obtain ⟨lo, l1, _⟩ := hst.top; exact l1.tg
  have hn1 : ∀ i, SFp T sh R Z i → ¬ (G i ∨ i = r) := by
    rintro i hi (e | e)
    · exact hG i e hi
    · have := (hst.tag hi).1; omega
  have hSn : ¬ (G S ∨ S = r) := by
    rintro (e | e)
    · have := hP0.tag e 58 hst.blk.tg; cases this
    · have := hst.blk.lt; omega
  have hST : ¬ S = T := fun e => hTtag 58 (e ▸ hst.blk.tg)
  have hpT : ¬ p = T := fun e => hTtag 55 (e ▸ hP0.own)
  have hGxT : ∀ i, Gx i → ¬ i = T := by
    rintro i hi rfl
    rcases hnw i hi with e | ⟨e, _⟩
    · exact hG i e (.inl rfl)
    · omega
  have hStm : Stm wz S p T (fun o' => if o' = o then none else sh o') R (rmZ Z o) := by
    refine ⟨hcz.blk (hcx.blk hst.blk hSn) hST, ⟨_, htop, fun o' => ?_⟩, ?_, ?_, ?_, ?_, ?_⟩
    · by_cases ho : o' = o
      · subst ho
        rw [if_pos rfl]
        exact al_none (fun q hq e => by
          unfold rm at hq
          have := (List.mem_filter.1 hq).2
          simp only [decide_eq_true_eq] at this
          exact this e)
      · rw [if_neg ho, K.al_rm_off lo ho, hlo o']
    · intro o' sb e
      by_cases ho : o' = o
      · rw [if_pos ho] at e; cases e
      · rw [if_neg ho] at e
        have e2 : rmZ Z o o' = Z o' := by unfold rmZ; rw [if_neg ho]
        rw [e2]
        exact ⟨((hst.set o' sb e).1.chg hcx (hn1 sb (.inr (.inl ⟨o', e⟩)))).chg hcz (hst.set o' sb e).2, (hst.set o' sb e).2⟩
    · intro o' e
      unfold rmZ
      by_cases ho : o' = o
      · rw [if_pos ho]
      · rw [if_neg ho] at e ⊢
        exact hst.non o' e
    · intro a b sb ea eb
      by_cases ha : a = o
      · rw [if_pos ha] at ea; cases ea
      · rw [if_neg ha] at ea
        by_cases hb : b = o
        · rw [if_pos hb] at eb; cases eb
        · rw [if_neg hb] at eb
          exact hst.inj a b sb ea eb
    · intro o' e he
      unfold rmZ at he
      split at he
      · simp at he
      · have h1 := hst.row o' e he
        refine hcz.owns (hcx.owns h1 (fun g hg => hn1 g (.inr (.inr ⟨o', e, he, hg⟩)))) (fun g hg e2 => ?_)
        have ht := owns_tg h1 g hg
        rw [e2] at ht
        exact hTtag 3 ht
    · intro a ea b eb g h1 h2
      unfold rmZ at h1 h2
      split at h1
      · simp at h1
      · split at h2
        · simp at h2
        · exact hst.rin a ea b eb g h1 h2
  have hsub : ∀ i, SFp T (fun o' => if o' = o then none else sh o') R (rmZ Z o) i → SFp T sh R Z i := by
    rintro i (rfl | ⟨o', e⟩ | ⟨o', e, he, hg⟩)
    · exact .inl rfl
    · simp only at e
      by_cases ho : o' = o
      · rw [if_pos ho] at e; cases e
      · rw [if_neg ho] at e; exact .inr (.inl ⟨o', e⟩)
    · unfold rmZ at he
      split at he
      · simp at he
      · exact .inr (.inr ⟨o', e, he, hg⟩)
  refine ⟨fun i => SFp T (fun o' => if o' = o then none else sh o') R (rmZ Z o) i ∨ Gx i, gv, ⟨T, _, R, Gx, hStm, hp.chg hcz hGxT hpT, hZ.drop o hgv, ?_, fun i => Iff.rfl⟩, ?_, ?_, hgv⟩
  · intro i hi hs
    have hs := hsub i hs
    rcases hnw i hi with e | ⟨e, _⟩
    · exact hG i e hs
    · have := (hst.tag hs).1; omega
  · refine (hcx.mono (fun i hi e => ?_)).trans hcz (fun i hi e => ?_)
    · rcases e with e | e
      · exact (hF i).2 (.inr e)
      · omega
    · rw [e]; exact (hF T).2 (.inl (.inl rfl))
  · rintro i (hi | hi)
    · exact .inl ((hF i).2 (.inl (hsub i hi)))
    · rcases hnw i hi with e | ⟨e, _⟩
      · exact .inl ((hF i).2 (.inr e))
      · exact .inr e

set_option maxRecDepth 100000 in
set_option maxHeartbeats 8000000 in
theorem sdropP (o : ByteArray) (F : Nat → Prop) (S p n : Nat) (st : K.Sx) (Z : ByteArray → List En) (w : World) (h : SQ F w S p n st Z) :
    Calls Tryd.prog 19 #[.pointer (some ⟨S, 0, none⟩), .string o] w fun e w' => e = .returned (.int .i64 (((Z o).flatMap slF).length : Int)) ∧ DpP F w S p n st Z o w' := by
  have hz := h.sz
  have hused := hz.used o
  obtain ⟨T, sh, R, G, h1, h2, h3, h4, h5⟩ := h
  have hn1 := h2.n1
  have hle : ((Z o).flatMap slF).length ≤ 65536 := by
    have h3 : (K.setL st n o).length ≤ n := by
      unfold K.setL
      have := List.length_filterMap_le (fun i => match st i with | some x => if x.1 = o then some ((i : Int), K.uV) else none | none => none) (List.range n)
      rw [List.length_range] at this
      exact this
    omega
  have c1 : w.cell? ⟨S, 1, none⟩ = some (.map (some T)) := h1.blk.cell 1
  have l1 := h1.lookT o
  have HSn : Hid (∀ {gv r wx}, DM w p n G st gv r wx → Blk wx S 58 [.pointer (some ⟨p, 0, none⟩), .map (some T)]) := hidden (fun hD => hD.chg.blk h1.blk (by
    rintro (e | e)
    · have := h2.tag e 58 h1.blk.tg; cases this
    · have := h1.blk.lt; have := hD.ge; omega))
  have HTO : Hid (∀ {gv r wx}, DM w p n G st gv r wx → ∃ lo : List (ByteArray × Value), Ml Value.string wx T lo ∧ ∀ o, al lo o = (sh o).map fun sb => Value.map (some sb)) := hidden (fun hD => by
    obtain ⟨lo, q1, q2⟩ := h1.top
    refine ⟨lo, q1.chg hD.chg ?_, q2⟩
    rintro (e | e)
    · exact h4 T e (.inl rfl)
    · have := q1.lt; have := hD.ge; omega)
  have HEND : Hid (∀ {gv r wx wz} {lo : List (ByteArray × Value)}, DM w p n G st gv r wx → (∀ i, i ∈ gv ↔ i ∈ (Z o).flatMap slF) → (∀ o, al lo o = (sh o).map fun sb => Value.map (some sb)) → Ml Value.string wz T (rm lo o) → Chg (fun i => i = T) wx wz → DpP F w S p n st Z o wz) := hidden (fun a b c d e => dp_end h1 h4 h5 hz h2 a b c d e)
  have HP0 := hidden h2
  cases hsh : sh o with
  | none =>
    rw [hsh] at l1
    have hz0 := h1.non o hsh
    have r1 := run_range_nilMap (P := Tryd.prog) w 68 3 23 Tryd.underlying68
    have r2 := run_next_nilMap (P := Tryd.prog) w 0 0 0 #[]
    obtain ⟨w1, hw1⟩ : ∃ w1, w.alloc (.mapIter none 0 #[] 0) = w1 := ⟨_, rfl⟩
    rw [hw1] at r1 r2
    have b1 : Below w.heap.size w w1 := by rw [← hw1]; exact (Below.refl _ _).alloc (Nat.le_refl _) _
    have z1 : w.heap.size < w1.heap.size := by rw [← hw1]; simp
    have hD : DM w p n G st [] w.heap.size w1 := ⟨⟨G, by rw [relN_nil]; exact h2.later b1, fun i hi => .inl hi⟩, Chg.of_below b1, z1, Nat.le_refl _⟩
    obtain ⟨lo, q1, q2⟩ := HTO.out hD
    obtain ⟨w3, r3, s3, k3, z3⟩ := q1.drop (P := Tryd.prog) (ty := 0) K.kyS Tryd.underlying56 o
    have d1 : w1.cell? ⟨S, 1, none⟩ = some (.map (some T)) := (HSn.out hD).cell 1
    have HE := hidden (HEND.out hD (by rw [hz0]; simp) q2 s3 k3)
    rw [hz0]
    clear hw1 h1 h2 h3 h4 h5 hz hused hn1 hle hz0 b1 hsh hD q1 q2 s3 k3 z3 HEND HSn HTO
    go_enter Tryd.func19, Tryd.ntmps19
    go_wp2_with fail
    go_loopw [5] (fun v5 wx => v5 = .int .i64 0 ∧ wx = w1) (fun _ _ => 0)
    case atStart => exact ⟨rfl, rfl⟩
    case round =>
      obtain ⟨rfl, rfl⟩ := hrel
      go_wp2_with fail
      go_ret
      exact ⟨rfl, HE.out⟩
  | some sb =>
    rw [hsh] at l1
    obtain ⟨s1, s2⟩ := h1.set o sb hsh
    obtain ⟨w1, r1, m1, b1⟩ := s1.range (P := Tryd.prog) Tryd.underlying68
    have z1 : w.heap.size < w1.heap.size := m1.lt
    have HD1 : Hid (DM w p n G st [] w.heap.size w1) := hidden ⟨⟨G, by rw [relN_nil]; exact h2.later b1, fun i hi => .inl hi⟩, Chg.of_below b1, z1, Nat.le_refl _⟩
    have HM1 := hidden m1
    have HROW : Hid (∀ e ∈ Z o, w.ownsRow 0 3 1 (R o e.1) e.2.1.length (cI e.2.1)) := hidden (fun e he => h1.row o e he)
    have HRX : Hid (∀ {gv r wx} e (he : e ∈ Z o) ad q c, R o e.1 = .slice ad q c → DM w p n G st gv r wx → SlI wx ad e.2.1) := hidden (fun e he ad q c hv hD => by
      have h9 := hD.chg.owns (h1.row o e he) (fun g hg => by
        rintro (e2 | e2)
        · exact h4 g e2 (.inr (.inr ⟨o, e, he, hg⟩))
        · have := owns_lt (h1.row o e he) g hg; have := hD.ge; omega)
      rw [hv] at h9
      obtain ⟨ad2, c2, e2⟩ := owns_form h9
      simp only [Value.slice.injEq] at e2
      rw [e2.2.1] at h9
      exact sli_owns h9)
    have HSB : Hid (¬ G sb ∧ sb < w.heap.size) := hidden ⟨fun e => h4 sb e (.inr (.inl ⟨o, hsh⟩)), s1.lt⟩
    have HKEY := hidden (hz.key o)
    have HOWN : Hid (∀ e ∈ Z o, ∀ s ∈ e.2.1, s < n ∧ ∃ d, st s = some (o, d)) := hidden (fun e he s hs => (hz.mem o s).1 (List.mem_flatMap.2 ⟨e, he, hs⟩))
    have HND := hidden (List.pairwise_flatMap.1 (hz.nd o))
    clear m1 b1 h1 h2 h3 h4 h5 hz hused hn1 s1 hsh z1
    go_enter Tryd.func19, Tryd.ntmps19
    go_wp2_with fail
    go_loopw [5] (fun v5 wx => ∃ c : Nat, v5 = .int .i64 (c : Int) ∧ Hid (∃ dn cnt gv, c = cntK (Z o) dn ∧ Mr K.K3 wx sb w.heap.size ((Z o).map fun e => (e.1, R o e.1)) dn cnt ∧ DM w p n G st gv w.heap.size wx ∧ ∀ i, i ∈ gv ↔ ∃ e ∈ Z o, e.1 ∈ dn ∧ i ∈ e.2.1)) (fun _ wx => wx.rangeLeft sb w.heap.size)
    case atStart => exact ⟨0, rfl, hidden ⟨[], _, [], by unfold cntK; rw [List.filter_eq_nil_iff.2 (by simp)]; rfl, HM1.out, HD1.out, by simp⟩⟩
    case round =>
      obtain ⟨c, rfl, hI⟩ := hrel
      obtain ⟨dn, cnt, gv, hc, hM, hD, hgv⟩ := hI.out
      rcases hM.next (P := Tryd.prog) K.kyI 0 with ⟨hall, hr⟩ | ⟨a, v, w2, cnt', hav, hnd, hcnt, hr, hM2, hc2, hent⟩
      · have hall2 : ∀ e ∈ Z o, e.1 ∈ dn := fun e he => hall (e.1, R o e.1) (List.mem_map.2 ⟨e, he, rfl⟩)
        have HC : Hid (c = ((Z o).flatMap slF).length) := hidden (by rw [hc]; exact cntK_all hall2)
        obtain ⟨lo, q1, q2⟩ := HTO.out hD
        obtain ⟨w3, r3, s3, k3, z3⟩ := q1.drop (P := Tryd.prog) (ty := 0) K.kyS Tryd.underlying56 o
        have d1 : wr.cell? ⟨S, 1, none⟩ = some (.map (some T)) := (HSn.out hD).cell 1
        have HE := hidden (HEND.out hD (fun i => by
          rw [hgv i, List.mem_flatMap]
          constructor
          · rintro ⟨e, he, _, h3⟩; exact ⟨e, he, h3⟩
          · rintro ⟨e, he, h3⟩; exact ⟨e, he, hall2 e he, h3⟩) q2 s3 k3)
        clear hI hc hM hD hgv hall hall2 q1 q2 s3 k3 z3
        go_wp2_with fail
        go_ret
        exact ⟨by rw [← HC.out]; rfl, HE.out⟩
      · obtain ⟨e, he, hev⟩ := List.mem_map.1 hav
        simp only [Prod.mk.injEq] at hev
        obtain ⟨rfl, rfl⟩ := hev
        obtain ⟨ade, ce, hve⟩ := owns_form (HROW.out e he)
        have hrr := hve
        rw [hve] at hr hent
        have hck := cntK_cons (dn := dn) HKEY.out he hnd
        have hle2 := cntK_le (Z o) (e.1 :: dn)
        rw [hck, ← hc] at hle2
        have HCK : Hid (c + e.2.1.length = cntK (Z o) (e.1 :: dn)) := hidden (by rw [hck, hc])
        have HL : Hid (∀ {wx cnt2}, Mr K.K3 wx sb w.heap.size ((Z o).map fun e => (e.1, R o e.1)) (e.1 :: dn) cnt2 → cnt2 = cnt' → wx.rangeLeft sb w.heap.size < wr.rangeLeft sb w.heap.size) := hidden (fun hm e2 => by rw [hm.left, hM.left, e2]; exact hcnt)
        have hD2 : DM w p n G st gv w.heap.size w2 := by
          obtain ⟨Gx, g1, g2⟩ := hD.pool
          refine ⟨⟨Gx, g1.chg hc2 (fun i hi e2 => ?_) (fun e2 => ?_), g2⟩, hD.chg.trans hc2 (fun i _ e2 => .inr e2), Nat.lt_of_lt_of_le hD.lt hc2.size, hD.ge⟩
          · rcases g2 i hi with e3 | ⟨_, e3⟩
            · have := HP0.out.lt e3; omega
            · exact e3 e2
          · have := HP0.out.own.lt; omega
        have HSL : Hid (∀ {gv wx}, DM w p n G st gv w.heap.size wx → SlI wx ade e.2.1) := hidden (fun hD => HRX.out e he ade _ ce hrr hD)
        have HGV := hidden hgv
        have HE0 := hidden (And.intro he hnd)
        have hnd2 : ∀ (i s : Nat), e.2.1[i]? = some s → s ∉ gv ++ e.2.1.take i := by
          intro i s hs hm
          rcases List.mem_append.1 hm with hm | hm
          · obtain ⟨e3, he3, hd3, hs3⟩ := (hgv s).1 hm
            by_cases h9 : e3 = e
            · rw [h9] at hd3; exact hnd hd3
            · have hpw := HND.out.2
              have hs0 := List.mem_of_getElem? hs
              rcases List.mem_iff_getElem.1 he with ⟨a, ha, rfl⟩
              rcases List.mem_iff_getElem.1 he3 with ⟨b, hb, rfl⟩
              rw [List.pairwise_iff_getElem] at hpw
              rcases Nat.lt_trichotomy a b with hab | hab | hab
              · exact hpw a b ha hb hab s hs0 s hs3 rfl
              · subst hab; exact h9 rfl
              · exact hpw b a hb ha hab s hs3 s hs0 rfl
          · have h8 := HND.out.1 e he
            obtain ⟨b, hb, hbs⟩ := List.mem_take_iff_getElem.1 hm
            have h7 := (List.getElem?_eq_some_iff.1 hs)
            obtain ⟨a1, a2⟩ := h7
            have := (List.pairwise_iff_getElem.1 h8) b i (by omega) a1 (by omega)
            exact this (by rw [hbs, a2])
        have HN2 := hidden hnd2
        obtain ⟨q, hq⟩ : ∃ q, e.2.1.length = q := ⟨_, rfl⟩
        rw [hq] at hr hent hle2
        have HQL := hidden hq
        have hq9 : q ≤ 65536 := by omega
        have HM2 := hidden hM2
        have HD2 := hidden hD2
        unfold K.K3 at hr hent
        clear hI hc hM hD hav hnd hcnt hM2 hc2 hck hve hq hrr hgv hnd2 hD2 he
        go_wp2_with fail
        go_loopw [23] (fun v23 wx => ∃ i : Nat, v23 = .int .i64 (i : Int) ∧ i ≤ q ∧ Hid (Mr K.K3 wx sb w.heap.size ((Z o).map fun e => (e.1, R o e.1)) (e.1 :: dn) cnt' ∧ DM w p n G st (gv ++ e.2.1.take i) w.heap.size wx)) (fun v23 _ => q - (intOf v23).toNat)
        case atStart => exact ⟨0, rfl, by omega, hidden ⟨HM2.out, by rw [List.take_zero, List.append_nil]; exact HD2.out⟩⟩
        case round =>
          obtain ⟨i, rfl, hi, hJ⟩ := hrel
          by_cases hin : i < q
          · obtain ⟨s, hs⟩ : ∃ s, e.2.1[i]? = some s := ⟨e.2.1[i]'(by have := HQL.out; omega), by simp⟩
            obtain ⟨g, off, hade, hlt, hcell⟩ := (HSL.out hJ.out.2).at' (fun e0 => by rw [e0] at hs; simp at hs)
            subst hade
            have hcs := hcell i s hs
            have d0 : wr.cell? ⟨S, 0, none⟩ = some (.pointer (some ⟨p, 0, none⟩)) := (HSn.out hJ.out.2).cell 0
            obtain ⟨hsn, d, hsd⟩ := HOWN.out e HE0.out.1 s (List.mem_of_getElem? hs)
            have HGI := hidden (hJ.out.2.give hsn hsd (HN2.out i s hs))
            have htk : e.2.1.take (i + 1) = e.2.1.take i ++ [s] := by rw [List.take_add_one, hs]; rfl
            have HTK := hidden htk
            clear hcell hs hsn hsd htk hlt
            go_wp2_with fail
            refine HGI.out.mono ?_
            rintro e9 w5 ⟨rfl, k1, k2⟩
            have H5 := hidden (And.intro (hJ.out.1.chg k2 (fun e2 => by
              rcases e2 with e2 | ⟨e2, _⟩
              · exact HSB.out.1 e2
              · have := HSB.out.2; omega) (fun e2 => by
              rcases e2 with e2 | ⟨_, e2⟩
              · have := HP0.out.lt e2; omega
              · exact e2 rfl)) k1)
            clear k1 k2
            go_wp2_with fail
            refine ⟨⟨i + 1, by first | rfl | simp, by omega, hidden ⟨H5.out.1, by rw [HTK.out, ← List.append_assoc]; exact H5.out.2⟩⟩, ?_⟩
            show q - ((i : Int) + 1).toNat < q - (i : Int).toNat
            omega
          · have hq : e.2.1.take i = e.2.1 := List.take_of_length_le (by have := HQL.out; omega)
            have HE : Hid (∃ dn' cnt gv', c + q = cntK (Z o) dn' ∧ Mr K.K3 wr sb w.heap.size ((Z o).map fun e => (e.1, R o e.1)) dn' cnt ∧ DM w p n G st gv' w.heap.size wr ∧ ∀ i, i ∈ gv' ↔ ∃ e ∈ Z o, e.1 ∈ dn' ∧ i ∈ e.2.1) := hidden ⟨e.1 :: dn, cnt', gv ++ e.2.1, by rw [← HQL.out]; exact HCK.out, hJ.out.1, by have q9 := hJ.out.2; rw [hq] at q9; exact q9, fun i => by
              rw [List.mem_append, HGV.out i]
              constructor
              · rintro (⟨e3, h3, h4, h5⟩ | h5)
                · exact ⟨e3, h3, List.mem_cons.2 (.inr h4), h5⟩
                · exact ⟨e, HE0.out.1, List.mem_cons_self .., h5⟩
              · rintro ⟨e3, h3, h4, h5⟩
                rcases List.mem_cons.1 h4 with h4 | h4
                · right
                  have : e3 = e := by
                    by_cases h9 : e3 = e
                    · exact h9
                    · have hpw := HKEY.out
                      rcases List.mem_iff_getElem.1 HE0.out.1 with ⟨a, ha, rfl⟩
                      rcases List.mem_iff_getElem.1 h3 with ⟨b, hb, rfl⟩
                      rw [List.pairwise_iff_getElem] at hpw
                      rcases Nat.lt_trichotomy a b with hab | hab | hab
                      · exact absurd h4.symm (hpw a b ha hb hab)
                      · subst hab; rfl
                      · exact absurd h4 (hpw b a hb ha hab)
                  rw [this] at h5
                  exact h5
                · exact .inl ⟨e3, h3, h4, h5⟩⟩
            have HLT := hidden (HL.out hJ.out.1 rfl)
            clear hJ hq
            go_wp2_with fail
            refine ⟨⟨c + q, by first | rfl | simp, hidden HE.out⟩, HLT.out⟩

end Go.Proofs.YtlppibigceeimaaDoor

/-
  The statements' own: pick, sameSamples, sameChunks.
-/
namespace Go.Proofs.YtlppibigceeimaaDoor
open Go.RowKit
set_option linter.unusedVariables false
set_option linter.unusedSimpArgs false

/-- pick: a number from 0 on, below a bound. -/
theorem pickP (x k : Int) (hk : 0 < k) (hk2 : k ≤ 9223372036854775807) (hx : -9223372036854775808 ≤ x ∧ x ≤ 9223372036854775807) (w : World) :
    Calls Tryd.prog 5 #[.int .i64 x, .int .i64 k] w fun e w' => (∃ r : Nat, (r : Int) < k ∧ e = .returned (.int .i64 (r : Int))) ∧ w' = w := by
  have hk0 : ¬ k = 0 := by omega
  have hkn : ¬ k = -1 := by omega
  by_cases h : x < 0
  · have e : Int.tmod (-(x + 1)) k = (-(x + 1)) % k := Int.tmod_eq_emod_of_nonneg (by omega)
    have h1 := Int.emod_nonneg (-(x + 1)) hk0
    have h2 := Int.emod_lt_of_pos (-(x + 1)) hk
    obtain ⟨r, hr⟩ : ∃ r : Nat, (-(x + 1)).tmod k = (r : Int) := ⟨((-(x + 1)) % k).toNat, by omega⟩
    have HR : Hid ((r : Int) < k) := hidden (by omega)
    clear e h1 h2
    go_enter Tryd.func5, Tryd.ntmps5
    go_wp2_with fail
    go_ret
    exact ⟨⟨r, HR.out, by first | rfl | rw [hr]⟩, rfl⟩
  · have e : Int.tmod x k = x % k := Int.tmod_eq_emod_of_nonneg (by omega)
    have h1 := Int.emod_nonneg x hk0
    have h2 := Int.emod_lt_of_pos x hk
    obtain ⟨r, hr⟩ : ∃ r : Nat, x.tmod k = (r : Int) := ⟨(x % k).toNat, by omega⟩
    have HR : Hid ((r : Int) < k) := hidden (by omega)
    clear e h1 h2
    go_enter Tryd.func5, Tryd.ntmps5
    go_wp2_with fail
    go_ret
    exact ⟨⟨r, HR.out, by first | rfl | rw [hr]⟩, rfl⟩
theorem Ss.chg0 {w w' : World} {ad : Option Addr} {l : List Sm} (h : Ss w ad l) (hc : Chg (fun _ => False) w w') : Ss w' ad l := by
  refine ⟨h.sz, fun h0 => ?_⟩
  obtain ⟨b, off, e, hlt, hcc⟩ := h.at' h0
  refine ⟨b, off, e, Nat.lt_of_lt_of_le hlt hc.size, fun i x hx => ?_⟩
  obtain ⟨k1, k2⟩ := hcc i x hx
  have hb := hc.block b hlt (fun e => e)
  exact ⟨by rw [World.cell?_of_block (w := w) (a := ⟨b, _, none⟩) hb]; exact k1, by rw [World.cell?_of_block (w := w) (a := ⟨b, _, none⟩) hb]; exact k2⟩

set_option maxRecDepth 100000 in
set_option maxHeartbeats 8000000 in
theorem sameSP (w : World) (a1 a2 : Option Addr) (c1 c2 : Nat) (l : List Sm) (h1 : Ss w a1 l) (h2 : Ss w a2 l) (hl : l.length ≤ 1000000000) :
    Calls Tryd.prog 13 #[.slice a1 l.length c1, .slice a2 l.length c2] w fun e w' => e = .returned (.bool true) ∧ Chg (fun _ => False) w w' := by
  have H1 := hidden h1
  have H2 := hidden h2
  obtain ⟨n, hn⟩ : ∃ n, l.length = n := ⟨_, rfl⟩
  rw [hn] at hl
  rw [hn]
  have HN := hidden hn
  clear h1 h2 hn
  go_enter Tryd.func13, Tryd.ntmps13
  go_wp2_with fail
  generalize hnn : ((n : Int) != (n : Int)) = bb at *
  go_loopw [5] (fun s5 wr => ∃ i : Nat, s5 = .int .i64 (i : Int) ∧ i ≤ n ∧ Hid (Chg (fun _ => False) w wr)) (fun s5 _ => n - (intOf s5).toNat)
  case atStart => exact ⟨0, rfl, by omega, hidden (Chg.refl _ _)⟩
  case round =>
    rename World => wr
    obtain ⟨i, rfl, hi, hC⟩ := hrel
    by_cases hlt : i < n
    · have hltz : (i : Int) < (n : Int) := by omega
      obtain ⟨b1, o1, x1, e1, hb1, hx1, _, k1, k2, _⟩ := (H1.out.chg0 hC.out).get (i := i) (by rw [HN.out]; exact hlt)
      obtain ⟨b2, o2, x2, e2, hb2, hx2, _, k3, k4, _⟩ := (H2.out.chg0 hC.out).get (i := i) (by rw [HN.out]; exact hlt)
      have hxx : x1 = x2 := by rw [hx1] at hx2; exact Option.some.inj hx2
      subst hxx e1 e2
      clear hx1 hx2
      go_wp2_with fail
      go_quiet (fail)
      go_wp2
      refine ⟨⟨i + 1, by rw [Int.natCast_add]; rfl, by omega, hidden (hC.out.trans (Chg.drewN (fun _ => False) wr nq) (fun _ _ e => e))⟩, ?_⟩
      simp [intOf]
      omega
    · have hltz : ¬ (i : Int) < (n : Int) := by omega
      go_wp2
      go_ret
      exact ⟨rfl, hC.out⟩
set_option maxRecDepth 100000 in
set_option maxHeartbeats 8000000 in
theorem sameCP (w : World) (a1 a2 : Option Addr) (c1 c2 base n : Nat) (D1 D2 : Nat → Prop) (L : List (List Int)) (hn : L.length = n) (h1 : Ck w base (.slice a1 n c1) L D1) (h2 : Ck w base (.slice a2 n c2) L D2) (hl : n ≤ 1000000000) :
    Calls Tryd.prog 15 #[.slice a1 n c1, .slice a2 n c2] w fun e w' => e = .returned (.bool true) ∧ Chg (fun _ => False) w w' := by
  have H1 := hidden (fun i b hb => h1.at hn i b hb)
  have H2 := hidden (fun i b hb => h2.at hn i b hb)
  have HN := hidden hn
  clear h1 h2 hn
  go_enter Tryd.func15, Tryd.ntmps15
  go_wp2_with fail
  generalize hnn : ((n : Int) != (n : Int)) = bb at *
  go_loopw [5] (fun s5 wr => ∃ i : Nat, s5 = .int .i64 (i : Int) ∧ i ≤ n ∧ Hid (Chg (fun _ => False) w wr)) (fun s5 _ => n - (intOf s5).toNat)
  case atStart => exact ⟨0, rfl, by omega, hidden (Chg.refl _ _)⟩
  case round =>
    rename World => wr
    obtain ⟨i, rfl, hi, hC⟩ := hrel
    by_cases hlt : i < n
    · have hltz : (i : Int) < (n : Int) := by omega
      obtain ⟨b, hb⟩ : ∃ b, L[i]? = some b := ⟨L[i]'(by have := HN.out; omega), by simp⟩
      obtain ⟨g1, d1, e1, rfl, q1⟩ := H1.out i b hb
      obtain ⟨g2, d2, e2, rfl, q2⟩ := H2.out i b hb
      obtain ⟨k1, k2⟩ := q1 (fun _ => False) wr hC.out (fun _ _ h => h) (fun _ _ h => h)
      obtain ⟨k3, k4⟩ := q2 (fun _ => False) wr hC.out (fun _ _ h => h) (fun _ _ h => h)
      obtain ⟨m, hm⟩ : ∃ m, b.length = m := ⟨_, rfl⟩
      rw [hm] at k1 k2 k3 k4
      have hc1 : ∀ q, (convert 70 9 (.slice d1 m e1)).run Tryd.prog (wr.drewN q) = .ok (.string (strOfNums b)) (wr.drewN q) := fun q => run_string_of 70 5 9 Tryd.underlying70 Tryd.underlying5 Tryd.underlying9 (k2.later (below_drewN (Below.refl _ _) q))
      have hc2 : ∀ q, (convert 70 9 (.slice d2 m e2)).run Tryd.prog (wr.drewN q) = .ok (.string (strOfNums b)) (wr.drewN q) := fun q => run_string_of 70 5 9 Tryd.underlying70 Tryd.underlying5 Tryd.underlying9 (k4.later (below_drewN (Below.refl _ _) q))
      generalize strOfNums b = sb at *
      clear hb hm q1 q2 k2 k4
      go_wp2_with fail
      go_quiet (fail)
      go_wp2
      refine ⟨⟨i + 1, by rw [Int.natCast_add]; rfl, by omega, hidden (hC.out.trans (Chg.drewN (fun _ => False) wr nq) (fun _ _ e => e))⟩, ?_⟩
      simp [intOf]
      omega
    · have hltz : ¬ (i : Int) < (n : Int) := by omega
      go_wp2
      go_ret
      exact ⟨rfl, hC.out⟩

end Go.Proofs.YtlppibigceeimaaDoor
