import Derived.Test.YtlppibigceeimaaDoorSeP
/-
  Package series: keep.
-/
namespace Go.Proofs.YtlppibigceeimaaDoor
open Go.RowKit
set_option linter.unusedVariables false
set_option linter.unusedSimpArgs false

theorem kp_put {w : World} {p n : Nat} {G : Nat → Prop} {rb : Option Nat} {tot : List Nat} {sti : K.Sx} {v : Value} {w1 : World} (h : KM w p n G rb tot sti v w1) {s : Nat} {o d0 : ByteArray} {b : List Int} {ad : Option Addr} {m c : Nat} (hn : s < n) (hs : sti s = some (o, d0)) (hb : b.length = m) (hb1 : m ≤ 128) (hS : Sl w1 ad m b) :
    Calls Tryd.prog 36 #[.pointer (some ⟨p, 0, none⟩), .int .i64 (s : Int), .slice ad m c] w1 fun e w2 => e = .returned (.int .i64 0) ∧ KM w p n G rb tot (K.upS sti s (some (o, strOfNums b))) v w2 := by
  obtain ⟨Gx, h1, h2⟩ := h.pool
  refine (K.putX (s : Int) ad m c b Gx p n sti w1 h1 hS (by omega)).mono ?_
  rw [put_last hn hs (by omega)]
  rintro e w2 ⟨rfl, F', k1, k2, k3⟩
  exact ⟨rfl, h.call h1 h2 k1 k2 k3⟩
theorem kp_take {w : World} {p n : Nat} {G : Nat → Prop} {rb : Option Nat} {tot : List Nat} {sti : K.Sx} {v : Value} {w1 : World} (h : KM w p n G rb tot sti v w1) (hG : K.Gv w1) {j : Nat} (o : ByteArray) (hf : K.fst1 sti n = some j) :
    Calls Tryd.prog 35 #[.pointer (some ⟨p, 0, none⟩), .string o] w1 fun e w2 => e = .returned (.tuple #[.int .i64 (j : Int), .int .i64 0]) ∧ KM w p n G rb tot (K.upS sti j (some (o, K.emp))) v w2 := by
  obtain ⟨Gx, h1, h2⟩ := h.pool
  refine (K.takeX o Gx p n sti w1 h1 hG).mono ?_
  rintro e w2 ⟨rfl, F', k1, k2, k3⟩
  unfold K.takeS at k1
  unfold K.takeV
  rw [hf] at k1 ⊢
  exact ⟨rfl, h.call h1 h2 k1 k2 k3⟩
theorem info3 : (Tryd.prog.info? 3).map (fun i => (i.zero, i.size, i.bytes)) = some (some (.int .i64 0), 1, 8) := by kernel_rfl
theorem info3p : ∃ i, Tryd.prog.info? 3 = some i ∧ i.zero = some (.int .i64 0) ∧ i.size = 1 ∧ i.bytes = 8 := by
  have h := info3
  cases e : Tryd.prog.info? 3 with
  | none => rw [e] at h; cases h
  | some i =>
    rw [e] at h
    simp only [Option.map_some, Option.some.injEq, Prod.mk.injEq] at h
    exact ⟨i, rfl, h.1, h.2.1, h.2.2⟩
theorem map_ne68 (sb : Nat) (w : World) : (binOp .eql 68 (.map (some sb)) (.map none)).run Tryd.prog w = .ok (.bool false) w := by kernel_rfl
theorem map_eq68 (w : World) : (binOp .eql 68 (.map none) (.map none)).run Tryd.prog w = .ok (.bool true) w := by kernel_rfl
/-- A chunk's slice, now and later. -/
theorem Ck.at {D : Nat → Prop} {w : World} {base X cc : Nat} {ad : Option Addr} {L : List (List Int)} (h : Ck w base (.slice ad X cc) L D) (hX : L.length = X) (i : Nat) (b : List Int) (hb : L[i]? = some b) : ∃ g ad' c', ad = some ⟨g, 0, none⟩ ∧ ∀ (F : Nat → Prop) (wx : World), Chg F w wx → (∀ i, D i → ¬ F i) → (∀ g, (Value.slice ad X cc).ownBlock = some g → ¬ F g) → wx.cell? ⟨g, i, none⟩ = some (.slice ad' b.length c') ∧ Sl wx ad' b.length b := by
  obtain ⟨xs, h1, h2⟩ := h.row
  obtain ⟨ad', c', a1, a2, a3, a4, a5⟩ := h2 i b hb
  subst hX
  obtain ⟨g, rfl, _⟩ := owns_ad h1 (by have := (List.getElem?_eq_some_iff.1 hb).1; omega)
  refine ⟨g, ad', c', rfl, fun F wx hc hD hv => ⟨owns_cell (hc.owns h1 hv) i _ a1, hc.sl a2 (fun x hx _ => hD _ (a5 x hx))⟩⟩

set_option maxRecDepth 100000 in
set_option maxHeartbeats 8000000 in
theorem keepP (o : ByteArray) (k : Int) (F : Nat → Prop) (S p n : Nat) (st : K.Sx) (Z : ByteArray → List En) (ad : Option Addr) (X cc base : Nat) (D : Nat → Prop) (m : List Sm) (w : World) (h : SQ F w S p n st Z) (hG : Gv w) (hk : 0 ≤ k) (hm : m ≠ []) (hr : Ris ((enL (Z o) k).2 ++ m)) (hok : ∀ x ∈ m, OkS x) (hF : ∀ i, F i → 2 ≤ i ∧ i < base)
    (hC : Ck w base (.slice ad X cc) ((gO (gB (enL (Z o) k).2 m)).map encC) D) (hX : (gO (gB (enL (Z o) k).2 m)).length = X) (hX9 : X ≤ 1000000) (hroom : X - hadL (enL (Z o) k).1 + (K.tkL st n).length ≤ n) :
    Calls Tryd.prog 22 #[.pointer (some ⟨S, 0, none⟩), .string o, .int .i64 k, .slice ad X cc] w fun e w' => e = .returned (.tuple #[]) ∧ KpP F w S p n st Z o k m X w' := by
  have hz := h.sz
  obtain ⟨T, sh, R, G, h1, h2, h3, h4, h5⟩ := h
  have hn1 := h2.n1
  have hen := hz.en o k
  have hfew := hz.few o k
  have hrow := h1.slots o k (hz.key o)
  obtain ⟨a0, c0, hv⟩ := owns_form hrow
  have hGF : ∀ j, (G j ∨ (slV R Z o k).ownBlock = some j) → F j := by
    rintro j (e | e)
    · exact (h5 j).2 (.inr e)
    · refine (h5 j).2 (.inl ?_)
      rcases enL_mem (l := Z o) (k := k) with hmm | ⟨_, hmm⟩
      · rw [slV_in h1 (hz.key o) hmm] at e
        exact .inr (.inr ⟨o, _, hmm, e⟩)
      · rw [slV_out hmm] at e; cases e
  have hSn : ¬ (G S ∨ (slV R Z o k).ownBlock = some S) := by
    rintro (e | e)
    · have := h2.tag e 58 h1.blk.tg; cases this
    · have := (owns_tg hrow S e).one h1.blk.tg; cases this
  have HGv : Hid (∀ {sti tot v wx}, KM w p n G (slV R Z o k).ownBlock tot sti v wx → Gv wx) := hidden (fun hM => hG.chg hM.chg (fun i hi => (hF i (hGF i hi)).1))
  have HCk : Hid (∀ (i : Nat) (b : List Int), ((gO (gB (enL (Z o) k).2 m)).map encC)[i]? = some b → ∃ g ad' c', ad = some ⟨g, 0, none⟩ ∧ ∀ {sti tot v wx}, KM w p n G (slV R Z o k).ownBlock tot sti v wx → wx.cell? ⟨g, i, none⟩ = some (.slice ad' b.length c') ∧ Sl wx ad' b.length b) := hidden (fun i b hb => by
    obtain ⟨g, ad', c', e, q⟩ := hC.at (by rw [List.length_map]; exact hX) i b hb
    refine ⟨g, ad', c', e, fun hM => q _ _ hM.chg (fun i hi e => ?_) (fun g hg e => ?_)⟩
    · have := (hC.lt i hi).1; have := (hF i (hGF i e)).2; omega
    · have := (hC.vlt g hg).1; have := (hF g (hGF g e)).2; omega)
  have HS : Hid (∀ {sti tot v wx}, KM w p n G (slV R Z o k).ownBlock tot sti v wx → Blk wx S 58 [.pointer (some ⟨p, 0, none⟩), .map (some T)]) := hidden (fun hM => hM.chg.blk h1.blk hSn)
  have hrbt : ∀ j, (slV R Z o k).ownBlock = some j → Tg w j 3 := fun j hj => owns_tg hrow j hj
  have HTOP : Hid (∀ {sti tot v wx}, KM w p n G (slV R Z o k).ownBlock tot sti v wx → ∃ lo : List (ByteArray × Value), Ml Value.string wx T lo ∧ ∀ o, al lo o = (sh o).map fun sb => Value.map (some sb)) := hidden (fun hM => by
    obtain ⟨lo, q1, q2⟩ := h1.top
    refine ⟨lo, q1.chg hM.chg ?_, q2⟩
    rintro (e | e)
    · exact h4 T e (.inl rfl)
    · exact q1.tg 3 (hrbt T e))
  have HSET : Hid (∀ {sb sti tot v wx}, KM w p n G (slV R Z o k).ownBlock tot sti v wx → sh o = some sb → Ml K.K3 wx sb ((Z o).map fun e => (e.1, R o e.1)) ∧ sb ≠ T) := hidden (fun hM e => by
    have q := h1.set o _ e
    refine ⟨q.1.chg hM.chg ?_, q.2⟩
    rintro (e2 | e2)
    · exact h4 _ e2 (.inr (.inl ⟨o, e⟩))
    · exact q.1.tg 3 (hrbt _ e2))
  have HNON : Hid (sh o = none → Z o = []) := hidden (h1.non o)
  have HM0 : Hid (KM w p n G (slV R Z o k).ownBlock ((enL (Z o) k).1 ++ []) st (slV R Z o k) w) := hidden ⟨⟨G, h2, K.Nw.refl _ _⟩, by rw [List.append_nil]; exact hrow, fun g hg => .inl hg, Chg.refl _ _⟩
  have HK0 : Hid (KI n o st (enL (Z o) k).1 (gO (gB (enL (Z o) k).2 m)) 0 [] st) := hidden (KI.start hz.small)
  have hok7 : OkG (gF ((enL (Z o) k).2 ++ m)) := okG (fun x hx => by rcases List.mem_append.1 hx with hx | hx; exact hen.2.2.1 x hx; exact hok x hx)
  have HB : Hid (∀ i g, (gO (gB (enL (Z o) k).2 m))[i]? = some g → (encC g).length ≤ 128 ∧ Byte (encC g)) := hidden (fun i g hg => by
    have hb := gO_behind (enL (Z o) k).2 m
    have := gO_ne hok7 g (by rw [hb]; exact List.mem_append.2 (.inr (List.mem_of_getElem? hg)))
    exact ⟨this.2.1, encC_byte g (by have := encC_few this.2.1; omega)⟩)
  have HLIES := hidden hen.1
  have HMEM := hidden (fun i => hz.mem o i)
  have HPE := hidden (perm_en k (hz.key o))
  have c1 : w.cell? ⟨S, 1, none⟩ = some (.map (some T)) := h1.blk.cell 1
  have l1 := h1.lookT o
  have l2 := h1.lookS o k
  have HALL := hidden (And.intro h1 (And.intro h2 (And.intro h4 (And.intro h5 (And.intro hz (And.intro hk (And.intro hm (And.intro hr hok))))))))
  obtain ⟨i3, hi3, hz3, hs3, hb3⟩ := info3p
  have HX := hidden hX
  have HR := hidden hroom
  have HFEW := hidden hfew
  have HN1 := hidden hn1
  have HV := hidden hv
  obtain ⟨sl, hsl⟩ : ∃ sl, (enL (Z o) k).1 = sl := ⟨_, rfl⟩
  obtain ⟨C, hC9⟩ : ∃ C, gO (gB (enL (Z o) k).2 m) = C := ⟨_, rfl⟩
  obtain ⟨rb, hrb⟩ : ∃ rb, (slV R Z o k).ownBlock = rb := ⟨_, rfl⟩
  rw [hsl] at HM0 HK0 HLIES HR HFEW
  rw [hC9] at HK0 HB HX HCk
  rw [hrb] at HM0 HCk HS HGv HTOP HSET
  have HEQ := hidden (And.intro hsl (And.intro hC9 hrb))
  rw [hv] at l2
  have HV0 := hidden hv
  rw [hv] at HM0
  have hsl0 : (enL (Z o) k).1.length = sl.length := by rw [hsl]
  rw [hsl0] at l2 HM0
  obtain ⟨M0, hM0⟩ : ∃ M0, sl.length = M0 := ⟨_, rfl⟩
  have HM1 := hidden hM0
  rw [hM0] at l2 HM0
  obtain ⟨tot0, ht0⟩ : ∃ tot0, sl ++ ([] : List Nat) = tot0 := ⟨_, rfl⟩
  clear hrbt h1 h2 h3 h4 h5 hz hk hm hr hok hen hfew hrow hv hGF hSn hG hF hC hX hroom hok7 hsl hC9 hrb hsl0 hM0 hn1 HV HV0
  go_enter Tryd.func22, Tryd.ntmps22
  go_wp2_with fail
  go_loopw [8, 23] (fun v8 v23 wx => ∃ (i : Nat) (news : List Nat) (sti : K.Sx), v23 = .int .i64 (i : Int) ∧ i ≤ X ∧ Hid (KI n o st sl C i news sti ∧ KM w p n G rb (sl ++ news) sti v8 wx)) (fun _ v23 _ => X - (intOf v23).toNat)
  case atStart => exact ⟨0, [], st, rfl, by omega, hidden ⟨HK0.out, HM0.out⟩⟩
  case round =>
    obtain ⟨i, news, sti, rfl, hi, hI⟩ := hrel
    obtain ⟨a8, c8, hv8⟩ := owns_form hI.out.2.own
    subst hv8
    obtain ⟨M8, hM8⟩ : ∃ M8, (sl ++ news).length = M8 := ⟨_, rfl⟩
    have HM8 := hidden hM8
    rw [hM8] at hI ⊢
    have hM9 : M8 ≤ 1100000 := by
      have q1 := hI.out.1.len
      have q2 := HFEW.out
      have q3 := HN1.out
      rw [← hM8, List.length_append, q1]
      omega
    clear hM8 c1 l1 l2
    by_cases hin : i < X
    · obtain ⟨gi, hgi⟩ : ∃ gi, C[i]? = some gi := ⟨C[i]'(by have := HX.out; omega), by simp⟩
      have HGI := hidden hgi
      have hLi : (C.map encC)[i]? = some (encC gi) := by rw [List.getElem?_map, hgi]; rfl
      obtain ⟨gx, adb, cb, rfl, hq⟩ := HCk.out i _ hLi
      have hcx := (hq hI.out.2).1
      have HSL : Hid (∀ {sti tot v wx}, KM w p n G rb tot sti v wx → Sl wx adb (encC gi).length (encC gi)) := hidden (fun hM => (hq hM).2)
      have hbi := HB.out i gi hgi
      obtain ⟨nb, hnb⟩ : ∃ nb, (encC gi).length = nb := ⟨_, rfl⟩
      have HNB := hidden hnb
      have HBY := hidden hbi.2
      have hnb2 : nb ≤ 128 := by omega
      rw [hnb] at hcx HSL
      clear hgi hLi hq hbi hnb
      have hcS : wr.cell? ⟨S, 0, none⟩ = some (.pointer (some ⟨p, 0, none⟩)) := (HS.out hI.out.2).cell 0
      by_cases hA : i = 0 ∧ sl ≠ []
      · obtain ⟨rfl, hne⟩ := hA
        have hp := List.length_pos_iff.2 hne
        have hnews : news = [] := by
          have := hI.out.1.len
          exact List.length_eq_zero_iff.1 (by omega)
        subst hnews
        obtain ⟨N8, hN8⟩ : ∃ N8, M8 = N8 + 1 := ⟨M8 - 1, by have := HM8.out; rw [List.length_append] at this; omega⟩
        subst hN8
        obtain ⟨g8, rfl, _⟩ := owns_ad (by have q := hI.out.2.own; rw [HM8.out] at q; exact q) (by omega)
        obtain ⟨s8, hs8⟩ : ∃ s8, (sl ++ [])[N8]? = some s8 := ⟨(sl ++ [])[N8]'(by have := HM8.out; omega), by simp⟩
        have HCE : Hid (∀ {sti wx}, KM w p n G rb (sl ++ []) sti (.slice (some ⟨g8, 0, none⟩) (N8 + 1) c8) wx → wx.cell? ⟨g8, N8, none⟩ = some (.int .i64 (s8 : Int))) := hidden (fun hM => by
          have q := hM.own
          rw [HM8.out] at q
          exact owns_cell q N8 _ (by unfold cI; rw [List.getElem?_map, hs8]; rfl))
        have hlast : sl.getLast? = some s8 := by
          rw [List.getLast?_eq_getElem?, ← hs8, List.append_nil]
          congr 1
          have := HM8.out
          rw [List.append_nil] at this
          omega
        have hmem : s8 < n ∧ ∃ d, sti s8 = some (o, d) := by
          have q := hI.out.1.off s8 (by simp) (.inl rfl)
          rw [q]
          refine (HMEM.out s8).1 ((HPE.out.mem_iff).2 (List.mem_append.2 (.inl ?_)))
          rw [HEQ.out.1]
          exact List.mem_of_getLast? hlast
        obtain ⟨hs8n, d0, hd0⟩ := hmem
        have hst0 : sti = st := funext (fun s => hI.out.1.off s (by simp) (.inl rfl))
        have HKI := hidden (KI.put0 (C := C) (st := st) (by have q := hI.out.1.small; rw [hst0] at q; exact q) HGI.out hlast hs8n (hst0 ▸ hd0) (strOfNums (encC gi)) (bts_str _ HBY.out) (by rw [str_size HBY.out, HNB.out]; exact hnb2))
        have HW := hidden (And.intro hs8n (And.intro hd0 hst0))
        clear hlast hs8 hst0 hd0 hs8n hp
        go_wp2_with fail
        refine keep_r7 S p g8 N8 c8 s8 nb cb adb (ph2 (fun w1 => KM w p n G rb (sl ++ []) sti (.slice (some ⟨g8, 0, none⟩) (N8 + 1) c8) w1) (fun w1 => KM w p n G rb (sl ++ []) (K.upS sti s8 (some (o, strOfNums (encC gi)))) (.slice (some ⟨g8, 0, none⟩) (N8 + 1) c8) w1)) _ _ _ rfl rfl rfl rfl (i64_id (by omega) (by omega)) (by omega) (by omega) (by omega) (fun w1 ⟨j, hj, hI⟩ => by rcases (show j = 0 ∨ j = 1 by omega) with rfl | rfl; exact (HS.out hI).cell 0; exact (HS.out hI).cell 0) (fun w1 ⟨j, hj, hI⟩ => by rcases (show j = 0 ∨ j = 1 by omega) with rfl | rfl; exact HCE.out hI; exact HCE.out hI) (KM.later hI.out.2 ((Below.refl _ _).drew)) (fun w1 hI => kp_put hI HW.out.1 HW.out.2.1 HNB.out (by omega) (HSL.out hI)) ?_
        intro v48 v49 v50 v51 v52 v53 v54 v55 v56 v57 v58 w5 hI5
        have H5 : Hid (KM w p n G rb (sl ++ []) (K.upS sti s8 (some (o, strOfNums (encC gi)))) (.slice (some ⟨g8, 0, none⟩) (N8 + 1) c8) w5) := hidden hI5
        clear hI5
        simp only [Act.put, List.setIfInBounds_toArray, List.set_cons_succ, List.set_cons_zero]
        go_wp2_with fail
        refine ⟨⟨1, [], _, rfl, by omega, hidden ⟨?_, H5.out⟩⟩, ?_⟩
        · rw [HW.out.2.2]
          exact HKI.out
        · show X - 1 < X - 0
          omega
      · have hB : 0 < i ∨ sl = [] := by
          by_cases h0 : i = 0
          · by_cases h1 : sl = []
            · exact .inr h1
            · exact absurd ⟨h0, h1⟩ hA
          · exact .inl (by omega)
        obtain ⟨j, hj⟩ := hI.out.1.room (by rw [HX.out]; exact hin) hB (by rw [HX.out]; exact HR.out)
        have HJ := hidden hj
        have HKI := hidden (hI.out.1.take HGI.out hB hj (strOfNums (encC gi)) (bts_str _ HBY.out) (by rw [str_size HBY.out, HNB.out]; exact hnb2)).1
        have hjn := (K.fst_spec hj).1
        have hC2 : (0 : Int) < (i : Int) ∨ (i = 0 ∧ M8 = 0) := by
          rcases hB with hB | hB
          · exact .inl (by omega)
          · by_cases h0 : i = 0
            · right
              subst h0
              subst hB
              have q1 := hI.out.1.len
              have q2 := HM8.out
              rw [List.length_append, q1] at q2
              exact ⟨rfl, by simp at q2; omega⟩
            · exact .inl (by omega)
        clear hj hB hA
        rcases hC2 with hC2 | ⟨rfl, rfl⟩
        all_goals
          go_wp2_with fail
          refine (kp_take hI.out.2 (HGv.out hI.out.2).k o HJ.out).mono ?_
          rintro e w2 ⟨rfl, hM2⟩
          have H2 := hidden hM2
          clear hM2
          go_wp2_with (refine wpList_push _ rfl (.tmp 44) (.tmp 46) 23 rfl 3 i3 (.int .i64 0) 8 Tryd.underlying23 hi3 hz3 hs3 hb3 rfl 0 (.slice a8 _ c8) _ (cI (sl ++ news)) rfl (by have q := owl H2.out.own ((Below.refl _ _).alloc (Nat.le_refl _) (.cells #[.int .i64 (j : Int)] 3)); rw [HM8.out] at q; exact q) ⟨w2.heap.size, 0, none⟩ (.int .i64 (j : Int)) rfl ((Blk.new w2 3 [.int .i64 (j : Int)]).cell 0) rfl (by unfold maxLen; omega) (by omega) (Nat.zero_le _) ?_; intro g5 c5 w5 o5 p5; have O5 := hidden (And.intro o5 p5); clear o5 p5)
          have HM5 := hidden (KM.push H2.out j (by rw [HM8.out]; exact O5.out.1) O5.out.2)
          rw [HM8.out] at HM5
          have HCE : Hid (∀ {M sti wx}, M = (sl ++ news).length → KM w p n G rb (sl ++ news ++ [j]) sti (.slice (some ⟨g5, 0, none⟩) (M + 1) c5) wx → wx.cell? ⟨g5, M, none⟩ = some (.int .i64 (j : Int))) := hidden (fun hMM hM => by
            subst hMM
            have q := hM.own
            have e1 : (sl ++ news ++ [j]).length = (sl ++ news).length + 1 := by simp; omega
            rw [e1] at q
            exact owns_cell q _ _ (by unfold cI; rw [List.getElem?_map]; simp))
          refine keep_r7 S p g5 _ c5 j nb cb adb (ph2 (fun w1 => KM w p n G rb (sl ++ news ++ [j]) (K.upS sti j (some (o, K.emp))) (.slice (some ⟨g5, 0, none⟩) (_ + 1) c5) w1) (fun w1 => KM w p n G rb (sl ++ news ++ [j]) (K.upS (K.upS sti j (some (o, K.emp))) j (some (o, strOfNums (encC gi)))) (.slice (some ⟨g5, 0, none⟩) (_ + 1) c5) w1)) _ _ _ rfl rfl rfl rfl (i64_id (by omega) (by omega)) (by omega) (by omega) (by omega) (fun w1 ⟨j, hj, hI⟩ => by rcases (show j = 0 ∨ j = 1 by omega) with rfl | rfl; exact (HS.out hI).cell 0; exact (HS.out hI).cell 0) (fun w1 ⟨j, hj, hI⟩ => by rcases (show j = 0 ∨ j = 1 by omega) with rfl | rfl; exact HCE.out HM8.out.symm hI; exact HCE.out HM8.out.symm hI) (KM.later HM5.out ((Below.refl _ _).drew)) (fun w1 hI => kp_put hI hjn (upS_self _ _ _) HNB.out (by omega) (HSL.out hI)) ?_
          intro v48 v49 v50 v51 v52 v53 v54 v55 v56 v57 v58 w6 hI6
          have H6 := hidden hI6
          clear hI6
          simp only [Act.put, List.setIfInBounds_toArray, List.set_cons_succ, List.set_cons_zero]
          go_wp2_with fail
          refine ⟨⟨_, news ++ [j], K.upS sti j (some (o, strOfNums (encC gi))), by first | rfl | simp, by omega, hidden ⟨HKI.out, ?_⟩⟩, ?_⟩
          · have q := H6.out
            simp only [ph2] at q
            rw [upS_twice, List.append_assoc] at q
            exact q
          · first
              | (show X - ((i : Int) + 1).toNat < X - (i : Int).toNat; omega)
              | (show X - 1 < X - 0; omega)
    · have hiX : i = X := by omega
      have HXX : Hid (KI n o st sl C C.length news sti) := hidden (by rw [HX.out, ← hiX]; exact hI.out.1)
      have c1 : wr.cell? ⟨S, 1, none⟩ = some (.map (some T)) := (HS.out hI.out.2).cell 1
      have HKM := hidden hI.out.2
      obtain ⟨lo, q1, q2⟩ := HTOP.out hI.out.2
      have l1 := q1.look K.kyS Tryd.underlying56 (zero68 wr) o false
      rw [q2 o] at l1
      have HEND : Hid (∀ {sb wz} (sh' : ByteArray → Option Nat), sh' o = some sb → (∀ o', ¬ o' = o → sh' o' = sh o') → (sh o = some sb ∨ (sh o = none ∧ wr.heap.size ≤ sb)) → (∃ lo : List (ByteArray × Value), Ml Value.string wz T lo ∧ ∀ o, al lo o = (sh' o).map fun sb => Value.map (some sb)) → Ml K.K3 wz sb ((k, .slice a8 M8 c8) :: rm ((Z o).map fun e => (e.1, R o e.1)) k) → Chg (fun i => i = T ∨ i = sb) wr wz → KpP F w S p n st Z o k m X wz) := hidden (fun sh' e1 e2 e3 e4 e5 e6 => by
        obtain ⟨a1, a2, a3, a4, a5, a6, a7, a8', a9⟩ := HALL.out
        obtain ⟨b1, b2, b3⟩ := HEQ.out
        have := kp_end (sh' := sh') (news := news) (sti := sti) (v := .slice a8 M8 c8) (wx := wr) (o := o) (k := k) a1 a3 a4 a5 a6 a7 a8' a9 (by rw [b1, b2]; exact HXX.out) (by rw [b1, b3]; exact HKM.out) a2 e1 e2 e3 e4 e5 e6
        rw [b2, HX.out] at this
        exact this)
      clear hI hiX
      cases hsh : sh o with
      | some sb =>
        have hs := HSET.out HKM.out hsh
        obtain ⟨w1, e1, s1, k1, z1⟩ := hs.1.store K.kyI Tryd.underlying68 k (.slice a8 M8 c8)
        rw [hsh] at l1
        simp only [Option.map_some, Option.getD_some, Bool.false_eq_true, if_false] at l1
        have HE := hidden (HEND.out sh hsh (fun _ _ => rfl) (.inl hsh) ⟨lo, q1.chg k1 (fun e => hs.2 e.symm), q2⟩ s1 (k1.mono (fun _ _ e => .inr e)))
        clear q1 q2 hs s1 k1 z1 hsh HEND
        unfold K.K3 at e1
        have hne := map_ne68 sb wr
        go_wp2_with fail
        refine bodyPost_end (results_none rfl _ _ _) rfl ?_
        exact ⟨rfl, HE.out⟩
      | none =>
        have hmm := @run_makeMap Tryd.prog
        rw [hsh] at l1
        simp only [Option.map_none, Option.getD_none, Bool.false_eq_true, if_false] at l1
        have bl : Below wr.heap.size wr (wr.alloc (.map #[] 0)) := (Below.refl _ _).alloc (Nat.le_refl _) _
        obtain ⟨w1, e1, s1, k1, z1⟩ := (q1.later bl).store K.kyS Tryd.underlying56 o (.map (some wr.heap.size))
        have hTl := q1.lt
        have m1 : Ml K.K3 w1 wr.heap.size [] := (Ml.made K.K3 wr).chg k1 (by omega)
        have hB1 : Blk w1 S 58 [.pointer (some ⟨p, 0, none⟩), .map (some T)] := by
          have hb := HS.out HKM.out
          refine k1.blk (hb.later bl) (fun e => ?_)
          rw [e] at hb
          exact q1.tg 58 hb.tg
        have d1 : w1.cell? ⟨S, 1, none⟩ = some (.map (some T)) := hB1.cell 1
        have d2 : (wr.alloc (.map #[] 0)).cell? ⟨S, 1, none⟩ = some (.map (some T)) := ((HS.out HKM.out).later bl).cell 1
        have l3 := s1.look K.kyS Tryd.underlying56 (zero68 w1) o false
        have eal : al ((o, Value.map (some wr.heap.size)) :: rm lo o) o = some (.map (some wr.heap.size)) := by simp [al]
        rw [eal] at l3
        simp only [Option.getD_some, Bool.false_eq_true, if_false] at l3
        obtain ⟨w2, e2, s2, k2, z2⟩ := m1.store K.kyI Tryd.underlying68 k (.slice a8 M8 c8)
        have HE := hidden (HEND.out (sb := wr.heap.size) (wz := w2) (fun o' => if o' = o then some wr.heap.size else sh o') (by simp) (fun o' h => by simp [h]) (.inr ⟨hsh, Nat.le_refl _⟩) ⟨_, s1.chg k2 (by omega), fun o' => by
          by_cases ho' : o' = o
          · subst ho'
            simp [al]
          · simp only [if_neg ho']
            rw [← q2 o', ← K.al_rm_off lo ho']
            have : ¬ o = o' := fun e => ho' e.symm
            unfold al
            rw [List.find?_cons_of_neg (by simpa using this)]⟩ (by
          rw [HNON.out hsh]
          exact s2) (((Chg.of_below (F := fun i => i = T ∨ i = wr.heap.size) bl).trans k1 (fun _ _ e => .inl e)).trans k2 (fun _ _ e => .inr e)))
        clear q1 q2 s1 k1 z1 hsh HEND eal m1 s2 k2 z2 hB1
        unfold K.K3 at e2
        have hne := map_eq68 wr
        go_wp2_with fail
        refine bodyPost_end (results_none rfl _ _ _) rfl ?_
        exact ⟨rfl, HE.out⟩

end Go.Proofs.YtlppibigceeimaaDoor

/-
  Package series: Needs, Append.
-/
namespace Go.Proofs.YtlppibigceeimaaDoor
open Go.RowKit
set_option linter.unusedVariables false
set_option linter.unusedSimpArgs false

/-- How many slots more some samples want. -/
def needN (sl : List Nat) (A l : List Sm) : Int := ((gO (gB A l)).length : Int) - (hadL sl : Int)
def NdP (k : Int) (sl : List Nat) (A l : List Sm) (e : Ending) : Prop :=
  (k < 0 ∧ e = .returned (.tuple #[.int .i64 0, .int .i64 1])) ∨ (0 ≤ k ∧ ¬ Ris (A ++ l) ∧ e = .returned (.tuple #[.int .i64 0, .int .i64 140])) ∨ (0 ≤ k ∧ Ris (A ++ l) ∧ e = .returned (.tuple #[.int .i64 (needN sl A l), .int .i64 0]))
set_option maxRecDepth 100000 in
set_option maxHeartbeats 2000000 in
theorem needsP (o : ByteArray) (k : Int) (F : Nat → Prop) (S p n : Nat) (st : K.Sx) (Z : ByteArray → List En) (ad : Option Addr) (N c : Nat) (l : List Sm) (w : World) (h : SQ F w S p n st Z) (hG : Gv w) (hlo : 2 ≤ w.heap.size) (hL : Ss w ad l) (hN : l.length = N) (hN9 : N ≤ 100000) :
    Calls Tryd.prog 10 #[.pointer (some ⟨S, 0, none⟩), .string o, .int .i64 k, .slice ad N c] w fun e w' => Below w.heap.size w w' ∧ NdP k (enL (Z o) k).1 (enL (Z o) k).2 l e := by
  have HB := hidden (behindP o k F S p n st Z ad N c l w h hG hlo hL hN hN9)
  generalize enL (Z o) k = q9 at *
  obtain ⟨sl, A⟩ := q9
  simp only at *
  clear h hG hlo hL hN
  go_enter Tryd.func10, Tryd.ntmps10
  go_wp2_with fail
  refine HB.out.mono ?_
  rintro e w1 ⟨b1, h1⟩
  have B1 := hidden b1
  clear b1 HB
  rcases h1 with ⟨hk, rfl⟩ | ⟨hk, hr, rfl⟩ | ⟨hk, hr, ad8, c8, D8, rfl, ck⟩
  · have HK := hidden hk
    clear hk
    go_wp2_with fail
    go_ret2
    exact ⟨B1.out, .inl ⟨HK.out, rfl⟩⟩
  · have HK := hidden (And.intro hk hr)
    clear hk hr
    go_wp2_with fail
    go_ret2
    exact ⟨B1.out, .inr (.inl ⟨HK.out.1, HK.out.2, rfl⟩)⟩
  · have HK := hidden (And.intro hk hr)
    clear hk hr ck
    obtain ⟨q, hq⟩ : ∃ q, ((gO (gB A l)).length : Int) - (hadL sl : Int) = q := ⟨_, rfl⟩
    rw [hq]
    have HQ := hidden hq
    clear hq
    generalize (gO (gB A l)).length = X
    go_wp2_with fail
    go_ret2
    refine ⟨B1.out, .inr (.inr ⟨HK.out.1, HK.out.2, ?_⟩)⟩
    unfold needN
    rw [HQ.out]
    rfl
/-- What Append answers, and leaves. -/
def ApP (F : Nat → Prop) (w : World) (S p n : Nat) (st : K.Sx) (Z : ByteArray → List En) (o : ByteArray) (k : Int) (l : List Sm) (e : Ending) (w' : World) : Prop :=
  (Below w.heap.size w w' ∧ ((k < 0 ∧ e = .returned (.int .i64 1)) ∨ (0 ≤ k ∧ ¬ Ris ((enL (Z o) k).2 ++ l) ∧ e = .returned (.int .i64 140)) ∨ (0 ≤ k ∧ Ris ((enL (Z o) k).2 ++ l) ∧ l = [] ∧ e = .returned (.int .i64 0)) ∨
    (0 ≤ k ∧ Ris ((enL (Z o) k).2 ++ l) ∧ l ≠ [] ∧ ((n - (K.tkL st n).length : Nat) : Int) < needN (enL (Z o) k).1 (enL (Z o) k).2 l ∧ e = .returned (.int .i64 110)))) ∨
  (0 ≤ k ∧ Ris ((enL (Z o) k).2 ++ l) ∧ l ≠ [] ∧ needN (enL (Z o) k).1 (enL (Z o) k).2 l ≤ ((n - (K.tkL st n).length : Nat) : Int) ∧ e = .returned (.int .i64 0) ∧ KpP F w S p n st Z o k l (gO (gB (enL (Z o) k).2 l)).length w')
theorem kpP_from {F : Nat → Prop} {w w1 w' : World} {S p n : Nat} {st : K.Sx} {Z : ByteArray → List En} {o : ByteArray} {k : Int} {m : List Sm} {X : Nat} (h : KpP F w1 S p n st Z o k m X w') (hb : Below w.heap.size w w1) : KpP F w S p n st Z o k m X w' := by
  obtain ⟨F', st', news, h1, h2, h3, h4⟩ := h
  exact ⟨F', st', news, h1, (Chg.of_below (F := F) hb).trans h2 (fun _ _ e => e), fun i hi => (h3 i hi).imp id (fun e => Nat.le_trans hb.size e), h4⟩
set_option maxRecDepth 100000 in
set_option maxHeartbeats 2000000 in
theorem sappendP (o : ByteArray) (k : Int) (F : Nat → Prop) (S p n : Nat) (st : K.Sx) (Z : ByteArray → List En) (ad : Option Addr) (N c : Nat) (l : List Sm) (w : World) (h : SQ F w S p n st Z) (hG : Gv w) (hlo : 2 ≤ w.heap.size) (hF2 : ∀ i, F i → 2 ≤ i) (hL : Ss w ad l) (hN : l.length = N) (hN9 : N ≤ 100000) :
    Calls Tryd.prog 8 #[.pointer (some ⟨S, 0, none⟩), .string o, .int .i64 k, .slice ad N c] w (ApP F w S p n st Z o k l) := by
  have HB := hidden (behindP o k F S p n st Z ad N c l w h hG hlo hL hN hN9)
  have hz := h.sz
  have hen := hz.en o k
  have hgl : (gO (gB (enL (Z o) k).2 l)).length ≤ 1000000 := by
    have hok : ∀ x ∈ (enL (Z o) k).2 ++ l, OkS x := fun x hx => by rcases List.mem_append.1 hx with hx | hx; exact hen.2.2.1 x hx; exact hL.sz x hx
    have hokg := okG hen.2.2.1
    have h1 : OkG (gB (enL (Z o) k).2 l) := OkG.fold ⟨by simp, fun _ => rfl, by simp, hokg.fit2, by simp, hokg.ok2⟩ hL.sz
    have h2 := gO_len h1
    rw [gO_flat] at h2
    unfold gB at h2
    rw [fold_flat] at h2
    have h3 := encC_few hokg.fit2
    simp only [List.flatten_nil, List.nil_append, List.length_append, hN] at h2
    unfold gB
    omega
  obtain ⟨T, sh, R, G, h1, h2, h3, h4, h5⟩ := h
  have h : SQ F w S p n st Z := ⟨T, sh, R, G, h1, h2, h3, h4, h5⟩
  have HSQ := hidden h
  have CP : Hid (∀ wx, Below w.heap.size w wx → wx.cell? ⟨S, 0, none⟩ = some (.pointer (some ⟨p, 0, none⟩))) := hidden (fun wx hb => (h1.blk.later hb).cell 0)
  have HLF := hidden (fun (wx : World) (hb : Below w.heap.size w wx) => K.leftX G p n st wx (h2.later hb))
  have HKP := hidden (fun (wx : World) (hb : Below w.heap.size w wx) ad8 X c8 D8 (e1 : 0 ≤ k) (e2 : l ≠ []) (e3 : Ris ((enL (Z o) k).2 ++ l)) (ck : Ck wx w.heap.size (.slice ad8 X c8) ((gO (gB (enL (Z o) k).2 l)).map encC) D8) (hX : (gO (gB (enL (Z o) k).2 l)).length = X) hr => keepP o k F S p n st Z ad8 X c8 w.heap.size D8 l wx (h.later hb) (hG.later hb) e1 e2 e3 hL.sz (fun i hi => ⟨hF2 i hi, (h.tag hi).1⟩) ck hX (by omega) hr)
  have htl := K.tkL_len st n
  have hn1 := h2.n1
  have HN := hidden hN
  unfold ApP
  generalize hq9 : enL (Z o) k = q9 at *
  obtain ⟨sl, A⟩ := q9
  simp only at *
  have hhad : hadL sl ≤ (gO (gB A l)).length ∨ l = [] := by
    by_cases h0 : l = []
    · exact .inr h0
    · left
      have : gO (gB A l) ≠ [] := by
        intro e
        have hb := gO_behind A l
        rw [e, List.append_nil] at hb
        have hfl := gF_flat (A ++ l)
        rw [hb] at hfl
        have h9 := gF_flat A
        rw [gO_flat] at h9
        have : (gF A).1.flatten.length ≤ A.length := by
          have := congrArg List.length h9
          rw [List.length_append] at this
          omega
        have h8 := congrArg List.length hfl
        rw [List.length_append] at h8
        have := List.length_pos_iff.2 h0
        omega
      have := List.length_pos_iff.2 this
      unfold hadL
      omega
  have HHD := hidden hhad
  clear h hz hen hG hlo hL hN h1 h2 h3 h4 h5 hF2 hhad
  obtain ⟨Y, hY⟩ : ∃ Y, (K.tkL st n).length = Y := ⟨_, rfl⟩
  rw [hY] at htl HLF HKP ⊢
  obtain ⟨lf, hlf⟩ : ∃ lf, n - Y = lf := ⟨_, rfl⟩
  rw [hlf] at HLF ⊢
  go_enter Tryd.func8, Tryd.ntmps8
  go_wp2_with fail
  refine HB.out.mono ?_
  rintro e w1 ⟨b1, hh⟩
  have B1 := hidden b1
  clear b1 HB
  rcases hh with ⟨hk, rfl⟩ | ⟨hk, hr, rfl⟩ | ⟨hk, hr, ad8, c8, D8, rfl, ck⟩
  · have HK := hidden hk
    clear hk
    go_wp2_with fail
    go_ret
    exact .inl ⟨B1.out, .inl ⟨HK.out, rfl⟩⟩
  · have HK := hidden (And.intro hk hr)
    clear hk hr
    go_wp2_with fail
    go_ret
    exact .inl ⟨B1.out, .inr (.inl ⟨HK.out.1, HK.out.2, rfl⟩)⟩
  · have HK := hidden (And.intro hk hr)
    obtain ⟨X, hX⟩ : ∃ X, (gO (gB A l)).length = X := ⟨_, rfl⟩
    obtain ⟨q, hq⟩ : ∃ q, needN sl A l = q := ⟨_, rfl⟩
    have hq' := hq
    unfold needN at hq'
    rw [hq', hX]
    rw [hX] at ck hq' hgl
    have CK := hidden ck
    have HX := hidden hX
    have HQ := hidden hq
    have HQ2 := hidden hq'
    have hhd1 : hadL sl ≤ 1 := by unfold hadL; omega
    have hqb : q ≤ 1000000 ∧ -1 ≤ q := by omega
    clear hk hr ck hX hq hq'
    by_cases h0 : l = []
    · have hN0 : N = 0 := by rw [← HN.out, h0]; rfl
      subst hN0
      have H0 := hidden h0
      clear h0
      go_wp2_with fail
      go_ret
      exact .inl ⟨B1.out, .inr (.inr (.inl ⟨HK.out.1, HK.out.2, H0.out, rfl⟩))⟩
    · have hN0 : ¬ (N : Int) = 0 := by rw [← HN.out]; have := List.length_pos_iff.2 h0; omega
      have H0 := hidden h0
      have cp := CP.out _ B1.out
      clear h0
      go_wp2_with fail
      refine (HLF.out w1 B1.out).mono ?_
      rintro e w2 ⟨rfl, b2⟩
      have B2 : Hid (Below w.heap.size w w2) := hidden (B1.out.trans (b2.mono B1.out.size))
      have CK2 := hidden (CK.out.later b2)
      clear b2
      by_cases hlt : (lf : Int) < q
      · have HLT := hidden hlt
        go_wp2_with fail
        go_ret
        exact .inl ⟨B2.out, .inr (.inr (.inr ⟨HK.out.1, HK.out.2, H0.out, by rw [HQ.out]; exact HLT.out, rfl⟩))⟩
      · have HLT := hidden (show q ≤ (lf : Int) by omega)
        have hroom : X - hadL sl + Y ≤ n := by
          have e1 := HQ2.out
          have e2 := HLT.out
          have e3 := HHD.out
          rcases e3 with e3 | e3
          · rw [HX.out] at e3; omega
          · exact absurd e3 H0.out
        have HRM := hidden hroom
        clear hroom
        have hlt2 : decide ((lf : Int) < q) = false := by simpa using hlt
        go_wp2_with fail
        refine (HKP.out w2 B2.out ad8 X c8 D8 HK.out.1 H0.out HK.out.2 CK2.out HX.out HRM.out).mono ?_
        rintro e w3 ⟨rfl, k3⟩
        have K3 := hidden (kpP_from k3 B2.out)
        clear k3
        go_wp2_with fail
        go_ret
        refine .inr ⟨HK.out.1, HK.out.2, H0.out, by rw [HQ.out]; exact HLT.out, rfl, ?_⟩
        rw [HX.out]
        exact K3.out

end Go.Proofs.YtlppibigceeimaaDoor
