import Derived.Test.YtgmdpbahcbhfjaaGreatDoorIyB
import Derived.Test.YtgmdpbahcbhfjaaGreatDoorSrK
import Derived.Test.YtgmdpbahcbhfjaaGreatDoorMlS
set_option linter.unusedSimpArgs false
set_option linter.unusedVariables false
set_option maxHeartbeats 40000000
set_option maxRecDepth 100000
/-
  Package index: Names, Values.
-/
namespace Go.Proofs.YtgmdpbahcbhfjaaGreatDoor.X
open Go.RowKit

/-- Texts that rise, of just these, as a list that is the caller's own. -/
def NamV (w : World) (Q : ByteArray → Prop) (e : Ending) (w' : World) : Prop := ∃ (l : List ByteArray) (ad : Option Addr) (c : Nat), e = .returned (.slice ad l.length c) ∧ w'.ownsRow w.heap.size 9 1 (.slice ad l.length c) l.length (strs l) ∧ Asc l ∧ (∀ n, n ∈ l ↔ Q n) ∧ Below w.heap.size w w'
theorem sortOfP {w : World} {sb : Nat} {l : List (ByteArray × Value)} (hm : Ml Value.string w sb l) (hwf : ∀ p ∈ l, p.1.size ≤ maxLen) (hl : l.length ≤ 100000) (w1 : World) (hw1 : w1 = w.alloc (.cells #[.map (some sb)] 115)) :
    Calls Tryz.prog 55 #[.func (.func 78) #[] #[.pointer (some ⟨w.heap.size, 0, none⟩)]] w1 (NamV w1 (fun n => ∃ v, (n, v) ∈ l)) := by
  subst hw1
  obtain ⟨D0, hown, hperm, hsz⟩ := hm.ownsS Tryz.underlying9 hwf (by unfold maxLen; omega)
  refine ((callsIn_wide (n := 5)).1 (sortedKeysP sb l.length D0 RU w hown (by rw [hsz]; unfold maxLen; omega) (by rw [hsz]; omega))).mono ?_
  rintro e w' ⟨v, ss, rfl, hS, hrow, _, hb⟩
  have hp := hS.trans hperm
  have hnd : ss.Nodup := by
    refine hp.nodup_iff.2 ?_
    rw [List.Nodup, List.pairwise_map]
    refine hm.nodup.imp (fun {a b} h e => h ?_)
    exact L.bts_inj e
  have e1 : (ss.mergeSort (fun x y => decide (x ≤ y))).map encStr = strs ((ss.mergeSort (fun x y => decide (x ≤ y))).map L.oft) := by
    unfold strs
    rw [List.map_map]
    rfl
  have e2 : ss.length = ((ss.mergeSort (fun x y => decide (x ≤ y))).map L.oft).length := by rw [List.length_map, List.length_mergeSort]
  rw [e1, e2] at hrow
  obtain ⟨ad, c, rfl, _⟩ := owns_form2 hrow
  refine ⟨_, ad, c, rfl, hrow, asc_sorted hnd, fun n => ?_, hb⟩
  rw [mem_sorted_oft, hp.mem_iff, List.mem_map]
  constructor
  · rintro ⟨p, hp, he⟩
    have : p.1 = n := L.bts_inj he
    exact ⟨p.2, by rw [← this]; exact hp⟩
  · rintro ⟨v, hv⟩
    exact ⟨_, hv, rfl⟩
/-- What has been seen. -/
def Sn (w : World) (sb : Nat) (Q : ByteArray → Prop) : Prop := ∃ l : List (ByteArray × Value), Ml Value.string w sb l ∧ ∀ n, (∃ v, (n, v) ∈ l) ↔ Q n
theorem Sn.put {w' : World} {sb : Nat} {Q : ByteArray → Prop} {l : List (ByteArray × Value)} {n : ByteArray} {v : Value} (h : ∀ n, (∃ v, (n, v) ∈ l) ↔ Q n) (hm : Ml Value.string w' sb ((n, v) :: rm l n)) : Sn w' sb (fun x => Q x ∨ x = n) := by
  refine ⟨_, hm, fun x => ?_⟩
  constructor
  · rintro ⟨u, hu⟩
    rcases List.mem_cons.1 hu with e | hu
    · exact .inr (Prod.mk.inj e).1
    · unfold rm at hu
      exact .inl ((h x).1 ⟨u, (List.mem_filter.1 hu).1⟩)
  · rintro (hq | rfl)
    · by_cases e : x = n
      · subst e
        exact ⟨v, by simp⟩
      · obtain ⟨u, hu⟩ := (h x).2 hq
        exact ⟨u, List.mem_cons_of_mem _ (List.mem_filter.2 ⟨hu, by simpa using e⟩)⟩
    · exact ⟨v, by simp⟩
theorem Sn.eq {w : World} {sb : Nat} {Q Q' : ByteArray → Prop} (h : Sn w sb Q) (e : ∀ n, Q n ↔ Q' n) : Sn w sb Q' := by
  obtain ⟨l, h1, h2⟩ := h
  exact ⟨l, h1, fun n => (h2 n).trans (e n)⟩
theorem Sn.chg {F : Nat → Prop} {w w' : World} {sb : Nat} {Q : ByteArray → Prop} (h : Sn w sb Q) (hc : Chg F w w') (hF : ¬ F sb) : Sn w' sb Q := by
  obtain ⟨l, h1, h2⟩ := h
  exact ⟨l, h1.chg hc hF, h2⟩
/-- No more than so many. -/
theorem sn_len {l : List (ByteArray × Value)} {w : World} {sb : Nat} (hm : Ml Value.string w sb l) (B : List ByteArray) (h : ∀ p ∈ l, p.1 ∈ B) : l.length ≤ B.length := by
  have h1 := nodup_len (l.map Prod.fst) B (by rw [List.Nodup, List.pairwise_map]; exact hm.nodup) (fun x hx => by
    obtain ⟨p, hp, rfl⟩ := List.mem_map.1 hx
    exact h p hp)
  simpa using h1
theorem flat_len8 {S : List (List L.Lb)} (h : ∀ l ∈ S, L.right l = true) (hn : S.length ≤ 1000) : S.flatten.length ≤ 8000 := by
  have key : ∀ S : List (List L.Lb), (∀ l ∈ S, L.right l = true) → S.flatten.length ≤ 8 * S.length := by
    intro S
    induction S with
    | nil => intro _; simp
    | cons y t ih =>
      intro h
      have h1 := (right_fits (h y (by simp))).1
      have h2 := ih (fun l hl => h l (by simp [hl]))
      simp only [List.flatten_cons, List.length_append, List.length_cons]
      omega
  have := key S h
  omega
end Go.Proofs.YtgmdpbahcbhfjaaGreatDoor.X
/-
  Package index: Names.
-/
namespace Go.Proofs.YtgmdpbahcbhfjaaGreatDoor.X
open Go.RowKit

theorem namQ_next {S : List (List L.Lb)} {ids : List Nat} {i v : Nat} (hi : ids[i]? = some v) (n : ByteArray) : NamQ S (ids.take (i + 1)) n ↔ NamQ S (ids.take i) n ∨ ∃ y ∈ S.getD v [], y.n = n := by
  unfold NamQ
  rw [List.take_add_one, hi]
  constructor
  · rintro ⟨k, hk, hy⟩
    rcases List.mem_append.1 hk with hk | hk
    · exact .inl ⟨k, hk, hy⟩
    · simp at hk
      subst hk
      exact .inr hy
  · rintro (⟨k, hk, hy⟩ | hy)
    · exact ⟨k, List.mem_append_left _ hk, hy⟩
    · exact ⟨v, List.mem_append_right _ (by simp), hy⟩
/-- Blocks to come are nobody's. -/
theorem Ix.fresh {w : World} {c : Col} {j x eb rb : Nat} {R : Rr} (h : Ix w c j x eb rb R) : ∃ c' : Col, Ix w c' j x eb rb R ∧ (∀ i, i < w.heap.size → c' i = c i) ∧ ∀ i, w.heap.size ≤ i → c' i = none :=
  have hcc : ∀ i, i < w.heap.size → (fun i => if i < w.heap.size then c i else none : Col) i = c i := fun i hi => by simp [hi]
  ⟨fun i => if i < w.heap.size then c i else none, h.chg (Chg.refl (fun _ => False) w) (fun _ _ e => e.elim) hcc, hcc, fun i hi => by
    have : ¬ i < w.heap.size := by omega
    simp [this]⟩
theorem zs_at {w : World} {base n cc : Nat} {ad : Option Addr} {l : List Nat} (h : w.ownsRow base 3 1 (.slice ad n cc) n (zs l)) {i v : Nat} (hi : l[i]? = some v) : ∃ g, ad = some ⟨g, 0, none⟩ ∧ g < w.heap.size ∧ w.cell? ⟨g, i, none⟩ = some (.int .i64 (v : Int)) := by
  have hil := (List.getElem?_eq_some_iff.1 hi).1
  have hl : l.length = n := by have := h.1; rw [zs_len] at this; omega
  rcases h.2 with ⟨_, h1⟩ | ⟨g, cap, cur, hv, _, hg, _⟩
  · omega
  · simp only [Value.slice.injEq] at hv
    obtain ⟨rfl, _, rfl⟩ := hv
    refine ⟨g, rfl, (Array.getElem?_eq_some_iff.1 hg).1, ?_⟩
    rw [h.cellAt i (by omega)]
    simp [zs, hi]
/-- A list of the series, and whose its block is. -/
theorem Sr.get2 {w : World} {c : Col} {j : Nat} {t : ByteArray} {ad : Option Addr} {cap : Nat} {S : List (List L.Lb)} (h : Sr w c j t (.slice ad S.length cap) S) {i : Nat} {l : List L.Lb} (hi : S[i]? = some l) (hr : L.right l = true) :
    ∃ g al cl, ad = some ⟨g, 0, none⟩ ∧ g < w.heap.size ∧ w.cell? ⟨g, i, none⟩ = some (.slice al l.length cl) ∧ L.Ls w al l ∧ (al = none → l = [] ∧ cl = 0) ∧ ∀ a, al = some a → c a.block = some (j, .labs t) := by
  obtain ⟨rows, h1, h2⟩ := h.own
  have hil := (List.getElem?_eq_some_iff.1 hi).1
  rcases h1.2 with ⟨_, h3⟩ | ⟨g, cap', cur, hv, _, hg, _⟩
  · omega
  · simp only [Value.slice.injEq] at hv
    obtain ⟨rfl, _, rfl⟩ := hv
    obtain ⟨v, hv, ho, hcol⟩ := h2 i l hi
    obtain ⟨al, cl, rfl, _, h8, _⟩ := owns_form2 ho
    obtain ⟨h4, h5⟩ := ls_of_owns ho (right_fits hr).2.2
    refine ⟨g, al, cl, rfl, (Array.getElem?_eq_some_iff.1 hg).1, ?_, h4, h5, fun a ha => ?_⟩
    · rw [h1.cellAt i (by omega)]
      exact hv
    · subst ha
      obtain ⟨e1, e2⟩ := h8 a rfl
      refine hcol a.block ?_
      obtain ⟨ab, ao, asp⟩ := a
      simp only at e1 e2
      subst e1 e2
      rfl
set_option maxRecDepth 100000 in
set_option maxHeartbeats 8000000 in
theorem namesP {w : World} {c : Col} {j x eb rb B : Nat} {R : Rr} (h : Ix w c j x eb rb R) (hT : L.Tb B w) (t : ByteArray) (ht : t.size ≤ maxLen) (s : Nat) (ms : List Mt) (hS : ∃ F, StR F w s ms) (hms : ∀ m ∈ ms, m.may = true ∧ OkM m) (hml : ms.length ≤ 1000) :
    Calls Tryz.prog 25 #[.pointer (some ⟨x, 0, none⟩), .string t, .pointer (some ⟨s, 0, none⟩)] w (NamV w (NamQ (R t) (selF (R t) ms))) := by
  have hmm := @run_makeMap Tryz.prog
  have hal : Below w.heap.size w (w.alloc (.map #[] 0)) := (Below.refl w.heap.size w).alloc (Nat.le_refl _) _
  obtain ⟨c', h', hcc, hfr⟩ := h.fresh
  have HFR := hidden hfr
  have HSE := hidden (selectP (h.later hal) (hT.later hal) t ht s ms (by obtain ⟨F, hs⟩ := hS; exact ⟨F, hs.later hal⟩) hms hml)
  have HM0 := hidden (Ml.made Value.string w)
  have HIX := hidden (h'.later hal)
  have HRI := hidden (h.ok.right t)
  have HLN := hidden (h.ok.len t)
  have HLT : Hid (∀ i ∈ selF (R t) ms, i < (R t).length) := hidden (fun i hi => selF_lt hi)
  have HL9 := hidden (Nat.le_trans (selF_len (R t) ms) (h.ok.len t))
  generalize selF (R t) ms = ids at *
  obtain ⟨n, hnn⟩ : ∃ n, ids.length = n := ⟨_, rfl⟩
  have HN := hidden hnn
  have hn9 : n ≤ 1000 := by rw [← hnn]; exact HL9.out
  clear h h' hcc hfr hT ht hS hms hml hal hnn HL9
  go_enter Tryz.func25, Tryz.ntmps25
  go_wp2_with (first
    | (go_at_call 24
       refine HSE.out.mono ?_
       rintro e w2 ⟨ia, ic, rfl, ho2, hb2⟩
       rw [HN.out] at ho2 ⊢
       have HO2 := hidden ho2
       have HB2 := hidden hb2
       have HIX2 := hidden (HIX.out.later hb2)
       have HM2 := hidden (HM0.out.later hb2)
       clear ho2 hb2 HSE HIX HM0))
  have hsz : w.heap.size < w2.heap.size := by have := HB2.out.size; rw [World.size_alloc] at this; omega
  go_loopw [9, 11, 18] (fun s9 s11 s18 wx => ∃ i : Nat, s18 = .int .i64 (i : Int) ∧ i ≤ n ∧ Hid (Sn wx w.heap.size (NamQ (R t) (ids.take i))) ∧ Hid (Chg (fun k => k = w.heap.size) w2 wx)) (fun _ _ s18 _ => n - (intOf s18).toNat)
  case atStart => exact ⟨0, rfl, by omega, hidden ⟨[], HM2.out, fun n => by simp [NamQ]⟩, hidden (Chg.refl _ _)⟩
  case round =>
    rename World => wx
    obtain ⟨i, rfl, hin, HS, HC⟩ := hrel
    have HBW : Hid (Below w.heap.size w wx) := hidden ((((Below.refl w.heap.size w).alloc (Nat.le_refl _) (.map #[] 0)).trans (HB2.out.mono (by simp))).trans (HC.out.below (Nat.le_of_lt hsz) (fun k e => by have e' : k = w.heap.size := e; omega)))
    by_cases hlt : i < n
    · have hltz : (i : Int) < (n : Int) := by omega
      obtain ⟨v, hv⟩ : ∃ v, ids[i]? = some v := ⟨ids[i]'(by rw [HN.out]; exact hlt), List.getElem?_eq_getElem _⟩
      have hO := HC.out.owns HO2.out (fun g hg e => by have h1 := (HO2.out.lt g hg).1; rw [World.size_alloc] at h1; have e' : g = w.heap.size := e; omega)
      obtain ⟨g, rfl, hgl, hg0⟩ := zs_at hO hv
      have hvS := HLT.out v (List.mem_of_getElem? hv)
      have hix := HIX2.out.chg HC.out (fun k _ hf q e => by rw [HFR.out k (by have e' : k = w.heap.size := hf; omega)] at e; cases e) (fun _ _ => rfl)
      obtain ⟨ad, cap, nb, vb, HLK, hsr⟩ := hix.lookR t
      obtain ⟨l, hl⟩ : ∃ l, (R t)[v]? = some l := ⟨(R t)[v], List.getElem?_eq_getElem hvS⟩
      obtain ⟨g2, al, cl, rfl, hg2, c2, hLs, hno, hcol⟩ := hsr.get2 hl (HRI.out l (List.mem_of_getElem? hl))
      have HNQ : Hid (∀ nn, NamQ (R t) (ids.take (i + 1)) nn ↔ NamQ (R t) (ids.take i) nn ∨ ∃ y ∈ l, y.n = nn) := hidden (fun nn => by
        rw [namQ_next hv, show (R t).getD v [] = l by simp [List.getD, hl]])
      have c1 := hix.blk.cell 1
      simp only [List.getElem?_cons_zero, List.getElem?_cons_succ] at c1
      have lk := HLK.out wx (Below.refl _ _)
      obtain ⟨K, hK⟩ : ∃ K, (R t).length = K := ⟨_, rfl⟩
      rw [hK] at lk hvS
      have hf0 := fld0 wx (some ⟨g2, 0, none⟩) K cap nb vb
      have hvz : (v : Int) < (K : Int) := by omega
      have hv0 : (0 : Int) ≤ (v : Int) := by omega
      obtain ⟨m, hm⟩ : ∃ m, l.length = m := ⟨_, rfl⟩
      have HM := hidden hm
      have hm8 : m ≤ 8 := by rw [← hm]; exact (right_fits (HRI.out l (List.mem_of_getElem? hl))).1
      rw [hm] at c2
      have HLS := hidden hLs
      have HCOL : Hid (∀ a, al = some a → ¬ a.block = w.heap.size) := hidden (fun a ha e => by have h1 := hcol a ha; rw [HFR.out a.block (by omega)] at h1; cases h1)
      clear hv hO hgl hix HLK hsr hl hLs hno hcol hK hm hg2
      go_wp2_with fail
      go_loopw [11, 33] (fun s11 s33 wy => ∃ k : Nat, s33 = .int .i64 (k : Int) ∧ k ≤ m ∧ Hid (Sn wy w.heap.size (fun nn => NamQ (R t) (ids.take i) nn ∨ ∃ y ∈ l.take k, y.n = nn)) ∧ Hid (Chg (fun k => k = w.heap.size) wx wy)) (fun _ s33 _ => m - (intOf s33).toNat)
      case atStart => exact ⟨0, rfl, by omega, hidden (HS.out.eq (fun nn => by simp)), hidden (Chg.refl _ _)⟩
      case round =>
        rename World => wy
        obtain ⟨k, rfl, hkm, HS2, HC2⟩ := hrel
        by_cases hlt2 : k < m
        · have hltz2 : (k : Int) < (m : Int) := by omega
          obtain ⟨lb, off, y, rfl, hlb, hy, hy', k0, k1, z0, z1⟩ := (ls_chg HLS.out HC2.out (fun a ha => HCOL.out a ha)).get (i := k) (by rw [HM.out]; exact hlt2)
          obtain ⟨l0, hml, hq⟩ := HS2.out
          have hal2 : Below wy.heap.size wy (wy.alloc (.cells #[.string y.n, .string y.v] 75)) := (Below.refl wy.heap.size wy).alloc (Nat.le_refl _) _
          obtain ⟨w9, r9, m9, k9, _⟩ := (hml.later hal2).store (P := Tryz.prog) ky9 Tryz.underlying115 y.n (.agg #[])
          have HS9 : Hid (Sn w9 w.heap.size (fun nn => NamQ (R t) (ids.take i) nn ∨ ∃ y ∈ l.take (k + 1), y.n = nn)) := hidden ((Sn.put hq m9).eq (fun nn => by
            rw [List.take_add_one, hy]
            constructor
            · rintro ((h1 | ⟨y', h1, h2⟩) | h1)
              · exact .inl h1
              · exact .inr ⟨y', List.mem_append_left _ h1, h2⟩
              · exact .inr ⟨y, List.mem_append_right _ (by simp), h1.symm⟩
            · rintro (h1 | ⟨y', h1, h2⟩)
              · exact .inl (.inl h1)
              · rcases List.mem_append.1 h1 with h1 | h1
                · exact .inl (.inr ⟨y', h1, h2⟩)
                · simp at h1
                  subst h1
                  exact .inr h2.symm))
          have HC9 : Hid (Chg (fun k => k = w.heap.size) wx w9) := hidden ((HC2.out.trans (Chg.of_below (F := fun k => k = w.heap.size) hal2) (fun _ _ e => e)).trans k9 (fun _ _ e => e))
          clear hlb hy hy' hml hq hal2 m9 k9 HS2 HC2
          go_wp2_with fail
          refine ⟨⟨k + 1, by first | rfl | simp, by omega, HS9, HC9⟩, ?_⟩
          simp [intOf]
          omega
        · have hltz2 : ¬ (k : Int) < (m : Int) := by omega
          go_wp2_with fail
          refine ⟨⟨i + 1, by first | rfl | simp, by omega, hidden (HS2.out.eq (fun nn => ?_)), hidden (HC.out.trans HC2.out (fun _ _ e => e))⟩, ?_⟩
          · rw [HNQ.out nn, show l.take k = l from List.take_of_length_le (by rw [HM.out]; omega)]
          · simp [intOf]
            omega
    · have hltz : ¬ (i : Int) < (n : Int) := by omega
      obtain ⟨l0, hml, hq⟩ := HS.out
      rw [List.take_of_length_le (by rw [HN.out]; omega)] at hq
      have hsub : ∀ p ∈ l0, ∃ z ∈ R t, ∃ y ∈ z, y.n = p.1 := fun p hp => by
        obtain ⟨k, hk, y, hy, e⟩ := (hq p.1).1 ⟨p.2, hp⟩
        have hkl := HLT.out k hk
        refine ⟨(R t)[k], List.getElem_mem hkl, y, ?_, e⟩
        simpa [List.getD, List.getElem?_eq_getElem hkl] using hy
      have hl0 : l0.length ≤ 100000 := by
        have h1 := sn_len hml ((R t).flatten.map (·.n)) (fun p hp => by
          obtain ⟨z, hz, y, hy, e⟩ := hsub p hp
          exact List.mem_map.2 ⟨y, List.mem_flatten.2 ⟨z, hz, hy⟩, e⟩)
        have h2 := flat_len8 HRI.out HLN.out
        rw [List.length_map] at h1
        omega
      have hwf : ∀ p ∈ l0, p.1.size ≤ maxLen := fun p hp => by
        obtain ⟨z, hz, y, hy, e⟩ := hsub p hp
        have := (fits_name ((right_fits (HRI.out z hz)).2.2 y hy)).2.1
        rw [← e]
        unfold maxLen
        omega
      have HSO := hidden (sortOfP hml hwf hl0 _ rfl)
      have HQ := hidden hq
      clear hml hq hsub hl0 hwf HS
      go_wp2_with (first
        | (go_at_call 56
           refine ((callsIn_wide (n := 5)).1 (mapsKeysP (some w.heap.size) wx)).mono ?_
           rintro e w' ⟨rfl, rfl⟩)
        | (go_at_call 55
           refine HSO.out.mono ?_
           rintro e w8 ⟨ll, a8, c8, rfl, ho8, ha8, hm8, hb8⟩
           have H8 : Hid _ := hidden (And.intro ho8 (And.intro ha8 (And.intro hm8 hb8)))
           clear ho8 ha8 hm8 hb8))
      go_ret
      obtain ⟨ho8, ha8, hm8, hb8⟩ := H8.out
      have hbx : Below wx.heap.size wx w8 := ((Below.refl wx.heap.size wx).alloc (Nat.le_refl _) _).trans (hb8.mono (by simp))
      exact ⟨ll, a8, c8, by rfl, J.owns_rebase ho8 (by rw [World.size_alloc]; exact Nat.le_succ_of_le HBW.out.size), ha8, fun nn => (hm8 nn).trans (HQ.out nn), HBW.out.trans (hbx.mono HBW.out.size)⟩
end Go.Proofs.YtgmdpbahcbhfjaaGreatDoor.X
/-
  Package index: Values.
-/
namespace Go.Proofs.YtgmdpbahcbhfjaaGreatDoor.X
open Go.RowKit

theorem valQ_next {S : List (List L.Lb)} {ids : List Nat} {i u : Nat} (hi : ids[i]? = some u) (n v : ByteArray) : ValQ S (ids.take (i + 1)) n v ↔ ValQ S (ids.take i) n v ∨ (⟨n, v⟩ : L.Lb) ∈ S.getD u [] := by
  unfold ValQ
  rw [List.take_add_one, hi]
  constructor
  · rintro ⟨k, hk, hy⟩
    rcases List.mem_append.1 hk with hk | hk
    · exact .inl ⟨k, hk, hy⟩
    · simp at hk
      subst hk
      exact .inr hy
  · rintro (⟨k, hk, hy⟩ | hy)
    · exact ⟨k, List.mem_append_left _ hk, hy⟩
    · exact ⟨u, List.mem_append_right _ (by simp), hy⟩
set_option maxRecDepth 100000 in
set_option maxHeartbeats 8000000 in
theorem valuesP {w : World} {c : Col} {j x eb rb B : Nat} {R : Rr} (h : Ix w c j x eb rb R) (hT : L.Tb B w) (t : ByteArray) (ht : t.size ≤ maxLen) (s : Nat) (ms : List Mt) (hS : ∃ F, StR F w s ms) (hms : ∀ m ∈ ms, m.may = true ∧ OkM m) (hml : ms.length ≤ 1000) (nm : ByteArray) :
    Calls Tryz.prog 26 #[.pointer (some ⟨x, 0, none⟩), .string t, .pointer (some ⟨s, 0, none⟩), .string nm] w (NamV w (ValQ (R t) (selF (R t) ms) nm)) := by
  have hmm := @run_makeMap Tryz.prog
  have hal : Below w.heap.size w (w.alloc (.map #[] 0)) := (Below.refl w.heap.size w).alloc (Nat.le_refl _) _
  obtain ⟨c', h', hcc, hfr⟩ := h.fresh
  have HFR := hidden hfr
  have HSE := hidden (selectP (h.later hal) (hT.later hal) t ht s ms (by obtain ⟨F, hs⟩ := hS; exact ⟨F, hs.later hal⟩) hms hml)
  have HM0 := hidden (Ml.made Value.string w)
  have HIX := hidden (h'.later hal)
  have HRI := hidden (h.ok.right t)
  have HLN := hidden (h.ok.len t)
  have HLT : Hid (∀ i ∈ selF (R t) ms, i < (R t).length) := hidden (fun i hi => selF_lt hi)
  have HL9 := hidden (Nat.le_trans (selF_len (R t) ms) (h.ok.len t))
  generalize selF (R t) ms = ids at *
  obtain ⟨n, hnn⟩ : ∃ n, ids.length = n := ⟨_, rfl⟩
  have HN := hidden hnn
  have hn9 : n ≤ 1000 := by rw [← hnn]; exact HL9.out
  clear h h' hcc hfr hT ht hS hms hml hal hnn HL9
  go_enter Tryz.func26, Tryz.ntmps26
  go_wp2_with (first
    | (go_at_call 24
       refine HSE.out.mono ?_
       rintro e w2 ⟨ia, ic, rfl, ho2, hb2⟩
       rw [HN.out] at ho2 ⊢
       have HO2 := hidden ho2
       have HB2 := hidden hb2
       have HIX2 := hidden (HIX.out.later hb2)
       have HM2 := hidden (HM0.out.later hb2)
       clear ho2 hb2 HSE HIX HM0))
  have hsz : w.heap.size < w2.heap.size := by have := HB2.out.size; rw [World.size_alloc] at this; omega
  go_loopw [11, 12, 19] (fun s9 s11 s18 wx => ∃ i : Nat, s18 = .int .i64 (i : Int) ∧ i ≤ n ∧ Hid (Sn wx w.heap.size (ValQ (R t) (ids.take i) nm)) ∧ Hid (Chg (fun k => k = w.heap.size) w2 wx)) (fun _ _ s18 _ => n - (intOf s18).toNat)
  case atStart => exact ⟨0, rfl, by omega, hidden ⟨[], HM2.out, fun n => by simp [ValQ]⟩, hidden (Chg.refl _ _)⟩
  case round =>
    rename World => wx
    obtain ⟨i, rfl, hin, HS, HC⟩ := hrel
    have HBW : Hid (Below w.heap.size w wx) := hidden ((((Below.refl w.heap.size w).alloc (Nat.le_refl _) (.map #[] 0)).trans (HB2.out.mono (by simp))).trans (HC.out.below (Nat.le_of_lt hsz) (fun k e => by have e' : k = w.heap.size := e; omega)))
    by_cases hlt : i < n
    · have hltz : (i : Int) < (n : Int) := by omega
      obtain ⟨v, hv⟩ : ∃ v, ids[i]? = some v := ⟨ids[i]'(by rw [HN.out]; exact hlt), List.getElem?_eq_getElem _⟩
      have hO := HC.out.owns HO2.out (fun g hg e => by have h1 := (HO2.out.lt g hg).1; rw [World.size_alloc] at h1; have e' : g = w.heap.size := e; omega)
      obtain ⟨g, rfl, hgl, hg0⟩ := zs_at hO hv
      have hvS := HLT.out v (List.mem_of_getElem? hv)
      have hix := HIX2.out.chg HC.out (fun k _ hf q e => by rw [HFR.out k (by have e' : k = w.heap.size := hf; omega)] at e; cases e) (fun _ _ => rfl)
      obtain ⟨ad, cap, nb, vb, HLK, hsr⟩ := hix.lookR t
      obtain ⟨l, hl⟩ : ∃ l, (R t)[v]? = some l := ⟨(R t)[v], List.getElem?_eq_getElem hvS⟩
      obtain ⟨g2, al, cl, rfl, hg2, c2, hLs, hno, hcol⟩ := hsr.get2 hl (HRI.out l (List.mem_of_getElem? hl))
      have HNQ : Hid (∀ nn, ValQ (R t) (ids.take (i + 1)) nm nn ↔ ValQ (R t) (ids.take i) nm nn ∨ (gotL l nm = nn ∧ ¬ nn = em0)) := hidden (fun nn => by
        rw [valQ_next hv, show (R t).getD v [] = l by simp [List.getD, hl], got_iff (HRI.out l (List.mem_of_getElem? hl))])
      have c1 := hix.blk.cell 1
      simp only [List.getElem?_cons_zero, List.getElem?_cons_succ] at c1
      have lk := HLK.out wx (Below.refl _ _)
      obtain ⟨K, hK⟩ : ∃ K, (R t).length = K := ⟨_, rfl⟩
      rw [hK] at lk hvS
      have hf0 := fld0 wx (some ⟨g2, 0, none⟩) K cap nb vb
      have hvz : (v : Int) < (K : Int) := by omega
      have hv0 : (0 : Int) ≤ (v : Int) := by omega
      obtain ⟨m, hm⟩ : ∃ m, l.length = m := ⟨_, rfl⟩
      have HM := hidden hm
      have hm8 : m ≤ 8 := by rw [← hm]; exact (right_fits (HRI.out l (List.mem_of_getElem? hl))).1
      rw [hm] at c2
      have HLS := hidden hLs
      have HGE : Hid (Calls Tryz.prog 57 #[.slice al m cl, .string nm] wx fun e w' => e = .returned (.string (gotL l nm)) ∧ Below wx.heap.size wx w') := hidden (by
        rw [← hm]
        refine (L.getP al cl l nm wx hLs (by omega)).mono ?_
        rintro e w' ⟨r, rfl, hr, hb⟩
        have : r = gotL l nm := by
          show r = L.oft (L.getL l (L.bts nm))
          rw [← hr, L.oft_bts]
        rw [this]
        exact ⟨rfl, hb⟩)
      clear hv hO hgl hix HLK hsr hl hLs hno hcol hK hm hg2
      obtain ⟨r, hr⟩ : ∃ r, gotL l nm = r := ⟨_, rfl⟩
      rw [hr] at HGE HNQ
      clear hr
      by_cases hr0 : r = em0
      · subst hr0
        have HE := isEmpty_em0
        go_wp2_with (first
          | (go_at_call 57
             refine HGE.out.mono ?_
             rintro e w7 ⟨rfl, hb7⟩
             have HB7 := hidden hb7
             clear hb7))
        refine ⟨⟨i + 1, by first | rfl | simp, by omega, hidden (((HS.out.chg (Chg.of_below (F := fun _ => False) HB7.out) (fun e => e))).eq (fun nn => ?_)), hidden (HC.out.trans (Chg.of_below (F := fun k => k = w.heap.size) HB7.out) (fun _ _ e => e))⟩, ?_⟩
        · rw [HNQ.out nn]
          constructor
          · exact .inl
          · rintro (h1 | ⟨h1, h2⟩)
            · exact h1
            · exact absurd h1.symm h2
        · simp [intOf]
          omega
      · have HE := isEmpty_ne hr0
        have HR0 := hidden hr0
        clear hr0
        obtain ⟨l0, hml, hq⟩ := HS.out
        have HML := hidden hml
        have HQ0 := hidden hq
        clear hml hq
        go_wp2_with (first
          | (go_at_call 57
             refine HGE.out.mono ?_
             rintro e w7 ⟨rfl, hb7⟩
             obtain ⟨w9, r9, m9, k9, _⟩ := (HML.out.later hb7).store (P := Tryz.prog) ky9 Tryz.underlying115 r (.agg #[])
             have HB7 := hidden hb7
             have HM9 := hidden (And.intro m9 k9)
             clear hb7 m9 k9))
        obtain ⟨m9, k9⟩ := HM9.out
        refine ⟨⟨i + 1, by first | rfl | simp, by omega, hidden ((Sn.put HQ0.out m9).eq (fun nn => ?_)), hidden ((HC.out.trans (Chg.of_below (F := fun k => k = w.heap.size) HB7.out) (fun _ _ e => e)).trans k9 (fun _ _ e => e))⟩, ?_⟩
        · rw [HNQ.out nn]
          constructor
          · rintro (h1 | h1)
            · exact .inl h1
            · exact .inr ⟨h1.symm, by rw [h1]; exact HR0.out⟩
          · rintro (h1 | ⟨h1, h2⟩)
            · exact .inl h1
            · exact .inr h1.symm
        · simp [intOf]
          omega
    · have hltz : ¬ (i : Int) < (n : Int) := by omega
      obtain ⟨l0, hml, hq⟩ := HS.out
      rw [List.take_of_length_le (by rw [HN.out]; omega)] at hq
      have hsub : ∀ p ∈ l0, ∃ z ∈ R t, (⟨nm, p.1⟩ : L.Lb) ∈ z := fun p hp => by
        obtain ⟨k, hk, hy⟩ := (hq p.1).1 ⟨p.2, hp⟩
        have hkl := HLT.out k hk
        refine ⟨(R t)[k], List.getElem_mem hkl, ?_⟩
        simpa [List.getD, List.getElem?_eq_getElem hkl] using hy
      have hl0 : l0.length ≤ 100000 := by
        have h1 := sn_len hml ((R t).flatten.map (·.v)) (fun p hp => by
          obtain ⟨z, hz, hy⟩ := hsub p hp
          exact List.mem_map.2 ⟨_, List.mem_flatten.2 ⟨z, hz, hy⟩, rfl⟩)
        have h2 := flat_len8 HRI.out HLN.out
        rw [List.length_map] at h1
        omega
      have hwf : ∀ p ∈ l0, p.1.size ≤ maxLen := fun p hp => by
        obtain ⟨z, hz, hy⟩ := hsub p hp
        have h1 := (fits_name ((right_fits (HRI.out z hz)).2.2 _ hy)).2.2.2
        have h2 : p.1.size ≤ 64 := h1
        unfold maxLen
        omega
      have HSO := hidden (sortOfP hml hwf hl0 _ rfl)
      have HQ := hidden hq
      clear hml hq hsub hl0 hwf HS
      go_wp2_with (first
        | (go_at_call 56
           refine ((callsIn_wide (n := 5)).1 (mapsKeysP (some w.heap.size) wx)).mono ?_
           rintro e w' ⟨rfl, rfl⟩)
        | (go_at_call 55
           refine HSO.out.mono ?_
           rintro e w8 ⟨ll, a8, c8, rfl, ho8, ha8, hm8, hb8⟩
           have H8 : Hid _ := hidden (And.intro ho8 (And.intro ha8 (And.intro hm8 hb8)))
           clear ho8 ha8 hm8 hb8))
      go_ret
      obtain ⟨ho8, ha8, hm8, hb8⟩ := H8.out
      have hbx : Below wx.heap.size wx w8 := ((Below.refl wx.heap.size wx).alloc (Nat.le_refl _) _).trans (hb8.mono (by simp))
      exact ⟨ll, a8, c8, by rfl, J.owns_rebase ho8 (by rw [World.size_alloc]; exact Nat.le_succ_of_le HBW.out.size), ha8, fun nn => (hm8 nn).trans (HQ.out nn), HBW.out.trans (hbx.mono HBW.out.size)⟩
end Go.Proofs.YtgmdpbahcbhfjaaGreatDoor.X
/-
  The law's helpers: same, numbers, texts, has, few, some, set, name.
-/
namespace Go.Proofs.YtgmdpbahcbhfjaaGreatDoor.X
open Go.RowKit

/-- A list of numbers, read. -/
def Zrs (w : World) (ad : Option Addr) (l : List Nat) : Prop := ∀ (i v : Nat), l[i]? = some v → ∃ b off, ad = some ⟨b, off, none⟩ ∧ b < w.heap.size ∧ w.cell? ⟨b, off + i, none⟩ = some (.int .i64 (v : Int))
theorem Zrs.later {w w' : World} {ad : Option Addr} {l : List Nat} (h : Zrs w ad l) (hb : Below w.heap.size w w') : Zrs w' ad l := fun i s hi => by
  obtain ⟨b, off, e, h1, h2⟩ := h i s hi
  exact ⟨b, off, e, Nat.lt_of_lt_of_le h1 hb.size, by rw [hb.cell (p := ⟨b, off + i, none⟩) h1]; exact h2⟩
theorem zrs_of_owns {w : World} {base : Nat} {ad : Option Addr} {c : Nat} {l : List Nat} (h : w.ownsRow base 3 1 (.slice ad l.length c) l.length (zs l)) : Zrs w ad l := fun i v hi => by
  obtain ⟨g, e, h1, h2⟩ := zs_at h hi
  exact ⟨g, 0, e, h1, by rw [Nat.zero_add]; exact h2⟩
set_option maxRecDepth 100000 in
set_option maxHeartbeats 4000000 in
theorem sameP (w : World) (a1 a2 : Option Addr) (c1 c2 : Nat) (l : List L.Lb) (h1 : L.Ls w a1 l) (h2 : L.Ls w a2 l) (hl : l.length ≤ 1000000) : Calls Tryz.prog 23 #[.slice a1 l.length c1, .slice a2 l.length c2] w fun e w' => e = .returned (.bool true) ∧ Below w.heap.size w w' := by
  obtain ⟨n, hn⟩ : ∃ n, l.length = n := ⟨_, rfl⟩
  have HN := hidden hn
  have H1 := hidden h1
  have H2 := hidden h2
  rw [hn] at hl ⊢
  clear hn h1 h2
  go_enter Tryz.func23, Tryz.ntmps23
  go_wp2_with fail
  go_loopw [5] (fun s5 wx => ∃ i : Nat, s5 = .int .i64 (i : Int) ∧ i ≤ n ∧ Hid (Below w.heap.size w wx)) (fun s5 _ => n - (intOf s5).toNat)
  case atStart => exact ⟨0, rfl, by omega, hidden (Below.refl _ _)⟩
  case round =>
    rename World => wx
    obtain ⟨i, rfl, hin, HB⟩ := hrel
    by_cases hlt : i < n
    · have hltz : (i : Int) < (n : Int) := by omega
      have hi0 : (0 : Int) ≤ (i : Int) := by omega
      obtain ⟨b1, o1, y, rfl, hb1, hy, hy', k0, k1, z0, z1⟩ := (H1.out.later HB.out).get (i := i) (by rw [HN.out]; exact hlt)
      obtain ⟨b2, o2, y2, rfl, hb2, hy2, hy2', j0, j1, _, _⟩ := (H2.out.later HB.out).get (i := i) (by rw [HN.out]; exact hlt)
      obtain rfl : y2 = y := by rw [hy2] at hy; exact Option.some.inj hy
      clear hb1 hb2 hy hy' hy2 hy2'
      go_wp2_with fail
      go_region
      all_goals
        go_wp2_with fail
        refine ⟨⟨i + 1, by first | rfl | simp, by omega, hidden HB.out.drew⟩, ?_⟩
        simp [intOf]
        omega
    · have hltz : ¬ (i : Int) < (n : Int) := by omega
      go_wp2_with fail
      go_ret
      exact ⟨by rfl, HB.out⟩
set_option maxRecDepth 100000 in
set_option maxHeartbeats 4000000 in
theorem numbersP (w : World) (a1 a2 : Option Addr) (c1 c2 : Nat) (l : List Nat) (h1 : Zrs w a1 l) (h2 : Zrs w a2 l) (hl : l.length ≤ 1000000) : Calls Tryz.prog 29 #[.slice a1 l.length c1, .slice a2 l.length c2] w fun e w' => e = .returned (.bool true) ∧ Below w.heap.size w w' := by
  obtain ⟨n, hn⟩ : ∃ n, l.length = n := ⟨_, rfl⟩
  have HN := hidden hn
  have H1 := hidden h1
  have H2 := hidden h2
  rw [hn] at hl ⊢
  clear hn h1 h2
  go_enter Tryz.func29, Tryz.ntmps29
  go_wp2_with fail
  go_loopw [5] (fun s5 wx => ∃ i : Nat, s5 = .int .i64 (i : Int) ∧ i ≤ n ∧ Hid (Below w.heap.size w wx)) (fun s5 _ => n - (intOf s5).toNat)
  case atStart => exact ⟨0, rfl, by omega, hidden (Below.refl _ _)⟩
  case round =>
    rename World => wx
    obtain ⟨i, rfl, hin, HB⟩ := hrel
    by_cases hlt : i < n
    · have hltz : (i : Int) < (n : Int) := by omega
      have hi0 : (0 : Int) ≤ (i : Int) := by omega
      obtain ⟨v, hv⟩ : ∃ v, l[i]? = some v := ⟨l[i]'(by rw [HN.out]; exact hlt), List.getElem?_eq_getElem _⟩
      obtain ⟨b1, o1, rfl, hb1, k0⟩ := (H1.out.later HB.out) i v hv
      obtain ⟨b2, o2, rfl, hb2, j0⟩ := (H2.out.later HB.out) i v hv
      clear hv hb1 hb2
      go_wp2_with fail
      go_region
      all_goals
        go_wp2_with fail
        refine ⟨⟨i + 1, by first | rfl | simp, by omega, hidden HB.out.drew⟩, ?_⟩
        simp [intOf]
        omega
    · have hltz : ¬ (i : Int) < (n : Int) := by omega
      go_wp2_with fail
      go_ret
      exact ⟨by rfl, HB.out⟩
set_option maxRecDepth 100000 in
set_option maxHeartbeats 4000000 in
theorem textsP (w : World) (a1 a2 : Option Addr) (c1 c2 : Nat) (l : List ByteArray) (h1 : Txs w a1 l) (h2 : Txs w a2 l) (hl : l.length ≤ 1000000) : Calls Tryz.prog 30 #[.slice a1 l.length c1, .slice a2 l.length c2] w fun e w' => e = .returned (.bool true) ∧ Below w.heap.size w w' := by
  obtain ⟨n, hn⟩ : ∃ n, l.length = n := ⟨_, rfl⟩
  have HN := hidden hn
  have H1 := hidden h1
  have H2 := hidden h2
  rw [hn] at hl ⊢
  clear hn h1 h2
  go_enter Tryz.func30, Tryz.ntmps30
  go_wp2_with fail
  go_loopw [5] (fun s5 wx => ∃ i : Nat, s5 = .int .i64 (i : Int) ∧ i ≤ n ∧ Hid (Below w.heap.size w wx)) (fun s5 _ => n - (intOf s5).toNat)
  case atStart => exact ⟨0, rfl, by omega, hidden (Below.refl _ _)⟩
  case round =>
    rename World => wx
    obtain ⟨i, rfl, hin, HB⟩ := hrel
    by_cases hlt : i < n
    · have hltz : (i : Int) < (n : Int) := by omega
      have hi0 : (0 : Int) ≤ (i : Int) := by omega
      obtain ⟨v, hv⟩ : ∃ v, l[i]? = some v := ⟨l[i]'(by rw [HN.out]; exact hlt), List.getElem?_eq_getElem _⟩
      obtain ⟨b1, o1, rfl, hb1, k0⟩ := (H1.out.later HB.out) i v hv
      obtain ⟨b2, o2, rfl, hb2, j0⟩ := (H2.out.later HB.out) i v hv
      clear hv hb1 hb2
      go_wp2_with fail
      go_region
      all_goals
        go_wp2_with fail
        refine ⟨⟨i + 1, by first | rfl | simp, by omega, hidden HB.out.drew⟩, ?_⟩
        simp [intOf]
        omega
    · have hltz : ¬ (i : Int) < (n : Int) := by omega
      go_wp2_with fail
      go_ret
      exact ⟨by rfl, HB.out⟩
end Go.Proofs.YtgmdpbahcbhfjaaGreatDoor.X
/-
  The law's helpers: has, few, some, set; a new index.
-/
namespace Go.Proofs.YtgmdpbahcbhfjaaGreatDoor.X
open Go.RowKit

theorem str_eqT {a b : ByteArray} : (a.toList == b.toList) = decide (a = b) := by
  by_cases h : a = b
  · subst h; simp
  · rw [decide_eq_false h]
    cases h2 : a.toList == b.toList with
    | false => rfl
    | true =>
      exfalso
      apply h
      have h3 : a.toList = b.toList := by simpa using h2
      rw [ByteArray.toList_eq, ByteArray.toList_eq] at h3
      exact L.bts_inj h3
/-- Whether a text is in a list. -/
def HasR (w : World) (s : ByteArray) (l : List ByteArray) (e : Ending) (w' : World) : Prop := (∃ b : Bool, e = .returned (.bool b) ∧ (b = true ↔ s ∈ l)) ∧ Below w.heap.size w w'
set_option maxRecDepth 100000 in
set_option maxHeartbeats 4000000 in
theorem hasP (w : World) (ad : Option Addr) (c : Nat) (l : List ByteArray) (s : ByteArray) (h : Txs w ad l) (hl : l.length ≤ 1000000) : Calls Tryz.prog 28 #[.slice ad l.length c, .string s] w (HasR w s l) := by
  obtain ⟨n, hn⟩ : ∃ n, l.length = n := ⟨_, rfl⟩
  have HN := hidden hn
  have H1 := hidden h
  rw [hn] at hl ⊢
  clear hn h
  go_enter Tryz.func28, Tryz.ntmps28
  go_wp2_with fail
  go_loopw [5] (fun s5 wx => ∃ i : Nat, s5 = .int .i64 (i : Int) ∧ i ≤ n ∧ Hid (¬ s ∈ l.take i) ∧ Hid (Below w.heap.size w wx)) (fun s5 _ => n - (intOf s5).toNat)
  case atStart => exact ⟨0, rfl, by omega, hidden (by simp), hidden (Below.refl _ _)⟩
  case round =>
    rename World => wx
    obtain ⟨i, rfl, hin, HS, HB⟩ := hrel
    by_cases hlt : i < n
    · have hltz : (i : Int) < (n : Int) := by omega
      have hi0 : (0 : Int) ≤ (i : Int) := by omega
      obtain ⟨v, hv⟩ : ∃ v, l[i]? = some v := ⟨l[i]'(by rw [HN.out]; exact hlt), List.getElem?_eq_getElem _⟩
      obtain ⟨b1, o1, rfl, hb1, k0⟩ := (H1.out.later HB.out) i v hv
      have HV := hidden hv
      have heq := str_eqT (a := v) (b := s)
      clear hv hb1
      by_cases hs : v = s
      · have HSS := hidden hs
        rw [decide_eq_true hs] at heq
        clear hs
        go_wp2_with fail
        go_ret
        refine (show HasR w s l _ _ from ⟨?_, HB.out⟩)
        have hm : s ∈ l := by rw [← HSS.out]; exact List.mem_of_getElem? HV.out
        exact ⟨true, by rfl, ⟨fun _ => hm, fun _ => rfl⟩⟩
      · have HSS := hidden hs
        rw [decide_eq_false hs] at heq
        clear hs
        go_wp2_with fail
        refine ⟨⟨i + 1, by first | rfl | simp, by omega, hidden ?_, HB⟩, ?_⟩
        · rw [List.take_add_one, HV.out, List.mem_append]
          rintro (h1 | h1)
          · exact HS.out h1
          · simp at h1
            exact HSS.out h1.symm
        · simp [intOf]
          omega
    · have hltz : ¬ (i : Int) < (n : Int) := by omega
      go_wp2_with fail
      go_ret
      have h1 := HS.out
      rw [List.take_of_length_le (by rw [HN.out]; omega)] at h1
      have hq : (false = true ↔ s ∈ l) := ⟨fun e => (by cases e), fun e => absurd e h1⟩
      exact ⟨⟨false, by rfl, hq⟩, HB.out⟩
set_option maxRecDepth 100000 in
set_option maxHeartbeats 2000000 in
theorem fewP (ad : Option Addr) (n c : Nat) (w : World) (hnc : n ≤ c) (hc : c ≤ 9223372036854775807) (hno : ad = none → n = 0 ∧ c = 0) : Calls Tryz.prog 9 #[.slice ad n c] w fun e w' => e = .returned (.slice ad (min n 20) c) ∧ w' = w := by
  by_cases h : 20 < n
  · have hz : (20 : Int) < (n : Int) := by omega
    have hz2 : (20 : Int) ≤ (c : Int) := by omega
    rw [show min n 20 = 20 by omega]
    cases ad with
    | none => obtain ⟨rfl, rfl⟩ := hno rfl; omega
    | some x =>
      go_enter Tryz.func9, Tryz.ntmps9
      go_wp2
      go_ret
      exact ⟨by first | rfl | (simp; omega), rfl⟩
  · have hz : ¬ (20 : Int) < (n : Int) := by omega
    rw [show min n 20 = n by omega]
    go_enter Tryz.func9, Tryz.ntmps9
    go_wp2
    go_ret
    exact ⟨by first | rfl | (simp; omega), rfl⟩
set_option maxRecDepth 100000 in
set_option maxHeartbeats 2000000 in
theorem someP (ad : Option Addr) (n c : Nat) (w : World) (hnc : n ≤ c) (hc : c ≤ 9223372036854775807) (hno : ad = none → n = 0 ∧ c = 0) : Calls Tryz.prog 10 #[.slice ad n c] w fun e w' => e = .returned (.slice ad (min n 20) c) ∧ w' = w := by
  by_cases h : 20 < n
  · have hz : (20 : Int) < (n : Int) := by omega
    have hz2 : (20 : Int) ≤ (c : Int) := by omega
    rw [show min n 20 = 20 by omega]
    cases ad with
    | none => obtain ⟨rfl, rfl⟩ := hno rfl; omega
    | some x =>
      go_enter Tryz.func10, Tryz.ntmps10
      go_wp2
      go_ret
      exact ⟨by first | rfl | (simp; omega), rfl⟩
  · have hz : ¬ (20 : Int) < (n : Int) := by omega
    rw [show min n 20 = n by omega]
    go_enter Tryz.func10, Tryz.ntmps10
    go_wp2
    go_ret
    exact ⟨by first | rfl | (simp; omega), rfl⟩
/-- The matchers of a set that the law makes. -/
def setL (l : List Mt) : List Mt := if newOk l = true then l else []
theorem setL_may {l : List Mt} : ∀ m ∈ setL l, m.may = true := by
  intro m hm
  unfold setL at hm
  split at hm
  · rename_i h
    unfold newOk at h
    rw [Bool.and_eq_true, List.all_eq_true] at h
    exact h.2 m hm
  · cases hm
theorem setL_len (l : List Mt) : (setL l).length ≤ 8 := by
  unfold setL
  split
  · rename_i h
    unfold newOk at h
    rw [Bool.and_eq_true] at h
    exact of_decide_eq_true h.1
  · simp
theorem setL_sub {l : List Mt} : ∀ m ∈ setL l, m ∈ l := by
  intro m hm
  unfold setL at hm
  split at hm
  · exact hm
  · cases hm
set_option maxRecDepth 100000 in
set_option maxHeartbeats 4000000 in
theorem setP (B : Nat) (ad : Option Addr) (c : Nat) (l : List Mt) (w : World) (hL : Ms w ad l) (hlen : l.length ≤ 9223372036854775807) (hT : L.Tb B w) : Calls Tryz.prog 13 #[.slice ad l.length c] w fun e w' => ∃ s F, e = .returned (.pointer (some ⟨s, 0, none⟩)) ∧ StR F w' s (setL l) ∧ (∀ b, F b → w.heap.size ≤ b ∧ b < w'.heap.size) ∧ Below w.heap.size w w' := by
  have HNW := hidden (newP B ad c l w hL hlen hT)
  have HN0 : Hid (∀ w1, Below w.heap.size w w1 → Calls Tryz.prog 47 #[.slice none 0 0] w1 (NewR w1 [])) := hidden (fun w1 hb => newP B none 0 [] w1 (Ms.nil _ _) (by simp) (hT.later hb))
  unfold setL
  generalize l.length = n at *
  clear hL hT hlen
  by_cases hok : newOk l = true
  · rw [if_pos hok]
    have HOK := hidden hok
    clear hok
    go_enter Tryz.func13, Tryz.ntmps13
    go_wp2_with (first
      | (go_at_call 47
         refine HNW.out.mono ?_
         rintro e w1 ⟨hb, ⟨_, s, F, rfl, hs, hF⟩ | ⟨hno, _⟩⟩
         rotate_left
         · exact absurd HOK.out (by rw [hno]; simp)
         have H1 := hidden (And.intro hb (And.intro hs hF))
         clear hb hs hF))
    go_ret
    exact ⟨s, F, by rfl, H1.out.2.1, fun b hb => ⟨H1.out.2.2 b hb, by obtain ⟨_, _, _, _, _, _, _, _, h7⟩ := H1.out.2.1; exact h7 b hb⟩, H1.out.1⟩
  · rw [if_neg hok]
    have HOK := hidden hok
    clear hok
    go_enter Tryz.func13, Tryz.ntmps13
    go_wp2_with (first
      | (go_at_call 47
         refine HNW.out.mono ?_
         rintro e w1 ⟨hb, ⟨hyes, _⟩ | ⟨_, rfl⟩⟩
         · exact absurd hyes HOK.out
         have H1 := hidden hb
         clear hb HNW)
      | (go_at_call 47
         refine (HN0.out w1 H1.out).mono ?_
         rintro e w2 ⟨hb, ⟨_, s, F, rfl, hs, hF⟩ | ⟨hno, _⟩⟩
         rotate_left
         · exact absurd hno (by unfold newOk; simp)
         have H2 := hidden (And.intro hb (And.intro hs hF))
         clear hb hs hF))
    go_ret
    exact ⟨s, F, by rfl, H2.out.2.1, fun b hb => ⟨Nat.le_trans H1.out.size (H2.out.2.2 b hb), by obtain ⟨_, _, _, _, _, _, _, _, h7⟩ := H2.out.2.1; exact h7 b hb⟩, H1.out.trans (H2.out.1.mono H1.out.size)⟩
/-- A new index. -/
theorem newIxP2 (w : World) (c : Col) (j : Nat) : Calls Tryz.prog 7 #[] w fun e w' => ∃ x eb rb c', e = .returned (.pointer (some ⟨x, 0, none⟩)) ∧ Ix w' c' j x eb rb (fun _ => []) ∧ (∀ i, i < w.heap.size → c' i = c i) ∧ (∀ i q, w.heap.size ≤ i → ¬ i = x → ¬ i = eb → ¬ i = rb → ¬ c' i = some q) ∧ w.heap.size ≤ eb ∧ eb < rb ∧ rb < x ∧ x < w'.heap.size ∧ Below w.heap.size w w' := by
  refine (newIxP w).mono ?_
  rintro e w' ⟨x, eb, rb, rfl, h1, h2, h3, h4, h5, h6, h7⟩
  have n1 : ¬ eb = x := by omega
  have n2 : ¬ rb = x := by omega
  have n3 : ¬ rb = eb := by omega
  refine ⟨x, eb, rb, fun i => if i = x then some (j, .box) else if i = eb then some (j, .ents) else if i = rb then some (j, .rolls) else if i < w.heap.size then c i else none, rfl, ?_, fun i hi => ?_, fun i q hi a b d => ?_, h5, h6, h7, h1.lt, h4⟩
  · refine ⟨h1, by simp, ⟨by simp [n1], [], h2, fun k => .inl ⟨rfl, ?_⟩⟩, ⟨fun _ _ => [], ⟨by simp [n2, n3], [], h3, fun t => .inl ⟨rfl, rfl, fun _ => rfl⟩⟩, fun t n => ⟨by simp, fun v => by simp⟩⟩, ⟨fun t l hl => (by simp at hl), fun t => (by simp), fun t => (by simp)⟩⟩
    unfold entF
    split
    · split <;> rfl
    · rfl
  · have a : ¬ i = x := by omega
    have b : ¬ i = eb := by omega
    have d : ¬ i = rb := by omega
    simp [a, b, d, hi]
  · have e : ¬ i < w.heap.size := by omega
    simp [a, b, d, e]
end Go.Proofs.YtgmdpbahcbhfjaaGreatDoor.X
/-
  Package index: what Drop takes away.
-/
namespace Go.Proofs.YtgmdpbahcbhfjaaGreatDoor.X
open Go.RowKit

section
variable {α : Type} [DecidableEq α]
theorem al_gone (l : List (α × Value)) (k : α) : al (rm l k) k = none := al_none (fun p hp e => by
  unfold rm at hp
  have := (List.mem_filter.1 hp).2
  simp only [decide_eq_true_eq] at this
  exact this e)
theorem al_kept {l : List (α × Value)} {k k' : α} (h : ¬ k' = k) : al (rm l k) k' = al l k' := by
  unfold al rm
  congr 1
  rw [List.find?_filter]
  congr 1
  funext p
  by_cases e : p.1 = k'
  · subst e; simp [h]
  · simp [e]
end
/-- A key that is taken away. -/
theorem Ents.del {w : World} {c : Col} {j eb : Nat} {E : Kx → List Nat} (h : Ents w c j eb E) (k : Kx) : ∃ w', (Builtin.delete_ #[81, 105] 0 #[.map (some eb), k.val]).run Tryz.prog w = .ok (.tuple #[]) w' ∧ Ents w' c j eb (eput E k []) ∧ Chg (fun i => i = eb) w w' := by
  obtain ⟨h1, l, h2, h3⟩ := h
  obtain ⟨w', r, m, ch, _⟩ := h2.drop (P := Tryz.prog) (ty := 0) ky105 Tryz.underlying81 k
  refine ⟨w', r, ⟨h1, _, m, fun k' => ?_⟩, ch⟩
  unfold eput
  by_cases e : k' = k
  · subst e
    rw [if_pos rfl, al_gone]
    exact .inl ⟨rfl, rfl⟩
  · rw [if_neg e, al_kept e]
    exact (h3 k').chg ch (fun i _ hi hq => by rw [hi, h1] at hq; cases hq) (fun _ _ _ => rfl)
/-- A roll that is taken away. -/
theorem Rols.del {w : World} {c : Col} {j rb : Nat} {R : Rr} {V : ByteArray → ByteArray → List ByteArray} (h : Rols w c j rb R V) (t : ByteArray) : ∃ w', (Builtin.delete_ #[82, 9] 0 #[.map (some rb), .string t]).run Tryz.prog w = .ok (.tuple #[]) w' ∧ Rols w' c j rb (rdrop R t) (fun t' n => if t' = t then [] else V t' n) ∧ Chg (fun i => i = rb) w w' := by
  obtain ⟨h1, l, h2, h3⟩ := h
  obtain ⟨w', r, m, ch, _⟩ := h2.drop (P := Tryz.prog) (ty := 0) ky9 Tryz.underlying82 t
  refine ⟨w', r, ⟨h1, _, m, fun t' => ?_⟩, ch⟩
  by_cases e : t' = t
  · subst e
    rw [al_gone]
    exact .inl ⟨rfl, by simp [rdrop], fun n => by simp⟩
  · rw [al_kept e]
    have e1 : rdrop R t t' = R t' := by unfold rdrop; rw [if_neg e]
    have e2 : (fun n => if t' = t then [] else V t' n) = V t' := by funext n; rw [if_neg e]
    show Ro w' c j t' (al l t') (rdrop R t t') (fun n => if t' = t then [] else V t' n)
    rw [e1, e2]
    refine (h3 t').chg ch (fun i _ hi => ?_) (fun _ _ => rfl)
    rw [hi, h1]
    refine ⟨by simp, by simp, by simp, by simp, fun n => by simp⟩
/-- Some of a tenant's entries are gone. -/
def DE (E : Kx → List Nat) (t : ByteArray) (E' : Kx → List Nat) : Prop := ∀ k, E' k = E k ∨ (k.t = t ∧ E' k = [])
theorem DE.del {E E' : Kx → List Nat} {t : ByteArray} (h : DE E t E') {k : Kx} (hk : k.t = t) : DE E t (eput E' k []) := fun k' => by
  unfold eput
  by_cases e : k' = k
  · rw [if_pos e]
    exact .inr ⟨by rw [e]; exact hk, rfl⟩
  · rw [if_neg e]
    exact h k'
theorem drop_ent {R : Rr} {V : ByteArray → ByteArray → List ByteArray} {t : ByteArray} {E' : Kx → List Nat} (hV : ValOk R V) (h : DE (entF R) t E') (h1 : ∀ k : Kx, k.t = t → k.v ∈ V t k.n → E' k = []) (h2 : ∀ k : Kx, k.t = t → k.n = em0 → k.v = em0 → E' k = []) : E' = entF (rdrop R t) := by
  funext k
  by_cases hk : k.t = t
  · have e1 : entF (rdrop R t) k = [] := by
      unfold entF rdrop
      rw [if_pos hk]
      split
      · split <;> rfl
      · rfl
    rw [e1]
    rcases h k with e | ⟨_, e⟩
    · by_cases hn : k.n = em0
      · by_cases hv : k.v = em0
        · exact h2 k hk hn hv
        · rw [e]
          unfold entF
          rw [if_pos hn, if_neg hv]
      · refine Classical.byContradiction fun hne => hne (h1 k hk ?_)
        rw [e] at hne
        unfold entF at hne
        rw [if_neg hn] at hne
        obtain ⟨i, hi⟩ := List.exists_mem_of_ne_nil _ hne
        obtain ⟨h3, h4⟩ := hasX_mem.1 hi
        rw [hk] at h3 h4
        refine ((hV t k.n).2 k.v).2 ⟨(R t)[i], List.getElem_mem h3, ?_⟩
        simpa [List.getD, List.getElem?_eq_getElem h3] using h4
    · exact e
  · have e1 : entF (rdrop R t) k = entF R k := by
      unfold entF rdrop
      rw [if_neg hk]
    rw [e1]
    rcases h k with e | ⟨e, _⟩
    · exact e
    · exact absurd e hk
/-- While a tenant is dropped. -/
structure DQ (w wx : World) (c : Col) (j eb r vb : Nat) (bl : List Value) (t : ByteArray) (R : Rr) (lv : List (ByteArray × Value)) (dn : List ByteArray) (cnt : Nat) (D : Kx → Prop) : Prop where
  mr : Mr Value.string wx vb r lv dn cnt
  en : ∃ E', Ents wx c j eb E' ∧ DE (entF R) t E' ∧ ∀ k, k.t = t → D k → E' k = []
  bx : Blk wx w.heap.size 103 bl
  ch : Chg (fun i => i = eb) w wx
  e1 : eb < w.heap.size
  e2 : ¬ vb = eb
  e3 : w.heap.size < r
  cr : c r = none
section
variable {w wx : World} {c : Col} {j eb r vb : Nat} {bl : List Value} {t : ByteArray} {R : Rr} {lv : List (ByteArray × Value)} {dn : List ByteArray} {cnt : Nat} {D : Kx → Prop}
theorem DQ.step {w2 : World} {dn' : List ByteArray} {cnt' : Nat} (h : DQ w wx c j eb r vb bl t R lv dn cnt D) (hm : Mr Value.string w2 vb r lv dn' cnt') (hc : Chg (fun i => i = r) wx w2) : DQ w w2 c j eb r vb bl t R lv dn' cnt' D := by
  have h1 := h.e1
  have h3 := h.e3
  refine ⟨hm, ?_, hc.blk h.bx (by omega), h.ch.trans hc (fun i hi e => by omega), h.e1, h.e2, h.e3, h.cr⟩
  obtain ⟨E', g1, g2⟩ := h.en
  exact ⟨E', g1.chg hc (by omega) (fun k i _ hi e => by rw [hi, h.cr] at e; cases e) (fun _ _ => rfl), g2⟩
theorem DQ.del (h : DQ w wx c j eb r vb bl t R lv dn cnt D) (k0 : Kx) (hk : k0.t = t) {D' : Kx → Prop} (hD : ∀ k, k.t = t → D' k → D k ∨ k = k0) : ∃ w3, (Builtin.delete_ #[81, 105] 0 #[.map (some eb), k0.val]).run Tryz.prog wx = .ok (.tuple #[]) w3 ∧ DQ w w3 c j eb r vb bl t R lv dn cnt D' := by
  have h1 := h.e1
  have h3 := h.e3
  obtain ⟨E', g1, g2, g3⟩ := h.en
  obtain ⟨w3, r3, g4, g5⟩ := g1.del k0
  refine ⟨w3, r3, h.mr.chg g5 h.e2 (by omega), ⟨_, g4, g2.del hk, fun k hkt hd => ?_⟩, g5.blk h.bx (by omega), h.ch.trans g5 (fun i _ e => e), h.e1, h.e2, h.e3, h.cr⟩
  unfold eput
  by_cases e : k = k0
  · rw [if_pos e]
  · rw [if_neg e]
    rcases hD k hkt hd with hd | hd
    · exact g3 k hkt hd
    · exact absurd hd e
end
end Go.Proofs.YtgmdpbahcbhfjaaGreatDoor.X
/-
  Package index: Drop.
-/
namespace Go.Proofs.YtgmdpbahcbhfjaaGreatDoor.X
open Go.RowKit

/-- What Drop leaves. -/
def DropV (w : World) (c : Col) (j x eb rb : Nat) (R : Rr) (t : ByteArray) (e : Ending) (w' : World) : Prop := e = .returned (.int .i64 ((R t).length : Int)) ∧ ∃ c', Ix w' c' j x eb rb (rdrop R t) ∧ Acc w c j w' c'
/-- The last steps. -/
theorem drop_end {w wx : World} {c : Col} {j x eb rb : Nat} {R : Rr} {V : ByteArray → ByteArray → List ByteArray} {t : ByteArray} {E' : Kx → List Nat} (ht : t.size ≤ maxLen) (h : Ix w c j x eb rb R) (hr : Rols w c j rb R V) (hV : ValOk R V) (hc : Chg (fun i => i = eb) w wx) (he : Ents wx c j eb E') (hd : DE (entF R) t E') (hall : ∀ k : Kx, k.t = t → k.v ∈ V t k.n → E' k = []) :
    wx.cell? ⟨x, 0, none⟩ = some (.map (some eb)) ∧ ∃ w3, (Builtin.delete_ #[81, 105] 0 #[.map (some eb), .agg #[.string t, .string ⟨#[]⟩, .string ⟨#[]⟩]]).run Tryz.prog wx = .ok (.tuple #[]) w3 ∧ w3.cell? ⟨x, 1, none⟩ = some (.map (some rb)) ∧ Chg (fun i => i = eb) wx w3 ∧
      ∃ w4, (Builtin.delete_ #[82, 9] 0 #[.map (some rb), .string t]).run Tryz.prog w3 = .ok (.tuple #[]) w4 ∧ Chg (fun i => i = rb) w3 w4 ∧ Ix w4 c j x eb rb (rdrop R t) ∧ Acc w c j w4 c := by
  have hxe : ¬ x = eb := fun e => by have h1 := h.box; rw [e, h.ents.1] at h1; cases h1
  have hxr : ¬ x = rb := fun e => by have h1 := h.box; rw [e, hr.1] at h1; cases h1
  have her : ¬ rb = eb := fun e => by have h1 := hr.1; rw [e, h.ents.1] at h1; cases h1
  have hB := hc.blk h.blk hxe
  have c0 := hB.cell 0
  simp only [List.getElem?_cons_zero] at c0
  obtain ⟨w3, r3, g4, g5⟩ := he.del (tenK t ht)
  have hB3 := g5.blk hB hxe
  have c1 := hB3.cell 1
  simp only [List.getElem?_cons_zero, List.getElem?_cons_succ] at c1
  have hc3 : Chg (fun i => i = eb) w w3 := hc.trans g5 (fun i _ e => e)
  have hr3 : Rols w3 c j rb R V := by
    obtain ⟨q1, l, q2, q3⟩ := hr
    exact ⟨q1, l, q2.chg hc3 her, fun t' => (q3 t').chg hc3 (fun i _ hi => by rw [hi, h.ents.1]; exact ⟨by simp, by simp, by simp, by simp, fun n => by simp⟩) (fun _ _ => rfl)⟩
  obtain ⟨w4, r4, g6, g7⟩ := hr3.del t
  have hE := drop_ent (E' := eput E' (tenK t ht) []) hV (hd.del rfl) (fun k hk hv => by
    unfold eput
    split
    · rfl
    · exact hall k hk hv) (fun k hk hn hv => by
    unfold eput
    rw [if_pos]
    obtain ⟨a, b, d, _⟩ := k
    simp only at hk hn hv
    subst hk hn hv
    rfl)
  rw [hE] at g4
  refine ⟨c0, w3, r3, c1, g5, w4, r4, g7, ⟨g7.blk hB3 hxr, h.box, g4.chg g7 (fun e => her e.symm) (fun k i _ hi e => by rw [hi, hr.1] at e; cases e) (fun _ _ => rfl), ⟨_, g6, valOk_drop hV⟩, rOk_drop h.ok⟩, fun _ _ => rfl, (hc3.mono (fun i _ e => by have e' : i = eb := e; exact ⟨.ents, by rw [e']; exact h.ents.1⟩)).trans g7 (fun i _ e => by have e' : i = rb := e; exact ⟨.rolls, by rw [e']; exact hr.1⟩)⟩
set_option maxRecDepth 100000 in
set_option maxHeartbeats 4000000 in
theorem drop_none {w : World} {c : Col} {j x eb rb : Nat} {R : Rr} (h : Ix w c j x eb rb R) (t : ByteArray) (ht : t.size ≤ maxLen) (hS : R t = []) : Calls Tryz.prog 15 #[.pointer (some ⟨x, 0, none⟩), .string t] w (DropV w c j x eb rb R t) := by
  obtain ⟨V, hr, hV⟩ := h.rols
  have lk : (Instr.lookup 82 (.map (some rb)) (.string t) false).run Tryz.prog w = .ok (.agg #[.slice none 0 0, .map none, .map none]) w := by
    obtain ⟨_, lr, hl, hR⟩ := hr
    rcases hR t with ⟨e, _⟩ | ⟨sv, nb, vb, e, hne, _⟩
    · rw [hl.look (P := Tryz.prog) ky9 Tryz.underlying82 (zero103 w) t false, e]
      rfl
    · exact absurd hS hne
  have hvn : ∀ n, V t n = [] := fun n => by
    rw [List.eq_nil_iff_forall_not_mem]
    intro v hv
    obtain ⟨l, hl, _⟩ := ((hV t n).2 v).1 hv
    rw [hS] at hl
    simp at hl
  have c1 := h.blk.cell 1
  simp only [List.getElem?_cons_zero, List.getElem?_cons_succ] at c1
  unfold DropV
  rw [hS]
  have HH := hidden h
  have HR := hidden hr
  have HV := hidden hV
  have HVN := hidden hvn
  have HTT := hidden ht
  clear h hr hV hvn ht hS
  go_enter Tryz.func15, Tryz.ntmps15
  go_upto_region 2 with (first
    | (refine wpList_alloc_blk rfl 103 rfl 5 rfl [.slice none 0 0, .map none, .map none] info103 ?_; intro w1 B1 bl1 hz1; have HB1 := hidden B1; have BL1 := hidden bl1; have HZ := hidden hz1; clear B1 bl1 hz1)
    | (refine wpList_store_blk rfl 103 (.tmp 5) (.tmp 15) rfl rfl w.heap.size (l := [.slice none 0 0, .map none, .map none]) HB1.out rfl rfl rfl (by rw [size103]; rfl) (by intro v hv; simp at hv; rcases hv with rfl | rfl | rfl <;> rfl) ?_
       obtain ⟨w2, hw2⟩ : ∃ w2, w1.setCells w.heap.size 0 [.slice none 0 0, .map none, .map none] = w2 := ⟨_, rfl⟩
       have B2 : Hid (Blk w2 w.heap.size 103 [.slice none 0 0, .map none, .map none]) := hidden (by rw [← hw2]; exact blk_stored HB1.out rfl)
       have BL2 : Hid (Below w.heap.size w w2) := hidden (by rw [← hw2]; exact BL1.out.trans (below_sets (Nat.le_refl _) _ _ _))
       rw [hw2]
       clear hw2))
  have b2 := B2.out.cell 2
  simp only [List.getElem?_cons_zero, List.getElem?_cons_succ] at b2
  have r1 := run_range_nilMap (P := Tryz.prog) w2 101 9 69 Tryz.underlying101
  have r2 := run_next_nilMap (P := Tryz.prog) w2 0 0 0 #[]
  obtain ⟨w3, hw3⟩ : ∃ w3, w2.alloc (.mapIter none 0 #[] 0) = w3 := ⟨_, rfl⟩
  rw [hw3] at r1 r2
  have b3 : Below w2.heap.size w2 w3 := by rw [← hw3]; exact (Below.refl _ _).alloc (Nat.le_refl _) _
  clear hw3
  have hb3 : Below w.heap.size w w3 := BL2.out.trans (b3.mono BL2.out.size)
  have hch : Chg (fun i => i = eb) w w3 := Chg.of_below hb3
  obtain ⟨c0, w4, r4, c4, g4, w5, r5, g5, hix, hac⟩ := drop_end HTT.out HH.out HR.out HV.out hch (HH.out.ents.later hb3) (fun k => .inl rfl) (fun k hk hv => by rw [HVN.out k.n] at hv; simp at hv)
  have hbx : Blk w5 w.heap.size 103 [.slice none 0 0, .map none, .map none] := g5.blk (g4.blk (B2.out.later b3) (fun e => by
    have := HH.out.ents
    obtain ⟨_, l, hl, _⟩ := this
    have := hl.lt
    omega)) (fun e => by
    obtain ⟨_, l, hl, _⟩ := HR.out
    have := hl.lt
    omega)
  have d0 := hbx.cell 0
  simp only [List.getElem?_cons_zero] at d0
  have HE := hidden (And.intro hix hac)
  clear hix hac hbx g4 g5 hch hb3 b3 HR HV HVN HH HTT B2 BL2 HB1 BL1 HZ c1 lk
  go_wp2_with fail
  go_loopw [6, 7, 9] (fun s6 s7 s9 wx => wx = w3) (fun _ _ _ _ => 0)
  case atStart => rfl
  case round =>
    subst hrel
    go_wp2_with (refine wpList_build_to rfl 105 #[(0, .tmp 43)] rfl [(0, .string t)] #[.string t, .string ⟨#[]⟩, .string ⟨#[]⟩] rfl (built105t t) ?_)
    go_ret
    exact ⟨rfl, c, HE.out.1, HE.out.2⟩
end Go.Proofs.YtgmdpbahcbhfjaaGreatDoor.X
/-
  Package index: Drop of a tenant that has series.
-/
namespace Go.Proofs.YtgmdpbahcbhfjaaGreatDoor.X
open Go.RowKit

set_option maxRecDepth 100000 in
set_option maxHeartbeats 8000000 in
theorem drop_some {w : World} {c0 : Col} {j x eb rb : Nat} {R : Rr} (h0 : Ix w c0 j x eb rb R) (t : ByteArray) (ht : t.size ≤ maxLen) (hS : ¬ R t = []) : Calls Tryz.prog 15 #[.pointer (some ⟨x, 0, none⟩), .string t] w (DropV w c0 j x eb rb R t) := by
  obtain ⟨c, h, hcc, hfr⟩ := h0.fresh
  have HCC : Hid (∀ w', Ix w' c j x eb rb (rdrop R t) → Acc w c j w' c → ∃ c', Ix w' c' j x eb rb (rdrop R t) ∧ Acc w c0 j w' c') := hidden (fun w' h1 h2 => ⟨c, h1, hcc, h2.2.mono (fun i hi ⟨q, hq⟩ => ⟨q, by rw [← hcc i hi]; exact hq⟩)⟩)
  obtain ⟨V, lr, ad, cap, nb, vb, hr, hV, hl, ha, ho, hsr, hnu, hva⟩ := h.known hS
  have lk : (Instr.lookup 82 (.map (some rb)) (.string t) false).run Tryz.prog w = .ok (.agg #[.slice ad (R t).length cap, .map (some nb), .map (some vb)]) w := by
    rw [hl.look (P := Tryz.prog) ky9 Tryz.underlying82 (zero103 w) t false, ha]
    rfl
  obtain ⟨hv1, lv, hlv, hvw⟩ := hva
  have hebl : eb < w.heap.size := by obtain ⟨_, l, hl, _⟩ := h.ents; exact hl.lt
  have hve : ¬ vb = eb := fun e => by rw [e, h.ents.1] at hv1; cases hv1
  have hvr : ¬ rb = vb := fun e => by have := hr.1; rw [e, hv1] at this; cases this
  have HVR : Hid (∀ a v, (a, v) ∈ lv → ∃ a2 c2, v = .slice a2 (V t a).length c2 ∧ (V t a).length ≤ 9223372036854775807 ∧ ∀ wx, Chg (fun i => i = eb) w wx → Txs wx a2 (V t a)) := hidden (fun a v hm => by
    have hav := al_of_mem hlv.nodup hm
    have hw := hvw a
    rw [hav] at hw
    obtain ⟨g1, g2⟩ := hw.owns
    have g1' : w.ownsRow 0 9 1 v (V t a).length (strs (V t a)) := g1
    obtain ⟨a2, c2, rfl, _, _, h8, h9⟩ := owns_form2 g1'
    unfold maxLen at h9
    exact ⟨a2, c2, rfl, by omega, fun wx hc => txs_of_owns (hc.owns g1' (fun g hg e => by
      have := g2 g hg
      rw [e, h.ents.1] at this
      cases this))⟩)
  have HVZ : Hid (∀ a, ∀ v ∈ V t a, a.size ≤ maxLen ∧ v.size ≤ maxLen) := hidden (fun a v hv => by
    obtain ⟨l, h1, h2⟩ := ((hV t a).2 v).1 hv
    have := fits_name ((right_fits (h.ok.right t l h1)).2.2 _ h2)
    simp only at this
    unfold maxLen
    omega)
  have HLV : Hid (∀ n, ¬ V t n = [] → ∃ v, (n, v) ∈ lv) := hidden (fun n hn => by
    rcases hvw n with ⟨_, e⟩ | ⟨v, e, _⟩
    · exact absurd e hn
    · exact ⟨v, al_mem e⟩)
  have hxe : ¬ x = eb := fun e => by have h1 := h.box; rw [e, h.ents.1] at h1; cases h1
  have HXB : Hid (∀ wx, Chg (fun i => i = eb) w wx → Blk wx x 84 [.map (some eb), .map (some rb)]) := hidden (fun wx hc => hc.blk h.blk hxe)
  have c1 := h.blk.cell 1
  simp only [List.getElem?_cons_zero, List.getElem?_cons_succ] at c1
  unfold DropV
  have HH := hidden h
  have HR := hidden hr
  have HV := hidden hV
  have HTT := hidden ht
  have HLVM := hidden hlv
  have HFR := hidden hfr
  have hrl : rb < w.heap.size := hl.lt
  clear h h0 hr hV ht hS hl ha ho hsr hnu hvw hcc hfr hlv
  obtain ⟨N, hN⟩ : ∃ N, (R t).length = N := ⟨_, rfl⟩
  rw [hN] at lk ⊢
  clear hN
  go_enter Tryz.func15, Tryz.ntmps15
  go_upto_region 2 with (first
    | (refine wpList_alloc_blk rfl 103 rfl 5 rfl [.slice none 0 0, .map none, .map none] info103 ?_; intro w1 B1 bl1 hz1; have HB1 := hidden B1; have BL1 := hidden bl1; have HZ := hidden hz1; clear B1 bl1 hz1)
    | (refine wpList_store_blk rfl 103 (.tmp 5) (.tmp 15) rfl rfl w.heap.size (l := [.slice ad N cap, .map (some nb), .map (some vb)]) HB1.out rfl rfl rfl (by rw [size103]; rfl) (by intro v hv; simp at hv; rcases hv with rfl | rfl | rfl <;> rfl) ?_
       obtain ⟨w2, hw2⟩ : ∃ w2, w1.setCells w.heap.size 0 [.slice ad N cap, .map (some nb), .map (some vb)] = w2 := ⟨_, rfl⟩
       have B2 : Hid (Blk w2 w.heap.size 103 [.slice ad N cap, .map (some nb), .map (some vb)]) := hidden (by rw [← hw2]; exact blk_stored HB1.out rfl)
       have BL2 : Hid (Below w.heap.size w w2) := hidden (by rw [← hw2]; exact BL1.out.trans (below_sets (Nat.le_refl _) _ _ _))
       rw [hw2]
       clear hw2))
  have b2 := B2.out.cell 2
  simp only [List.getElem?_cons_zero, List.getElem?_cons_succ] at b2
  obtain ⟨w3, r1, m1, b3⟩ := (HLVM.out.later BL2.out).range (P := Tryz.prog) Tryz.underlying101
  obtain ⟨r, hrr⟩ : ∃ r, w2.heap.size = r := ⟨_, rfl⟩
  rw [hrr] at r1 m1
  have hb3 : Below w.heap.size w w3 := BL2.out.trans (b3.mono BL2.out.size)
  have hr3 : w.heap.size < r := by rw [← hrr]; exact B2.out.lt
  have HDQ : Hid (DQ w w3 c j eb r vb [.slice ad N cap, .map (some nb), .map (some vb)] t R lv [] lv.length (fun k => k.n ∈ ([] : List ByteArray) ∧ k.v ∈ V t k.n)) := hidden ⟨m1, ⟨_, HH.out.ents.later hb3, fun k => .inl rfl, fun k _ hk => by simp at hk⟩, B2.out.later b3, Chg.of_below hb3, hebl, hve, hr3, HFR.out r (by omega)⟩
  clear hrr m1 b3 hb3 HB1 BL1 HZ B2 BL2 HFR HLVM lk c1
  go_wp2_with fail
  go_loopw [6, 7, 9] (fun s6 s7 s9 wx => Hid (∃ dn cnt, DQ w wx c j eb r vb [.slice ad N cap, .map (some nb), .map (some vb)] t R lv dn cnt (fun k => k.n ∈ dn ∧ k.v ∈ V t k.n))) (fun _ _ _ wx => wx.rangeLeft vb r)
  case atStart => exact hidden ⟨_, _, HDQ.out⟩
  case round =>
    clear HDQ b2
    rename World => wx
    obtain ⟨dn, cnt, hQ⟩ := hrel.out
    rcases hQ.mr.next (P := Tryz.prog) ky9 0 with ⟨hall, hn⟩ | ⟨a, v, w4, cnt', hav, hnd, hcnt, hn, hM2, hc2, hent⟩
    · obtain ⟨E', g1, g2, g3⟩ := hQ.en
      obtain ⟨c0', w4, r4, c4, g4, w5, r5, g5, hix, hac⟩ := drop_end HTT.out HH.out HR.out HV.out hQ.ch g1 g2 (fun k hk hv => g3 k hk ⟨by
        obtain ⟨v, hm⟩ := HLV.out k.n (fun e => by rw [e] at hv; simp at hv)
        exact hall _ hm, hv⟩)
      have hbx : Blk w5 w.heap.size 103 [.slice ad N cap, .map (some nb), .map (some vb)] := g5.blk (g4.blk hQ.bx (by omega)) (by omega)
      have d0 := hbx.cell 0
      simp only [List.getElem?_cons_zero] at d0
      have HE := HCC.out _ hix hac
      have HE := hidden HE
      clear hix hac hbx g1 g2 g3 g4 g5 hall hQ hrel HR HV HH HTT HCC HVR HVZ HLV HXB
      go_wp2_with (refine wpList_build_to rfl 105 #[(0, .tmp 43)] rfl [(0, .string t)] #[.string t, .string ⟨#[]⟩, .string ⟨#[]⟩] rfl (built105t t) ?_)
      go_ret
      exact ⟨rfl, HE.out⟩
    · obtain ⟨a2, c2, rfl, hl9, htx⟩ := HVR.out a v hav
      have HTX := hidden htx
      have HQ2 := hidden (hQ.step hM2 hc2)
      have HLE : Hid (wx.rangeLeft vb r = cnt) := hidden hQ.mr.left
      have hVZ := hidden (HVZ.out a)
      obtain ⟨Vt, hVt⟩ : ∃ Vt, V t a = Vt := ⟨_, rfl⟩
      obtain ⟨M, hM⟩ : ∃ M, Vt.length = M := ⟨_, rfl⟩
      rw [hVt] at HTX hVZ hl9 hn hent
      rw [hM] at hl9 hn hent
      have HM := hidden hM
      have HVT := hidden hVt
      clear hQ hM2 hc2 hrel htx hav hnd HVR HVZ HLV hM hVt HH HR HV
      go_wp2_with fail
      go_loopw [9, 26] (fun s9 s26 wy => ∃ i : Nat, s26 = .int .i64 (i : Int) ∧ i ≤ M ∧ Hid (DQ w wy c j eb r vb [.slice ad N cap, .map (some nb), .map (some vb)] t R lv (a :: dn) cnt' (fun k => (k.n ∈ dn ∧ k.v ∈ V t k.n) ∨ (k.n = a ∧ k.v ∈ Vt.take i)))) (fun _ s26 _ => M - (intOf s26).toNat)
      case atStart => exact ⟨0, rfl, by omega, hidden ⟨HQ2.out.mr, by
        obtain ⟨E', g1, g2, g3⟩ := HQ2.out.en
        exact ⟨E', g1, g2, fun k hk hd => g3 k hk (by
          rcases hd with hd | ⟨_, hd⟩
          · exact hd
          · simp at hd)⟩, HQ2.out.bx, HQ2.out.ch, HQ2.out.e1, HQ2.out.e2, HQ2.out.e3, HQ2.out.cr⟩⟩
      case round =>
        rename World => wy
        obtain ⟨i, rfl, hin, HQI⟩ := hrel
        by_cases hlt : i < M
        · have hltz : (i : Int) < (M : Int) := by omega
          obtain ⟨v, hv⟩ : ∃ v, Vt[i]? = some v := ⟨Vt[i]'(by rw [HM.out]; exact hlt), List.getElem?_eq_getElem _⟩
          obtain ⟨g, off, rfl, hgl, hg0⟩ := HTX.out wy HQI.out.ch i v hv
          obtain ⟨hz1, hz2⟩ := hVZ.out v (List.mem_of_getElem? hv)
          have hxb := (HXB.out wy HQI.out.ch).cell 0
          simp only [List.getElem?_cons_zero] at hxb
          have hp := HTT.out
          obtain ⟨w6, r6, q6⟩ := HQI.out.del ⟨t, a, v, HTT.out, hz1, hz2⟩ rfl (D' := fun k => (k.n ∈ dn ∧ k.v ∈ V t k.n) ∨ (k.n = a ∧ k.v ∈ Vt.take (i + 1))) (fun k hk hd => by
            rcases hd with hd | ⟨h1, h2⟩
            · exact .inl (.inl hd)
            · rw [List.take_add_one, hv, List.mem_append] at h2
              rcases h2 with h2 | h2
              · exact .inl (.inr ⟨h1, h2⟩)
              · simp at h2
                obtain ⟨b1, b2, b3, _⟩ := k
                simp only at hk h1 h2
                subst hk h1 h2
                exact .inr rfl)
          have HQ6 := hidden q6
          have r6' : (Builtin.delete_ #[81, 105] 0 #[.map (some eb), .agg #[.string t, .string a, .string v]]).run Tryz.prog wy = .ok (.tuple #[]) w6 := r6
          clear q6 r6 hv hz1 hz2 HQI HTX hVZ HXB hp
          go_wp2_with (refine wpList_build_to rfl 105 #[(0, .tmp 34), (1, .tmp 35), (2, .tmp 36)] rfl [(0, .string t), (1, .string a), (2, .string v)] #[.string t, .string a, .string v] rfl (built105f t a v) ?_)
          refine ⟨⟨i + 1, (by rw [Int.natCast_add, Int.natCast_one]), by omega, HQ6⟩, ?_⟩
          simp [intOf]
          omega
        · have hltz : ¬ (i : Int) < (M : Int) := by omega
          have hiM : i = M := by omega
          go_wp2_with fail
          have HF : Hid (DQ w wy c j eb r vb [.slice ad N cap, .map (some nb), .map (some vb)] t R lv (a :: dn) cnt' (fun k => k.n ∈ (a :: dn) ∧ k.v ∈ V t k.n)) := hidden ⟨HQI.out.mr, by
            obtain ⟨E', g1, g2, g3⟩ := HQI.out.en
            refine ⟨E', g1, g2, fun k hk hd => g3 k hk ?_⟩
            obtain ⟨h1, h2⟩ := hd
            rcases List.mem_cons.1 h1 with e | e
            · right
              rw [e, HVT.out] at h2
              rw [hiM, ← HM.out, List.take_length]
              exact ⟨e, h2⟩
            · exact .inl ⟨e, h2⟩, HQI.out.bx, HQI.out.ch, HQI.out.e1, HQI.out.e2, HQI.out.e3, HQI.out.cr⟩
          refine ⟨hidden ⟨_, _, HF.out⟩, ?_⟩
          rw [HF.out.mr.left, HLE.out]
          exact hcnt
/-- Drop. -/
theorem dropP {w : World} {c : Col} {j x eb rb : Nat} {R : Rr} (h : Ix w c j x eb rb R) (t : ByteArray) (ht : t.size ≤ maxLen) : Calls Tryz.prog 15 #[.pointer (some ⟨x, 0, none⟩), .string t] w (DropV w c j x eb rb R t) := by
  by_cases hS : R t = []
  · exact drop_none h t ht hS
  · exact drop_some h t ht hS
end Go.Proofs.YtgmdpbahcbhfjaaGreatDoor.X
