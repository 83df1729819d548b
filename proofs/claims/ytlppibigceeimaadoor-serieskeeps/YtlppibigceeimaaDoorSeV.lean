import Derived.Test.YtlppibigceeimaaDoorSeT
/-
  Package series: since, eachIn, Range.
-/
namespace Go.Proofs.YtlppibigceeimaaDoor
open Go.RowKit
set_option linter.unusedVariables false
set_option linter.unusedSimpArgs false

theorem SlI.drop {w : World} {g off : Nat} {l : List Nat} (h : SlI w (some ⟨g, off, none⟩) l) (i : Nat) : SlI w (some ⟨g, off + i, none⟩) (l.drop i) := by
  refine ⟨fun h0 => ?_⟩
  obtain ⟨b, o2, e, hlt, hc⟩ := h.at' (by rintro rfl; simp at h0)
  cases e
  refine ⟨g, off + i, rfl, hlt, fun j s hs => ?_⟩
  rw [List.getElem?_drop] at hs
  rw [Nat.add_assoc]
  exact hc (i + j) s hs
set_option maxRecDepth 100000 in
set_option maxHeartbeats 4000000 in
theorem sinceP (S p n : Nat) (f : Int) (F : Nat → Prop) (st : K.Sx) (Z : ByteArray → List En) (w : World) (h : SQ F w S p n st Z) (hG : Gv w) (hlo : 2 ≤ w.heap.size) (ad : Option Addr) (M c : Nat) (sl : List Nat) (hM : sl.length = M) (hM9 : M ≤ 1000000) (hr : w.ownsRow 0 3 1 (.slice ad M c) M (cI sl)) :
    Calls Tryd.prog 24 #[.pointer (some ⟨S, 0, none⟩), .slice ad M c, .int .i64 f] w fun e w' => ∃ i ad' c', e = .returned (.slice ad' (sl.drop i).length c') ∧ (∀ wy : World, wy.ownsRow 0 3 1 (.slice ad M c) M (cI sl) → SlI wy ad' (sl.drop i)) ∧ (i = 0 ∨ ∃ s, sl[i]? = some s ∧ bgn (samV st n (s : Int)) f = false) ∧ Below w.heap.size w w' := by
  by_cases h2 : M < 2
  · have HS := hidden (sli_owns hr)
    have h3 : (M : Int) < 2 := by omega
    have HM := hidden hM
    clear h hG hlo hr hM
    go_enter Tryd.func24, Tryd.ntmps24
    go_wp2_with fail
    go_ret
    have bl : ∀ o1 o2, Below w.heap.size w ((w.alloc o1).alloc o2) := fun o1 o2 => ((Below.refl _ _).alloc (Nat.le_refl _) _).alloc (by simp) _
    refine ⟨0, ad, c, by rw [List.drop_zero, HM.out]; rfl, (fun wy hy => by rw [List.drop_zero]; exact sli_owns hy), .inl rfl, bl _ _⟩
  · obtain ⟨g, rfl, _⟩ := owns_ad hr (by omega)
    have HR := hidden hr
    have hcap := owns_cap hr
    have HS := hidden (sli_owns hr)
    have HM := hidden hM
    obtain ⟨N, rfl⟩ : ∃ N, M = N + 1 := ⟨M - 1, by omega⟩
    have hc1 : N + 1 ≤ c := hcap.2.1
    have hc2 : c ≤ 9223372036854775807 := by have := hcap.2.2.1; unfold maxLen at this; omega
    have h3 : ¬ (N : Int) + 1 < 2 := by omega
    have h4 : ¬ c = 1 := by omega
    have HQ := hidden (And.intro h (And.intro hG hlo))
    have hlt := owns_lt hr g rfl
    clear h hG hlo hr hM hcap
    go_enter Tryd.func24, Tryd.ntmps24
    go_wp2_with fail
    obtain ⟨w1, hw1⟩ : ∃ w1, w.alloc (.cells #[.pointer (some ⟨S, 0, none⟩)] 30) = w1 := ⟨_, rfl⟩
    obtain ⟨w2, hw2⟩ : ∃ w2, w1.alloc (.cells #[.int .i64 f] 2) = w2 := ⟨_, rfl⟩
    obtain ⟨w3, hw3⟩ : ∃ w3, w2.alloc (.cells #[.slice (some ⟨g, 1, none⟩) N (c - 1)] 23) = w3 := ⟨_, rfl⟩
    have B01 : Below w.heap.size w w1 := by rw [← hw1]; exact (Below.refl _ _).alloc (Nat.le_refl _) _
    have B12 : Below w1.heap.size w1 w2 := by rw [← hw2]; exact (Below.refl _ _).alloc (Nat.le_refl _) _
    have B23 : Below w2.heap.size w2 w3 := by rw [← hw3]; exact (Below.refl _ _).alloc (Nat.le_refl _) _
    have z1 : w1.heap.size = w.heap.size + 1 := by rw [← hw1]; simp
    have z2 : w2.heap.size = w.heap.size + 1 + 1 := by rw [← hw2]; simp [z1]
    have k1 : Blk w1 w.heap.size 30 [.pointer (some ⟨S, 0, none⟩)] := by rw [← hw1]; exact Blk.new w 30 _
    have k2 : Blk w2 (w.heap.size + 1) 2 [.int .i64 f] := by rw [← hw2, ← z1]; exact Blk.new w1 2 _
    have k3 : Blk w3 (w.heap.size + 1 + 1) 23 [.slice (some ⟨g, 1, none⟩) N (c - 1)] := by rw [← hw3, ← z2]; exact Blk.new w2 23 _
    have B3 : Below w.heap.size w w3 := (B01.trans (B12.mono B01.size)).trans (B23.mono (Nat.le_trans B01.size B12.size))
    have H3 := hidden (And.intro ((k1.later B12).later B23) (And.intro (k2.later B23) (And.intro k3 B3)))
    have HS3 := hidden (HS.out.later B3)
    rw [hw1, hw2, hw3]
    clear hw1 hw2 hw3 B01 B12 B23 z1 z2 k1 k2 k3 B3
    have hsN : ∀ i, i < N → ∃ s, sl[i + 1]? = some s := fun i hi => ⟨sl[i + 1]'(by have := HM.out; omega), by simp⟩
    refine (searchP N w.heap.size (w.heap.size + 1 + 1) (w.heap.size + 1) (fun i => bgn (samV st n ((sl.getD (i + 1) 0 : Nat) : Int)) f) (fun wx => Below w3.heap.size w3 wx) w3 (by omega) (Below.refl _ _) (fun a w => by kernel_rfl) (fun i wx hi hT => ?_)).mono ?_
    · obtain ⟨s, hs⟩ := hsN i hi
      have e1 : sl.getD (i + 1) 0 = s := by simp [List.getD, hs]
      simp only [e1]
      have hb3 : Below w.heap.size w wx := H3.out.2.2.2.trans (hT.mono H3.out.2.2.2.size)
      have hcell : wx.cell? ⟨g, 1 + i, none⟩ = some (.int .i64 (s : Int)) := by
        obtain ⟨b, off, e, _, hc⟩ := (HS.out.later hb3).at' (by rintro rfl; simp at hs)
        cases e
        have := hc (i + 1) s hs
        rw [Nat.zero_add] at this
        rw [Nat.add_comm]
        exact this
      refine (closP S p n s i N (c - 1) w.heap.size (w.heap.size + 1 + 1) (w.heap.size + 1) g 1 f F st Z wx (HQ.out.1.later hb3) (HQ.out.2.1.later hb3) (Nat.le_trans HQ.out.2.2 hb3.size) (H3.out.1.later hT) (H3.out.2.2.1.later hT) (H3.out.2.1.later hT) hi (by omega) hcell).mono ?_
      rintro e w' ⟨rfl, hb⟩
      exact ⟨rfl, hT.trans (hb.mono hT.size)⟩
    · rintro e w4 ⟨j, rfl, hj, hj1, _, hT⟩
      have B4 : Hid (Below w.heap.size w w4) := hidden (H3.out.2.2.2.trans (hT.mono H3.out.2.2.2.size))
      have HJ := hidden hj1
      have h5 : ¬ c = j := by omega
      have h6 : (j : Int) ≤ (N : Int) + 1 := by omega
      have h7 : j ≤ N + 1 := by omega
      have h8 : ¬ (N : Int) + 1 < (j : Int) := by omega
      clear hT hj1
      go_wp2_with fail
      go_ret
      have e9 : (sl.drop j).length = N + 1 - j := by rw [List.length_drop, HM.out]
      refine ⟨j, _, _, by rw [e9]; rfl, ?_, ?_, B4.out⟩
      · intro wy hy
        have := (sli_owns hy).drop j
        rw [Nat.zero_add] at this
        exact this
      · rcases HJ.out with e | e
        · exact .inl e
        · by_cases h0 : j = 0
          · exact .inl h0
          · right
            obtain ⟨s, hs⟩ := hsN (j - 1) (by omega)
            have e1 : j - 1 + 1 = j := by omega
            rw [e1] at hs
            refine ⟨s, hs, ?_⟩
            rw [e1] at e
            simpa [List.getD, hs] using e

end Go.Proofs.YtlppibigceeimaaDoor

/-
  Package series: eachIn, Range.
-/
namespace Go.Proofs.YtlppibigceeimaaDoor
open Go.RowKit
set_option linter.unusedVariables false
set_option linter.unusedSimpArgs false

theorem FS.moved {w : World} {b : Nat} {rb rb' : Option Nat} (h : Moved w rb rb') {i : Nat} (hi : FS b rb' i) : FS b rb i ∨ w.heap.size ≤ i := by
  rcases hi with rfl | hi
  · exact .inl (.inl rfl)
  · rcases h with rfl | ⟨g, rfl, hg⟩
    · exact .inl (.inr hi)
    · cases hi; exact .inr hg
/-- A span's state behind some takes, from a world on. -/
def SPm (w : World) (base b : Nat) (f t : Int) (rb : Option Nat) (s : List Sm) (wx : World) : Prop := ∃ rb', SPn wx base b f t s rb' ∧ Chg (FS b rb) w wx ∧ Moved w rb rb'
theorem SPm.later {w wx wy : World} {base b : Nat} {f t : Int} {rb : Option Nat} {s : List Sm} (h : SPm w base b f t rb s wx) (hb : Below wx.heap.size wx wy) : SPm w base b f t rb s wy := by
  obtain ⟨rb', h1, h2, h3⟩ := h
  exact ⟨rb', h1.later hb, h2.trans (Chg.of_below (F := FS b rb) hb) (fun _ _ e => e), h3⟩
theorem SPm.trans {w wx wy : World} {base b : Nat} {f t : Int} {rb : Option Nat} {s s' : List Sm} (h : SPm w base b f t rb s wx) (hs : ∀ rb', SPn wx base b f t s rb' → SPm wx base b f t rb' s' wy) : SPm w base b f t rb s' wy := by
  obtain ⟨rb', h1, h2, h3⟩ := h
  obtain ⟨rb2, k1, k2, k3⟩ := hs rb' h1
  refine ⟨rb2, k1, h2.trans k2 (fun i hi e => ?_), h3.trans k3 h2.size⟩
  rcases FS.moved h3 e with e | e
  · exact e
  · omega
theorem eachSpan (w : World) (base b : Nat) (f t : Int) (s : List Sm) (rb : Option Nat) (ad : Option Addr) (N c : Nat) (l : List Sm) (h : SPn w base b f t s rb) (hL : Ss w ad l) (hne : ∀ x, ad = some x → l ≠ [] → ¬ FS b rb x.block) (hN : l.length = N) (hN9 : s.length + N ≤ 1000000000) (hbs : base ≤ w.heap.size) :
    Calls Tryd.prog 27 #[.slice ad N c, .func (.func 25) #[.pointer (some ⟨b, 0, none⟩)] #[]] w fun e w' => e = .returned (.bool (foldE (spS f t) l s).1) ∧ SPm w base b f t rb (foldE (spS f t) l s).2 w' := by
  refine eachP 25 (.pointer (some ⟨b, 0, none⟩)) (spS f t) (SPm w base b f t rb) ad N c l s w (fun a w => by kernel_rfl) hN (by omega) hL.sz ⟨rb, h, Chg.refl _ _, .inl rfl⟩
    (fun s' wx wy h1 hb => h1.later hb)
    (fun s' wx ⟨rb', h1, h2, h3⟩ => by
      refine ⟨hL.sz, fun h0 => ?_⟩
      obtain ⟨b', off, e, hlt, hc⟩ := hL.at' h0
      have hbt : ¬ FS b rb b' := hne _ e h0
      refine ⟨b', off, e, Nat.lt_of_lt_of_le hlt h2.size, fun i x hx => ?_⟩
      have hbb := h2.block b' hlt hbt
      have e1 : ∀ j, wx.cell? ⟨b', j, none⟩ = w.cell? ⟨b', j, none⟩ := fun j => World.cell?_of_block hbb
      rw [e1, e1]
      exact hc i x hx)
    (fun i x wx hx hox hT => ?_)
  have hT0 := hT
  obtain ⟨rb', h1, h2, h3⟩ := hT
  have hlen := sp_len f t (l.take i) s
  have hi := (List.getElem?_eq_some_iff.1 hx).1
  rw [List.length_take] at hlen
  refine (spTakeP wx base b f t _ x rb' h1 hox (by omega) (Nat.le_trans hbs h2.size)).mono ?_
  rintro e w' ⟨rfl, rb2, k1, k2, k3⟩
  exact ⟨rfl, hT0.trans (fun rb9 h9 => by
    have : rb9 = rb' := by
      obtain ⟨v9, a0, a1, _⟩ := h9
      obtain ⟨v8, b0, b1, _⟩ := h1
      unfold Blk at a1 b1
      rw [a1] at b1
      simp only [Option.some.injEq, Obj.cells.injEq, List.toArray_inj, List.cons.injEq] at b1
      rw [← a0, ← b0, show v9 = v8 by simpa using b1]
    subst this
    exact ⟨rb2, k1, k2, k3⟩)⟩

/-- The samples in some slots. -/
def gsOf (st : K.Sx) (n : Nat) (sl : List Nat) : List (List Sm) := sl.map fun (s : Nat) => samV st n (s : Int)
set_option maxRecDepth 100000 in
set_option maxHeartbeats 4000000 in
theorem eachInP (S p n : Nat) (f t : Int) (F : Nat → Prop) (st : K.Sx) (Z : ByteArray → List En) (w0 w : World) (h : SQ F w0 S p n st Z) (hG : Gv w0) (hlo : 2 ≤ w0.heap.size) (base b : Nat) (rb : Option Nat) (hP : SPn w base b f t [] rb) (hb0 : Below base w0 w) (hbase : w0.heap.size ≤ base) (hbs : base ≤ w.heap.size)
    (ad : Option Addr) (N c : Nat) (sl : List Nat) (hN : sl.length = N) (hN9 : N ≤ 1000000) (hS : SlI w0 ad sl) (hgs : (gsOf st n sl).flatten.length ≤ 1000000000) :
    Calls Tryd.prog 23 #[.pointer (some ⟨S, 0, none⟩), .slice ad N c, .func (.func 25) #[.pointer (some ⟨b, 0, none⟩)] #[]] w fun e w' => e = .returned (.tuple #[]) ∧ SPm w base b f t rb (foldE (spS f t) (gsOf st n sl).flatten []).2 w' := by
  have HQ := hidden (And.intro h (And.intro hG hlo))
  have HP := hidden hP
  have H0 := hidden hb0
  have HS := hidden hS
  have HN := hidden hN
  have hgl : (gsOf st n sl).length = N := by unfold gsOf; rw [List.length_map, hN]
  have HBel : Hid (∀ {s wx}, SPm w base b f t rb s wx → Below base w0 wx) := hidden (fun hm => by
    obtain ⟨rb', _, k2, _⟩ := hm
    exact hb0.trans (k2.below hbs (fun i hi => (hP.ge i hi).1)))
  obtain ⟨gs, hgs0⟩ : ∃ gs, gsOf st n sl = gs := ⟨_, rfl⟩
  have HAT : Hid (∀ (i s : Nat), sl[i]? = some s → gs[i]? = some (samV st n (s : Int))) := hidden (fun i s hs => by rw [← hgs0]; unfold gsOf; rw [List.getElem?_map, hs]; rfl)
  rw [hgs0] at hgs hgl ⊢
  have HGL := hidden (And.intro hgl hgs)
  have HT : Hid (∀ (i : Nat) (g : List Sm), gs[i]? = some g → (gs.take (i + 1)).flatten = (gs.take i).flatten ++ g ∧ (gs.take i).flatten.length + g.length ≤ 1000000000) := hidden (fun i g hg => by
    have e1 : gs.take (i + 1) = gs.take i ++ [g] := by rw [List.take_add_one, hg]; rfl
    have e2 : (gs.take (i + 1)).flatten = (gs.take i).flatten ++ g := by rw [e1]; simp
    refine ⟨e2, ?_⟩
    have e3 : gs.flatten = (gs.take (i + 1)).flatten ++ (gs.drop (i + 1)).flatten := by rw [← List.flatten_append, List.take_append_drop]
    have e4 := congrArg List.length e3
    rw [e2, List.length_append, List.length_append] at e4
    omega)
  clear h hG hlo hP hb0 hS hN hgl hgs hgs0
  go_enter Tryd.func23, Tryd.ntmps23
  go_wp2_with fail
  go_loopw [10] (fun v10 wx => ∃ i : Nat, v10 = .int .i64 (i : Int) ∧ i ≤ N ∧ Hid ((foldE (spS f t) (gs.take i).flatten []).1 = true ∧ SPm w base b f t rb (foldE (spS f t) (gs.take i).flatten []).2 wx)) (fun v10 _ => N - (intOf v10).toNat)
  case atStart => exact ⟨0, rfl, by omega, hidden ⟨rfl, rb, HP.out, Chg.refl _ _, .inl rfl⟩⟩
  case round =>
    obtain ⟨i, rfl, hi, hI⟩ := hrel
    by_cases hin : i < N
    · obtain ⟨s, hs⟩ : ∃ s, sl[i]? = some s := ⟨sl[i]'(by have := HN.out; omega), by simp⟩
      have hbel := HBel.out hI.out.2
      have hbz : Below w0.heap.size w0 wr := hbel.mono hbase
      obtain ⟨g, off, rfl, hlt, hcell⟩ := (HS.out.later hbz).at' (by rintro rfl; simp at hs)
      have hcs := hcell i s hs
      have hgi := HAT.out i s hs
      have hti := HT.out i _ hgi
      have HSI : Hid (Calls Tryd.prog 37 #[.pointer (some ⟨S, 0, none⟩), .int .i64 (s : Int)] wr fun e w' => SamP (samV st n (s : Int)) wr e w') := hidden (by
        have hq := HQ.out.1.later hbz
        have hz := hq.sz
        obtain ⟨T, sh, R, G, h1, h2, h3, h4, h5⟩ := hq
        exact samplesInP S _ (s : Int) G p n st wr h1.blk h2 hz.small (HQ.out.2.1.later hbz) (Nat.le_trans HQ.out.2.2 hbz.size))
      have HTI := hidden hti
      generalize samV st n (s : Int) = gi at *
      clear hcell hs hgi hti hbel hbz hlt
      go_wp2_with fail
      refine HSI.out.mono ?_
      rintro e w1 ⟨ad1, c1, rfl, o1, k1, b1⟩
      have hT1 := hI.out.2.later b1
      obtain ⟨rb1, p1, p2, p3⟩ := hI.out.2
      have HES := hidden (eachSpan w1 base b f t _ rb1 ad1 gi.length c1 gi (p1.later b1) (ss_of_owns o1 k1) (fun x hx h0 e => by
        have h9 := (p1.ge _ e).2
        rcases o1.2 with ⟨e0, _⟩ | ⟨g9, cap, cur, e0, hg9, _⟩
        · simp only [Value.slice.injEq] at e0
          rw [e0.1] at hx; cases hx
        · simp only [Value.slice.injEq] at e0
          rw [e0.1] at hx
          cases hx
          simp only at h9
          omega) rfl (by
        have h8 := sp_len f t (gs.take i).flatten []
        have h9 := HTI.out.2
        simp only [List.length_nil, Nat.zero_add] at h8
        omega) (Nat.le_trans (Nat.le_trans hbs p2.size) b1.size))
      have HT1 : Hid (∀ s' wy, SPm w1 base b f t rb1 s' wy → SPm w base b f t rb s' wy) := hidden (fun s' wy hm => by
        refine SPm.trans (s := (foldE (spS f t) (gs.take i).flatten []).2) ⟨rb1, p1.later b1, p2.trans (Chg.of_below (F := FS b rb) b1) (fun _ _ e => e), p3⟩ (fun rb9 h9 => ?_)
        have : rb9 = rb1 := by
          obtain ⟨v9, a0, a1, _⟩ := h9
          obtain ⟨v8, b0, b1', _⟩ := p1.later b1
          unfold Blk at a1 b1'
          rw [a1] at b1'
          simp only [Option.some.injEq, Obj.cells.injEq, List.toArray_inj, List.cons.injEq] at b1'
          rw [← a0, ← b0, show v9 = v8 by simpa using b1']
        subst this
        exact hm)
      have hfa := foldE_app (spS f t) (gs.take i).flatten gi [] hI.out.1
      rw [← HTI.out.1] at hfa
      have HFA := hidden hfa
      rw [← hfa] at HES
      clear o1 k1 b1 hT1 p1 p2 p3 hfa
      generalize gi.length = L1 at *
      go_wp2_with fail
      refine HES.out.mono ?_
      rintro e w2 ⟨rfl, m2⟩
      have M2 := hidden (HT1.out _ _ m2)
      clear m2
      cases hb : (foldE (spS f t) (gs.take (i + 1)).flatten []).1 with
      | true =>
        have HB := hidden hb
        clear hb
        go_wp2_with fail
        refine ⟨⟨i + 1, by first | rfl | simp, by omega, hidden ⟨HB.out, M2.out⟩⟩, ?_⟩
        show N - ((i : Int) + 1).toNat < N - (i : Int).toNat
        omega
      | false =>
        have HB := hidden hb
        clear hb
        go_wp2_with fail
        refine bodyPost_ret (results_none rfl _ _ _) rfl ?_
        have hst := foldE_stop (spS f t) (gs.take (i + 1)).flatten [] (gs.drop (i + 1)).flatten HB.out
        rw [← List.flatten_append, List.take_append_drop] at hst
        rw [hst]
        exact ⟨rfl, M2.out⟩
    · have hM : Hid (SPm w base b f t rb (foldE (spS f t) gs.flatten []).2 wr) := hidden (by
        have := hI.out.2
        rw [List.take_of_length_le (by have := HGL.out.1; omega)] at this
        exact this)
      clear hI
      go_wp2_with fail
      refine bodyPost_end (results_none rfl _ _ _) rfl ?_
      exact ⟨rfl, hM.out⟩

theorem built64 (f t : Int) : Tryd.prog.built 64 [(0, .int .i64 f), (1, .int .i64 t)] = some [Value.int .i64 f, .int .i64 t, .slice none 0 0].toArray := by kernel_rfl
/-- The groups in a series' slots. -/
theorem SZ.groups {n : Nat} {st : K.Sx} {Z : ByteArray → List En} (h : SZ n st Z) (o : ByteArray) (k : Int) : gsOf st n (enL (Z o) k).1 = gO (gF (enL (Z o) k).2) := by
  have hen := h.en o k
  rcases enL_mem (l := Z o) (k := k) with hm | ⟨he, _⟩
  · apply List.ext_getElem?
    intro i
    unfold gsOf
    rw [List.getElem?_map]
    cases e : (enL (Z o) k).1[i]? with
    | none =>
      have h1 := List.getElem?_eq_none_iff.1 e
      have h2 := hen.1.1
      rw [List.getElem?_eq_none (by omega)]
      rfl
    | some s =>
      have h1 := (List.getElem?_eq_some_iff.1 e).1
      have h2 := hen.1.1
      obtain ⟨g, hg⟩ : ∃ g, (gO (gF (enL (Z o) k).2))[i]? = some g := ⟨(gO (gF (enL (Z o) k).2))[i]'(by omega), by simp⟩
      rw [hg]
      show some (Go.Proofs.YtlppibigceeimaaDoor.samV st n (s : Int)) = some g
      rw [(h.samV hm e hg).1]
  · rw [he]; rfl
set_option maxRecDepth 100000 in
set_option maxHeartbeats 4000000 in
theorem rangeP (o : ByteArray) (k f t : Int) (F : Nat → Prop) (S p n : Nat) (st : K.Sx) (Z : ByteArray → List En) (w : World) (h : SQ F w S p n st Z) (hG : Gv w) (hlo : 2 ≤ w.heap.size) :
    Calls Tryd.prog 12 #[.pointer (some ⟨S, 0, none⟩), .string o, .int .i64 k, .int .i64 f, .int .i64 t] w fun e w' => SamP (rng f t (enL (Z o) k).2) w e w' := by
  have hz := h.sz
  have hen := hz.en o k
  have hgr := hz.groups o k
  have hfew := hz.few o k
  have HQ := hidden (And.intro h (And.intro hG hlo))
  obtain ⟨T, sh, R, G, h1, h2, h3, h4, h5⟩ := h
  have hn1 := h2.n1
  have hrow := h1.slots o k (hz.key o)
  obtain ⟨a0, c0, hv⟩ := owns_form hrow
  rw [hv] at hrow
  have CP : Hid (∀ wx, Below w.heap.size w wx → wx.cell? ⟨S, 1, none⟩ = some (.map (some T)) ∧ (Instr.lookup 56 (.map (some T)) (.string o) false).run Tryd.prog wx = .ok (.map (sh o)) wx ∧ (Instr.lookup 68 (.map (sh o)) (.int .i64 k) false).run Tryd.prog wx = .ok (.slice a0 (enL (Z o) k).1.length c0) wx) := hidden (fun wx hb => ⟨(h1.blk.later hb).cell 1, (h1.later hb).lookT o, by rw [← hv]; exact (h1.later hb).lookS o k⟩)
  have hsz : ∀ i o d, st i = some (o, d) → d.size ≤ 128 := hz.small
  generalize enL (Z o) k = q9 at *
  obtain ⟨sl, A⟩ := q9
  simp only at *
  obtain ⟨M, hM⟩ : ∃ M, sl.length = M := ⟨_, rfl⟩
  rw [hM] at CP hfew hrow
  have HM := hidden hM
  have HR := hidden hrow
  have HE := hidden (And.intro hen (And.intro hgr hv))
  have hfl : (gsOf st n sl).flatten.length ≤ 1000000000 := by
    have hall : ∀ (G : List (List Sm)), (∀ g ∈ G, g.length ≤ 1000) → G.flatten.length ≤ G.length * 1000 := by
      intro G
      induction G with
      | nil => simp
      | cons g G ih =>
        intro hG
        have h1 := ih (fun x hx => hG x (by simp [hx]))
        have h2 := hG g (by simp)
        simp only [List.flatten_cons, List.length_append, List.length_cons]
        omega
    rw [hgr]
    have h9 := hall (gO (gF A)) (fun g hg => encC_few (gO_ne (okG hen.2.2.1) g hg).2.1)
    have h8 := hen.1.1
    omega
  have HFL := hidden hfl
  have hM9 : M ≤ 1000000 := by omega
  clear h1 h2 h3 h4 h5 hz hen hgr hG hlo hrow hv hM hfl hfew hn1 hsz
  generalize sh o = sho at *
  go_enter Tryd.func12, Tryd.ntmps12
  go_wp2_with (first
    | (refine wpList_build_to rfl 64 #[(0, .tmp 12), (1, .tmp 13)] rfl [(0, .int .i64 f), (1, .int .i64 t)] [Value.int .i64 f, .int .i64 t, .slice none 0 0].toArray rfl (built64 _ _) ?_)
    | (refine wpList_box_blk rfl 64 (.tmp 14) rfl [.int .i64 f, .int .i64 t, .slice none 0 0] rfl ?_; intro w2 B2 bl2 hz2; have HB2 := hidden B2; have BL2 := hidden bl2; have cpp := CP.out w2 bl2; have cp1 := cpp.1; have cp2 := cpp.2.1; have cp3 := cpp.2.2; clear B2 bl2 cpp))
  have hlo2 : 2 ≤ w2.heap.size := Nat.le_trans HQ.out.2.2 BL2.out.size
  refine (sinceP S p n f F st Z w2 (HQ.out.1.later BL2.out) (HQ.out.2.1.later BL2.out) hlo2 a0 M c0 sl HM.out hM9 (owl HR.out BL2.out)).mono ?_
  rintro e w3 ⟨i, ad3, c3, rfl, s3, hi, b3⟩
  have S3 := hidden s3
  have HI := hidden hi
  have B3 := hidden b3
  have hd : (sl.drop i).length ≤ 1000000 := by rw [List.length_drop]; have := HM.out; omega
  have hg2 : (gsOf st n (sl.drop i)).flatten.length ≤ 1000000000 := by
    have e1 : gsOf st n (sl.drop i) = (gsOf st n sl).drop i := by unfold gsOf; rw [List.map_drop]
    have e2 : (gsOf st n sl).flatten = ((gsOf st n sl).take i).flatten ++ ((gsOf st n sl).drop i).flatten := by rw [← List.flatten_append, List.take_append_drop]
    have e3 := congrArg List.length e2
    rw [List.length_append] at e3
    have := HFL.out
    rw [e1]
    omega
  have HG2 := hidden hg2
  have HSP : Hid (SPn w3 w.heap.size w.heap.size f t [] none) := hidden ⟨.slice none 0 0, rfl, HB2.out.later B3.out, World.ownsRow_nil _ _ _ _, Nat.le_refl _, by simp⟩
  have hb03 : Below w.heap.size w w3 := BL2.out.trans (B3.out.mono BL2.out.size)
  have H03 := hidden hb03
  clear s3 hi b3 hg2 hb03
  obtain ⟨L3, hL3⟩ : ∃ L3, (sl.drop i).length = L3 := ⟨_, rfl⟩
  rw [hL3] at hd ⊢
  have HL3 := hidden hL3
  clear hL3
  go_wp2_with fail
  refine (eachInP S p n f t F st Z w w3 HQ.out.1 HQ.out.2.1 HQ.out.2.2 w.heap.size w.heap.size none HSP.out H03.out (Nat.le_refl _) H03.out.size ad3 L3 c3 (sl.drop i) HL3.out hd (S3.out w HR.out) HG2.out).mono ?_
  rintro e w4 ⟨rfl, rb4, ⟨v4, q0, q1, q2, q3, q4⟩, k2, k3⟩
  have B4 : Hid (Below w.heap.size w w4) := hidden (H03.out.trans (k2.below H03.out.size (fun i hi => (HSP.out.ge i hi).1)))
  have e9 : Hid ((foldE (spS f t) (gsOf st n (sl.drop i)).flatten []).2 = rng f t A) := hidden (by
    have hris := HE.out.1.2.1
    have hgr := HE.out.2.1
    have e1 : gsOf st n (sl.drop i) = (gO (gF A)).drop i := by rw [← hgr]; unfold gsOf; rw [List.map_drop]
    have hrf : Ris (gO (gF A)).flatten := by rw [gF_flat]; exact hris
    have hrd : Ris ((gO (gF A)).drop i).flatten := by
      have e2 : (gO (gF A)).flatten = ((gO (gF A)).take i).flatten ++ ((gO (gF A)).drop i).flatten := by rw [← List.flatten_append, List.take_append_drop]
      rw [e2] at hrf
      exact (List.pairwise_append.1 hrf).2.1
    rw [e1, sp_fold f t _ _ hrd, List.nil_append, rng_drop hrf, gF_flat]
    rcases HI.out with h0 | ⟨s, hs, hb⟩
    · exact .inl h0
    · right
      have hil := (List.getElem?_eq_some_iff.1 hs).1
      have hgi : (gO (gF A))[i]? = some (samV st n (s : Int)) := by
        rw [← hgr]
        unfold gsOf
        rw [List.getElem?_map, hs]
        rfl
      have hne := (gO_ne (okG HE.out.1.2.2.1) _ (List.mem_of_getElem? hgi)).1
      obtain ⟨x, l', hx⟩ := List.exists_cons_of_ne_nil hne
      refine ⟨_, x, hgi, by rw [hx]; rfl, ?_⟩
      rw [hx] at hb
      have : decide (f < x.t) = false := hb
      simpa using this)
  have c2 : w4.cell? ⟨w.heap.size, 2, none⟩ = some v4 := q1.cell 2
  rw [e9.out] at q2 q4
  have Q2 := hidden (And.intro q2 q4)
  obtain ⟨ad4, c4, hv4, _⟩ := owns_formS q2
  subst hv4
  clear q0 q1 q2 q3 q4 k2 k3 hlo2 cp1 cp2 cp3
  obtain ⟨L4, hL4⟩ : ∃ L4, (rng f t A).length = L4 := ⟨_, rfl⟩
  have HL4 := hidden hL4
  rw [hL4] at c2 Q2
  clear hL4
  go_wp2_with fail
  go_ret
  exact ⟨ad4, c4, by rw [HL4.out]; rfl, by rw [HL4.out]; exact Q2.out.1, Q2.out.2, B4.out⟩

end Go.Proofs.YtlppibigceeimaaDoor
