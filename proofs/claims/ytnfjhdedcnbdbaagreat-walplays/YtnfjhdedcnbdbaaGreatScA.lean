/-
  Scan: the document's.
-/
import Derived.Test.YtnfjhdedcnbdbaaGreatFrN
import Derived.Test.YtnfjhdedcnbdbaaGreatRngB
namespace Go.Proofs.YtnfjhdedcnbdbaaGreat
open Go Go.RowKit
set_option linter.unusedVariables false
set_option linter.unusedSimpArgs false

theorem GotP.to {w w' : World} {l : List Int} {e : Ending} {k : Int} {d : List Int} {m : Nat} (h : GotP w l e w') (hg : gett l = (k, d, m)) :
    ∃ ag c, e = .returned (.tuple #[.int .u8 k, .slice ag d.length c, .int .i64 (m : Nat)]) ∧ Bld w w' (.slice ag d.length c) d.length d := by
  unfold GotP at h
  rw [hg] at h
  exact h


def cellsE (x : El) : List Value := [.int .u8 x.1, x.2.1]
/-- An element's list lies in memory. -/
def RowX (B : Nat) (w : World) (x : El) : Prop := (∃ ad c, x.2.1 = .slice ad x.2.2.length c) ∧ w.ownsRow B 5 1 x.2.1 x.2.2.length (cells8 x.2.2)
/-- A list of frames. -/
def Lst (B : Nat) (w : World) (v : Value) (els : List El) : Prop := w.ownsRow B 112 2 v els.length (els.flatMap cellsE) ∧ ∀ x ∈ els, RowX B w x
theorem RowX.chg {F : Nat → Prop} {B : Nat} {w w' : World} {x : El} (h : RowX B w x) (hc : Chg F w w') (hF : ∀ g, x.2.1.ownBlock = some g → ¬ F g) : RowX B w' x := ⟨h.1, hc.owns h.2 hF⟩
theorem flat_len (els : List El) : (els.flatMap cellsE).length = els.length * 2 := by
  induction els with
  | nil => rfl
  | cons x r ih => simp only [List.flatMap_cons, List.length_append, ih, List.length_cons, cellsE, List.length_nil]; omega
theorem flat_at : ∀ (els : List El) (i : Nat) (x : El), els[i]? = some x → (els.flatMap cellsE)[i * 2]? = some (.int .u8 x.1) ∧ (els.flatMap cellsE)[i * 2 + 1]? = some x.2.1
  | [], i, x, h => by simp at h
  | y :: r, 0, x, h => by
    simp at h
    subst h
    simp [List.flatMap_cons, cellsE]
  | y :: r, i + 1, x, h => by
    have := flat_at r i x (by simpa using h)
    rw [show (i + 1) * 2 = i * 2 + 1 + 1 by omega]
    simpa [List.flatMap_cons, cellsE] using this

theorem info44 : (Tryz.prog.info? 112).map (fun i => (i.zero, i.size, i.bytes)) = some (some (.agg #[.int .u8 0, .slice none 0 0]), 2, 32) := by kernel_rfl
theorem Sl.cutM {w : World} {ad : Option Addr} {len K : Nat} {l : List Int} (h : Sl w ad len l) (hk : K ≤ len) : Sl w (ad.map (fun x => x.add K)) (len - K) (l.drop K) := by
  by_cases hp : 0 < len
  · obtain ⟨b, off, rfl, _⟩ := h.at hp
    show Sl w (some ((⟨b, off, none⟩ : Addr).add K)) (len - K) (l.drop K)
    rw [Addr.add_lit]
    exact h.cutL hk
  · have e : l.drop K = [] := List.eq_nil_of_length_eq_zero (by rw [List.length_drop, h.len]; omega)
    rw [e, show len - K = 0 by omega]
    exact Sl.nil _ _
theorem Sl.none_left {w : World} {ad : Option Addr} {len K : Nat} {l : List Int} (h : l.length = len) (hk : len ≤ K) : Sl w ad (len - K) (l.drop K) := by
  have e : l.drop K = [] := List.eq_nil_of_length_eq_zero (by rw [List.length_drop, h]; omega)
  rw [e, show len - K = 0 by omega]
  exact Sl.nil _ _
theorem two_cells (w : World) (x : El) (C : Array Value) (hC : C = (cellsE x).toArray) : ∀ j u, (cellsE x)[j]? = some u → (w.alloc (.cells C 112)).cell? ((⟨w.heap.size, 0, none⟩ : Addr).add j) = some u := by
  subst hC
  intro j u hu
  rw [Addr.add_lit, Nat.zero_add, (Blk.new w 112 (cellsE x)).cell]
  exact hu
theorem two_one (x : El) (h : ∃ ad c, x.2.1 = .slice ad x.2.2.length c) : ∀ u ∈ cellsE x, u.oneCell' = true := by
  obtain ⟨ad, c, h⟩ := h
  intro u hu
  simp only [cellsE, List.mem_cons, List.not_mem_nil, or_false] at hu
  rcases hu with rfl | rfl
  · rfl
  · rw [h]; rfl
/-- A frame more. -/
theorem Lst.push {B : Nat} {w w' : World} {v v' : Value} {els : List El} {x : El} (h : Lst B w v els) (hx : RowX B w x) (hg : w.grownBy w' v.ownBlock) (ho : w'.ownsRow B 112 2 v' (els.length + 1) (els.flatMap cellsE ++ cellsE x)) : Lst B w' v' (els ++ [x]) := by
  refine ⟨by simpa [List.flatMap_append] using ho, fun y hy => ?_⟩
  have hy2 : RowX B w y := by
    rcases List.mem_append.1 hy with hy | hy
    · exact h.2 y hy
    · rw [List.mem_singleton.1 hy]; exact hx
  exact hy2.chg (Chg.of_grown (F := fun i => v.ownBlock = some i) hg (fun i hi => hi)) (fun g h1 h2 => by
    have t1 := owns_tg hy2.2 g h1
    have t2 := owns_tg h.1 g h2
    have := t1.one t2
    cases this)

set_option maxHeartbeats 2000000 in
set_option maxRecDepth 100000 in
theorem refScan_any (ad : Option Addr) (len cap : Nat) (l : List Int) (w : World) (hs : Sl w ad len l) (hc : len ≤ cap) (hno : ad = none → len = 0 ∧ cap = 0) (hb : len ≤ 1048576) :
    Calls Tryz.prog 86 #[.slice ad len cap] w fun e w' => ∃ v els, e = .returned (.tuple #[v, .int .i64 ((fsz (frames l) : Nat) : Int)]) ∧ Lst w.heap.size w' v els ∧ els.map fr = frames l ∧ Below w.heap.size w w' := by
  obtain ⟨i4, hi4, hy0, hy1, hy2⟩ := info_parts info44
  have HS := hidden hs
  have HL := hidden hs.len
  clear hs
  go_enter Tryz.func86, Tryz.ntmps86
  go_wp2_with fail
  go_loopw [4, 5] (fun ov tv wr => ∃ (t : Nat) (els : List El) (rest : List (Int × List Int)) (a' : Option Addr) (c' : Nat), ov = .slice a' els.length c' ∧ tv = .int .i64 (t : Int) ∧ t ≤ len ∧ t = fsz (els.map fr) ∧ frames l = els.map fr ++ rest ∧ Lst w.heap.size wr (.slice a' els.length c') els ∧ Below w.heap.size w wr) (fun _ tv _ => len - (intOf tv).toNat)
  case atStart => exact ⟨0, [], frames l, none, 0, rfl, rfl, Nat.zero_le _, rfl, rfl, ⟨World.ownsRow_nil _ _ _ _, fun x hx => by cases hx⟩, Below.refl _ _⟩
  case round =>
    obtain ⟨t, els, rest, a', c', rfl, rfl, htl, ht, hfr, hls, hbel⟩ := hrel
    have HT := hidden ht
    have HFR := hidden hfr
    have HLS := hidden hls
    have HBE := hidden hbel
    clear ht hfr hls hbel
    have HSW := hidden (HS.out.later HBE.out)
    have HFD := hidden (frames_drop l _ _ HFR.out)
    rw [← HT.out] at HFD
    have HEND : Hid ((gett (l.drop t)).2.2 = 0 → fsz (frames l) = t ∧ els.map fr = frames l) := fun h0 => by
      have h1 := HFD.out.symm.trans (frames_none h0)
      have h2 := HFR.out
      rw [h1, List.append_nil] at h2
      exact ⟨by rw [h2, ← HT.out], h2.symm⟩
    have hct1 : ¬ (cap : Int) < (t : Int) := by omega
    by_cases hct : cap = t
    · subst hct
      have hlt : len = cap := by omega
      subst hlt
      have hg : gett (l.drop len) = (0, [], 0) := gett_short (by rw [List.length_drop, HL.out]; omega)
      obtain ⟨he1, he2⟩ := HEND.out (by rw [hg])
      have HE1 := hidden he1
      have HE2 := hidden he2
      clear he1 he2 HEND
      have HG := hidden hg
      clear hg
      go_wp2_with fail
      refine (refGet_any ad 0 0 [] wr (Sl.nil _ _) (by omega) (by omega)).mono ?_
      intro e w1 g1
      obtain ⟨a1, c1, rfl, h1⟩ := g1.to (gett_short (by decide))
      have HB1 := hidden h1.bel
      clear g1 h1
      go_wp2_with fail
      go_ret2
      have hls : Lst w.heap.size w1 (.slice a' els.length c') els := ⟨(Chg.of_below (F := fun _ => False) HB1.out).owns HLS.out.1 (fun _ _ h => h), fun x hx => (HLS.out.2 x hx).chg (Chg.of_below (F := fun _ => False) HB1.out) (fun _ _ h => h)⟩
      exact ⟨.slice a' els.length c', els, (by rw [HE1.out]; try rfl), hls, HE2.out, HBE.out.trans (HB1.out.mono HBE.out.size)⟩
    · go_wp2_with fail
      refine (refGet_any _ (len - t) (cap - t) (l.drop t) wr (HSW.out.cutM htl) (by omega) (by omega)).mono ?_
      intro e w1 g1
      obtain ⟨k, d, m, hG⟩ : ∃ k d m, gett (l.drop t) = (k, d, m) := ⟨_, _, _, rfl⟩
      obtain ⟨a1, c1, rfl, h1⟩ := g1.to hG
      have HB1 := hidden h1.bel
      have HB2 := hidden (HBE.out.trans (h1.bel.mono HBE.out.size))
      have hls : Lst w.heap.size w1 (.slice a' els.length c') els := ⟨(Chg.of_below (F := fun _ => False) HB1.out).owns HLS.out.1 (fun _ _ h => h), fun x hx => (HLS.out.2 x hx).chg (Chg.of_below (F := fun _ => False) HB1.out) (fun _ _ h => h)⟩
      have HLS1 := hidden hls
      have HRX : Hid (RowX w.heap.size w1 (k, .slice a1 d.length c1, d)) := ⟨⟨_, _, rfl⟩, owns_baseG h1.row (fun g hg => Nat.le_trans HBE.out.size (h1.new g hg))⟩
      have HP := hidden (@gett_pos (l.drop t))
      have HFS := hidden (@frames_some (l.drop t))
      rw [hG] at HP HFS
      have HG := hidden hG
      clear g1 h1 hls hG
      by_cases hm : m = 0
      · subst hm
        obtain ⟨he1, he2⟩ := HEND.out (by rw [HG.out])
        have HE1 := hidden he1
        have HE2 := hidden he2
        clear he1 he2 HEND
        go_wp2_with fail
        go_ret2
        exact ⟨.slice a' els.length c', els, (by rw [HE1.out]; try rfl), HLS1.out, HE2.out, HB2.out⟩
      · have hm' : ((m : Int) == 0) = false := by simp; omega
        have hp := HP.out hm
        have hfs := HFS.out hm
        dsimp only at hp
        rw [List.length_drop, HL.out] at hp
        have hm1 : m ≤ len := by omega
        have hm2 : t + m ≤ len := by omega
        have HP2 := hidden hp
        have HFS2 := hidden hfs
        clear hp hfs HP HFS HEND
        have hel : els.length ≤ 1048576 := by
          have h1 := fsz_len (els.map fr)
          rw [← HT.out, List.length_map] at h1
          omega
        go_wp2_with (first
          | (at_builtin; refine wpList_append_own _ rfl (.tmp 21) (.tmp 25) 108 rfl w.heap.size 112 i4 (.agg #[.int .u8 0, .slice none 0 0]) 2 32 Tryz.underlying108 hi4 hy0 hy1 hy2 rfl (by decide) (.slice a' els.length c') els.length (els.flatMap cellsE) rfl (HLS1.out.1.alloc _) ⟨w1.heap.size, 0, none⟩ 1 1 (cellsE (k, .slice a1 d.length c1, d)) rfl rfl (two_cells w1 _ _ rfl) (two_one _ ⟨_, _, rfl⟩) (by unfold maxLen; omega) (by omega) (by simp; have := HB2.out.size; omega) ?_; intro v2 w2 ho2 hg2 _))
        obtain ⟨a2, c2, rfl⟩ : ∃ a2 c2, v2 = .slice a2 (els.length + 1) c2 := by
          rcases ho2.2 with ⟨_, h0⟩ | ⟨g, c, cur, rfl, _⟩
          · omega
          · exact ⟨_, _, rfl⟩
        have hal : Lst w.heap.size (w1.alloc (.cells #[.int .u8 k, .slice a1 d.length c1] 112)) (.slice a' els.length c') els := ⟨HLS1.out.1.alloc _, fun x hx => (HLS1.out.2 x hx).chg (Chg.alloc (fun _ => False) w1 _) (fun _ _ h => h)⟩
        have hl2 := hal.push (HRX.out.chg (Chg.alloc (fun _ => False) w1 _) (fun _ _ h => h)) hg2 ho2
        refine ⟨⟨t + m, els ++ [(k, .slice a1 d.length c1, d)], frames ((l.drop t).drop m), a2, c2, by simp, by simp, hm2, ?_, ?_, by simpa using hl2, ?_⟩, ?_⟩
        · rw [List.map_append, fsz_append, ← HT.out]
          simp only [List.map_cons, List.map_nil, fsz, fr]
          have := HP2.out
          omega
        · rw [HFR.out, HFD.out.symm.trans HFS2.out, List.map_append, List.append_assoc]
          rfl
        · refine (HB2.out.alloc HB2.out.size _).grown hg2 (by simp; have := HB2.out.size; omega) (fun g hg => ?_)
          exact (HLS1.out.1.lt g hg).1
        · simp [intOf]
          have := HP2.out
          omega

end Go.Proofs.YtnfjhdedcnbdbaaGreat
