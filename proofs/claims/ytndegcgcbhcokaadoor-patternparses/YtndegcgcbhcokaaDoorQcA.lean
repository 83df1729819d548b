import Derived.Test.YtndegcgcbhcokaaDoorQaS
import Derived.Test.YtndegcgcbhcokaaDoorPvC
import Derived.Test.YtndegcgcbhcokaaDoorQaL
import Derived.Deep.CutRange
import Derived.Test.YtndegcgcbhcokaaDoorPvF
import Derived.Test.YtndegcgcbhcokaaDoorPvA
/-
  PatternParses: tells.
-/
namespace Go.Proofs.YtndegcgcbhcokaaDoor
open Go.RowKit
set_option linter.unusedVariables false
set_option linter.unusedSimpArgs false

/-- The beginning of a text, of two hundred bytes at most. -/
def cut200 (x : ByteArray) : ByteArray := x.extract 0 (min x.size 200)
theorem cut200_size (x : ByteArray) : (cut200 x).size ≤ 200 := by
  unfold cut200
  rw [size_bts, bts_pre, List.length_take]
  omega
theorem PaR.bd {F : Nat → Prop} {w : World} {p : Nat} {l : List (List Pt)} (h : PaR F w p l) : rowsBd l := by
  obtain ⟨ad, c, b, off, sa, sc, vs, h⟩ := h
  exact RowsV.bd _ _ _ h.rows
theorem Lw.wr {w : World} {a : Option Addr} {m c : Nat} {l : Wl} (h : Lw w a m c l) : Wr (fun _ => True) w a l := fun h0 => by
  rcases h.2 with ⟨_, e, _⟩ | ⟨g, e, hlt, h1, h2, hc⟩
  · exact absurd (List.eq_nil_of_length_eq_zero (by rw [h.1]; exact e)) h0
  · exact ⟨g, 0, e, trivial, fun i x hx => by rw [Nat.zero_add]; exact hc i x hx⟩
/-- Words, whose list is its owner's. -/
theorem words_own {F : Nat → Prop} {w : World} {p : Nat} {l : List (List Pt)} {lr : Wl} {ok : Bool} (hP : PaR F w p l) (h : (ok = true ∧ rowsW l [] = some lr) ∨ (ok = false ∧ rowsW l [] = none ∧ lr = [])) :
    Calls Tryd.prog 9 #[.pointer (some ⟨p, 0, none⟩)] w fun e w' => ∃ a' c', e = .returned (.tuple #[.slice a' lr.length c', .bool ok]) ∧ w'.ownsRow w.heap.size 9 1 (.slice a' lr.length c') lr.length (sV lr) ∧ lr.length ≤ 16 ∧ Below w.heap.size w w' := by
  refine (wordsTP F w p l hP).mono ?_
  rintro e w' ⟨a', m', c', ok', rfl, hc, hm, h2⟩
  have hb := hc.below (Nat.le_refl _) (fun i e => by cases e)
  rcases h with ⟨rfl, h⟩ | ⟨rfl, h, rfl⟩
  · rcases h2 with ⟨rfl, lr', h1, h2, h3, _⟩ | ⟨rfl, h1, _⟩
    · rw [h] at h1
      injection h1 with h1
      subst h1
      subst h2
      exact ⟨a', c', rfl, h3, hm, hb⟩
    · rw [h] at h1; cases h1
  · rcases h2 with ⟨rfl, lr', h1, _⟩ | ⟨rfl, h1, h4, h5, h6⟩
    · rw [h] at h1; cases h1
    · rw [h4, h5, h6]
      exact ⟨none, 0, rfl, World.ownsRow_nil _ _ _ _, by simp, hb⟩
/-- The document's Words, likewise. -/
theorem words_doc {F : Nat → Prop} {w : World} {p : Nat} {l : List (List Pt)} {u : List Value} {lr : Wl} {ok : Bool} (hP : PaN F w p l u) (hf : rowsFine l) (hc : rowsCnt l ≤ 64) (hl : l.length ≤ 1000) (h : (ok = true ∧ rowsW l [] = some lr) ∨ (ok = false ∧ rowsW l [] = none ∧ lr = [])) :
    Calls Tryd.prog 18 #[.pointer (some ⟨p, 0, none⟩)] w fun e w' => ∃ a' c', e = .returned (.tuple #[.slice a' lr.length c', .bool ok]) ∧ Wr (fun _ => True) w' a' lr ∧ lr.length ≤ 16 ∧ Below w.heap.size w w' := by
  refine (wordsTN F w p u l hP.blk hP.an hf hc hl).mono ?_
  rintro e w' ⟨a', m', c', ok', rfl, hb, h2⟩
  rcases h with ⟨rfl, h⟩ | ⟨rfl, h, rfl⟩
  · rcases h2 with ⟨rfl, hm, lr', h1, h3, _⟩ | ⟨rfl, h1, _⟩
    · rw [h] at h1
      injection h1 with h1
      subst h1
      have hl := h3.1
      subst hl
      exact ⟨a', c', rfl, h3.wr, hm, hb⟩
    · rw [h] at h1; cases h1
  · rcases h2 with ⟨rfl, _, lr', h1, _⟩ | ⟨rfl, h1, h4⟩
    · rw [h] at h1; cases h1
    · rw [h4 rfl]
      exact ⟨a', c', rfl, Wr.nil _ _ _, by simp, hb⟩
/-- x, whose block is its own: what has changed since. -/
def XO (w1 w7 : World) (ob : Option Nat) (wx : World) (a : Option Addr) (n c : Nat) : Prop := ∃ xs : Wl, wx.ownsRow w1.heap.size 9 1 (.slice a n c) n (sV xs) ∧ Cm w7 wx ob (Value.slice a n c).ownBlock
theorem XO.set {w1 w7 wx : World} {ob : Option Nat} {g n c i : Nat} (h : XO w1 w7 ob wx (some ⟨g, 0, none⟩) n c) (x : ByteArray) : XO w1 w7 ob (wx.setCell ⟨g, i, none⟩ (.string x)) (some ⟨g, 0, none⟩) n c := by
  obtain ⟨xs, h1, h2⟩ := h
  refine ⟨xs.set i x, ?_, h2.chg.trans (Chg.set ⟨g, i, none⟩ (.string x) wx) (fun k hk e => ?_), h2.mv⟩
  · have := owns_setV h1 i (.string x)
    rw [show sV (xs.set i x) = (sV xs).set i (.string x) by simp [sV, List.map_set]]
    exact this
  · have e' : k = g := e
    subst e'
    rcases h2.mv with h | ⟨g', h, hg⟩
    · rw [← h]; simp [Value.ownBlock]
    · simp [Value.ownBlock] at h
      omega
theorem XO.cell {w1 w7 wx : World} {ob : Option Nat} {a : Option Addr} {n c i : Nat} (h : XO w1 w7 ob wx a n c) (hi : i < n) : ∃ g y, a = some ⟨g, 0, none⟩ ∧ wx.cell? ⟨g, i, none⟩ = some (.string y) ∧ wx.frozen? ⟨g, i, none⟩ = false := by
  obtain ⟨xs, h1, h2⟩ := h
  obtain ⟨g, x, e, hg, hx, hc⟩ := (Lw.owns h1).get hi
  subst e
  exact ⟨g, x, rfl, hc, h1.frozenAt _⟩
theorem XO.below {w1 w7 wx : World} {ob : Option Nat} {a : Option Addr} {n c : Nat} (h : XO w1 w7 ob wx a n c) (hb : Below w1.heap.size w1 w7) (ho : ∀ k, ob = some k → w1.heap.size ≤ k) : Below w1.heap.size w1 wx := by
  obtain ⟨xs, h1, h2⟩ := h
  exact hb.trans (h2.chg.below hb.size ho)
abbrev mineT : ByteArray := { data := #[109, 105, 110, 101] }

set_option maxRecDepth 100000 in
set_option maxHeartbeats 0 in
theorem tellsP (B : Nat) {F G : Nat → Prop} (w : World) (p q : Nat) (t : List (List Pt)) (u : List Value) (hP : PaR F w p t) (hQ : PaN G w q t u) (hT : Tb B w) (la : Option Addr) (n lc : Nat) (L : Wl) (hl : Wr (fun _ => True) w la L) (hn : L.length = n) (hlen : (rowsT t).length ≤ 1000000) :
    Calls Tryd.prog 8 #[.pointer (some ⟨p, 0, none⟩), .pointer (some ⟨q, 0, none⟩), .slice la n lc] w fun e w' => e = .returned (.bool true) ∧ Below w.heap.size w w' := by
  have hFI : rowsFine t ∧ rowsCnt t ≤ 64 ∧ t.length ≤ 1000 := by
    obtain ⟨_, _, _, _, _, _, _, h⟩ := hP
    exact ⟨h.fine.1, h.cnt, h.fine.2.2⟩
  obtain ⟨S, hS⟩ : ∃ S : ByteArray, bts S = rowsT t := ⟨⟨(rowsT t).toArray⟩, by simp [bts]⟩
  have HPr : Hid (∀ w, PaR F w p t → Calls Tryd.prog 11 #[.pointer (some ⟨p, 0, none⟩)] w fun e w' => e = .returned (.string S) ∧ Below w.heap.size w w') := hidden (fun w h => by
    refine (printP F w p t h (by omega)).mono ?_
    rintro e w' ⟨s', rfl, h1, h2⟩
    rw [bts_inj (h1.trans hS.symm)]
    exact ⟨rfl, h2⟩)
  have HPn : Hid (∀ w, PaN G w q t u → Calls Tryd.prog 19 #[.pointer (some ⟨q, 0, none⟩)] w fun e w' => e = .returned (.string S) ∧ Below w.heap.size w w') := hidden (fun w h => by
    refine (printN G w q u t h.blk h.an (textAny t hFI.1) hFI.2.2 hlen).mono ?_
    rintro e w' ⟨s', rfl, h1, h2⟩
    rw [bts_inj (h1.trans hS.symm)]
    exact ⟨rfl, h2⟩)
  obtain ⟨lr, ok, hlr⟩ : ∃ lr ok, ((ok = true ∧ rowsW t [] = some lr) ∨ (ok = false ∧ rowsW t [] = none ∧ lr = [])) := by
    cases h : rowsW t [] with
    | none => exact ⟨[], false, .inr ⟨rfl, rfl, rfl⟩⟩
    | some lr => exact ⟨lr, true, .inl ⟨rfl, rfl⟩⟩
  obtain ⟨m, hm⟩ : ∃ m, lr.length = m := ⟨_, rfl⟩
  have k18 := words_doc hQ hFI.1 hFI.2.1 hFI.2.2 hlr
  rw [hm] at k18
  have HWd : Hid (∀ w, PaR F w p t → Calls Tryd.prog 9 #[.pointer (some ⟨p, 0, none⟩)] w fun e w' => ∃ a' c', e = .returned (.tuple #[.slice a' m c', .bool ok]) ∧ w'.ownsRow w.heap.size 9 1 (.slice a' m c') m (sV lr) ∧ m ≤ 16 ∧ Below w.heap.size w w') := hidden (fun w h => by have := words_own h hlr; rw [hm] at this; exact this)
  have HSM : Hid (∀ w a b c d, Wr (fun _ => True) w a lr → Wr (fun _ => True) w b lr → m ≤ 16 → Calls Tryd.prog 20 #[.slice a m c, .slice b m d] w fun e w' => e = .returned (.bool true) ∧ Below w.heap.size w w') := hidden (fun w a b c d h1 h2 h3 => sameP w a b m c d lr h1 h2 hm (by omega))
  have HWM : Hid (∀ x ∈ lr, mB t (bts x) = true) := hidden (fun x hx => by
    rcases hlr with ⟨_, h⟩ | ⟨_, _, h⟩
    · rw [mB_iff, words_mean hP.bd h]; exact ⟨x, hx, rfl⟩
    · rw [h] at hx; cases hx)
  have HWS : Hid (∀ x ∈ lr, x.size ≤ 100000) := hidden (fun x hx => by
    rcases hlr with ⟨_, h⟩ | ⟨_, _, h⟩
    · have h1 := rowsW_size t [] lr 0 h (by simp) x hx
      have h2 := hFI.2.1
      omega
    · rw [h] at hx; cases hx)
  have HM := hidden hm
  have HL := hidden hl
  have HN := hidden hn
  have HFI := hidden hFI
  have HP := hidden hP
  have HQ := hidden hQ
  have HTB := hidden hT
  have HOW : Hid (∀ (w : World) (base : Nat) a c, w.ownsRow base 9 1 (.slice a m c) m (sV lr) → Wr (fun _ => True) w a lr) := hidden (fun w base a c h => (wr_owns h).mono (fun _ _ => trivial))
  clear hFI hS hlr hm hl hn hP hQ hT hlen
  go_enter Tryd.func8, Tryd.ntmps8
  go_upto_region 6 with (first
    | (go_at_call 18; refine k18.mono ?_; rintro e w1 ⟨a1, c1, rfl, r1, hm1, h1⟩; have H1 := hidden h1; have P1 := hidden (HP.out.later h1); have Q1 := hidden (HQ.out.later h1); have R1 := hidden r1; have k9 := HWd.out _ P1.out; clear k18 h1 r1)
    | (go_at_call 9; refine k9.mono ?_; rintro e w2 ⟨a2, c2, rfl, r2, _, h2⟩; have H2 := hidden (H1.out.trans (h2.mono H1.out.size)); have P2 := hidden (P1.out.later h2); have Q2 := hidden (Q1.out.later h2); have R2 := hidden (R1.out.later h2); have X2 := hidden r2; have B2 := hidden h2; have k9b := HWd.out _ P2.out; clear k9 h2 r2)
    | (go_at_call 9; refine k9b.mono ?_; rintro e w3 ⟨a3, c3, rfl, r3, _, h3⟩; have H3 := hidden (H2.out.trans (h3.mono H2.out.size)); have P3 := hidden (P2.out.later h3); have Q3 := hidden (Q2.out.later h3); have R3 := hidden (R2.out.later h3); have X3 := hidden (owl X2.out h3); have Y3 := hidden (HOW.out _ _ _ _ r3); have Z3 : Hid (Wr (fun b => w2.heap.size ≤ b) w3 a3 lr) := hidden ((wr_owns r3).mono (fun _ h => h.2.1)); have B3 := hidden h3; have k11 := HPr.out _ P3.out; clear k9b h3 r3)
    | (go_at_call 11; refine k11.mono ?_; rintro e w4 ⟨rfl, h4⟩; have H4 := hidden (H3.out.trans (h4.mono H3.out.size)); have B4 := hidden (B3.out.trans (h4.mono B3.out.size)); have P4 := hidden (P3.out.later h4); have Q4 := hidden (Q3.out.later h4); have R4 := hidden (R3.out.later h4); have X4 := hidden (owl X3.out h4); have Y4 := hidden (Y3.out.later h4); have Z4 := hidden (Z3.out.later h4); have k19 := HPn.out _ Q4.out; clear k11 h4)
    | (go_at_call 19; refine k19.mono ?_; rintro e w5 ⟨rfl, h5⟩; have H5 := hidden (H4.out.trans (h5.mono H4.out.size)); have B5 := hidden (B4.out.trans (h5.mono B4.out.size)); have P5 := hidden (P4.out.later h5); have Q5 := hidden (Q4.out.later h5); have R5 := hidden (R4.out.later h5); have X5 := hidden (owl X4.out h5); have Y5 := hidden (Y4.out.later h5); have Z5 := hidden (Z4.out.later h5); have k20 := HSM.out w5 a2 a1 c2 c1 (HOW.out _ _ _ _ X5.out) R5.out hm1; clear k19 h5)
    | (go_at_call 20; refine k20.mono ?_; rintro e w6 ⟨rfl, h6⟩; have H6 := hidden (H5.out.trans (h6.mono H5.out.size)); have B6 := hidden (B5.out.trans (h6.mono B5.out.size)); have P6 := hidden (P5.out.later h6); have Q6 := hidden (Q5.out.later h6); have R6 := hidden (R5.out.later h6); have X6 := hidden (owl X5.out h6); have Y6 := hidden (Y5.out.later h6); have Z6 := hidden (Z5.out.later h6); have k20b := HSM.out w6 a3 a1 c3 c1 Y6.out R6.out hm1; clear k20 h6)
    | (go_at_call 20; refine k20b.mono ?_; rintro e w7 ⟨rfl, h7⟩; have H7 := hidden (H6.out.trans (h7.mono H6.out.size)); have B7 := hidden (B6.out.trans (h7.mono B6.out.size)); have P7 := hidden (P6.out.later h7); have Q7 := hidden (Q6.out.later h7); have R7 := hidden (R6.out.later h7); have X7 := hidden (owl X6.out h7); have Y7 := hidden (Y6.out.later h7); have Z7 := hidden (Z6.out.later h7); clear k20b h7))
  have HOB : Hid (∀ k, (Value.slice a2 m c2).ownBlock = some k → w1.heap.size ≤ k ∧ k < w2.heap.size) := hidden (fun k hk => ⟨(X2.out.lt k hk).1, owns_lt X2.out k hk⟩)
  obtain ⟨ob, hob⟩ : ∃ ob, (Value.slice a2 m c2).ownBlock = ob := ⟨_, rfl⟩
  have HX0 : Hid (XO w1 w7 ob w7 a2 m c2) := hidden ⟨lr, X7.out, by rw [hob]; exact Cm.refl _ _⟩
  rw [hob] at HOB
  have HB17 : Hid (Below w1.heap.size w1 w7) := hidden (B2.out.trans (B7.out.mono B2.out.size))
  have HY7 : Hid (Wr (fun b => w2.heap.size ≤ b) w7 a3 lr) := Z7
  clear H2 H3 H4 H5 H6 B3 B4 B5 B6 B7 P2 P3 P4 P5 P6 P7 Q2 Q3 Q4 Q5 Q6 Q7 R2 R3 R4 R5 R6 R7 X2 X3 X4 X5 X6 X7 Y3 Y4 Y5 Y6 Y7 Z3 Z4 Z5 Z6 Z7 HPr HPn hob
  go_wp2_with fail
  go_loopw [13] (fun s13 wx => ∃ i : Nat, s13 = .int .i64 (i : Int) ∧ i ≤ m ∧ Hid (XO w1 w7 ob wx a2 m c2)) (fun s13 _ => m - (intOf s13).toNat)
  case atStart => exact ⟨0, rfl, by omega, HX0⟩
  case round =>
    rename World => wr
    obtain ⟨i, rfl, hi, hX⟩ := hrel
    clear HX0
    by_cases hlt : i < m
    · have hltz : (i : Int) < (m : Int) := by omega
      obtain ⟨g, y, rfl, hc, hf⟩ := hX.out.cell hlt
      have HX2 := hidden (hX.out.set (i := i) mineT)
      go_wp2_with fail
      refine ⟨⟨i + 1, rfl, by omega, HX2⟩, ?_⟩
      simp [intOf]
      omega
    · have hltz : ¬ (i : Int) < (m : Int) := by omega
      obtain ⟨i0, hi0, hz0, hz1, hz2⟩ := info_parts info9
      have HI := hidden hi0
      clear hi0
      go_wp2_with fail
      go_loopw [9, 14] (fun s9 s14 wx => ∃ (k m9 c9 : Nat) (a9 : Option Addr), s9 = .slice a9 m9 c9 ∧ s14 = .int .i64 (k : Int) ∧ k ≤ 20 ∧ m9 ≤ 16 + k ∧ Hid (XO w1 w7 ob wx a9 m9 c9)) (fun _ s14 _ => 20 - (intOf s14).toNat)
      case atStart => exact ⟨0, m, c2, a2, rfl, rfl, by omega, by omega, hX⟩
      case round =>
        rename World => wk
        obtain ⟨k, m9, c9, a9, rfl, rfl, hk, hm9, hXk⟩ := hrel
        clear hX
        by_cases hkt : k < 20
        · have hktz : (k : Int) < 20 := by omega
          obtain ⟨xs, hown, hcm⟩ := hXk.out
          have HOWN := hidden hown
          have HCMK := hidden hcm
          have HSZ : Hid (w1.heap.size ≤ wk.heap.size) := hidden (hXk.out.below HB17.out (fun k h => (HOB.out k h).1)).size
          have HCL : Hid ((wk.alloc (.cells #[.string mineT] 9)).cell? ⟨wk.heap.size, 0, none⟩ = some (.string mineT)) := hidden ((Blk.new wk 9 [.string mineT]).cell 0)
          clear hown hcm hXk
          go_wp2_with (refine wpList_push _ rfl (.tmp 75) (.tmp 76) 22 rfl 9 i0 (.string ⟨#[]⟩) 16 Tryd.underlying22 HI.out hz0 hz1 hz2 rfl w1.heap.size (.slice a9 m9 c9) m9 (sV xs) rfl (HOWN.out.alloc _) ⟨wk.heap.size, 0, none⟩ (.string mineT) rfl HCL.out rfl (by unfold maxLen; omega) (by omega) (by have := HSZ.out; simp; omega) ?_; intro g5 c5 w5 o5 p5; have X5 : Hid (XO w1 w7 ob w5 (some ⟨g5, 0, none⟩) (m9 + 1) c5) := hidden ⟨xs ++ [mineT], (by rw [sV_append]; exact o5), HCMK.out.trans (Cm.pushed p5 _ _)⟩; clear o5 p5)
          refine ⟨⟨k + 1, m9 + 1, c5, _, rfl, rfl, by omega, by omega, X5⟩, ?_⟩
          simp [intOf]
          omega
        · have hktz : ¬ (k : Int) < 20 := by omega
          have HBK := hidden (hXk.out.below HB17.out (fun k h => (HOB.out k h).1))
          have PK := hidden (P1.out.later HBK.out)
          have HYK : Hid (Wr (fun _ => True) wk a3 lr) := hidden ((HY7.out.keep hXk.out.choose_spec.2.chg (fun b hb e => by have := (HOB.out b e).2; omega)).mono (fun _ _ => trivial))
          have k9c := HWd.out _ PK.out
          clear hXk HI hz0 hz1 hz2
          go_upto_region 17 with (first
            | (go_at_call 9; refine k9c.mono ?_; rintro e v1 ⟨a10, c10, rfl, r10, _, g1⟩; have G1 := hidden (HBK.out.trans (g1.mono HBK.out.size)); have Y10 := hidden (HYK.out.later g1); have Z10 := hidden (HOW.out _ _ _ _ r10); have R10 := hidden (R1.out.later G1.out); have k20c := HSM.out v1 a3 a1 c3 c1 Y10.out R10.out hm1; clear k9c g1 r10)
            | (go_at_call 20; refine k20c.mono ?_; rintro e v2 ⟨rfl, g2⟩; have G2 := hidden (G1.out.trans (g2.mono G1.out.size)); have Z11 := hidden (Z10.out.later g2); have R11 := hidden (R1.out.later G2.out); have k20d := HSM.out v2 a10 a1 c10 c1 Z11.out R11.out hm1; clear k20c g2)
            | (go_at_call 20; refine k20d.mono ?_; rintro e v3 ⟨rfl, g3⟩; have G3 := hidden (G2.out.trans (g3.mono G2.out.size)); clear k20d g3))
          clear Y10 Z10 R10 Z11 R11 G1 G2 HYK HBK PK HWd HSM HOW
          have HW3 : Hid (Below w.heap.size w v3) := hidden (H1.out.trans (G3.out.mono H1.out.size))
          have PV := hidden (P1.out.later G3.out)
          have QV := hidden (Q1.out.later G3.out)
          have RV := hidden (R1.out.later G3.out)
          have LV := hidden (HL.out.later HW3.out)
          have TV3 : Hid (Tb B v3) := hidden (HTB.out.below HW3.out HTB.out.size)
          clear P1 Q1 R1 HL HTB HB17 HOB HY7 G3 H1 H7 B2 HP HQ
          go_wp2_with fail
          go_loopw [17] (fun s17 wx => ∃ i : Nat, s17 = .int .i64 (i : Int) ∧ i ≤ 100 ∧ Hid (Below v3.heap.size v3 wx)) (fun s17 _ => 100 - (intOf s17).toNat)
          case atStart => exact ⟨0, rfl, by omega, hidden (Below.refl _ _)⟩
          case round =>
            rename World => wq
            obtain ⟨j, rfl, hj, hbel⟩ := hrel
            go_upto_region 18 with fail
            go_cut [105] from 98 to 125 (fun s wx => ∃ C : Bool, s = .bool C ∧ wx = wq ∧ (C = true → j < n ∧ j < 100))
            case first =>
              by_cases hin : j < n
              · have hinz : (j : Int) < (n : Int) := by omega
                by_cases hih : j < 100
                · have hihz : (j : Int) < 100 := by omega
                  go_wp2_with fail
                  go_meet
                  exact ⟨true, rfl, rfl, fun _ => ⟨hin, hih⟩⟩
                · have hihz : ¬ (j : Int) < 100 := by omega
                  have hihd : decide ((j : Int) < 100) = false := decide_eq_false hihz
                  go_wp2_with fail
                  go_meet
                  exact ⟨false, rfl, rfl, fun h => by cases h⟩
              · have hinz : ¬ (j : Int) < (n : Int) := by omega
                have hind : decide ((j : Int) < (n : Int)) = false := decide_eq_false hinz
                go_wp2_with fail
                go_meet
                exact ⟨false, rfl, rfl, fun h => by cases h⟩
            case rest =>
              obtain ⟨C, rfl, hwq, hC⟩ := hcut
              obtain rfl := hwq.symm
              cases C with
              | true =>
                obtain ⟨hin, hih⟩ := hC rfl
                have hinz : (j : Int) < (n : Int) := by omega
                have hll : j < L.length := by have := HN.out; omega
                have hne : L ≠ [] := fun e => by rw [e] at hll; simp at hll
                obtain ⟨b1, o1, rfl, _, hc1⟩ := (LV.out.later hbel.out) hne
                obtain ⟨x, hx⟩ : ∃ x, L[j]? = some x := ⟨_, List.getElem?_eq_getElem hll⟩
                have k1 := hc1 j x hx
                clear hc1 hx hll hne
                go_upto_region 20 with fail
                go_cut [18] from 98 to 125 (fun s wx => s = .string (cut200 x) ∧ Hid (Below wq.heap.size wq wx))
                case first =>
                  by_cases hx2 : x.size ≤ 200
                  · have hxz : (x.size : Int) ≤ 200 := by omega
                    have HV : Hid (x.extract 0 (min (x.size : Int) 200).toNat = cut200 x) := hidden (by unfold cut200; rw [show (min (x.size : Int) 200).toNat = min x.size 200 by omega])
                    go_region
                    all_goals
                      go_wp2
                      go_meet
                      exact ⟨by rw [HV.out], hidden (below_drew _ _)⟩
                  · have hxz : ¬ (x.size : Int) ≤ 200 := by omega
                    have hxy : (200 : Int) ≤ (x.size : Int) := by omega
                    have HV : Hid (x.extract 0 (min (x.size : Int) 200).toNat = cut200 x) := hidden (by unfold cut200; rw [show (min (x.size : Int) 200).toNat = min x.size 200 by omega])
                    go_region
                    all_goals
                      go_wp2
                      go_meet
                      exact ⟨by rw [HV.out], hidden (below_drew _ _)⟩
                case rest =>
                  obtain ⟨rfl, hb9⟩ := hcut
                  rename World => w9
                  have HB9 := hidden (hbel.out.trans (hb9.out.mono hbel.out.size))
                  obtain ⟨v, hv⟩ : ∃ v, cut200 x = v := ⟨_, rfl⟩
                  have hvs : v.size ≤ 200 := by rw [← hv]; exact cut200_size x
                  rw [hv]
                  obtain ⟨R, hR⟩ : ∃ R, mB t (bts v) = R := ⟨_, rfl⟩
                  have kP := match_mB (PV.out.later HB9.out) v (by omega) R hR
                  have HKQ : Hid (∀ wx, Below v3.heap.size v3 wx → Calls Tryd.prog 21 #[.pointer (some ⟨q, 0, none⟩), .string v] wx fun e w' => e = .returned (.bool R) ∧ Below wx.heap.size wx w') := hidden (fun wx hb => matchN B (QV.out.later hb) HFI.out.1 HFI.out.2.2 v hvs (TV3.out.below hb TV3.out.size) R hR)
                  clear hR hv hvs k1 hb9
                  go_wp2_with (first
                    | (go_at_call 10; refine kP.mono ?_; rintro e u1 ⟨rfl, g1⟩; have U1 := hidden (HB9.out.trans (g1.mono HB9.out.size)); have kQ := HKQ.out u1 U1.out; clear kP HKQ g1)
                    | (go_at_call 21; refine kQ.mono ?_; rintro e u2 ⟨rfl, g2⟩; have U2 := hidden (U1.out.trans (g2.mono U1.out.size)); clear kQ g2))
                  refine ⟨⟨j + 1, rfl, by omega, U2⟩, ?_⟩
                  simp [intOf]
                  omega
              | false =>
                clear hC
                go_wp2_with fail
                go_loopw [19] (fun s19 wx => ∃ i : Nat, s19 = .int .i64 (i : Int) ∧ i ≤ m ∧ Hid (Below v3.heap.size v3 wx)) (fun s19 _ => m - (intOf s19).toNat)
                case atStart => exact ⟨0, rfl, by omega, hbel⟩
                case round =>
                  rename World => wz
                  obtain ⟨i2, rfl, hi2, hbz⟩ := hrel
                  by_cases hlt2 : i2 < m
                  · have hlt2z : (i2 : Int) < (m : Int) := by omega
                    have hll : i2 < lr.length := by have := HM.out; omega
                    have hne : lr ≠ [] := fun e => by rw [e] at hll; simp at hll
                    obtain ⟨b1, o1, rfl, _, hc1⟩ := (RV.out.later hbz.out) hne
                    obtain ⟨x, hx⟩ : ∃ x, lr[i2]? = some x := ⟨_, List.getElem?_eq_getElem hll⟩
                    have k1 := hc1 i2 x hx
                    have hxm := List.mem_of_getElem? hx
                    have kP := match_mB (PV.out.later hbz.out) x (HWS.out x hxm) true (HWM.out x hxm)
                    clear hc1 hx hll hne hxm
                    go_wp2_with (go_at_call 10; refine kP.mono ?_; rintro e u1 ⟨rfl, g1⟩; have U1 := hidden (hbz.out.trans (g1.mono hbz.out.size)); clear kP g1)
                    refine ⟨⟨i2 + 1, rfl, by omega, U1⟩, ?_⟩
                    simp [intOf]
                    omega
                  · have hlt2z : ¬ (i2 : Int) < (m : Int) := by omega
                    go_wp2
                    go_ret
                    exact ⟨rfl, HW3.out.trans (hbz.out.mono HW3.out.size)⟩

end Go.Proofs.YtndegcgcbhcokaaDoor

/-
  What is printed is read again, purely: the whole tree.
-/
namespace Go.Proofs.YtndegcgcbhcokaaDoor
open Go
set_option linter.unusedVariables false
set_option linter.unusedSimpArgs false

def Pt.isRep : Pt → Bool
  | .rep _ _ => true
  | _ => false
mutual
/-- A tree as it is read. -/
def Pt.shp : Pt → Prop
  | .chr c => Vc c
  | .any => True
  | .cls _ l => Tidy l ∧ l ≠ []
  | .grp l => rowsShp l ∧ l ≠ []
  | .rep a s => a.shp ∧ a.isRep = false ∧ (s = 42 ∨ s = 43 ∨ s = 63)
def rowShp : List Pt → Prop
  | [] => True
  | p :: t => p.shp ∧ rowShp t
def rowsShp : List (List Pt) → Prop
  | [] => True
  | r :: t => rowShp r ∧ rowsShp t
end
/-- What may stand behind an item: no sign of repetition. -/
def noRep (rest : List UInt8) : Prop := rest.head? ≠ some 42 ∧ rest.head? ≠ some 43 ∧ rest.head? ≠ some 63
theorem at_drop {S A rest : List UInt8} {a : Nat} (h : S.drop a = A ++ rest) : S[a + A.length]? = rest.head? := by
  have : S[a + A.length]? = (S.drop a)[A.length]? := by rw [List.getElem?_drop]
  rw [this, h, List.getElem?_append_right (Nat.le_refl _), Nat.sub_self, List.head?_eq_getElem?]
theorem at_head {S T : List UInt8} {a : Nat} (h : S.drop a = T) : S[a]? = T.head? := by
  have : S[a]? = (S.drop a)[0]? := by simp
  rw [this, h, List.head?_eq_getElem?]
/-- A printed character begins with no sign but the one that escapes. -/
theorem chrT_sign {c : Nat} (hv : Vc c) : ∃ x t, chrT c = x :: t ∧ ∀ k : UInt8, k.toNat < 128 → isSg k.toNat = true → k ≠ 92 → x ≠ k := by
  cases hs : isSg c with
  | true => exact ⟨92, _, chrT_yes hs, fun k _ _ h e => h e.symm⟩
  | false =>
    obtain ⟨E, hE⟩ : ∃ E, enc c = E := ⟨_, rfl⟩
    have hb : bts (str c) = E := by rw [← hE]; rfl
    have hl := (enc_len hv).1
    rw [hE] at hl
    rw [chrT_no hs, hb]
    cases he : E with
    | nil => rw [he] at hl; simp at hl
    | cons x t =>
      refine ⟨x, t, rfl, fun k h1 h2 h3 e => ?_⟩
      have hc : c = k.toNat := enc_head hv k h1 (hE.trans he) e
      rw [hc, h2] at hs
      cases hs
theorem item_up {S : List UInt8} {f d a b : Nat} {p : Pt} (h : atomF S f d a = .ok p b) (g : Nat) (hg : f ≤ g) : atomF S g d a = .ok p b := by rw [(read_more S f g hg d a).2.2.2 (by rw [h]; simp), h]
theorem row_up {S : List UInt8} {f d a b : Nat} {r : List Pt} (h : rowF S f d a = .ok r b) (g : Nat) (hg : f ≤ g) : rowF S g d a = .ok r b := by rw [(read_more S f g hg d a).2.1 (by rw [h]; simp), h]
theorem it_up {S : List UInt8} {f d a b : Nat} {p : Pt} (h : itemF S f d a = .ok p b) (g : Nat) (hg : f ≤ g) : itemF S g d a = .ok p b := by rw [(read_more S f g hg d a).2.2.1 (by rw [h]; simp), h]
theorem rows_up {S : List UInt8} {f d a b : Nat} {r : List (List Pt)} (h : rowsF S f d a = .ok r b) (g : Nat) (hg : f ≤ g) : rowsF S g d a = .ok r b := by rw [(read_more S f g hg d a).1 (by rw [h]; simp), h]
mutual
theorem Pt.txt_head : ∀ (p : Pt), p.shp → ∃ x t, p.txt = x :: t ∧ x ≠ 124 ∧ x ≠ 41 ∧ x ≠ 42 ∧ x ≠ 43 ∧ x ≠ 63
  | .chr c, h => by
    simp only [Pt.shp] at h
    obtain ⟨x, t, h1, h2⟩ := chrT_sign h
    simp only [Pt.txt]
    exact ⟨x, t, h1, h2 124 (by decide) (by decide) (by decide), h2 41 (by decide) (by decide) (by decide), h2 42 (by decide) (by decide) (by decide), h2 43 (by decide) (by decide) (by decide), h2 63 (by decide) (by decide) (by decide)⟩
  | .any, h => by simp only [Pt.txt]; exact ⟨46, [], rfl, by decide, by decide, by decide, by decide, by decide⟩
  | .cls neg l, h => by simp only [Pt.txt]; exact ⟨91, _, rfl, by decide, by decide, by decide, by decide, by decide⟩
  | .grp l, h => by simp only [Pt.txt]; exact ⟨40, _, rfl, by decide, by decide, by decide, by decide, by decide⟩
  | .rep a s, h => by
    simp only [Pt.shp] at h
    obtain ⟨x, t, h1, h2⟩ := Pt.txt_head a h.1
    simp only [Pt.txt]
    rw [h1]
    exact ⟨x, _, rfl, h2⟩
end
def stopR (rest : List UInt8) : Prop := rest.head? = none ∨ rest.head? = some 124 ∨ rest.head? = some 41
theorem stop_noRep {rest : List UInt8} (h : stopR rest) : noRep rest := by
  unfold noRep
  rcases h with h | h | h <;> rw [h] <;> exact ⟨by decide, by decide, by decide⟩
theorem row_noRep {t : List Pt} (ht : rowShp t) {rest : List UInt8} (h : stopR rest) : noRep (rowT t ++ rest) := by
  cases t with
  | nil => rw [rowT, List.nil_append]; exact stop_noRep h
  | cons p t =>
    simp only [rowShp] at ht
    obtain ⟨x, u, h1, _, _, h2, h3, h4⟩ := Pt.txt_head p ht.1
    rw [rowT, h1]
    unfold noRep
    simp only [List.cons_append, List.head?_cons]
    exact ⟨fun e => h2 (Option.some.inj e), fun e => h3 (Option.some.inj e), fun e => h4 (Option.some.inj e)⟩
theorem sg_nat {s : Nat} (h : s = 42 ∨ s = 43 ∨ s = 63) : (UInt8.ofNat s = 42 ∧ s = 42) ∨ (UInt8.ofNat s = 43 ∧ s = 43) ∨ (UInt8.ofNat s = 63 ∧ s = 63) := by
  rcases h with rfl | rfl | rfl
  · exact .inl ⟨rfl, rfl⟩
  · exact .inr (.inl ⟨rfl, rfl⟩)
  · exact .inr (.inr ⟨rfl, rfl⟩)

/-- An item of an atom. -/
theorem item_of {S : List UInt8} {d a : Nat} {p : Pt} {rest : List UInt8} (h : ∃ f, atomF S f d a = .ok p (a + p.txt.length)) (hd : S.drop a = p.txt ++ rest) (hn : noRep rest) : ∃ f, itemF S f d a = .ok p (a + p.txt.length) := by
  obtain ⟨f, hf⟩ := h
  have hat := at_drop hd
  exact ⟨f + 1, item_plain hf (by rw [hat]; exact hn.1) (by rw [hat]; exact hn.2.1) (by rw [hat]; exact hn.2.2)⟩
theorem chr_atom {S : List UInt8} {d a c : Nat} {rest : List UInt8} (hv : Vc c) (hd : S.drop a = chrT c ++ rest) : ∃ f, atomF S f d a = .ok (.chr c) (a + (chrT c).length) := by
  obtain ⟨x, t, h1, h2⟩ := chrT_sign hv
  have hat : S[a]? = some x := by rw [at_head hd, h1]; rfl
  refine ⟨1, ?_⟩
  rw [atomF, if_neg (by rw [hat]; exact fun e => h2 46 (by decide) (by decide) (by decide) (Option.some.inj e)), if_neg (by rw [hat]; exact fun e => h2 91 (by decide) (by decide) (by decide) (Option.some.inj e)), if_neg (by rw [hat]; exact fun e => h2 40 (by decide) (by decide) (by decide) (Option.some.inj e.2)), charF_txt hv hd]
theorem cls_atom {S : List UInt8} {d a : Nat} {neg : Bool} {l : Sn} {rest : List UInt8} (ht : Tidy l) (hne : l ≠ []) (hd : S.drop a = (Pt.cls neg l).txt ++ rest) : ∃ f, atomF S f d a = .ok (.cls neg l) (a + (Pt.cls neg l).txt.length) := by
  simp only [Pt.txt] at hd ⊢
  have h91 : S[a]? = some 91 := by rw [at_head hd]; rfl
  have hd1 : S.drop (a + 1) = (if neg then [94] else []) ++ l.flatMap spanT ++ 93 :: rest := by
    have := (drop_get (x := 91) (t := (if neg then [94] else []) ++ l.flatMap spanT ++ 93 :: rest) (by rw [hd]; simp)).2
    exact this
  have hlen : (l.flatMap spanT).length + 1 ≤ S.length + 2 := by
    have := congrArg List.length hd1
    simp only [List.length_drop, List.length_append, List.length_cons] at this
    omega
  refine ⟨1, ?_⟩
  rw [atomF, if_neg (by rw [h91]; decide), if_pos h91]
  cases neg with
  | true =>
    simp only [if_true, List.singleton_append, List.cons_append] at hd1
    obtain ⟨h94, hd2⟩ := drop_get hd1
    rw [if_pos h94, cls_read l (S.length + 2) (a + 1 + 1) [] rest ht (fun o ho => by cases ho) (.inr hne) hd2 hlen]
    simp only [decide_eq_true h94, List.nil_append, if_true, List.singleton_append, List.length_cons, List.length_append, List.length_nil]
    congr 1
    omega
  | false =>
    simp only [Bool.false_eq_true, if_false, List.nil_append] at hd1
    have h94 : ¬ S[a + 1]? = some 94 := fun e => by
      cases l with
      | nil => exact hne rfl
      | cons s t =>
        rw [Tidy] at ht
        obtain ⟨x, u, h1, h2⟩ := chrT_sign ht.2.1
        rw [at_head hd1, List.flatMap_cons] at e
        unfold spanT at e
        rw [h1] at e
        simp only [List.cons_append, List.head?_cons] at e
        exact h2 94 (by decide) (by decide) (by decide) (Option.some.inj e)
    rw [if_neg h94, cls_read l (S.length + 2) (a + 1) [] rest ht (fun o ho => by cases ho) (.inr hne) hd1 hlen]
    simp only [decide_eq_false h94, List.nil_append, Bool.false_eq_true, if_false, List.length_cons, List.length_append, List.length_nil]
    congr 1
    omega

end Go.Proofs.YtndegcgcbhcokaaDoor

/-
  What is printed is read again, purely: rows.
-/
namespace Go.Proofs.YtndegcgcbhcokaaDoor
open Go
set_option linter.unusedVariables false
set_option linter.unusedSimpArgs false

def AtomRd (p : Pt) : Prop := p.shp → p.isRep = false → ∀ (S : List UInt8) (d a : Nat) (rest : List UInt8), p.dep + d ≤ 16 → S.drop a = p.txt ++ rest → ∃ f, atomF S f d a = .ok p (a + p.txt.length)
def ItemRd (p : Pt) : Prop := p.shp → ∀ (S : List UInt8) (d a : Nat) (rest : List UInt8), p.dep + d ≤ 16 → S.drop a = p.txt ++ rest → noRep rest → ∃ f, itemF S f d a = .ok p (a + p.txt.length)
def RowRd (r : List Pt) : Prop := rowShp r → ∀ (S : List UInt8) (d a : Nat) (rest : List UInt8), rowDep r + d ≤ 16 → S.drop a = rowT r ++ rest → stopR rest → ∃ f, rowF S f d a = .ok r (a + (rowT r).length)
def RowsRd (l : List (List Pt)) : Prop := rowsShp l → l ≠ [] → ∀ (S : List UInt8) (d a : Nat) (rest : List UInt8), rowsDep l + d ≤ 16 → S.drop a = rowsT l ++ rest → (rest.head? = none ∨ rest.head? = some 41) → ∃ f, rowsF S f d a = .ok l (a + (rowsT l).length)

theorem item_rd {p : Pt} (h : AtomRd p) (hr : p.isRep = false) : ItemRd p := fun hs S d a rest hd hdr hn => item_of (h hs hr S d a rest hd hdr) hdr hn
theorem rep_rd {p : Pt} {s : Nat} (h : AtomRd p) : ItemRd (.rep p s) := by
  intro hs S d a rest hd hdr hn
  simp only [Pt.shp] at hs
  simp only [Pt.dep] at hd
  simp only [Pt.txt] at hdr ⊢
  rw [List.append_assoc] at hdr
  obtain ⟨f, hf⟩ := h hs.1 hs.2.1 S d a _ hd hdr
  have hat := at_drop hdr
  rw [List.length_append]
  rcases sg_nat hs.2.2 with ⟨e, rfl⟩ | ⟨e, rfl⟩ | ⟨e, rfl⟩
  · rw [e] at hat
    have h1 : S[a + p.txt.length]? = some 42 := by rw [hat]; simp
    exact ⟨f + 1, by rw [itemF, hf]; simp only; rw [if_pos h1]; rfl⟩
  · rw [e] at hat
    have h1 : ¬ S[a + p.txt.length]? = some 42 := by rw [hat]; simp
    have h2 : S[a + p.txt.length]? = some 43 := by rw [hat]; simp
    exact ⟨f + 1, by rw [itemF, hf]; simp only; rw [if_neg h1, if_pos h2]; rfl⟩
  · rw [e] at hat
    have h1 : ¬ S[a + p.txt.length]? = some 42 := by rw [hat]; simp
    have h2 : ¬ S[a + p.txt.length]? = some 43 := by rw [hat]; simp
    have h3 : S[a + p.txt.length]? = some 63 := by rw [hat]; simp
    exact ⟨f + 1, by rw [itemF, hf]; simp only; rw [if_neg h1, if_neg h2, if_pos h3]; rfl⟩
theorem row_rd : ∀ (r : List Pt), (∀ p ∈ r, ItemRd p) → RowRd r
  | [], hi => by
    intro hs S d a rest hd hdr hst
    rw [rowT, List.nil_append] at hdr
    refine ⟨1, ?_⟩
    rw [row_end (by rw [at_head hdr]; exact hst), rowT]
    simp
  | p :: t, hi => by
    intro hs S d a rest hd hdr hst
    simp only [rowShp] at hs
    simp only [rowDep] at hd
    rw [rowT, List.append_assoc] at hdr
    obtain ⟨f1, h1⟩ := hi p (by simp) hs.1 S d a _ (by omega) hdr (row_noRep hs.2 hst)
    obtain ⟨f2, h2⟩ := row_rd t (fun q hq => hi q (by simp [hq])) hs.2 S d (a + p.txt.length) rest (by omega) (drop_len hdr) hst
    obtain ⟨x, u, hx, h124, h41, _⟩ := Pt.txt_head p hs.1
    have hat : S[a]? = some x := by rw [at_head hdr, hx]; rfl
    have hns : ¬ (S[a]? = none ∨ S[a]? = some 124 ∨ S[a]? = some 41) := by
      rw [hat]
      rintro (h | h | h)
      · cases h
      · exact h124 (Option.some.inj h)
      · exact h41 (Option.some.inj h)
    refine ⟨max f1 f2 + 1, ?_⟩
    rw [row_cons hns (it_up h1 _ (Nat.le_max_left _ _)) (row_up h2 _ (Nat.le_max_right _ _)), rowT, List.length_append, Nat.add_assoc]
theorem rowsT_cons (r r2 : List Pt) (t : List (List Pt)) : rowsT (r :: r2 :: t) = rowT r ++ 124 :: rowsT (r2 :: t) := by
  rw [rowsT, rowsT1, rowsT, List.cons_append]
theorem rows_rd : ∀ (l : List (List Pt)), (∀ r ∈ l, RowRd r) → RowsRd l
  | [], hi => fun _ hne => absurd rfl hne
  | [r], hi => by
    intro hs _ S d a rest hd hdr hst
    simp only [rowsShp] at hs
    simp only [rowsDep] at hd
    have hT : rowsT [r] = rowT r := by rw [rowsT, rowsT1, List.append_nil]
    rw [hT] at hdr ⊢
    have hst2 : stopR rest := hst.elim .inl (fun h => .inr (.inr h))
    obtain ⟨f, h⟩ := hi r (by simp) hs.1 S d a rest (by omega) hdr hst2
    have hat := at_drop hdr
    refine ⟨f + 1, rows_one h ?_⟩
    rw [hat]
    rcases hst with e | e <;> rw [e] <;> decide
  | r :: r2 :: t, hi => by
    intro hs _ S d a rest hd hdr hst
    rw [rowsShp] at hs
    rw [rowsDep] at hd
    rw [rowsT_cons, List.append_assoc] at hdr
    obtain ⟨f1, h1⟩ := hi r (by simp) hs.1 S d a _ (by omega) hdr (.inr (.inl rfl))
    have hat := at_drop hdr
    have hd2 := drop_len hdr
    rw [List.cons_append] at hd2
    obtain ⟨h124, hd3⟩ := drop_get hd2
    obtain ⟨f2, h2⟩ := rows_rd (r2 :: t) (fun q hq => hi q (List.mem_cons.2 (.inr hq))) hs.2 (by simp) S d (a + (rowT r).length + 1) rest (by omega) hd3 hst
    refine ⟨max f1 f2 + 1, ?_⟩
    rw [rows_cons (row_up h1 _ (Nat.le_max_left _ _)) h124 (rows_up h2 _ (Nat.le_max_right _ _)), rowsT_cons, List.length_append, List.length_cons]
    congr 1
    omega
theorem grp_rd {l : List (List Pt)} (h : RowsRd l) : AtomRd (.grp l) := by
  intro hs _ S d a rest hd hdr
  simp only [Pt.shp] at hs
  simp only [Pt.dep] at hd
  simp only [Pt.txt] at hdr ⊢
  have h40 : S[a]? = some 40 := by rw [at_head hdr]; rfl
  have hd1 : S.drop (a + 1) = rowsT l ++ 41 :: rest := (drop_get (x := 40) (t := rowsT l ++ 41 :: rest) (by rw [hdr]; simp)).2
  obtain ⟨f, hf⟩ := h hs.1 hs.2 S (d + 1) (a + 1) (41 :: rest) (by omega) hd1 (.inr rfl)
  have hat : S[a + 1 + (rowsT l).length]? = some 41 := by rw [at_drop hd1]; rfl
  refine ⟨f + 1, ?_⟩
  rw [atomF, if_neg (by rw [h40]; decide), if_neg (by rw [h40]; decide), if_pos ⟨by omega, h40⟩, hf]
  simp only
  rw [if_pos hat]
  simp only [List.length_cons, List.length_append, List.length_nil]
  congr 1
  omega
theorem any_rd : AtomRd .any := by
  intro hs _ S d a rest hd hdr
  simp only [Pt.txt] at hdr ⊢
  have h46 : S[a]? = some 46 := by rw [at_head hdr]; rfl
  exact ⟨1, by rw [atomF, if_pos h46]; rfl⟩
theorem chr_rd (c : Nat) : AtomRd (.chr c) := by
  intro hs _ S d a rest hd hdr
  simp only [Pt.shp] at hs
  simp only [Pt.txt] at hdr ⊢
  exact chr_atom hs hdr
theorem cls_rd (neg : Bool) (l : Sn) : AtomRd (.cls neg l) := by
  intro hs _ S d a rest hd hdr
  simp only [Pt.shp] at hs
  exact cls_atom hs.1 hs.2 hdr
mutual
theorem atomRd : ∀ p : Pt, AtomRd p
  | .chr c => chr_rd c
  | .any => any_rd
  | .cls neg l => cls_rd neg l
  | .grp l => grp_rd (rows_rd l (fun r hr => row_rd r (rowsIt l r hr)))
  | .rep a s => fun _ h => by cases h
theorem itemRd : ∀ p : Pt, ItemRd p
  | .chr c => item_rd (chr_rd c) rfl
  | .any => item_rd any_rd rfl
  | .cls neg l => item_rd (cls_rd neg l) rfl
  | .grp l => item_rd (grp_rd (rows_rd l (fun r hr => row_rd r (rowsIt l r hr)))) rfl
  | .rep a s => rep_rd (atomRd a)
theorem rowIt : ∀ (r : List Pt) (p : Pt), p ∈ r → ItemRd p
  | [], p, h => by cases h
  | q :: t, p, h => by
    rcases List.mem_cons.1 h with e | h
    · rw [e]; exact itemRd q
    · exact rowIt t p h
theorem rowsIt : ∀ (l : List (List Pt)) (r : List Pt), r ∈ l → ∀ p ∈ r, ItemRd p
  | [], r, h => by cases h
  | q :: t, r, h => by
    rcases List.mem_cons.1 h with e | h
    · rw [e]; exact rowIt q
    · exact rowsIt t r h
end
/-- WHAT IS PRINTED IS READ AS THE SAME TREE. -/
theorem prs_txt {l : List (List Pt)} (hs : rowsShp l) (hne : l ≠ []) (hd : rowsDep l ≤ 16) (h64 : (rowsT l).length ≤ 64) : prs (rowsT l) = .ok l (rowsT l).length := by
  obtain ⟨f, hf⟩ := rows_rd l (fun r hr => row_rd r (rowsIt l r hr)) hs hne (rowsT l) 0 0 [] (by omega) (by simp) (.inl rfl)
  rw [Nat.zero_add] at hf
  have hno := (read_bd (rowsT l) (4 * (rowsT l).length + 4) 0 0 (Nat.zero_le _)).1.2 (by omega)
  have h1 := rows_up hf (max f (4 * (rowsT l).length + 4)) (Nat.le_max_left _ _)
  rw [(read_more _ _ _ (Nat.le_max_right f _) 0 0).1 hno] at h1
  exact prs_of h64 (Nat.le_refl _) h1

end Go.Proofs.YtndegcgcbhcokaaDoor

/-
  A tree that is read has its shape, purely.
-/
namespace Go.Proofs.YtndegcgcbhcokaaDoor
open Go
set_option linter.unusedVariables false
set_option linter.unusedSimpArgs false

theorem read_shp (S : List UInt8) : ∀ (f d a : Nat), a ≤ S.length → d ≤ 16 →
    (∀ l b, rowsF S f d a = .ok l b → rowsShp l ∧ l ≠ [] ∧ rowsDep l + d ≤ 16) ∧ (∀ l b, rowF S f d a = .ok l b → rowShp l ∧ rowDep l + d ≤ 16) ∧
    (∀ p b, itemF S f d a = .ok p b → p.shp ∧ p.dep + d ≤ 16) ∧ (∀ p b, atomF S f d a = .ok p b → p.shp ∧ p.isRep = false ∧ p.dep + d ≤ 16)
  | 0, d, a, ha, hd => by
    refine ⟨fun l b h => ?_, fun l b h => ?_, fun l b h => ?_, fun l b h => ?_⟩
    · rw [rowsF] at h; cases h
    · rw [rowF] at h; cases h
    · rw [itemF] at h; cases h
    · rw [atomF] at h; cases h
  | f + 1, d, a, ha, hd => by
    have ih := read_shp S f
    have bd := read_bd S f
    obtain ⟨_, r1, i1, t1⟩ := ih d a ha hd
    obtain ⟨_, ⟨R1, _⟩, ⟨I1, _⟩, ⟨T1, _⟩⟩ := bd d a ha
    refine ⟨fun l b h => ?_, fun l b h => ?_, fun p b h => ?_, fun p b h => ?_⟩
    · rw [rowsF] at h
      cases h1 : rowF S f d a with
      | bad k => rw [h1] at h; cases h
      | out => rw [h1] at h; cases h
      | ok r b1 =>
        rw [h1] at h
        simp only at h
        have k1 := r1 r b1 h1
        by_cases h124 : S[b1]? = some 124
        · rw [if_pos h124] at h
          have hl := (List.getElem?_eq_some_iff.1 h124).1
          cases h2 : rowsF S f d (b1 + 1) with
          | bad k => rw [h2] at h; cases h
          | out => rw [h2] at h; cases h
          | ok t b2 =>
            rw [h2] at h
            injection h with e1 e2
            subst e1 e2
            have k3 := (ih d (b1 + 1) hl hd).1 t b2 h2
            simp only [rowsShp, rowsDep]
            exact ⟨⟨k1.1, k3.1⟩, by simp, by omega⟩
        · rw [if_neg h124] at h
          injection h with e1 e2
          subst e1 e2
          simp only [rowsShp, rowsDep]
          exact ⟨⟨k1.1, trivial⟩, by simp, by omega⟩
    · rw [rowF] at h
      by_cases hst : S[a]? = none ∨ S[a]? = some 124 ∨ S[a]? = some 41
      · rw [if_pos hst] at h
        injection h with e1 e2
        subst e1 e2
        simp only [rowShp, rowDep]
        exact ⟨trivial, by omega⟩
      · rw [if_neg hst] at h
        cases h1 : itemF S f d a with
        | bad k => rw [h1] at h; cases h
        | out => rw [h1] at h; cases h
        | ok q b1 =>
          rw [h1] at h
          simp only at h
          have k1 := i1 q b1 h1
          have k2 := I1 q b1 h1
          cases h2 : rowF S f d b1 with
          | bad k => rw [h2] at h; cases h
          | out => rw [h2] at h; cases h
          | ok t b2 =>
            rw [h2] at h
            injection h with e1 e2
            subst e1 e2
            have k3 := (ih d b1 k2.2 hd).2.1 t b2 h2
            simp only [rowShp, rowDep]
            exact ⟨⟨k1.1, k3.1⟩, by omega⟩
    · rw [itemF] at h
      cases h1 : atomF S f d a with
      | bad k => rw [h1] at h; cases h
      | out => rw [h1] at h; cases h
      | ok q b1 =>
        rw [h1] at h
        simp only at h
        have k1 := t1 q b1 h1
        split at h
        · injection h with e1 e2
          subst e1 e2
          simp only [Pt.shp, Pt.dep]
          exact ⟨⟨k1.1, k1.2.1, by simp⟩, k1.2.2⟩
        · split at h
          · injection h with e1 e2
            subst e1 e2
            simp only [Pt.shp, Pt.dep]
            exact ⟨⟨k1.1, k1.2.1, by simp⟩, k1.2.2⟩
          · split at h
            · injection h with e1 e2
              subst e1 e2
              simp only [Pt.shp, Pt.dep]
              exact ⟨⟨k1.1, k1.2.1, by simp⟩, k1.2.2⟩
            · injection h with e1 e2
              subst e1 e2
              exact ⟨k1.1, k1.2.2⟩
    · rw [atomF] at h
      by_cases h46 : S[a]? = some 46
      · rw [if_pos h46] at h
        injection h with e1 e2
        subst e1 e2
        simp only [Pt.shp, Pt.dep]
        exact ⟨trivial, rfl, by omega⟩
      · rw [if_neg h46] at h
        by_cases h91 : S[a]? = some 91
        · rw [if_pos h91] at h
          have hl := (List.getElem?_eq_some_iff.1 h91).1
          have hle : (if S[a + 1]? = some 94 then a + 2 else a + 1) ≤ S.length := by
            split
            · rename_i h94; have := (List.getElem?_eq_some_iff.1 h94).1; omega
            · omega
          cases h2 : clsF S (S.length + 2) (if S[a + 1]? = some 94 then a + 2 else a + 1) [] with
          | bad k => rw [h2] at h; cases h
          | out => rw [h2] at h; cases h
          | ok t b2 =>
            rw [h2] at h
            injection h with e1 e2
            subst e1 e2
            have k2 := cls_cnt _ _ [] hle t b2 h2
            simp only [Pt.shp, Pt.dep]
            exact ⟨⟨cls_tidy _ _ [] t b2 (by rw [Tidy]; trivial) h2, k2.2⟩, rfl, by omega⟩
        · rw [if_neg h91] at h
          by_cases h40 : d < 16 ∧ S[a]? = some 40
          · rw [if_pos h40] at h
            have hl := (List.getElem?_eq_some_iff.1 h40.2).1
            cases h2 : rowsF S f (d + 1) (a + 1) with
            | bad k => rw [h2] at h; cases h
            | out => rw [h2] at h; cases h
            | ok t b2 =>
              rw [h2] at h
              simp only at h
              have k2 := (ih (d + 1) (a + 1) hl (by omega)).1 t b2 h2
              split at h
              · injection h with e1 e2
                subst e1 e2
                simp only [Pt.shp, Pt.dep]
                exact ⟨⟨k2.1, k2.2.1⟩, rfl, by omega⟩
              · cases h
          · rw [if_neg h40] at h
            cases h2 : charF S a with
            | bad k => rw [h2] at h; cases h
            | out => rw [h2] at h; cases h
            | ok c b2 =>
              rw [h2] at h
              injection h with e1 e2
              subst e1 e2
              simp only [Pt.shp, Pt.dep]
              exact ⟨char_vc h2, rfl, by omega⟩
theorem prs_shp {s : List UInt8} {l : List (List Pt)} {b : Nat} (h : prs s = .ok l b) : rowsShp l ∧ l ≠ [] ∧ rowsDep l ≤ 16 := by
  obtain ⟨h1, h2, h3⟩ := prs_ok h
  have k := (read_shp s (4 * s.length + 4) 0 0 (Nat.zero_le _) (by omega)).1 l _ (h3 _ (Nat.le_refl _))
  exact ⟨k.1, k.2.1, by have := k.2.2; omega⟩

end Go.Proofs.YtndegcgcbhcokaaDoor
