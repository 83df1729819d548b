import Derived.Test.YtalmpmhnkilalaaGreatDoorDyO
/-
  The document's own Decode: the walk.
-/
namespace Go.Proofs.YtalmpmhnkilalaaGreatDoor
open Go.RowKit
set_option linter.unusedVariables false
set_option linter.unusedSimpArgs false

theorem cQ_set (k : Int) (fm : Nat → FM) (i : Nat) (hi : i < 12) (m : FM) : (cQ k fm).set (i + 1) m.val = cQ k (updM fm i m) := by
  rcases (by omega : i = 0 ∨ i = 1 ∨ i = 2 ∨ i = 3 ∨ i = 4 ∨ i = 5 ∨ i = 6 ∨ i = 7 ∨ i = 8 ∨ i = 9 ∨ i = 10 ∨ i = 11) with rfl | rfl | rfl | rfl | rfl | rfl | rfl | rfl | rfl | rfl | rfl | rfl <;> rfl
/-- What the document's Decode holds on its way. -/
structure DQ (w wx : World) (K : Nat) (k : Int) (fm : Nat → FM) (f : Nat → FV) (s : Ri) : Prop where
  it : It wx (w.heap.size + 1) K s
  blk : Blk wx (w.heap.size + 2) 26 (cQ k fm)
  out : Blk wx w.heap.size 26 z26
  bel : Below w.heap.size w wx
  fd : ∀ j, j < 12 → (fm j).fv = f j ∧ FD (w.heap.size + 3) wx (fm j)
theorem ty6 {w : World} {i : Nat} {t : TypeId} (h : Ty w i t) (hn : t ≠ 45 ∧ t ≠ 47 ∧ t ≠ 50 ∧ t ≠ 52 ∧ t ≠ 59 ∧ t ≠ 9) : ¬ Ty w i 45 ∧ ¬ Ty w i 47 ∧ ¬ Ty w i 50 ∧ ¬ Ty w i 52 ∧ ¬ Ty w i 59 ∧ ¬ Ty w i 9 :=
  ⟨fun e => hn.1 (h.ne e), fun e => hn.2.1 (h.ne e), fun e => hn.2.2.1 (h.ne e), fun e => hn.2.2.2.1 (h.ne e), fun e => hn.2.2.2.2.1 (h.ne e), fun e => hn.2.2.2.2.2 (h.ne e)⟩
theorem DQ.later {w wx wy : World} {K : Nat} {k : Int} {fm : Nat → FM} {f : Nat → FV} {s : Ri} (h : DQ w wx K k fm f s) (hb : Below wx.heap.size wx wy) : DQ w wy K k fm f s :=
  ⟨h.it.later hb, h.blk.later hb, h.out.later hb, h.bel.trans (hb.mono h.bel.size), fun j hj => ⟨(h.fd j hj).1, (h.fd j hj).2.later hb⟩⟩
theorem DQ.read {w wx wy : World} {K : Nat} {k : Int} {fm : Nat → FM} {f : Nat → FV} {s t : Ri} (h : DQ w wx K k fm f s) (hq : IQ' wx (w.heap.size + 1) K t wy) : DQ w wy K k fm f t := by
  refine ⟨hq.it, hq.chg.blk h.blk (by unfold fpr; omega), hq.chg.blk h.out (by unfold fpr; omega), h.bel.trans (hq.chg.below h.bel.size (fun i e => by have e : i = w.heap.size + 1 := e; omega)), fun j hj => ⟨(h.fd j hj).1, ?_⟩⟩
  refine (h.fd j hj).2.chg hq.chg (by unfold fpr; omega) (fun i hi => ?_) (fun y n c l e hn hy => ?_)
  · have e : i = w.heap.size + 1 := hi
    subst e
    exact ty6 (ty_it h.it) (by decide)
  · have e2 : y.block = w.heap.size + 1 := hy
    have h3 := (h.fd j hj).2
    rw [e] at h3
    have := h3.2.1 y rfl hn
    omega
theorem DQ.put {w wx : World} {K : Nat} {k : Int} {fm : Nat → FM} {f : Nat → FV} {s : Ri} (h : DQ w wx K k fm f s) (hK : K < w.heap.size) (i : Nat) (hi : i < 12) (m : FM) (hm : FD (w.heap.size + 3) wx m) : DQ w (wx.setCell ⟨w.heap.size + 2, i + 1, none⟩ m.val) K k (updM fm i m) (updV f i m.fv) s := by
  have hS : Chg (fun j => j = w.heap.size + 2) wx (wx.setCell ⟨w.heap.size + 2, i + 1, none⟩ m.val) := (Chg.set ⟨w.heap.size + 2, i + 1, none⟩ _ wx).mono (fun i _ hi => hi)
  have hfd : ∀ m', FD (w.heap.size + 3) wx m' → FD (w.heap.size + 3) (wx.setCell ⟨w.heap.size + 2, i + 1, none⟩ m.val) m' := fun m' h' => h'.chg hS (by omega) (fun j hj => by subst hj; exact ty6 (ty_blk h.blk) (by decide)) (fun y n c l e hn hy => by
    rw [e] at h'
    have := h'.2.1 y rfl hn
    omega)
  refine ⟨h.it.chg hS (by omega) (by omega), ?_, hS.blk h.out (by omega), h.bel.trans (hS.below h.bel.size (fun i e => by omega)), fun j hj => ?_⟩
  · rw [← cQ_set k fm i hi m]
    exact h.blk.set (i + 1) m.val
  · unfold updM updV
    by_cases e : j = i
    · rw [if_pos e, if_pos e]
      exact ⟨rfl, hfd m hm⟩
    · rw [if_neg e, if_neg e]
      exact ⟨(h.fd j hj).1, hfd _ (h.fd j hj).2⟩
theorem DQ.ok {w wx : World} {K : Nat} {k : Int} {fm : Nat → FM} {f : Nat → FV} {s : Ri} (h : DQ w wx K k fm f s) (y : Bool) : DQ w (wx.setCell ⟨w.heap.size + 1, 1, none⟩ (.bool y)) K k fm f ⟨s.b, y⟩ := h.read ⟨h.it.setOk y, chg_ok _ _ _ _⟩
theorem DQ.field {w wx wy : World} {K x : Nat} {k : Int} {fm : Nat → FM} {f : Nat → FV} {s : Ri} {v : FV} {t : Ri} {e : Ending} (h : DQ w wx K k fm f s) (hx : x < 10) (hq : FdP wx (w.heap.size + 1) K (w.heap.size + 2) x k fm v t e wy) : e = .returned (.tuple #[]) ∧ ∃ m, DQ w wy K k (updM fm (x + 2) m) (updV f (x + 2) v) t := by
  obtain ⟨he, m, h1, h2, h3, h4, h5⟩ := hq
  have hlt := h.blk.lt
  refine ⟨he, m, h1, h2, h5.blk h.out (by rintro (e | e) <;> omega), h.bel.trans (h5.below h.bel.size (fun i e => by rcases e with e | e <;> omega)), fun j hj => ?_⟩
  unfold updM updV
  by_cases e : j = x + 2
  · rw [if_pos e, if_pos e]
    exact ⟨h3, h4.mono (by omega)⟩
  · rw [if_neg e, if_neg e]
    refine ⟨(h.fd j hj).1, (h.fd j hj).2.chg h5 (by rintro (e | e) <;> omega) (fun i hi => ?_) (fun y n c l e hn hy => ?_)⟩
    · rcases hi with hi | hi
      · subst hi
        exact ty6 (ty_it h.it) (by decide)
      · subst hi
        exact ty6 (ty_blk h.blk) (by decide)
    · have h' := (h.fd j hj).2
      rw [e] at h'
      have := h'.2.1 y rfl hn
      rcases hy with hy | hy <;> omega
theorem docD_no {b : List Int} (hn : (dqD b).2.ok = false ∨ ¬ (dqD b).2.b.length = 0) : docD b = none := by
  unfold docD
  split
  · rfl
  · rw [if_neg]
    rintro ⟨h1, h2⟩
    rcases hn with hn | hn
    · rw [h1] at hn; cases hn
    · exact hn h2
theorem docD_yes {b : List Int} (hl : ¬ 65536 < b.length) (h1 : (dqD b).2.ok = true) (h2 : (dqD b).2.b.length = 0) : docD b = some (dqK b, (dqD b).1) := by
  unfold docD
  rw [if_neg hl, if_pos ⟨h1, h2⟩]

set_option maxHeartbeats 8000000 in
set_option maxRecDepth 100000 in
theorem decodeI (ad : Option Addr) (n c : Nat) (b : List Int) (K : Nat) (w : World) (hs : Sl w ad n b) (hK : ∀ x, ad = some x → 0 < n → x.block = K ∧ x.spot = none) (hKw : K < w.heap.size) (hno : ad = none → n = 0 ∧ c = 0) (hcap : n ≤ c ∧ c ≤ 9223372036854775807) :
    Calls Tryz.prog 16 #[.slice ad n c] w (DocP w (docD b)) := by
  have HS := hidden hs
  have hl := hs.len
  have hby := hs.byte
  have HK := hidden hK
  have HNO := hidden hno
  clear hs hK hno
  by_cases hbig : 65536 < n
  · have HO : Hid (docD b = none) := hidden (by unfold docD; rw [if_pos (by omega)])
    have hbig' : (n : Int) > 65536 := by omega
    go_enter Tryz.func16, Tryz.ntmps16
    go_wp2_with (first
      | (refine wpList_alloc_blk rfl 26 rfl 2 rfl z26 info26z ?_; intro w1 B1 bl1 hz1; have HB1 := hidden B1; have HL1 := hidden bl1; clear B1 bl1 hz1)
      | (refine wpList_build_to rfl 26 #[] rfl [] z26.toArray rfl built26 ?_)
      | (refine wpList_store_let rfl 26 (.tmp 2) (.tmp 12) rfl rfl w.heap.size (l := z26) HB1.out rfl rfl rfl size26 (cQ_one 0 (fun i => zM (kdQ i))) ?_; intro w2 B2 cg2 hz2; have HB2 := hidden B2; have HC2 := hidden cg2; clear B2 cg2 hz2))
    refine bodyPost_ret (res_dec16 _ _ w.heap.size z26 rfl rfl HB2.out) rfl ?_
    rw [HO.out]
    exact ⟨HL1.out.trans (HC2.out.below HL1.out.size (fun i e => by have e : i = w.heap.size := e; omega)), rfl⟩
  · have hbig' : ¬ (n : Int) > 65536 := by omega
    have hbl : ¬ 65536 < b.length := by omega
    go_enter Tryz.func16, Tryz.ntmps16
    go_wp2_with (first
      | (refine wpList_alloc_blk rfl 26 rfl 2 rfl z26 info26z ?_; intro w1 B1 bl1 hz1; have HB1 := hidden B1; have HL1 := hidden bl1; have hz1' := hz1; clear B1 bl1 hz1)
      | (refine wpList_build_to rfl 89 #[(0, .tmp 13), (1, .const (.bool true))] rfl [(0, .slice ad n c), (1, .bool true)] #[.slice ad n c, .bool true] rfl (built89d _ _ _) ?_)
      | (refine wpList_box_blk rfl 89 (.tmp 14) rfl [.slice ad n c, .bool true] rfl ?_; intro w2 B2 bl2 hz2; have HP2 := hidden B2; have HB2 := hidden (HB1.out.later bl2); have HL2 := hidden (HL1.out.trans (bl2.mono HL1.out.size)); have hz2' := hz2; clear B2 bl2 hz2; rw [hz1'] at HP2 hz2'; rw [hz1'])
      | (refine wpList_alloc_blk rfl 26 rfl 5 rfl z26 info26z ?_; intro w3 B3 bl3 hz3; have HG3 := hidden B3; have HP3 := hidden (HP2.out.later bl3); have HB3 := hidden (HB2.out.later bl3); have HL3 := hidden (HL2.out.trans (bl3.mono HL2.out.size)); have hz3' := hz3; clear B3 bl3 hz3; rw [hz2'] at HG3 hz3'; rw [hz2']))
    have hD3 : DQ w w3 K 0 (fun i => zM (kdQ i)) zQ ⟨b, true⟩ := ⟨⟨by omega, by omega, ad, n, c, HP3.out, (Chg.of_below (F := fun _ => False) HL3.out).sl HS.out (fun _ _ _ e => e), HK.out, HNO.out, hcap, by omega⟩, HG3.out, HB3.out, HL3.out, fun j hj => ⟨zM_fv _, zM_fd _ _ _⟩⟩
    have HD3 := hidden hD3
    have hwlt : w.heap.size + 2 < w3.heap.size := hD3.blk.lt
    clear hD3 HG3 HP3 HB3 HL3 HB2 HL2 HB1 HL1 HP2
    refine (oneI (w.heap.size + 1) K ⟨b, true⟩ w3 HD3.out.it).mono ?_
    rintro e w4 ⟨v, rfl, hQ, rfl⟩
    have hkb : 0 ≤ dqK b ∧ dqK b ≤ 255 := one_bdD (s := ⟨b, true⟩) hby
    have hD4 : DQ w w4 K 0 (fun i => zM (kdQ i)) zQ (dqS0 b) := HD3.out.read hQ
    have hk1 : (Ri.mk b true).one.1 = dqK b := rfl
    rw [hk1]
    have HDD : Hid (dqD b = Ri.flds (dqL (dqK b)) (dqF b) (((dqS2 b).txt 64).txt 64)) := hidden rfl
    have HFF : Hid (dqF b = updV (updV zQ 0 (.tx (strOfNums (txL (dqS2 b).b 64)))) 1 (.tk (txL ((dqS2 b).txt 64).b 64))) := hidden rfl
    have HS2 : Hid (dqS2 b = ⟨(dqS0 b).b, (dqS0 b).ok && (docL (dqK b)).isSome⟩) := hidden rfl
    have HNOD : Hid (_ → docD b = none) := hidden (docD_no (b := b))
    have HYES : Hid (_ → _ → docD b = some (dqK b, (dqD b).1)) := hidden (docD_yes (b := b) hbl)
    clear hQ hk1
    generalize dqK b = k at *
    generalize dqS0 b = s0 at *
    generalize dqS2 b = s2 at *
    generalize dqF b = F0 at *
    generalize dqD b = D at *
    have c0 := hD4.blk.cell 0
    rw [show (cQ 0 (fun i => zM (kdQ i)))[0]? = some (.int .i64 0) from rfl] at c0
    have f0 := hD4.blk.frozen 0
    have hS5 : Chg (fun j => j = w.heap.size + 2) w4 (w4.setCell ⟨w.heap.size + 2, 0, none⟩ (.int .i64 k)) := (Chg.set ⟨w.heap.size + 2, 0, none⟩ _ w4).mono (fun i _ hi => hi)
    have HD5 : Hid (DQ w (w4.setCell ⟨w.heap.size + 2, 0, none⟩ (.int .i64 k)) K k (fun i => zM (kdQ i)) zQ s0) := hidden ⟨hD4.it.chg hS5 (by omega) (by omega), hD4.blk.set 0 (.int .i64 k), hS5.blk hD4.out (by omega), hD4.bel.trans (hS5.below hD4.bel.size (fun i e => by omega)), fun j hj => ⟨zM_fv _, zM_fd _ _ _⟩⟩
    have ck5 := HD5.out.blk.cell 0
    rw [show (cQ k (fun i => zM (kdQ i)))[0]? = some (.int .i64 k) from rfl] at ck5
    clear hD4 hS5
    obtain ⟨w5, hw5⟩ : ∃ w5, w4.setCell ⟨w.heap.size + 2, 0, none⟩ (.int .i64 k) = w5 := ⟨_, rfl⟩
    rw [hw5] at HD5 ck5
    go_wp2_with fail
    try rw [hw5]
    refine (usesE k w5 (by omega) (by omega)).mono ?_
    rintro e w6 ⟨b6, hu⟩
    have HD6 := hidden (HD5.out.later b6)
    have h65 := b6.size
    have hlt5 := HD5.out.blk.lt
    clear c0 f0 ck5 hw5
    obtain ⟨adL, cL, is, hret, hIn, hblk, his⟩ : ∃ adL cL is, e = .returned (.tuple #[.slice adL (dqL k).length cL, .bool is]) ∧ In w6 adL (dqL k) ∧ (∀ x, adL = some x → w5.heap.size ≤ x.block) ∧ is = (docL k).isSome := by
      unfold dqL
      cases hd : docL k with
      | none =>
        rw [hd] at hu
        exact ⟨none, 0, false, hu, fun h => absurd rfl h, fun x hx => (by cases hx), rfl⟩
      | some l =>
        rw [hd] at hu
        obtain ⟨a1, c1, h1, h2, h3⟩ := hu
        exact ⟨a1, c1, true, h1, h2, h3, rfl⟩
    subst hret
    have hL10 : ∀ i ∈ dqL k, i < 10 := by
      unfold dqL
      cases hd : docL k with
      | none => simp
      | some l => exact (docL_lt hd).1
    have hL3 : (dqL k).length ≤ 3 := by
      unfold dqL
      cases hd : docL k with
      | none => simp
      | some l => exact (docL_lt hd).2
    have HIN := hidden hIn
    have HBK := hidden hblk
    have H10 := hidden hL10
    have HIS := hidden his
    clear hu hIn hblk hL10 his
    generalize dqL k = L at *
    obtain ⟨m, hm⟩ : ∃ m, L.length = m := ⟨_, rfl⟩
    rw [hm] at hL3 ⊢
    have HM := hidden hm
    clear hm
    have cf6 := HD6.out.it.flag
    have ff6 := HD6.out.it.frozen 1
    have HFF6 := hidden ff6
    -- behind r.ok
    have rest : ∀ y : Bool, y = (s0.ok && is) → Hid (DQ w (w6.setCell ⟨w.heap.size + 1, 1, none⟩ (.bool y)) K k (fun i => zM (kdQ i)) zQ s2) := by
      intro y hy
      have h9 := HD6.out.ok y
      rw [HS2.out, ← HIS.out, ← hy]
      exact hidden h9
    have REST := hidden rest
    clear rest
    obtain ⟨ok0, hok0⟩ : ∃ y, s0.ok = y := ⟨_, rfl⟩
    rw [hok0] at cf6
    have key : ∀ y : Bool, y = (s0.ok && is) → ∃ w7, w6.setCell ⟨w.heap.size + 1, 1, none⟩ (.bool y) = w7 ∧ Hid (DQ w w7 K k (fun i => zM (kdQ i)) zQ s2) ∧ Hid (In w7 adL L) ∧ w5.heap.size ≤ w7.heap.size := by
      intro y hy
      refine ⟨_, rfl, REST.out y hy, hidden (Es.chg HIN.out (chg_ok (w.heap.size + 1) w6 (.bool y) 1) (fun a ha _ e => ?_)), ?_⟩
      · have h1 := HBK.out a ha
        have e : a.block = w.heap.size + 1 := e
        omega
      · simp only [World.setCell, Array.size_setIfInBounds, Array.size_modify] <;> omega
    clear REST HIN HD6 ff6
    cases ok0 with
    | false =>
      obtain ⟨w7, hw7, HD7, HIN7, hs7⟩ := key false (by rw [hok0]; rfl)
      have hff7 : w6.frozen? ⟨w.heap.size + 1, 1, none⟩ = false := HFF6.out
      clear key
      go_wp2_with fail
      try rw [hw7]
      refine (textI (w.heap.size + 1) K s2 64 w7 HD7.out.it (by omega)).mono ?_
      rintro e w8 ⟨v, rfl, hQ, rfl⟩
      have hD8 := HD7.out.read hQ
      have HIN8 : Hid (In w8 adL L) := hidden (Es.chg HIN7.out hQ.chg (fun a ha _ e => by have h1 := HBK.out a ha; have e : a.block = w.heap.size + 1 := e; omega))
      have c1 := hD8.blk.cell 1
      rw [show (cQ k (fun i => zM (kdQ i)))[1]? = some (.string ⟨#[]⟩) from rfl] at c1
      have f1 := hD8.blk.frozen 1
      have HD9 := hidden (hD8.put hKw 0 (by omega) (.tx (strOfNums (txL s2.b 64))) trivial)
      have hS9 : Chg (fun j => j = w.heap.size + 2) w8 (w8.setCell ⟨w.heap.size + 2, 1, none⟩ (.string (strOfNums (txL s2.b 64)))) := (Chg.set ⟨w.heap.size + 2, 1, none⟩ _ w8).mono (fun i _ hi => hi)
      have HIN9 : Hid (In (w8.setCell ⟨w.heap.size + 2, 1, none⟩ (.string (strOfNums (txL s2.b 64)))) adL L) := hidden (Es.chg HIN8.out hS9 (fun a ha _ e => by have h1 := HBK.out a ha; omega))
      clear hQ hD8 hS9 hw7
      obtain ⟨w9, hw9⟩ : ∃ w9, w8.setCell ⟨w.heap.size + 2, 1, none⟩ (.string (strOfNums (txL s2.b 64))) = w9 := ⟨_, rfl⟩
      replace HD9 : Hid (DQ w w9 K k (updM (fun i => zM (kdQ i)) 0 (.tx (strOfNums (txL s2.b 64)))) (updV zQ 0 (.tx (strOfNums (txL s2.b 64)))) (s2.txt 64)) := by rw [← hw9]; exact HD9
      rw [hw9] at HIN9
      go_wp2_with fail
      try rw [hw9]
      refine (textI (w.heap.size + 1) K (s2.txt 64) 64 w9 HD9.out.it (by omega)).mono ?_
      rintro e w10 ⟨v, rfl, hQ10, rfl⟩
      have hby9 := HD9.out.it.byte
      have hD10 := HD9.out.read hQ10
      have HIN10 : Hid (In w10 adL L) := hidden (Es.chg HIN9.out hQ10.chg (fun a ha _ e => by have h1 := HBK.out a ha; have e : a.block = w.heap.size + 1 := e; omega))
      have hlt10 : w.heap.size + 2 < w10.heap.size := hD10.blk.lt
      have HD10 := hidden hD10
      clear hQ10 hD10 c1 f1 hw9
      have HX1 : Hid (F0 = updV (updV zQ 0 (.tx (strOfNums (txL s2.b 64)))) 1 (.tk (txL (s2.txt 64).b 64))) := HFF
      have hsz : (strOfNums (txL (s2.txt 64).b 64)).size = (txL (s2.txt 64).b 64).length := strOf_size _
      have hbt : bts (strOfNums (txL (s2.txt 64).b 64)) = txL (s2.txt 64).b 64 := bts_strOf _ (txL_byte hby9.1 64)
      have hln := txL_len hby9.1 64
      have hln2 := hby9.2
      generalize (s2.txt 64).txt 64 = s4 at *
      generalize hl4 : txL (s2.txt 64).b 64 = l4 at *
      obtain ⟨d4, hd4⟩ : ∃ d, strOfNums l4 = d := ⟨_, rfl⟩
      rw [hd4] at hsz hbt ⊢
      clear hd4 hl4
      have kc := fun (w : World) => Lib.run_convert_string_bytes (P := Tryz.prog) w 9 22 5 d4 Tryz.underlying9 Tryz.underlying22 Tryz.underlying5
      have HBW := hidden (Go.Joins.below_bytesWorld w10.heap.size w10 5 d4 (Nat.le_refl _))
      have HSB := hidden (sl_bytes w10 d4)
      obtain ⟨w11, hw11⟩ : ∃ w11, Lib.bytesWorld w10 5 d4 = w11 := ⟨_, rfl⟩
      rw [hw11] at HBW HSB
      rw [hbt, hsz] at HSB
      have HD11 := hidden (HD10.out.later HBW.out)
      have HIN11 : Hid (In w11 adL L) := hidden (Es.later HIN10.out HBW.out)
      have c2 := HD11.out.blk.cell 2
      rw [show (cQ k (updM (fun i => zM (kdQ i)) 0 (.tx (strOfNums (txL s2.b 64)))))[2]? = some (.slice none 0 0) from rfl] at c2
      have f2 := HD11.out.blk.frozen 2
      have HD12 := hidden (HD11.out.put hKw 1 (by omega) (.tk (some ⟨w10.heap.size, 0, none⟩) l4.length (grownCap w10 l4.length 0 5) l4) ⟨HSB.out, fun y hy _ => by injection hy with hy; subst hy; show w.heap.size + 3 ≤ w10.heap.size; omega, by omega⟩)
      have hS12 : Chg (fun j => j = w.heap.size + 2) w11 (w11.setCell ⟨w.heap.size + 2, 2, none⟩ (.slice (some ⟨w10.heap.size, 0, none⟩) l4.length (grownCap w10 l4.length 0 5))) := (Chg.set ⟨w.heap.size + 2, 2, none⟩ _ w11).mono (fun i _ hi => hi)
      have HIN12 : Hid (In (w11.setCell ⟨w.heap.size + 2, 2, none⟩ (.slice (some ⟨w10.heap.size, 0, none⟩) l4.length (grownCap w10 l4.length 0 5))) adL L) := hidden (Es.chg HIN11.out hS12 (fun a ha _ e => by have h1 := HBK.out a ha; omega))
      have H12 : Hid (∃ (fm : Nat → FM) (f : Nat → FV) (t : Ri), DQ w (w11.setCell ⟨w.heap.size + 2, 2, none⟩ (.slice (some ⟨w10.heap.size, 0, none⟩) l4.length (grownCap w10 l4.length 0 5))) K k fm f t ∧ In (w11.setCell ⟨w.heap.size + 2, 2, none⟩ (.slice (some ⟨w10.heap.size, 0, none⟩) l4.length (grownCap w10 l4.length 0 5))) adL L ∧ D = Ri.flds (L.drop 0) f t) := hidden ⟨_, _, _, HD12.out, HIN12.out, by rw [HDD.out, HX1.out]; rfl⟩
      clear hS12
      go_wp2_with fail
      go_loopw [8] (fun v8 wx => ∃ i : Nat, v8 = .int .i64 (i : Int) ∧ i ≤ m ∧ Hid (∃ (fm : Nat → FM) (f : Nat → FV) (t : Ri), DQ w wx K k fm f t ∧ In wx adL L ∧ D = Ri.flds (L.drop i) f t)) (fun v8 _ => m - (intOf v8).toNat)
      case atStart => exact ⟨0, rfl, by omega, by first | exact H12 | (rw [← hw11] at H12; exact H12)⟩
      case round =>
        rename World => wx
        obtain ⟨i, rfl, hi, hI⟩ := hrel
        obtain ⟨fm, f, t, hDx, hInx, hTx⟩ := hI.out
        have HDX := hidden hDx
        have HINX := hidden hInx
        have HTT := hidden hTx
        have cf := hDx.it.flag
        clear hI H12 hDx hInx hTx HD12 HD11 HD10 HD9 HIN12 HIN11 HIN10 HIN9 HIN8 HIN7 HD7 c2 f2 kc HSB HBW
        obtain ⟨y, hy⟩ : ∃ y, t.ok = y := ⟨_, rfl⟩
        rw [hy] at cf
        by_cases hin : i < m
        · have hin' : (i : Int) < (m : Int) := by omega
          cases y with
          | false =>
            have HTX : Hid (D = (f, t)) := hidden (HTT.out.trans (flds_no _ _ hy))
            have HBR := hidden HDX.out.out
            have HLX := hidden HDX.out.bel
            obtain ⟨adx, cx, c0x⟩ := it_cellD HDX.out.it
            obtain ⟨nx, hnx⟩ : ∃ nx, t.b.length = nx := ⟨_, rfl⟩
            rw [hnx] at c0x
            have HNO2 : Hid (docD b = none) := hidden (HNOD.out (.inl (by rw [HTX.out]; exact hy)))
            go_wp2_with (first
              | (refine wpList_build_to rfl 26 #[] rfl [] z26.toArray rfl built26 ?_)
              | (refine wpList_store_let rfl 26 (.tmp 2) (.tmp 73) rfl rfl w.heap.size (l := z26) HBR.out rfl rfl rfl size26 (cQ_one 0 (fun i => zM (kdQ i))) ?_; intro w9 B9 cg9 hz9; have HB9 := hidden B9; have HC9 := hidden cg9; clear B9 cg9 hz9))
            refine bodyPost_ret (res_dec16 _ _ w.heap.size z26 rfl rfl HB9.out) rfl ?_
            rw [HNO2.out]
            exact ⟨HLX.out.trans (HC9.out.below HLX.out.size (fun i e => by have e : i = w.heap.size := e; omega)), rfl⟩
          | true =>
            obtain ⟨x, hx⟩ : ∃ x, L[i]? = some x := ⟨L[i]'(by have := HM.out; omega), by simp⟩
            have hx10 : x < 10 := H10.out x (List.mem_of_getElem? hx)
            have HTN := hidden (HTT.out.trans (flds_yes hx f hy))
            have hxm : (L.map (fun (n : Nat) => [Value.int .i64 (n : Int)]))[i]? = some [.int .i64 (x : Int)] := by rw [List.getElem?_map, hx]; rfl
            obtain ⟨b1, o1, hadL, _, hcell⟩ := HINX.out (by intro h0; rw [h0] at hxm; simp at hxm)
            have cx := hcell i _ hxm 0 _ rfl
            rw [Nat.add_zero, Nat.mul_one] at cx
            clear hcell hxm hx HTT
            subst hadL
            go_wp2_with fail
            refine (fieldI (w.heap.size + 1) K (w.heap.size + 2) x hx10 t k fm wx HDX.out.it HDX.out.blk (by omega) (by omega) (by omega)).mono ?_
            intro e wy hq
            obtain ⟨rfl, m2, hDy⟩ := HDX.out.field hx10 hq
            have hIny : In wy (some ⟨b1, o1, none⟩) L := by
              obtain ⟨_, _, _, _, _, _, hCy⟩ := hq
              exact Es.chg HINX.out hCy (fun a ha _ e => by have h1 := HBK.out a ha; rcases e with e | e <;> omega)
            have hI2 : Hid (∃ (fm : Nat → FM) (f : Nat → FV) (t : Ri), DQ w wy K k fm f t ∧ In wy (some ⟨b1, o1, none⟩) L ∧ D = Ri.flds (L.drop (i + 1)) f t) := hidden ⟨_, _, _, hDy, hIny, HTN.out⟩
            clear hq hDy hIny
            go_wp2_with fail
            refine ⟨⟨i + 1, by first | rfl | simp, by omega, hI2⟩, ?_⟩
            show m - ((i : Int) + 1).toNat < m - (i : Int).toNat
            omega
        · obtain rfl : i = m := by omega
          have hnl : ¬ (i : Int) < (i : Int) := by omega
          have HTX : Hid (D = (f, t)) := hidden (HTT.out.trans (by rw [List.drop_eq_nil_of_le (by rw [HM.out]; exact Nat.le_refl _)]; rfl))
          have HBR := hidden HDX.out.out
          have HLX := hidden HDX.out.bel
          obtain ⟨adx, cx, c0x⟩ := it_cellD HDX.out.it
          obtain ⟨nx, hnx⟩ : ∃ nx, t.b.length = nx := ⟨_, rfl⟩
          rw [hnx] at c0x
          cases y with
          | false =>
            have HNO2 : Hid (docD b = none) := hidden (HNOD.out (.inl (by rw [HTX.out]; exact hy)))
            go_wp2_with (first
              | (refine wpList_build_to rfl 26 #[] rfl [] z26.toArray rfl built26 ?_)
              | (refine wpList_store_let rfl 26 (.tmp 2) (.tmp 73) rfl rfl w.heap.size (l := z26) HBR.out rfl rfl rfl size26 (cQ_one 0 (fun i => zM (kdQ i))) ?_; intro w9 B9 cg9 hz9; have HB9 := hidden B9; have HC9 := hidden cg9; clear B9 cg9 hz9))
            refine bodyPost_ret (res_dec16 _ _ w.heap.size z26 rfl rfl HB9.out) rfl ?_
            rw [HNO2.out]
            exact ⟨HLX.out.trans (HC9.out.below HLX.out.size (fun i e => by have e : i = w.heap.size := e; omega)), rfl⟩
          | true =>
            by_cases hn0 : nx = 0
            · have HYY : Hid (docD b = some (k, f)) := hidden (by have h9 := HYES.out (by rw [HTX.out]; exact hy) (by rw [HTX.out]; exact hnx.trans hn0); rw [h9, HTX.out])
              subst hn0
              have HBGX := hidden HDX.out.blk
              have hlx : (cQ k fm).length = 13 := by simp [cQ]
              go_wp2_with (first
                | (refine wpList_load_blk rfl 26 (.tmp 5) rfl (w.heap.size + 2) HBGX.out rfl rfl rfl (by rw [hlx]; exact size26) ?_)
                | (refine wpList_store_let rfl 26 (.tmp 2) (.tmp 74) rfl rfl w.heap.size (l := cQ k fm) HBR.out rfl rfl (by rw [hlx]; rfl) (by rw [hlx]; exact size26) (cQ_one k fm) ?_; intro w9 B9 cg9 hz9; have HB9 := hidden B9; have HC9 := hidden cg9; clear B9 cg9 hz9))
              refine bodyPost_ret (res_dec16 _ _ w.heap.size (cQ k fm) hlx rfl HB9.out) rfl ?_
              rw [HYY.out]
              refine ⟨HLX.out.trans (HC9.out.below HLX.out.size (fun i e => by have e : i = w.heap.size := e; omega)), fm, rfl, fun j hj => ⟨(HDX.out.fd j hj).1, ?_⟩⟩
              refine FD.mono (Nat.le_add_right _ 3) ((HDX.out.fd j hj).2.chg HC9.out (fun e => by have e : 0 = w.heap.size := e; omega) (fun i hi => ?_) (fun y n c l e hn hy => ?_))
              · have hi : i = w.heap.size := hi
                subst hi
                exact ty6 (ty_blk HBR.out) (by decide)
              · have h' := (HDX.out.fd j hj).2
                rw [e] at h'
                have := h'.2.1 y rfl hn
                have hy : y.block = w.heap.size := hy
                omega
            · have hn1 : (nx : Int) > 0 := by omega
              have HNO2 : Hid (docD b = none) := hidden (HNOD.out (.inr (by rw [HTX.out]; show ¬ t.b.length = 0; rw [hnx]; exact hn0)))
              go_wp2_with (first
                | (refine wpList_build_to rfl 26 #[] rfl [] z26.toArray rfl built26 ?_)
                | (refine wpList_store_let rfl 26 (.tmp 2) (.tmp 73) rfl rfl w.heap.size (l := z26) HBR.out rfl rfl rfl size26 (cQ_one 0 (fun i => zM (kdQ i))) ?_; intro w9 B9 cg9 hz9; have HB9 := hidden B9; have HC9 := hidden cg9; clear B9 cg9 hz9))
              refine bodyPost_ret (res_dec16 _ _ w.heap.size z26 rfl rfl HB9.out) rfl ?_
              rw [HNO2.out]
              exact ⟨HLX.out.trans (HC9.out.below HLX.out.size (fun i e => by have e : i = w.heap.size := e; omega)), rfl⟩
    | true =>
      obtain ⟨w7, hw7, HD7, HIN7, hs7⟩ := key is (by rw [hok0]; rfl)
      have hff7 : w6.frozen? ⟨w.heap.size + 1, 1, none⟩ = false := HFF6.out
      clear key
      go_wp2_with fail
      try rw [hw7]
      refine (textI (w.heap.size + 1) K s2 64 w7 HD7.out.it (by omega)).mono ?_
      rintro e w8 ⟨v, rfl, hQ, rfl⟩
      have hD8 := HD7.out.read hQ
      have HIN8 : Hid (In w8 adL L) := hidden (Es.chg HIN7.out hQ.chg (fun a ha _ e => by have h1 := HBK.out a ha; have e : a.block = w.heap.size + 1 := e; omega))
      have c1 := hD8.blk.cell 1
      rw [show (cQ k (fun i => zM (kdQ i)))[1]? = some (.string ⟨#[]⟩) from rfl] at c1
      have f1 := hD8.blk.frozen 1
      have HD9 := hidden (hD8.put hKw 0 (by omega) (.tx (strOfNums (txL s2.b 64))) trivial)
      have hS9 : Chg (fun j => j = w.heap.size + 2) w8 (w8.setCell ⟨w.heap.size + 2, 1, none⟩ (.string (strOfNums (txL s2.b 64)))) := (Chg.set ⟨w.heap.size + 2, 1, none⟩ _ w8).mono (fun i _ hi => hi)
      have HIN9 : Hid (In (w8.setCell ⟨w.heap.size + 2, 1, none⟩ (.string (strOfNums (txL s2.b 64)))) adL L) := hidden (Es.chg HIN8.out hS9 (fun a ha _ e => by have h1 := HBK.out a ha; omega))
      clear hQ hD8 hS9 hw7
      obtain ⟨w9, hw9⟩ : ∃ w9, w8.setCell ⟨w.heap.size + 2, 1, none⟩ (.string (strOfNums (txL s2.b 64))) = w9 := ⟨_, rfl⟩
      replace HD9 : Hid (DQ w w9 K k (updM (fun i => zM (kdQ i)) 0 (.tx (strOfNums (txL s2.b 64)))) (updV zQ 0 (.tx (strOfNums (txL s2.b 64)))) (s2.txt 64)) := by rw [← hw9]; exact HD9
      rw [hw9] at HIN9
      go_wp2_with fail
      try rw [hw9]
      refine (textI (w.heap.size + 1) K (s2.txt 64) 64 w9 HD9.out.it (by omega)).mono ?_
      rintro e w10 ⟨v, rfl, hQ10, rfl⟩
      have hby9 := HD9.out.it.byte
      have hD10 := HD9.out.read hQ10
      have HIN10 : Hid (In w10 adL L) := hidden (Es.chg HIN9.out hQ10.chg (fun a ha _ e => by have h1 := HBK.out a ha; have e : a.block = w.heap.size + 1 := e; omega))
      have hlt10 : w.heap.size + 2 < w10.heap.size := hD10.blk.lt
      have HD10 := hidden hD10
      clear hQ10 hD10 c1 f1 hw9
      have HX1 : Hid (F0 = updV (updV zQ 0 (.tx (strOfNums (txL s2.b 64)))) 1 (.tk (txL (s2.txt 64).b 64))) := HFF
      have hsz : (strOfNums (txL (s2.txt 64).b 64)).size = (txL (s2.txt 64).b 64).length := strOf_size _
      have hbt : bts (strOfNums (txL (s2.txt 64).b 64)) = txL (s2.txt 64).b 64 := bts_strOf _ (txL_byte hby9.1 64)
      have hln := txL_len hby9.1 64
      have hln2 := hby9.2
      generalize (s2.txt 64).txt 64 = s4 at *
      generalize hl4 : txL (s2.txt 64).b 64 = l4 at *
      obtain ⟨d4, hd4⟩ : ∃ d, strOfNums l4 = d := ⟨_, rfl⟩
      rw [hd4] at hsz hbt ⊢
      clear hd4 hl4
      have kc := fun (w : World) => Lib.run_convert_string_bytes (P := Tryz.prog) w 9 22 5 d4 Tryz.underlying9 Tryz.underlying22 Tryz.underlying5
      have HBW := hidden (Go.Joins.below_bytesWorld w10.heap.size w10 5 d4 (Nat.le_refl _))
      have HSB := hidden (sl_bytes w10 d4)
      obtain ⟨w11, hw11⟩ : ∃ w11, Lib.bytesWorld w10 5 d4 = w11 := ⟨_, rfl⟩
      rw [hw11] at HBW HSB
      rw [hbt, hsz] at HSB
      have HD11 := hidden (HD10.out.later HBW.out)
      have HIN11 : Hid (In w11 adL L) := hidden (Es.later HIN10.out HBW.out)
      have c2 := HD11.out.blk.cell 2
      rw [show (cQ k (updM (fun i => zM (kdQ i)) 0 (.tx (strOfNums (txL s2.b 64)))))[2]? = some (.slice none 0 0) from rfl] at c2
      have f2 := HD11.out.blk.frozen 2
      have HD12 := hidden (HD11.out.put hKw 1 (by omega) (.tk (some ⟨w10.heap.size, 0, none⟩) l4.length (grownCap w10 l4.length 0 5) l4) ⟨HSB.out, fun y hy _ => by injection hy with hy; subst hy; show w.heap.size + 3 ≤ w10.heap.size; omega, by omega⟩)
      have hS12 : Chg (fun j => j = w.heap.size + 2) w11 (w11.setCell ⟨w.heap.size + 2, 2, none⟩ (.slice (some ⟨w10.heap.size, 0, none⟩) l4.length (grownCap w10 l4.length 0 5))) := (Chg.set ⟨w.heap.size + 2, 2, none⟩ _ w11).mono (fun i _ hi => hi)
      have HIN12 : Hid (In (w11.setCell ⟨w.heap.size + 2, 2, none⟩ (.slice (some ⟨w10.heap.size, 0, none⟩) l4.length (grownCap w10 l4.length 0 5))) adL L) := hidden (Es.chg HIN11.out hS12 (fun a ha _ e => by have h1 := HBK.out a ha; omega))
      have H12 : Hid (∃ (fm : Nat → FM) (f : Nat → FV) (t : Ri), DQ w (w11.setCell ⟨w.heap.size + 2, 2, none⟩ (.slice (some ⟨w10.heap.size, 0, none⟩) l4.length (grownCap w10 l4.length 0 5))) K k fm f t ∧ In (w11.setCell ⟨w.heap.size + 2, 2, none⟩ (.slice (some ⟨w10.heap.size, 0, none⟩) l4.length (grownCap w10 l4.length 0 5))) adL L ∧ D = Ri.flds (L.drop 0) f t) := hidden ⟨_, _, _, HD12.out, HIN12.out, by rw [HDD.out, HX1.out]; rfl⟩
      clear hS12
      go_wp2_with fail
      go_loopw [8] (fun v8 wx => ∃ i : Nat, v8 = .int .i64 (i : Int) ∧ i ≤ m ∧ Hid (∃ (fm : Nat → FM) (f : Nat → FV) (t : Ri), DQ w wx K k fm f t ∧ In wx adL L ∧ D = Ri.flds (L.drop i) f t)) (fun v8 _ => m - (intOf v8).toNat)
      case atStart => exact ⟨0, rfl, by omega, by first | exact H12 | (rw [← hw11] at H12; exact H12)⟩
      case round =>
        rename World => wx
        obtain ⟨i, rfl, hi, hI⟩ := hrel
        obtain ⟨fm, f, t, hDx, hInx, hTx⟩ := hI.out
        have HDX := hidden hDx
        have HINX := hidden hInx
        have HTT := hidden hTx
        have cf := hDx.it.flag
        clear hI H12 hDx hInx hTx HD12 HD11 HD10 HD9 HIN12 HIN11 HIN10 HIN9 HIN8 HIN7 HD7 c2 f2 kc HSB HBW
        obtain ⟨y, hy⟩ : ∃ y, t.ok = y := ⟨_, rfl⟩
        rw [hy] at cf
        by_cases hin : i < m
        · have hin' : (i : Int) < (m : Int) := by omega
          cases y with
          | false =>
            have HTX : Hid (D = (f, t)) := hidden (HTT.out.trans (flds_no _ _ hy))
            have HBR := hidden HDX.out.out
            have HLX := hidden HDX.out.bel
            obtain ⟨adx, cx, c0x⟩ := it_cellD HDX.out.it
            obtain ⟨nx, hnx⟩ : ∃ nx, t.b.length = nx := ⟨_, rfl⟩
            rw [hnx] at c0x
            have HNO2 : Hid (docD b = none) := hidden (HNOD.out (.inl (by rw [HTX.out]; exact hy)))
            go_wp2_with (first
              | (refine wpList_build_to rfl 26 #[] rfl [] z26.toArray rfl built26 ?_)
              | (refine wpList_store_let rfl 26 (.tmp 2) (.tmp 73) rfl rfl w.heap.size (l := z26) HBR.out rfl rfl rfl size26 (cQ_one 0 (fun i => zM (kdQ i))) ?_; intro w9 B9 cg9 hz9; have HB9 := hidden B9; have HC9 := hidden cg9; clear B9 cg9 hz9))
            refine bodyPost_ret (res_dec16 _ _ w.heap.size z26 rfl rfl HB9.out) rfl ?_
            rw [HNO2.out]
            exact ⟨HLX.out.trans (HC9.out.below HLX.out.size (fun i e => by have e : i = w.heap.size := e; omega)), rfl⟩
          | true =>
            obtain ⟨x, hx⟩ : ∃ x, L[i]? = some x := ⟨L[i]'(by have := HM.out; omega), by simp⟩
            have hx10 : x < 10 := H10.out x (List.mem_of_getElem? hx)
            have HTN := hidden (HTT.out.trans (flds_yes hx f hy))
            have hxm : (L.map (fun (n : Nat) => [Value.int .i64 (n : Int)]))[i]? = some [.int .i64 (x : Int)] := by rw [List.getElem?_map, hx]; rfl
            obtain ⟨b1, o1, hadL, _, hcell⟩ := HINX.out (by intro h0; rw [h0] at hxm; simp at hxm)
            have cx := hcell i _ hxm 0 _ rfl
            rw [Nat.add_zero, Nat.mul_one] at cx
            clear hcell hxm hx HTT
            subst hadL
            go_wp2_with fail
            refine (fieldI (w.heap.size + 1) K (w.heap.size + 2) x hx10 t k fm wx HDX.out.it HDX.out.blk (by omega) (by omega) (by omega)).mono ?_
            intro e wy hq
            obtain ⟨rfl, m2, hDy⟩ := HDX.out.field hx10 hq
            have hIny : In wy (some ⟨b1, o1, none⟩) L := by
              obtain ⟨_, _, _, _, _, _, hCy⟩ := hq
              exact Es.chg HINX.out hCy (fun a ha _ e => by have h1 := HBK.out a ha; rcases e with e | e <;> omega)
            have hI2 : Hid (∃ (fm : Nat → FM) (f : Nat → FV) (t : Ri), DQ w wy K k fm f t ∧ In wy (some ⟨b1, o1, none⟩) L ∧ D = Ri.flds (L.drop (i + 1)) f t) := hidden ⟨_, _, _, hDy, hIny, HTN.out⟩
            clear hq hDy hIny
            go_wp2_with fail
            refine ⟨⟨i + 1, by first | rfl | simp, by omega, hI2⟩, ?_⟩
            show m - ((i : Int) + 1).toNat < m - (i : Int).toNat
            omega
        · obtain rfl : i = m := by omega
          have hnl : ¬ (i : Int) < (i : Int) := by omega
          have HTX : Hid (D = (f, t)) := hidden (HTT.out.trans (by rw [List.drop_eq_nil_of_le (by rw [HM.out]; exact Nat.le_refl _)]; rfl))
          have HBR := hidden HDX.out.out
          have HLX := hidden HDX.out.bel
          obtain ⟨adx, cx, c0x⟩ := it_cellD HDX.out.it
          obtain ⟨nx, hnx⟩ : ∃ nx, t.b.length = nx := ⟨_, rfl⟩
          rw [hnx] at c0x
          cases y with
          | false =>
            have HNO2 : Hid (docD b = none) := hidden (HNOD.out (.inl (by rw [HTX.out]; exact hy)))
            go_wp2_with (first
              | (refine wpList_build_to rfl 26 #[] rfl [] z26.toArray rfl built26 ?_)
              | (refine wpList_store_let rfl 26 (.tmp 2) (.tmp 73) rfl rfl w.heap.size (l := z26) HBR.out rfl rfl rfl size26 (cQ_one 0 (fun i => zM (kdQ i))) ?_; intro w9 B9 cg9 hz9; have HB9 := hidden B9; have HC9 := hidden cg9; clear B9 cg9 hz9))
            refine bodyPost_ret (res_dec16 _ _ w.heap.size z26 rfl rfl HB9.out) rfl ?_
            rw [HNO2.out]
            exact ⟨HLX.out.trans (HC9.out.below HLX.out.size (fun i e => by have e : i = w.heap.size := e; omega)), rfl⟩
          | true =>
            by_cases hn0 : nx = 0
            · have HYY : Hid (docD b = some (k, f)) := hidden (by have h9 := HYES.out (by rw [HTX.out]; exact hy) (by rw [HTX.out]; exact hnx.trans hn0); rw [h9, HTX.out])
              subst hn0
              have HBGX := hidden HDX.out.blk
              have hlx : (cQ k fm).length = 13 := by simp [cQ]
              go_wp2_with (first
                | (refine wpList_load_blk rfl 26 (.tmp 5) rfl (w.heap.size + 2) HBGX.out rfl rfl rfl (by rw [hlx]; exact size26) ?_)
                | (refine wpList_store_let rfl 26 (.tmp 2) (.tmp 74) rfl rfl w.heap.size (l := cQ k fm) HBR.out rfl rfl (by rw [hlx]; rfl) (by rw [hlx]; exact size26) (cQ_one k fm) ?_; intro w9 B9 cg9 hz9; have HB9 := hidden B9; have HC9 := hidden cg9; clear B9 cg9 hz9))
              refine bodyPost_ret (res_dec16 _ _ w.heap.size (cQ k fm) hlx rfl HB9.out) rfl ?_
              rw [HYY.out]
              refine ⟨HLX.out.trans (HC9.out.below HLX.out.size (fun i e => by have e : i = w.heap.size := e; omega)), fm, rfl, fun j hj => ⟨(HDX.out.fd j hj).1, ?_⟩⟩
              refine FD.mono (Nat.le_add_right _ 3) ((HDX.out.fd j hj).2.chg HC9.out (fun e => by have e : 0 = w.heap.size := e; omega) (fun i hi => ?_) (fun y n c l e hn hy => ?_))
              · have hi : i = w.heap.size := hi
                subst hi
                exact ty6 (ty_blk HBR.out) (by decide)
              · have h' := (HDX.out.fd j hj).2
                rw [e] at h'
                have := h'.2.1 y rfl hn
                have hy : y.block = w.heap.size := hy
                omega
            · have hn1 : (nx : Int) > 0 := by omega
              have HNO2 : Hid (docD b = none) := hidden (HNOD.out (.inr (by rw [HTX.out]; show ¬ t.b.length = 0; rw [hnx]; exact hn0)))
              go_wp2_with (first
                | (refine wpList_build_to rfl 26 #[] rfl [] z26.toArray rfl built26 ?_)
                | (refine wpList_store_let rfl 26 (.tmp 2) (.tmp 73) rfl rfl w.heap.size (l := z26) HBR.out rfl rfl rfl size26 (cQ_one 0 (fun i => zM (kdQ i))) ?_; intro w9 B9 cg9 hz9; have HB9 := hidden B9; have HC9 := hidden cg9; clear B9 cg9 hz9))
              refine bodyPost_ret (res_dec16 _ _ w.heap.size z26 rfl rfl HB9.out) rfl ?_
              rw [HNO2.out]
              exact ⟨HLX.out.trans (HC9.out.below HLX.out.size (fun i e => by have e : i = w.heap.size := e; omega)), rfl⟩
end Go.Proofs.YtalmpmhnkilalaaGreatDoor

/-
  The document's Decode, purely, against the code's.
-/
namespace Go.Proofs.YtalmpmhnkilalaaGreatDoor
open Go.RowKit
set_option linter.unusedVariables false
set_option linter.unusedSimpArgs false

theorem P_one {s : Ri} (h : s.P) : s.one.2.P := by
  obtain ⟨b, ok⟩ := s
  cases ok with
  | false => rw [one_no]; exact h
  | true =>
    cases b with
    | nil => exact h
    | cons x t => exact ⟨fun y hy => h.1 y (by simp; exact .inr hy), by have := h.2; simp at this; show t.length ≤ _; omega⟩
theorem P_opN {s : Ri} (h : s.P) : s.opN.P := ⟨(P_one h).1, (P_one h).2⟩
theorem P_matN {s : Ri} (h : s.P) : s.matN.P := P_txt (P_opN (P_txt h 64)) 64
theorem opN_no {s : Ri} (h : s.ok = false) : s.opN.ok = false := by
  obtain ⟨b, ok⟩ := s
  have h : ok = false := h
  subst h
  unfold Ri.opN
  rw [one_no]
  rfl
theorem rIf_at {α : Type} (P : α → Bool) (r : Rdr α) (b : List Int) : rIf P r b = (r b).bind (fun q => if P q.1 then some q else none) := rfl
theorem agr_op {s : Ri} (h : s.P) (ho : s.ok = true) : Agr (rIf isOpB rOct) s.b s.one.1 s.opN := by
  obtain ⟨b, ok⟩ := s
  have ho : ok = true := ho
  subst ho
  unfold Agr
  rw [rIf_at]
  cases b with
  | nil => exact ⟨fun e => (by cases e), fun _ => rfl⟩
  | cons x t =>
    show ((true && decide (1 ≤ x) && decide (x ≤ 4)) = true → (if isOpB x then some (x, t) else none) = some (x, t)) ∧ ((true && decide (1 ≤ x) && decide (x ≤ 4)) = false → (if isOpB x then some (x, t) else none) = none)
    have e : isOpB x = (decide (1 ≤ x) && decide (x ≤ 4)) := by unfold isOpB; first | rfl | simp | (by_cases h1 : 1 ≤ x <;> by_cases h2 : x ≤ 4 <;> simp [h1, h2] <;> omega)
    rw [e, Bool.true_and]
    constructor
    · intro h1
      rw [if_pos h1]
    · intro h1
      rw [if_neg (by rw [h1]; simp)]
theorem agr_mat {s : Ri} (h : s.P) (ho : s.ok = true) : Agr rMat s.b s.mat s.matN :=
  agr_map (fun p : (ByteArray × Int) × ByteArray => Ma.mk p.1.1 p.1.2 p.2) (agr_pair (agr_pair (agr_txt h ho 64) (fun h2 => agr_op (P_txt h 64) h2) (fun h2 => opN_no h2)) (fun h2 => agr_txt (P_opN (P_txt h 64)) h2 64) (fun h2 => txt_no 64 h2))
theorem agr_mats {s : Ri} (h : s.P) (ho : s.ok = true) : Agr rMats s.b s.mats.1 s.mats.2 :=
  agr_each (fun s h => P_matN h) (fun s h ho => agr_mat h ho) 8 8 h ho (.inl rfl)
theorem agr_time {s : Ri} (h : s.P) (ho : s.ok = true) : Agr rTime s.b (Q.unfold' (Q.dec s.b).1) s.num := by
  unfold Agr Ri.num rTime
  simp only [ho, Bool.true_and, decide_eq_true_eq, decide_eq_false_iff_not]
  constructor
  · intro h0
    rw [if_pos (by omega)]
  · intro h0
    rw [if_neg (by omega)]
def sumS (l : List Se) : Nat := (l.map (fun x => x.2.length)).sum
def fineS (all : Nat) (l : List Se) : Prop := (∀ x ∈ l, x.2.length ≠ 0) ∧ all + sumS l ≤ 256
theorem fine_cons {all : Nat} {x : Se} {l : List Se} : fineS all (x :: l) ↔ x.2.length ≠ 0 ∧ fineS (all + x.2.length) l := by
  unfold fineS sumS
  simp only [List.mem_cons, forall_eq_or_imp, List.map_cons, List.sum_cons]
  constructor
  · rintro ⟨⟨h1, h2⟩, h3⟩
    exact ⟨h1, h2, by omega⟩
  · rintro ⟨h1, h2, h3⟩
    exact ⟨⟨h1, h2⟩, by omega⟩
theorem rRep_at {α : Type} (r : Rdr α) (n : Nat) (b : List Int) : rRep r (n + 1) b = (r b).bind (fun q => (rRep r n q.2).map (fun p => (q.1 :: p.1, p.2))) := rfl
theorem agr_wrep : ∀ (n all : Nat) (s : Ri) (acc : List Se), s.P → s.ok = true → all ≤ 256 →
    ((Ri.wrep n all s acc).2.ok = true → ∃ l, (Ri.wrep n all s acc).1 = acc ++ l ∧ rRep rSer n s.b = some (l, (Ri.wrep n all s acc).2.b) ∧ fineS all l) ∧
    ((Ri.wrep n all s acc).2.ok = false → ∀ l r, rRep rSer n s.b = some (l, r) → ¬ fineS all l)
  | 0, all, s, acc, h, ho, ha => by
    refine ⟨fun _ => ⟨[], by simp [Ri.wrep], rfl, by simp, by simp [sumS]; exact ha⟩, fun e => ?_⟩
    have e : s.ok = false := e
    rw [ho] at e
    cases e
  | n + 1, all, s, acc, h, ho, ha => by
    rw [Ri.wrep_yes n all ho acc]
    have hs := agr_ser h ho
    rw [rRep_at]
    cases hn : s.serN.ok with
    | false =>
      have e0 : (false && decide (0 < s.ser.2.length) && decide (all + s.ser.2.length ≤ 256)) = false := by simp
      rw [e0, Ri.wrep_no _ _ rfl]
      refine ⟨fun e => (by cases e), fun _ l r hr => ?_⟩
      rw [hs.2 hn] at hr
      cases hr
    | true =>
      rw [hs.1 hn]
      show (_ → ∃ l, _ ∧ (rRep rSer n s.serN.b).map _ = _ ∧ _) ∧ (_ → ∀ l r, (rRep rSer n s.serN.b).map _ = _ → _)
      by_cases hg : 0 < s.ser.2.length ∧ all + s.ser.2.length ≤ 256
      · have e0 : (true && decide (0 < s.ser.2.length) && decide (all + s.ser.2.length ≤ 256)) = true := by simp [hg.1, hg.2]
        rw [e0]
        obtain ⟨i1, i2⟩ := agr_wrep n (all + s.ser.2.length) ⟨s.serN.b, true⟩ (acc ++ [s.ser]) ⟨(P_serN h).1, (P_serN h).2⟩ rfl hg.2
        refine ⟨fun e => ?_, fun e l r hr => ?_⟩
        · obtain ⟨l, h1, h2, h3⟩ := i1 e
          refine ⟨s.ser :: l, by rw [h1]; simp, ?_, fine_cons.2 ⟨by omega, h3⟩⟩
          have h2 : rRep rSer n s.serN.b = _ := h2
          rw [h2]
          rfl
        · cases hq : rRep rSer n s.serN.b with
          | none => rw [hq] at hr; cases hr
          | some q =>
            obtain ⟨l2, r2⟩ := q
            rw [hq] at hr
            simp at hr
            obtain ⟨rfl, rfl⟩ := hr
            intro hf
            exact i2 e l2 r2 hq (fine_cons.1 hf).2
      · have e0 : (true && decide (0 < s.ser.2.length) && decide (all + s.ser.2.length ≤ 256)) = false := by
          by_cases h1 : 0 < s.ser.2.length
          · have h2 : ¬ all + s.ser.2.length ≤ 256 := fun h2 => hg ⟨h1, h2⟩
            simp [h2]
          · have h1 : s.ser.2.length = 0 := by omega
            simp [h1]
        rw [e0, Ri.wrep_no _ _ rfl]
        refine ⟨fun e => (by cases e), fun _ l r hr => ?_⟩
        cases hq : rRep rSer n s.serN.b with
        | none => rw [hq] at hr; cases hr
        | some q =>
          obtain ⟨l2, r2⟩ := q
          rw [hq] at hr
          simp at hr
          obtain ⟨rfl, rfl⟩ := hr
          intro hf
          have h1 := fine_cons.1 hf
          have h2 := h1.2.2
          exact hg ⟨by have := h1.1; omega, by omega⟩
theorem rRep_len {α : Type} {r : Rdr α} : ∀ (n : Nat) (b : List Int) (l : List α) (t : List Int), rRep r n b = some (l, t) → l.length = n
  | 0, b, l, t, h => by
    simp [rRep] at h
    obtain ⟨h1, _⟩ := h
    subst h1
    rfl
  | n + 1, b, l, t, h => by
    rw [rRep_at] at h
    cases ho : r b with
    | none => rw [ho] at h; cases h
    | some q =>
      rw [ho] at h
      have h : (rRep r n q.2).map (fun p => (q.1 :: p.1, p.2)) = some (l, t) := h
      cases hq : rRep r n q.2 with
      | none => rw [hq] at h; cases h
      | some z =>
        rw [hq] at h
        simp at h
        rw [← h.1]
        simp [rRep_len n q.2 z.1 z.2 (by rw [hq])]
theorem areS_iff (l : List Se) : areS l = true ↔ fineS 0 l ∧ 1 ≤ l.length ∧ l.length ≤ 64 := by
  unfold areS fineS sumS
  simp only [Bool.and_eq_true, List.all_eq_true, decide_eq_true_eq]
  constructor
  · rintro ⟨h1, h2, h3, h4⟩
    exact ⟨⟨h1, by omega⟩, h2, h3⟩
  · rintro ⟨⟨h1, h4⟩, h2, h3⟩
    exact ⟨h1, h2, h3, by omega⟩
theorem agr_wrs {s : Ri} (h : s.P) (ho : s.ok = true) : Agr rWrs s.b s.wrs.1 s.wrs.2 := by
  have hd := Q.dec_bound s.b h.1
  have hc := agr_cnt h ho 64
  have e1 : rWrs s.b = (rNum U64 s.b).bind (fun q => (rRep rSer q.1 q.2).bind (fun p => if areS p.1 then some p else none)) := by
    show ((rNum U64 s.b).bind _).bind _ = _
    cases rNum U64 s.b <;> rfl
  unfold Agr
  rw [e1]
  have bad : ∀ (n : Nat) (b : List Int), (∀ l r, rRep rSer n b = some (l, r) → ¬ areS l = true) → (rRep rSer n b).bind (fun p => if areS p.1 then some p else none) = none := by
    intro n b hh
    cases hq : rRep rSer n b with
    | none => rfl
    | some q =>
      show (if areS q.1 then _ else _) = _
      rw [if_neg (hh q.1 q.2 hq)]
  unfold Ri.wrs
  cases hk : (s.cnt 64).ok with
  | false =>
    have hm0 : s.many 64 = 0 := by unfold Ri.many; rw [hk]; rfl
    rw [hm0]
    refine ⟨fun e => (by cases e), fun _ => ?_⟩
    have hk2 : ¬ ((Q.dec s.b).2 ≠ 0 ∧ (Q.dec s.b).1 ≤ 64) := by
      have := hc.2 hk
      unfold rNum at this
      split at this
      · cases this
      · assumption
    unfold rNum
    by_cases h5 : (Q.dec s.b).2 ≠ 0 ∧ (Q.dec s.b).1 ≤ U64
    · rw [if_pos h5]
      refine bad _ _ (fun l r hr hA => ?_)
      have h6 := rRep_len _ _ _ _ hr
      have h7 := (areS_iff l).1 hA
      exact hk2 ⟨h5.1, by omega⟩
    · rw [if_neg h5]
      rfl
  | true =>
    have hmany : s.many 64 = (Q.dec s.b).1 := by unfold Ri.many; rw [hk]; rfl
    have hc1 := hc.1 hk
    have hle : (Q.dec s.b).1 ≤ 64 := by
      unfold rNum at hc1
      split at hc1
      · rename_i h6; exact h6.2
      · cases hc1
    have hc2 : rNum U64 s.b = some ((Q.dec s.b).1, (s.cnt 64).b) := by
      unfold rNum at hc1 ⊢
      split at hc1
      · rename_i h6
        rw [if_pos ⟨h6.1, by unfold U64; omega⟩]
        exact hc1
      · cases hc1
    rw [hc2, hmany]
    show (_ → (rRep rSer (Q.dec s.b).1 (s.cnt 64).b).bind _ = _) ∧ (_ → (rRep rSer (Q.dec s.b).1 (s.cnt 64).b).bind _ = _)
    by_cases hn0 : 0 < (Q.dec s.b).1
    · have e0 : (true && decide (0 < (Q.dec s.b).1)) = true := by simp [hn0]
      rw [e0]
      obtain ⟨i1, i2⟩ := agr_wrep (Q.dec s.b).1 0 ⟨(s.cnt 64).b, true⟩ [] ⟨(P_cnt h 64).1, (P_cnt h 64).2⟩ rfl (by omega)
      refine ⟨fun e => ?_, fun e => ?_⟩
      · obtain ⟨l, h1, h2, h3⟩ := i1 e
        have h2 : rRep rSer (Q.dec s.b).1 (s.cnt 64).b = _ := h2
        have h6 := rRep_len _ _ _ _ h2
        rw [h2, h1]
        show (if areS l then _ else _) = _
        rw [if_pos ((areS_iff l).2 ⟨h3, by omega, by omega⟩)]
        rfl
      · exact bad _ _ (fun l r hr hA => i2 e l r hr ((areS_iff l).1 hA).1)
    · have e0 : (true && decide (0 < (Q.dec s.b).1)) = false := by simp; omega
      rw [e0, Ri.wrep_no _ _ rfl]
      refine ⟨fun e => (by cases e), fun _ => ?_⟩
      refine bad _ _ (fun l r hr hA => ?_)
      have h6 := rRep_len _ _ _ _ hr
      have h7 := ((areS_iff l).1 hA).2.1
      omega
theorem agr_am {s : Ri} (h : s.P) (ho : s.ok = true) : Agr (rdV .am) s.b (.am s.amV) (s.cnt 1099511627775) := by
  have ha := agr_cnt h ho 1099511627775
  rw [show rdV .am = rMap (fun (n : Nat) => FV.am (n : Int)) (rNum 1099511627775) from rfl]
  refine ⟨fun e => ?_, fun e => ?_⟩
  · unfold rMap Ri.amV
    rw [ha.1 e, e]
    rfl
  · unfold rMap
    rw [ha.2 e]
    rfl
theorem agr_fld {s : Ri} (h : s.P) (ho : s.ok = true) (i : Nat) (hi : i < 10) : Agr (rdV (kdQ (i + 2))) s.b (s.fld i).1 (s.fld i).2 := by
  rcases (by omega : i = 0 ∨ i = 1 ∨ i = 2 ∨ i = 3 ∨ i = 4 ∨ i = 5 ∨ i = 6 ∨ i = 7 ∨ i = 8 ∨ i = 9) with rfl | rfl | rfl | rfl | rfl | rfl | rfl | rfl | rfl | rfl
  · have ha := agr_map FV.ws (agr_wrs h ho); exact ha
  · have ha := agr_map FV.ms (agr_mats h ho); exact ha
  · have ha := agr_map FV.tm (agr_time h ho); exact ha
  · have ha := agr_map FV.tm (agr_time h ho); exact ha
  · have ha := agr_map FV.qu (agr_txt h ho 4096); exact ha
  · have ha := agr_map FV.tx (agr_txt h ho 64); exact ha
  · exact agr_am h ho
  · exact agr_am h ho
  · exact agr_am h ho
  · have ha := agr_map FV.tk (agr_lim h ho 64 64 (.inl rfl)); exact ha
theorem P_fld {s : Ri} (h : s.P) (i : Nat) : (s.fld i).2.P := by
  unfold Ri.fld
  split
  · exact (P_wrep (s.many 64) 0 ⟨(s.cnt 64).b, (s.cnt 64).ok && decide (0 < s.many 64)⟩ [] ⟨(P_cnt h 64).1, (P_cnt h 64).2⟩ (by simp)).1
  · exact P_rep (fun s h => P_matN h) _ _ _ (P_cnt h 8)
  · exact P_num h
  · exact P_num h
  · exact P_txt h _
  · exact P_txt h _
  · exact P_cnt h _
  · exact P_cnt h _
  · exact P_cnt h _
  · exact P_txt h _
theorem rFields_at (kd : Nat → Kd) (i : Nat) (r : List Nat) (f : Nat → FV) (b : List Int) : rFields kd (i :: r) f b = (rdV (kd i) b).bind (fun q => rFields kd r (fun j => if j = i then q.1 else f j) q.2) := rfl
theorem agr_flds : ∀ (L : List Nat) (f : Nat → FV) (s : Ri), s.P → s.ok = true → (∀ i ∈ L, i < 10) → Agr (rFields kdQ (L.map (· + 2)) f) s.b (Ri.flds L f s).1 (Ri.flds L f s).2
  | [], f, s, h, ho, _ => ⟨fun _ => rfl, fun e => by have e : s.ok = false := e; rw [ho] at e; cases e⟩
  | i :: r, f, s, h, ho, hL => by
    have ha := agr_fld h ho i (hL i (by simp))
    have e1 : Ri.flds (i :: r) f s = Ri.flds r (updV f (i + 2) (s.fld i).1) (s.fld i).2 := by rw [Ri.flds, if_pos ho]
    rw [e1]
    unfold Agr
    rw [List.map_cons, rFields_at]
    cases hn : (s.fld i).2.ok with
    | false =>
      rw [flds_no _ _ hn, ha.2 hn]
      refine ⟨fun e => ?_, fun _ => rfl⟩
      have e : (s.fld i).2.ok = true := e
      rw [hn] at e
      cases e
    | true =>
      rw [ha.1 hn]
      exact agr_flds r (updV f (i + 2) (s.fld i).1) (s.fld i).2 (P_fld h i) hn (fun j hj => hL j (by simp [hj]))
theorem agr_dec {b : List Int} (h : (Ri.mk b true).P) : Agr rRq b (dqK b, (dqD b).1) (dqD b).2 := by
  unfold dqD dqF dqS2 dqS0 dqK dqL
  cases b with
  | nil => exact ⟨fun e => (by cases e), fun _ => rfl⟩
  | cons x t =>
    have hPt : (Ri.mk t true).P := ⟨fun y hy => h.1 y (by simp; exact .inr hy), by have := h.2; simp at this; show t.length ≤ _; omega⟩
    have e1 : rRq (x :: t) = (match fieldsK x with | some used => (rFields kdQ used zQ t).map (fun (p : (Nat → FV) × List Int) => ((x, p.1), p.2)) | none => none) := rfl
    show Agr rRq (x :: t) (x, (Ri.flds ((docL x).getD []) (updV (updV zQ 0 (.tx (strOfNums (txL t 64)))) 1 (.tk (txL ((Ri.mk t (true && (docL x).isSome)).txt 64).b 64))) (((Ri.mk t (true && (docL x).isSome)).txt 64).txt 64)).1) (Ri.flds ((docL x).getD []) (updV (updV zQ 0 (.tx (strOfNums (txL t 64)))) 1 (.tk (txL ((Ri.mk t (true && (docL x).isSome)).txt 64).b 64))) (((Ri.mk t (true && (docL x).isSome)).txt 64).txt 64)).2
    unfold Agr
    rw [e1, docL_fields]
    cases hd : docL x with
    | none =>
      refine ⟨fun e => ?_, fun _ => rfl⟩
      have e : (((Ri.mk t false).txt 64).txt 64).ok = true := e
      rw [txt_no 64 (txt_no 64 rfl)] at e
      cases e
    | some L =>
      have hL := (docL_lt hd).1
      show (_ → (rFields kdQ (0 :: 1 :: L.map (· + 2)) zQ t).map _ = _) ∧ (_ → (rFields kdQ (0 :: 1 :: L.map (· + 2)) zQ t).map _ = _)
      have a1 : Agr (rdV .tx) t (.tx (strOfNums (txL t 64))) ((Ri.mk t true).txt 64) := agr_map FV.tx (agr_txt hPt rfl 64)
      rw [rFields_at]
      show ((Ri.flds L (updV (updV zQ 0 (.tx (strOfNums (txL t 64)))) 1 (.tk (txL ((Ri.mk t true).txt 64).b 64))) (((Ri.mk t true).txt 64).txt 64)).2.ok = true → ((rdV .tx t).bind _).map _ = _) ∧ ((Ri.flds L (updV (updV zQ 0 (.tx (strOfNums (txL t 64)))) 1 (.tk (txL ((Ri.mk t true).txt 64).b 64))) (((Ri.mk t true).txt 64).txt 64)).2.ok = false → ((rdV .tx t).bind _).map _ = _)
      have hP1 : ((Ri.mk t true).txt 64).P := P_txt hPt 64
      show ((Ri.flds L (updV (updV zQ 0 (.tx (strOfNums (txL t 64)))) 1 (.tk (txL ((Ri.mk t true).txt 64).b 64))) (((Ri.mk t true).txt 64).txt 64)).2.ok = true → ((rdV .tx t).bind _).map _ = some ((x, (Ri.flds L (updV (updV zQ 0 (.tx (strOfNums (txL t 64)))) 1 (.tk (txL ((Ri.mk t true).txt 64).b 64))) (((Ri.mk t true).txt 64).txt 64)).1), (Ri.flds L (updV (updV zQ 0 (.tx (strOfNums (txL t 64)))) 1 (.tk (txL ((Ri.mk t true).txt 64).b 64))) (((Ri.mk t true).txt 64).txt 64)).2.b)) ∧ ((Ri.flds L (updV (updV zQ 0 (.tx (strOfNums (txL t 64)))) 1 (.tk (txL ((Ri.mk t true).txt 64).b 64))) (((Ri.mk t true).txt 64).txt 64)).2.ok = false → ((rdV .tx t).bind _).map _ = _)
      generalize (Ri.mk t true).txt 64 = s1 at *
      generalize FV.tx (strOfNums (txL t 64)) = v1 at *
      cases h1 : s1.ok with
      | false =>
        rw [flds_no _ _ (txt_no 64 h1), a1.2 h1]
        refine ⟨fun e => ?_, fun _ => rfl⟩
        have e : (s1.txt 64).ok = true := e
        rw [txt_no 64 h1] at e
        cases e
      | true =>
        rw [a1.1 h1]
        have a2 : Agr (rdV .tk) s1.b (.tk (txL s1.b 64)) (s1.txt 64) := agr_map FV.tk (agr_lim hP1 h1 64 64 (.inl rfl))
        have hP2 : (s1.txt 64).P := P_txt hP1 64
        show (_ → ((rdV .tk s1.b).bind _).map _ = _) ∧ (_ → ((rdV .tk s1.b).bind _).map _ = _)
        generalize FV.tk (txL s1.b 64) = v2 at *
        generalize s1.txt 64 = s2 at *
        cases h2 : s2.ok with
        | false =>
          rw [flds_no _ _ h2, a2.2 h2]
          refine ⟨fun e => ?_, fun _ => rfl⟩
          have e : s2.ok = true := e
          rw [h2] at e
          cases e
        | true =>
          rw [a2.1 h2]
          have a3 := agr_flds L (updV (updV zQ 0 v1) 1 v2) s2 hP2 h2 hL
          refine ⟨fun e => ?_, fun e => ?_⟩
          · show (rFields kdQ (L.map (· + 2)) (updV (updV zQ 0 v1) 1 v2) s2.b).map _ = _
            rw [a3.1 e]
            rfl
          · show (rFields kdQ (L.map (· + 2)) (updV (updV zQ 0 v1) 1 v2) s2.b).map _ = _
            rw [a3.2 e]
            rfl
/-- The document's Decode answers as the code's. -/
theorem docD_eq {b : List Int} (hb : Byte b) : docD b = decQ b := by
  unfold docD decQ
  split
  · rfl
  · rename_i hl
    have ha := agr_dec (b := b) ⟨hb, by show b.length ≤ _; omega⟩
    generalize dqK b = k at *
    generalize dqD b = d at *
    obtain ⟨f, ⟨sb, ok⟩⟩ := d
    cases ok with
    | false =>
      rw [ha.2 rfl, if_neg (by rintro ⟨h, _⟩; cases h)]
    | true =>
      rw [ha.1 rfl]
      cases sb with
      | nil => rw [if_pos ⟨rfl, rfl⟩]
      | cons x t => rw [if_neg (by rintro ⟨_, h⟩; cases h)]
end Go.Proofs.YtalmpmhnkilalaaGreatDoor
