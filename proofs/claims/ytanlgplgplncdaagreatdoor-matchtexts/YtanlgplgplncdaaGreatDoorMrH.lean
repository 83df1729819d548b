import Derived.Test.YtanlgplgplncdaaGreatDoorMrF
import Derived.Test.YtanlgplgplncdaaGreatDoorMtD
import Derived.Test.YtanlgplgplncdaaGreatDoorLbS
/-
  The program's reader: a set of matchers, the walk.
-/
namespace Go.Proofs.YtanlgplgplncdaaGreatDoor.L
open Go.RowKit
set_option linter.unusedVariables false
set_option linter.unusedSimpArgs false

/-- What set holds: the reader at a place, what is found. -/
structure LS0 (w wx : World) (r : Nat) (s : ByteArray) (G f a : Nat) (J : Jm) (v : Value) : Prop where
  rd : Rd wx r s a
  fs : FS w.heap.size wx f J v
  g : Blk wx G 84 zF
  gv : ¬ v.ownBlock = some G
  rv : ¬ v.ownBlock = some r
  ch : Chg (fun i => i = r) w wx
  al : a ≤ (bts s).length
theorem LS0.move {w wx wy : World} {r : Nat} {s : ByteArray} {G f a a' : Nat} {J : Jm} {v : Value} (h : LS0 w wx r s G f a J v) (hfr : f ≠ r) (hgr : G ≠ r) (hR : Rd wy r s a') (hc : Chg (fun i => i = r) wx wy) (ha : a' ≤ (bts s).length) : LS0 w wy r s G f a' J v :=
  ⟨hR, h.fs.chg hc hfr (fun i hi e => h.rv (by rw [hi, e])), hc.blk h.g hgr, h.gv, h.rv, h.ch.trans hc (fun _ _ e => e), ha⟩
theorem LS0.later {w wx wy : World} {r : Nat} {s : ByteArray} {G f a : Nat} {J : Jm} {v : Value} (h : LS0 w wx r s G f a J v) (hb : Below wx.heap.size wx wy) : LS0 w wy r s G f a J v :=
  ⟨h.rd.chg (Chg.of_below (F := fun _ => False) hb) (fun e => e), h.fs.later hb, h.g.later hb, h.gv, h.rv, h.ch.trans (Chg.of_below (F := fun _ => False) hb) (fun _ _ e => e.elim), h.al⟩
theorem one_F {base : Nat} {w : World} {f : Nat} {J : Jm} {v : Value} (h : FS base w f J v) : ∀ u ∈ [v, .bool J.bad.isSome, .int .i64 ((J.bad.getD 0 : Nat) : Int)], u.oneCell' = true := by
  obtain ⟨ad, c, rfl, -⟩ := owns_formS h.own
  intro u hu
  simp at hu
  rcases hu with rfl | rfl | rfl <;> rfl
theorem Rd.drew {w : World} {r : Nat} {s : ByteArray} {a : Nat} (h : Rd w r s a) : Rd w.drew r s a := Blk.drew h

set_option maxRecDepth 100000 in
set_option maxHeartbeats 8000000 in
theorem setP (B r : Nat) (s : ByteArray) (w : World) (h : Rd w r s 0) (hs : s.size ≤ 140737488355328) (hT : Tb B w) (hrB : B ≤ r) : Calls Tryz.prog 31 #[.pointer (some ⟨r, 0, none⟩)] w (SeR w r s) := by
  have HSZ := hidden (size_bts s)
  have HH := hidden h
  have HT := hidden hT
  have hrw : r < w.heap.size := Blk.lt h
  have HRW := hidden hrw
  clear h hT hrw
  have TAK : Hid (∀ wx a c, a ≤ (bts s).length → Rd wx r s a → Calls Tryz.prog 49 #[.pointer (some ⟨r, 0, none⟩), .int .u8 ((c : UInt8).toNat : Int)] wx fun e w' => e = .returned (.bool (tk (bts s) a c)) ∧ Rd w' r s (tkAt (bts s) a c) ∧ Chg (fun i => i = r) wx w') := hidden (fun wx a c ha h => takeP r s a c wx h (by rw [HSZ.out]; exact ha) hs)
  go_enter Tryz.func31, Tryz.ntmps31
  go_wp2_with (first
    | (refine wpList_alloc_blk rfl 84 rfl 2 rfl zF info73z ?_; intro w1 B1 bl1 hz1; have HB1 := hidden B1; have BL1 := hidden bl1; have HZ1 := hidden hz1; clear B1 bl1 hz1)
    | (refine wpList_alloc_blk rfl 84 rfl 4 rfl zF info73z ?_; intro w2 B2 bl2 hz2; have HB2 := hidden B2; have BL2 := hidden bl2; clear B2 bl2 hz2))
  have L2 : Hid (LS0 w w2 r s w.heap.size w1.heap.size 0 ⟨[], none⟩ (.slice none 0 0)) := hidden (by
    have b2 := BL1.out.trans (BL2.out.mono BL1.out.size)
    exact ⟨HH.out.chg (Chg.of_below (F := fun _ => False) b2) (fun e => e), FS.zero HB2.out, HB1.out.later BL2.out, by simp [Value.ownBlock], by simp [Value.ownBlock], Chg.of_below b2, Nat.zero_le _⟩)
  have ST : Hid (w.heap.size ≤ w.heap.size ∧ w.heap.size ≠ r ∧ w.heap.size ≠ w1.heap.size ∧ w1.heap.size ≠ r) := hidden (by have := HRW.out; have := HZ1.out; omega)
  have hfw : Hid (w.heap.size ≤ w1.heap.size) := hidden BL1.out.size
  clear HB1 HB2 BL1 BL2 HZ1 HH
  obtain ⟨G, hG⟩ : ∃ G, w.heap.size = G := ⟨_, rfl⟩
  obtain ⟨f, hf⟩ : ∃ f, w1.heap.size = f := ⟨_, rfl⟩
  rw [hf] at L2 ST hfw
  rw [hf]
  rw [show LS0 w w2 r s w.heap.size f 0 ⟨[], none⟩ (.slice none 0 0) = LS0 w w2 r s G f 0 ⟨[], none⟩ (.slice none 0 0) by rw [hG]] at L2
  rw [show (w.heap.size ≤ w.heap.size ∧ w.heap.size ≠ r ∧ w.heap.size ≠ f ∧ f ≠ r) = (w.heap.size ≤ G ∧ G ≠ r ∧ G ≠ f ∧ f ≠ r) by rw [hG]] at ST
  rw [hG]
  have HGG := hidden hG
  clear hf hG
  refine (TAK.out w2 0 123 (Nat.zero_le _) L2.out.rd).mono ?_
  rintro e w3 ⟨rfl, h3, hc3⟩
  have M3 : Hid (LS0 w w3 r s G f (tkAt (bts s) 0 123) ⟨[], none⟩ (.slice none 0 0)) := hidden (L2.out.move ST.out.2.2.2 ST.out.2.1 h3 hc3 (tkAt_le (Nat.zero_le _)))
  clear h3 hc3 L2
  cases q1 : tk (bts s) 0 123 with
  | false =>
    have FLT : Hid (runM (bts s) 0 .s0 = .fault (tkAt (bts s) 0 123)) := hidden (by have := run_take_no bl0 q1 (fun i x h1 h2 => by simp [stepM, h1, h2]) (fun i => rfl); simpa using this)
    have LL := M3
    clear q1 M3
    generalize tkAt (bts s) 0 123 = a at *
    generalize (⟨[], none⟩ : Jm) = J at *
    generalize Value.slice none 0 0 = v at *
    have HBK := hidden LL.out.fs.blk
    go_wp2_with (first
      | (refine wpList_load_blk rfl 84 (.tmp 4) rfl f HBK.out rfl Tryz.underlying84 rfl size73 ?_)
      | (refine wpList_store_blk rfl 84 (.tmp 2) (.tmp 11) rfl rfl G (l := [v, .bool J.bad.isSome, .int .i64 ((J.bad.getD 0 : Nat) : Int)]) LL.out.g rfl rfl rfl size73 (one_F LL.out.fs) ?_))
    have hN := blk_stored (l := [v, .bool J.bad.isSome, .int .i64 ((J.bad.getD 0 : Nat) : Int)]) LL.out.g rfl
    refine bodyPost_ret (res_set _ _ G _ _ _ _ rfl hN rfl) rfl ?_
    exact se_ret rfl LL.out.g LL.out.fs LL.out.rd LL.out.ch ST.out.1 ST.out.2.1 ST.out.2.2.1 LL.out.gv (by have := LL.out.al; have := HSZ.out; omega) (fun h => by cases h) (fun _ => FLT.out)
  | true =>
    have RU1 : Hid (runM (bts s) 0 .s0 = runM ((bts s).drop (tkAt (bts s) 0 123)) (tkAt (bts s) 0 123) .s1) := hidden (by have := run_take_yes bl0 q1 (st' := .s1) (by simp [stepM]); simpa using this)
    clear q1
    generalize tkAt (bts s) 0 123 = a1 at *
    go_wp2_with fail
    refine (TAK.out w3 a1 125 M3.out.al M3.out.rd).mono ?_
    rintro e w4 ⟨rfl, h4, hc4⟩
    have M4 : Hid (LS0 w w4 r s G f (tkAt (bts s) a1 125) ⟨[], none⟩ (.slice none 0 0)) := hidden (M3.out.move ST.out.2.2.2 ST.out.2.1 h4 hc4 (tkAt_le M3.out.al))
    clear h4 hc4
    cases q2 : tk (bts s) a1 125 with
    | true =>
      have RU : Hid (runM (bts s) 0 .s0 = runM ((bts s).drop (tkAt (bts s) a1 125)) (tkAt (bts s) a1 125) (.s6 ⟨[], none⟩)) := hidden (by rw [RU1.out]; exact run_take_yes bl1 q2 (by simp [stepM]))
      have LL := M4
      clear q2 M4 M3 RU1
      generalize tkAt (bts s) a1 125 = a at *
      generalize (⟨[], none⟩ : Jm) = J at *
      generalize Value.slice none 0 0 = v at *
      generalize w4 = wl at *
      have HBK := hidden LL.out.fs.blk
      have RU6 : Hid (runM (bts s) 0 .s0 = if sk (bts s) a = (bts s).length then .done J else .fault (sk (bts s) a)) := hidden (by rw [RU.out]; exact run_s6 _ _ LL.out.al J)
      have ATE : Hid (∀ wx, Rd wx r s a → Calls Tryz.prog 50 #[.pointer (some ⟨r, 0, none⟩)] wx fun e w' => e = .returned (.bool (decide (sk (bts s) a = s.size))) ∧ Rd w' r s (sk (bts s) a) ∧ Chg (fun i => i = r) wx w') := hidden (fun wx h => atEndP r s a wx h (by have := LL.out.al; have := HSZ.out; omega) hs)
      have hskl : sk (bts s) a ≤ s.size := by rw [HSZ.out]; exact sk_le LL.out.al
      obtain ⟨q, hq⟩ : ∃ q, decide (sk (bts s) a = s.size) = q := ⟨_, rfl⟩
      rw [hq] at ATE
      have HQ := hidden hq
      have x0 : wl.cell? ⟨f, 0, none⟩ = some v := HBK.out.cell 0
      have x1 : wl.cell? ⟨f, 1, none⟩ = some (.bool J.bad.isSome) := HBK.out.cell 1
      have x2 : wl.cell? ⟨f, 2, none⟩ = some (.int .i64 ((J.bad.getD 0 : Nat) : Int)) := HBK.out.cell 2
      have hfl : f < wl.heap.size := HBK.out.lt
      clear hq
      generalize hbb : J.bad.isSome = bb at *
      generalize hpp : ((J.bad.getD 0 : Nat) : Int) = pp at *
      have HBB := hidden hbb
      have HPP := hidden hpp
      clear hbb hpp
      obtain ⟨vad, vc, hv, -⟩ := owns_formS LL.out.fs.own
      subst hv
      go_upto_region 5 with fail
      go_region_with (go_at_call 50; refine (ATE.out _ LL.out.rd.drew).mono ?_; rintro e w5 ⟨rfl, h5, hc5⟩; have H5 := hidden h5; have C5 : Hid (Chg (fun i => i = r) wl w5) := hidden ((Chg.drew _ wl).trans hc5 (fun _ _ e => e)); have y0 : w5.cell? ⟨f, 0, none⟩ = some (.slice vad J.ls.length vc) := (C5.out.blk HBK.out ST.out.2.2.2).cell 0; have y1 : w5.cell? ⟨f, 1, none⟩ = some (.bool bb) := (C5.out.blk HBK.out ST.out.2.2.2).cell 1; have y2 : w5.cell? ⟨f, 2, none⟩ = some (.int .i64 pp) := (C5.out.blk HBK.out ST.out.2.2.2).cell 2; have G5 := hidden (C5.out.blk LL.out.g ST.out.2.1); have z0 : w5.cell? ⟨G, 0, none⟩ = some (.slice none 0 0) := G5.out.cell 0; have z1 : w5.cell? ⟨G, 1, none⟩ = some (.bool false) := G5.out.cell 1; have z2 : w5.cell? ⟨G, 2, none⟩ = some (.int .i64 0) := G5.out.cell 2; have k0 := G5.out.frozen 0; have k1 := G5.out.frozen 1; have k2 := G5.out.frozen 2; clear h5 hc5)
      all_goals
        go_wp2_with fail
        obtain rfl := HBB.out
        obtain rfl := HPP.out
        have hN := blk_stored (l := [.slice vad J.ls.length vc, .bool J.bad.isSome, .int .i64 ((J.bad.getD 0 : Nat) : Int)]) G5.out rfl
        refine bodyPost_ret (res_set _ _ G _ _ _ _ rfl hN rfl) rfl ?_
        exact se_ret rfl G5.out (LL.out.fs.chg C5.out ST.out.2.2.2 (fun i hi e => LL.out.rv (by rw [hi, e]))) H5.out (LL.out.ch.trans C5.out (fun _ _ e => e)) ST.out.1 ST.out.2.1 ST.out.2.2.1 LL.out.gv hskl (fun h => by rw [RU6.out, if_pos (by rw [← HSZ.out]; exact of_decide_eq_true (HQ.out.trans h))]) (fun h => by rw [RU6.out, if_neg (by rw [← HSZ.out]; exact of_decide_eq_false (HQ.out.trans h))])
    | false =>
      have RU2 : Hid (runM (bts s) 0 .s0 = runM ((bts s).drop (tkAt (bts s) a1 125)) (tkAt (bts s) a1 125) (.s2 ⟨[], none⟩)) := hidden (by
        have e2 : tkAt (bts s) a1 125 = sk (bts s) a1 := by unfold tkAt; rw [q2]; rfl
        rw [e2, RU1.out, run_sk bl1]
        exact s1_s2 q2 (sk_next _ _))
      clear q2 M3 RU1
      generalize tkAt (bts s) a1 125 = a2 at *
      go_wp2_with fail
      go_loopw [5, 6, 7] (fun v5 v6 v7 wx => ∃ (a : Nat) (J : Jm) (v : Value), Hid (LS0 w wx r s G f a J v) ∧ Hid (runM (bts s) 0 .s0 = runM ((bts s).drop a) a (.s2 J))) (fun _ _ _ wx => s.size - rdAt r wx)
      case atStart => exact ⟨a2, _, _, M4, RU2⟩
      case round =>
        rename World => wr
        obtain ⟨a, J, v, hL, hU⟩ := hrel
        clear M4 RU2
        have HRDI : Hid (rdAt r wr = a) := hidden hL.out.rd.at'
        have has : a ≤ s.size := by rw [HSZ.out]; exact hL.out.al
        have SKB := hidden (skipBlanksP r s a wr hL.out.rd has hs)
        have hskl : sk (bts s) a ≤ (bts s).length := sk_le hL.out.al
        have hskg := sk_ge (bts s) a
        have H32 : Hid ((bts s)[sk (bts s) a]? ≠ some 32) := hidden (sk_next _ _)
        have RU3 : Hid (runM (bts s) 0 .s0 = runM ((bts s).drop (sk (bts s) a)) (sk (bts s) a) (.s2 J)) := hidden (by rw [hU.out]; exact run_sk (bl2 J) _ _)
        generalize sk (bts s) a = p at *
        clear hU
        go_wp2_with fail
        refine SKB.out.mono ?_
        rintro e w5 ⟨rfl, h5, hc5⟩
        have M5 : Hid (LS0 w w5 r s G f p J v) := hidden (hL.out.move ST.out.2.2.2 ST.out.2.1 h5 hc5 hskl)
        have c5 : w5.cell? ⟨r, 1, none⟩ = some (.int .i64 (p : Int)) := h5.cell 1
        have hps : p ≤ s.size := by rw [HSZ.out]; exact hskl
        have MAT := hidden (matcherP r s p w5 h5 hps hs H32.out)
        clear h5 hc5 SKB hL
        go_wp2_with fail
        refine MAT.out.mono ?_
        rintro e w6 ⟨m, a6, ok6, rfl, hD6, h6, hc6⟩
        have D6 := hidden hD6
        have M6 : Hid (LS0 w w6 r s G f a6 J v) := hidden (M5.out.move ST.out.2.2.2 ST.out.2.1 h6 hc6 hD6.2.1)
        clear hD6 h6 hc6 MAT M5 c5
        have ha6 := D6.out.1
        cases ok6 with
        | false =>
          have FLT : Hid (runM (bts s) 0 .s0 = .fault a6) := hidden (by rw [RU3.out]; exact D6.out.2.2.2.2 rfl J)
          clear D6 RU3
          go_upto_region 9 with (refine wpList_new_var rfl rfl 58 6 (.tmp 26) rfl rfl rfl rfl 3 info31n (mC m) rfl (one_mC m) (by simp) rfl ?_; intro w7 B7 bl7 hz7; have BL7 := hidden bl7; clear B7 bl7 hz7)
          have LL : Hid (LS0 w w7 r s G f a6 J v) := hidden (M6.out.later BL7.out)
          clear M6
          have HBK := hidden LL.out.fs.blk
          go_wp2_with (first
            | (refine wpList_load_blk rfl 84 (.tmp 4) rfl f HBK.out rfl Tryz.underlying84 rfl size73 ?_)
            | (refine wpList_store_blk rfl 84 (.tmp 2) (.tmp 30) rfl rfl G (l := [v, .bool J.bad.isSome, .int .i64 ((J.bad.getD 0 : Nat) : Int)]) LL.out.g rfl rfl rfl size73 (one_F LL.out.fs) ?_))
          have hN := blk_stored (l := [v, .bool J.bad.isSome, .int .i64 ((J.bad.getD 0 : Nat) : Int)]) LL.out.g rfl
          refine bodyPost_ret (res_set _ _ G _ _ _ _ rfl hN rfl) rfl ?_
          exact se_ret rfl LL.out.g LL.out.fs LL.out.rd LL.out.ch ST.out.1 ST.out.2.1 ST.out.2.2.1 LL.out.gv (by have := LL.out.al; have := HSZ.out; omega) (fun h => by cases h) (fun _ => FLT.out)
        | true =>
          have RU6a : Hid (runM (bts s) 0 .s0 = runM ((bts s).drop a6) a6 (.s5 (J.add m p))) := hidden (by rw [RU3.out]; exact D6.out.2.2.2.1 rfl J)
          have HOKM := hidden D6.out.2.2.1
          clear D6 RU3
          go_upto_region 11 with (refine wpList_new_var rfl rfl 58 6 (.tmp 26) rfl rfl rfl rfl 3 info31n (mC m) rfl (one_mC m) (by simp) rfl ?_; intro w7 B7 bl7 hz7; have BL7 := hidden bl7; have HB7 := hidden B7; clear B7 bl7 hz7)
          have M7 : Hid (LS0 w w7 r s G f a6 J v) := hidden (M6.out.later BL7.out)
          clear M6 BL7
          have hbw : w.heap.size ≤ w7.heap.size := M7.out.ch.size
          have hTb7 : Tb B w7 := HT.out.chg M7.out.ch (fun i hi => by have hi' : i = r := hi; omega)
          have ADD := hidden (addP B w.heap.size f J v m p w7 M7.out.fs HOKM.out (by omega) hbw hTb7)
          clear hTb7
          go_wp2_with (refine wpList_load_blk rfl 58 (.tmp 6) rfl w6.heap.size HB7.out rfl Tryz.underlying58 rfl size31 ?_)
          refine ADD.out.mono ?_
          rintro e w8 ⟨v8, rfl, hfs8, hc8, hm8⟩
          have M8 : Hid (LS0 w w8 r s G f a6 (J.add m p) v8) := hidden (by
            have hne : ∀ x, x < w7.heap.size → ¬ v.ownBlock = some x → ¬ v8.ownBlock = some x := by
              intro x hx hv e
              rcases hm8 with e2 | ⟨q, e2, hq⟩
              · exact hv (by rw [← e2]; exact e)
              · rw [e] at e2
                injection e2 with e2
                omega
            refine ⟨M7.out.rd.chg hc8 ?_, hfs8, hc8.blk M7.out.g ?_, hne G M7.out.g.lt M7.out.gv, hne r (Blk.lt M7.out.rd) M7.out.rv, M7.out.ch.trans hc8 ?_, M7.out.al⟩
            · rintro (e | e)
              · exact ST.out.2.2.2 e.symm
              · exact M7.out.rv e
            · rintro (e | e)
              · exact ST.out.2.2.1 e
              · exact M7.out.gv e
            · rintro i hi (e | e)
              · have := hfw.out; omega
              · have := (M7.out.fs.own.lt i e).1; omega)
          clear hfs8 hc8 hm8 M7 ADD HB7
          generalize J.add m p = J' at *
          go_wp2_with fail
          refine (TAK.out w8 a6 125 M8.out.al M8.out.rd).mono ?_
          rintro e w9 ⟨rfl, h9, hc9⟩
          have M9 : Hid (LS0 w w9 r s G f (tkAt (bts s) a6 125) J' v8) := hidden (M8.out.move ST.out.2.2.2 ST.out.2.1 h9 hc9 (tkAt_le M8.out.al))
          clear h9 hc9
          cases q3 : tk (bts s) a6 125 with
          | true =>
            have RU : Hid (runM (bts s) 0 .s0 = runM ((bts s).drop (tkAt (bts s) a6 125)) (tkAt (bts s) a6 125) (.s6 J')) := hidden (by rw [RU6a.out]; exact run_take_yes (bl5 J') q3 (by simp [stepM]))
            have LL := M9
            clear q3 M9 M8 RU6a hskg hskl H32
            generalize tkAt (bts s) a6 125 = a at *
            generalize J' = J at *
            generalize v8 = v at *
            generalize w9 = wl at *
            have HBK := hidden LL.out.fs.blk
            have RU6 : Hid (runM (bts s) 0 .s0 = if sk (bts s) a = (bts s).length then .done J else .fault (sk (bts s) a)) := hidden (by rw [RU.out]; exact run_s6 _ _ LL.out.al J)
            have ATE : Hid (∀ wx, Rd wx r s a → Calls Tryz.prog 50 #[.pointer (some ⟨r, 0, none⟩)] wx fun e w' => e = .returned (.bool (decide (sk (bts s) a = s.size))) ∧ Rd w' r s (sk (bts s) a) ∧ Chg (fun i => i = r) wx w') := hidden (fun wx h => atEndP r s a wx h (by have := LL.out.al; have := HSZ.out; omega) hs)
            have hskl : sk (bts s) a ≤ s.size := by rw [HSZ.out]; exact sk_le LL.out.al
            obtain ⟨q, hq⟩ : ∃ q, decide (sk (bts s) a = s.size) = q := ⟨_, rfl⟩
            rw [hq] at ATE
            have HQ := hidden hq
            have x0 : wl.cell? ⟨f, 0, none⟩ = some v := HBK.out.cell 0
            have x1 : wl.cell? ⟨f, 1, none⟩ = some (.bool J.bad.isSome) := HBK.out.cell 1
            have x2 : wl.cell? ⟨f, 2, none⟩ = some (.int .i64 ((J.bad.getD 0 : Nat) : Int)) := HBK.out.cell 2
            have hfl : f < wl.heap.size := HBK.out.lt
            clear hq
            generalize hbb : J.bad.isSome = bb at *
            generalize hpp : ((J.bad.getD 0 : Nat) : Int) = pp at *
            have HBB := hidden hbb
            have HPP := hidden hpp
            clear hbb hpp
            obtain ⟨vad, vc, hv, -⟩ := owns_formS LL.out.fs.own
            subst hv
            go_upto_region 13 with fail
            go_region_with (go_at_call 50; refine (ATE.out _ LL.out.rd.drew).mono ?_; rintro e w5 ⟨rfl, h5, hc5⟩; have H5 := hidden h5; have C5 : Hid (Chg (fun i => i = r) wl w5) := hidden ((Chg.drew _ wl).trans hc5 (fun _ _ e => e)); have y0 : w5.cell? ⟨f, 0, none⟩ = some (.slice vad J.ls.length vc) := (C5.out.blk HBK.out ST.out.2.2.2).cell 0; have y1 : w5.cell? ⟨f, 1, none⟩ = some (.bool bb) := (C5.out.blk HBK.out ST.out.2.2.2).cell 1; have y2 : w5.cell? ⟨f, 2, none⟩ = some (.int .i64 pp) := (C5.out.blk HBK.out ST.out.2.2.2).cell 2; have G5 := hidden (C5.out.blk LL.out.g ST.out.2.1); have z0 : w5.cell? ⟨G, 0, none⟩ = some (.slice none 0 0) := G5.out.cell 0; have z1 : w5.cell? ⟨G, 1, none⟩ = some (.bool false) := G5.out.cell 1; have z2 : w5.cell? ⟨G, 2, none⟩ = some (.int .i64 0) := G5.out.cell 2; have k0 := G5.out.frozen 0; have k1 := G5.out.frozen 1; have k2 := G5.out.frozen 2; clear h5 hc5)
            all_goals
              go_wp2_with fail
              obtain rfl := HBB.out
              obtain rfl := HPP.out
              have hN := blk_stored (l := [.slice vad J.ls.length vc, .bool J.bad.isSome, .int .i64 ((J.bad.getD 0 : Nat) : Int)]) G5.out rfl
              refine bodyPost_ret (res_set _ _ G _ _ _ _ rfl hN rfl) rfl ?_
              exact se_ret rfl G5.out (LL.out.fs.chg C5.out ST.out.2.2.2 (fun i hi e => LL.out.rv (by rw [hi, e]))) H5.out (LL.out.ch.trans C5.out (fun _ _ e => e)) ST.out.1 ST.out.2.1 ST.out.2.2.1 LL.out.gv hskl (fun h => by rw [RU6.out, if_pos (by rw [← HSZ.out]; exact of_decide_eq_true (HQ.out.trans h))]) (fun h => by rw [RU6.out, if_neg (by rw [← HSZ.out]; exact of_decide_eq_false (HQ.out.trans h))])
          | false =>
            have e9 : tkAt (bts s) a6 125 = sk (bts s) a6 := by unfold tkAt; rw [q3]; rfl
            have hsg := sk_ge (bts s) a6
            have hss : sk (bts s) (sk (bts s) a6) = sk (bts s) a6 := sk_stop (sk_next _ _)
            have N32 : Hid ((bts s)[sk (bts s) a6]? ≠ some 32) := hidden (sk_next _ _)
            have N125 : Hid (hr (bts s) (sk (bts s) a6) 125 = false) := hidden q3
            have RU9 : Hid (runM (bts s) 0 .s0 = runM ((bts s).drop (sk (bts s) a6)) (sk (bts s) a6) (.s5 J')) := hidden (by rw [RU6a.out]; exact run_sk (bl5 J') _ _)
            rw [e9] at M9
            clear q3 e9 RU6a
            generalize sk (bts s) a6 = b at *
            have etk : tk (bts s) b 44 = hr (bts s) b 44 := by unfold tk; rw [hss]; rfl
            have eta : tkAt (bts s) b 44 = hrAt (bts s) b 44 := by unfold tkAt; rw [hss, etk]; rfl
            clear hss
            go_wp2_with fail
            refine (TAK.out w9 b 44 M9.out.al M9.out.rd).mono ?_
            rintro e w10 ⟨rfl, h10, hc10⟩
            have M10 : Hid (LS0 w w10 r s G f (tkAt (bts s) b 44) J' v8) := hidden (M9.out.move ST.out.2.2.2 ST.out.2.1 h10 hc10 (tkAt_le M9.out.al))
            rw [eta] at M10
            rw [etk]
            clear h10 hc10 eta etk M9 M8
            cases q4 : hr (bts s) b 44 with
            | true =>
              have RU10 : Hid (runM (bts s) 0 .s0 = runM ((bts s).drop (hrAt (bts s) b 44)) (hrAt (bts s) b 44) (.s2 J')) := hidden (by rw [RU9.out]; exact run_here_yes q4 (by simp [stepM]))
              have e10 := hrAt_yes q4
              have HE10 := hidden e10
              have hal := M10.out.al
              clear q4 e10 RU9
              go_wp2_with fail
              refine ⟨⟨_, J', v8, M10, RU10⟩, ?_⟩
              rw [M10.out.rd.at', HRDI.out, HE10.out]
              rw [HE10.out] at hal
              have := HSZ.out
              omega
            | false =>
              have e10 := hrAt_no q4
              rw [e10] at M10
              have FLT : Hid (runM (bts s) 0 .s0 = .fault b) := hidden (by
                rw [RU9.out]
                refine run_none_of (fun x hx => ?_) (fun _ => rfl)
                have n32 : x ≠ 32 := fun e => N32.out (by rw [hx, e])
                simp [stepM, n32, hr_no N125.out hx, hr_no q4 hx])
              have LL := M10
              clear q4 e10 RU9 M10
              generalize J' = J at *
              generalize v8 = v at *
              have HBK := hidden LL.out.fs.blk
              go_wp2_with (first
                | (refine wpList_load_blk rfl 84 (.tmp 4) rfl f HBK.out rfl Tryz.underlying84 rfl size73 ?_)
                | (refine wpList_store_blk rfl 84 (.tmp 2) (.tmp 42) rfl rfl G (l := [v, .bool J.bad.isSome, .int .i64 ((J.bad.getD 0 : Nat) : Int)]) LL.out.g rfl rfl rfl size73 (one_F LL.out.fs) ?_))
              have hN := blk_stored (l := [v, .bool J.bad.isSome, .int .i64 ((J.bad.getD 0 : Nat) : Int)]) LL.out.g rfl
              refine bodyPost_ret (res_set _ _ G _ _ _ _ rfl hN rfl) rfl ?_
              exact se_ret rfl LL.out.g LL.out.fs LL.out.rd LL.out.ch ST.out.1 ST.out.2.1 ST.out.2.2.1 LL.out.gv (by have := LL.out.al; have := HSZ.out; omega) (fun h => by cases h) (fun _ => FLT.out)

end Go.Proofs.YtanlgplgplncdaaGreatDoor.L

/-
  Holds: its region that draws its order.
-/
namespace Go.Proofs.YtanlgplgplncdaaGreatDoor
open Go.RowKit
set_option linter.unusedVariables false
set_option linter.unusedSimpArgs false

/-- A text of these bytes. -/
def EntR (G : List UInt8) : Ent Lat := ⟨fun v _ => ∃ r, v = .string r ∧ bts r = G, fun _ _ _ h _ => h⟩

set_option maxRecDepth 100000 in
set_option maxHeartbeats 2000000 in
theorem holds_r4 (q n lc : Nat) (f : FuncId) (fa fc : Array Value) (la : Option Addr) (nm : ByteArray) (G : List UInt8) (H : Bool) (w : World) (a0 : Act) (Q : Exit → Act → World → Prop) (hsz : a0.tmps.size = 26)
    (s6 : a0.tmps.getD 6 undef = .pointer (some ⟨q, 0, none⟩))
    (s1 : a0.tmps.getD 1 undef = .slice la n lc)
    (hen : ∀ args w1, (callFunc f args).run Tryz.prog w1 = .ok (.enter f args) w1)
    (hfv : ∀ w1, Lat w w1 → w1.cell? ⟨q, 3, none⟩ = some (.func (.func f) fa fc))
    (hnm : ∀ w1, Lat w w1 → w1.cell? ⟨q, 0, none⟩ = some (.string nm))
    (hget : ∀ wx, Lat w wx → Calls Tryz.prog 25 #[.slice la n lc, .string nm] wx fun e w' => ∃ r, e = .returned (.string r) ∧ bts r = G ∧ Lat wx w')
    (hcl : ∀ wx r, Lat w wx → bts r = G → Calls Tryz.prog f (fa.push (.string r) ++ fc) wx fun e w' => e = .returned (.bool H) ∧ Lat wx w')
    (hQ : ∀ (v16 v17 v18 v19 v20 v21 v22 v23 v24 : Value) (w1 : World), Lat w w1 → v24 = .bool (!H) → Q .normal (((((((((a0.put (some 16) v16).put (some 17) v17).put (some 18) v18).put (some 19) v19).put (some 20) v20).put (some 21) v21).put (some 22) v22).put (some 23) v23).put (some 24) v24) w1) :
    Code.wp Tryz.prog ((Tryz.f13.body.bind (findRegion 4)).getD .skip) Q a0 w := by
  conv => arg 2; whnf
  refine wp_region_inv Lat (TE [Ent.val (.pointer (some ⟨q, 3, none⟩)), Ent.val (.func (.func f) fa fc), Ent.val (.slice la n lc), Ent.val (.pointer (some ⟨q, 0, none⟩)), Ent.val (.pointer (some ⟨q, 0, none⟩)), Ent.val (.string nm), EntR G, Ent.val (.bool H), Ent.val (.bool (!H))]) (by kernel_rfl) (by kernel_rfl) (by kernel_rfl) (by rw [hsz]; kernel_rfl) (by kernel_rfl) Lat.refl Lat.trans (TE_stable _) (Lat.draw w) ?hop ?hdone
  case hdone =>
    intro a w1 hL hS hT
    have he := same_puts hS
    rw [he]
    exact hQ (a.tmps.getD 16 undef) (a.tmps.getD 17 undef) (a.tmps.getD 18 undef) (a.tmps.getD 19 undef) (a.tmps.getD 20 undef) (a.tmps.getD 21 undef) (a.tmps.getD 22 undef) (a.tmps.getD 23 undef) (a.tmps.getD 24 undef) w1 hL (hT 8 _ rfl)
  case hop =>
    intro i o hi
    have hlt : i < 9 := (Array.getElem?_eq_some_iff.1 hi).1
    rcases (show i = 0 ∨ i = 1 ∨ i = 2 ∨ i = 3 ∨ i = 4 ∨ i = 5 ∨ i = 6 ∨ i = 7 ∨ i = 8 by omega) with rfl | rfl | rfl | rfl | rfl | rfl | rfl | rfl | rfl
    · obtain rfl := Option.some.inj hi
      clear hi hlt
      intro a w1 hL hS hD
      have e6 : a.tmps.getD 6 undef = .pointer (some ⟨q, 0, none⟩) := (hS.slot 6 (by kernel_rfl)).trans s6
      refine step_yes rfl ?_
      exact ok_value Lat.refl (.pointer (some ⟨q, 3, none⟩)) (by simp [execOp, Act.eval, e6, go_sem]) rfl
    · obtain rfl := Option.some.inj hi
      clear hi hlt
      intro a w1 hL hS hD
      have d0 : a.tmps.getD 16 undef = .pointer (some ⟨q, 3, none⟩) := hD ⟨0, .data⟩ (by simp) rfl _ rfl
      refine step_yes rfl ?_
      exact ok_value Lat.refl (.func (.func f) fa fc) (by simp [execOp, Act.eval, d0, hfv w1 hL, go_sem]) rfl
    · obtain rfl := Option.some.inj hi
      clear hi hlt
      intro a w1 hL hS hD
      have e1 : a.tmps.getD 1 undef = .slice la n lc := (hS.slot 1 (by kernel_rfl)).trans s1
      refine step_yes rfl ?_
      exact ok_value Lat.refl (.slice la n lc) (by simp [execOp, Act.eval, e1, go_sem]) rfl
    · obtain rfl := Option.some.inj hi
      clear hi hlt
      intro a w1 hL hS hD
      have e6 : a.tmps.getD 6 undef = .pointer (some ⟨q, 0, none⟩) := (hS.slot 6 (by kernel_rfl)).trans s6
      refine step_yes rfl ?_
      exact ok_value Lat.refl (.pointer (some ⟨q, 0, none⟩)) (by simp [execOp, Act.eval, e6, go_sem]) rfl
    · obtain rfl := Option.some.inj hi
      clear hi hlt
      intro a w1 hL hS hD
      have d3 : a.tmps.getD 19 undef = .pointer (some ⟨q, 0, none⟩) := hD ⟨3, .data⟩ (by simp) rfl _ rfl
      refine step_yes rfl ?_
      exact ok_value Lat.refl (.pointer (some ⟨q, 0, none⟩)) (by simp [execOp, Act.eval, d3, go_sem]) rfl
    · obtain rfl := Option.some.inj hi
      clear hi hlt
      intro a w1 hL hS hD
      have d4 : a.tmps.getD 20 undef = .pointer (some ⟨q, 0, none⟩) := hD ⟨4, .data⟩ (by simp) rfl _ rfl
      refine step_yes rfl ?_
      exact ok_value Lat.refl (.string nm) (by simp [execOp, Act.eval, d4, hnm w1 hL, go_sem]) rfl
    · obtain rfl := Option.some.inj hi
      clear hi hlt
      intro a w1 hL hS hD
      have d2 : a.tmps.getD 18 undef = .slice la n lc := hD ⟨2, .data⟩ (by simp) rfl _ rfl
      have d5 : a.tmps.getD 21 undef = .string nm := hD ⟨5, .data⟩ (by simp) rfl _ rfl
      refine step_yes rfl ?_
      refine ok_call (f := 25) (args := #[.slice la n lc, .string nm]) (by simp [execOp, resolve, Act.eval, d2, d5, go_sem]) ?_
      refine (hget w1 hL).mono ?_
      rintro e w2 ⟨r, rfl, hr, b5⟩
      exact ⟨_, rfl, b5, r, rfl, hr⟩
    · obtain rfl := Option.some.inj hi
      clear hi hlt
      intro a w1 hL hS hD
      have d1 : a.tmps.getD 17 undef = .func (.func f) fa fc := hD ⟨1, .data⟩ (by simp) rfl _ rfl
      have d6 := hD ⟨6, .data⟩ (by simp) rfl _ rfl
      refine step_yes rfl ?_
      obtain ⟨r, h5, hr⟩ := d6
      have h7 : a.tmps.getD 22 undef = .string r := h5
      have h6 : a.tmps[22]?.getD undef = .string r := by simpa using h7
      refine ok_call (f := f) (args := fa.push (.string r) ++ fc) (by simp [execOp, resolve, Act.eval, d1, h6, hen, go_sem]) ?_
      refine (hcl w1 r hL hr).mono ?_
      rintro e w2 ⟨rfl, b5⟩
      exact ⟨_, rfl, b5, rfl⟩
    · obtain rfl := Option.some.inj hi
      clear hi hlt
      intro a w1 hL hS hD
      have d7 : a.tmps.getD 23 undef = .bool H := hD ⟨7, .data⟩ (by simp) rfl _ rfl
      refine step_yes rfl ?_
      exact ok_value Lat.refl (.bool (!H)) (by simp [execOp, Act.eval, d7, go_sem]) rfl

end Go.Proofs.YtanlgplgplncdaaGreatDoor

/-
  A matcher's test called; Holds.
-/
namespace Go.Proofs.YtanlgplgplncdaaGreatDoor
open Go.RowKit
set_option linter.unusedVariables false
set_option linter.unusedSimpArgs false

theorem str_eqB (a b : ByteArray) {i : Decidable (a = b)} : (a.toList == b.toList) = @decide (a = b) i := by
  rw [Bool.eq_iff_iff, beq_iff_eq, decide_eq_true_iff]
  constructor
  · intro h
    rw [L.toList_bts, L.toList_bts] at h
    exact L.bts_inj h
  · rintro rfl; rfl
theorem isC (b : Nat) (t v : ByteArray) (w : World) (h : Blk w b 9 [.string t]) : Calls Tryz.prog 87 #[.string v, .pointer (some ⟨b, 0, none⟩)] w fun e w' => e = .returned (.bool (v.toList == t.toList)) ∧ Below w.heap.size w w' := by
  have c0 : w.cell? ⟨b, 0, none⟩ = some (.string t) := h.cell 0
  clear h
  go_enter Tryz.func87, Tryz.ntmps87
  go_wp2
  go_ret
  exact ⟨by first | rfl | simp, Below.refl _ _⟩
theorem notIsC (b b2 : Nat) (t v : ByteArray) (w : World) (h : Blk w b 65 [.func (.func 87) #[] #[.pointer (some ⟨b2, 0, none⟩)]]) (h2 : Blk w b2 9 [.string t]) : Calls Tryz.prog 88 #[.string v, .pointer (some ⟨b, 0, none⟩)] w fun e w' => e = .returned (.bool (!(v.toList == t.toList))) ∧ Below w.heap.size w w' := by
  have c0 : w.cell? ⟨b, 0, none⟩ = some (.func (.func 87) #[] #[.pointer (some ⟨b2, 0, none⟩)]) := h.cell 0
  have K := isC b2 t v w h2
  generalize (v.toList == t.toList) = R at *
  clear h h2
  go_enter Tryz.func88, Tryz.ntmps88
  go_wp2_with fail
  refine K.mono ?_
  rintro e w2 ⟨rfl, b2⟩
  have B2 := hidden b2
  clear b2 K
  go_wp2
  go_ret
  exact ⟨by first | rfl | simp, B2.out⟩
theorem notPaC (F : Nat → Prop) (b p : Nat) (l : List (List Pt)) (v : ByteArray) (w : World) (h : Blk w b 65 [.func (.func 75) #[.pointer (some ⟨p, 0, none⟩)] #[]]) (hP : PaR F w p l) (hv : v.size ≤ 140737488355328) (R : Bool) (hR : R = true ↔ Means l (bts v)) :
    Calls Tryz.prog 88 #[.string v, .pointer (some ⟨b, 0, none⟩)] w fun e w' => e = .returned (.bool (!R)) ∧ Below w.heap.size w w' := by
  have c0 : w.cell? ⟨b, 0, none⟩ = some (.func (.func 75) #[.pointer (some ⟨p, 0, none⟩)] #[]) := h.cell 0
  have K := matchP F w p l hP v hv R hR
  clear h hP hR hv
  go_enter Tryz.func88, Tryz.ntmps88
  go_wp2_with fail
  refine K.mono ?_
  rintro e w2 ⟨rfl, b2⟩
  have B2 := hidden b2
  clear b2 K
  go_wp2
  go_ret
  exact ⟨by first | rfl | simp, B2.out⟩
open Classical in
theorem callH {F : Nat → Prop} {w : World} {op : Int} {t n : ByteArray} {fv : Value} (h : Fv F w op t fv) : ∃ f fa fc, fv = .func (.func f) fa fc ∧ (∀ args w1, (callFunc f args).run Tryz.prog w1 = .ok (.enter f args) w1) ∧
    ∀ wx (r : ByteArray), Lat w wx → r.size ≤ 140737488355328 → Calls Tryz.prog f (fa.push (.string r) ++ fc) wx fun e w' => e = .returned (.bool (Mt.hold ⟨n, op, t⟩ r)) ∧ Lat wx w' := by
  have hk : ∀ wx, Lat w wx → Fv F wx op t fv := fun wx hl => h.keep (Chg.of_below (F := fun _ => False) hl) (fun _ _ e => e)
  rcases h with ⟨rfl, b, rfl, h1, h2⟩ | ⟨rfl, b, f, rfl, h1, h2, b3, rfl, h3, h4⟩ | ⟨rfl, p, l, k, rfl, h1, h2⟩ | ⟨rfl, b, f, rfl, h1, h2, p, l, k, rfl, h3, h4⟩
  · refine ⟨87, #[], #[.pointer (some ⟨b, 0, none⟩)], rfl, (fun _ _ => by kernel_rfl), fun wx r hl hr => ?_⟩
    refine (isC b t r wx (h2.later hl)).mono ?_
    rintro e w' ⟨rfl, hb⟩
    exact ⟨by rw [str_eqB (i := Classical.propDecidable _)]; unfold Mt.hold; rw [if_pos rfl]; congr 2; congr, hb⟩
  · refine ⟨88, #[], #[.pointer (some ⟨b, 0, none⟩)], rfl, (fun _ _ => by kernel_rfl), fun wx r hl hr => ?_⟩
    refine (notIsC b b3 t r wx (h2.later hl) (h4.later hl)).mono ?_
    rintro e w' ⟨rfl, hb⟩
    exact ⟨by rw [str_eqB (i := Classical.propDecidable _)]; unfold Mt.hold; rw [if_neg (by simp), if_pos rfl]; congr 3; congr, hb⟩
  · refine ⟨75, #[.pointer (some ⟨p, 0, none⟩)], #[], rfl, (fun _ _ => by kernel_rfl), fun wx r hl hr => ?_⟩
    refine (matchP F wx p l (h2.later hl) r hr (decide (Means l (bts r))) (by simp)).mono ?_
    rintro e w' ⟨rfl, hb⟩
    exact ⟨by unfold Mt.hold; rw [if_neg (by simp), if_neg (by simp), if_pos rfl, prsL_of h1], hb⟩
  · refine ⟨88, #[], #[.pointer (some ⟨b, 0, none⟩)], rfl, (fun _ _ => by kernel_rfl), fun wx r hl hr => ?_⟩
    refine (notPaC F b p l r wx (h2.later hl) (h4.later hl) hr (decide (Means l (bts r))) (by simp)).mono ?_
    rintro e w' ⟨rfl, hb⟩
    exact ⟨by unfold Mt.hold; rw [if_neg (by simp), if_neg (by simp), if_neg (by simp), prsL_of h3], hb⟩

/-- What labels tell of a name, as a text. -/
def gotL (l : List L.Lb) (n : ByteArray) : ByteArray := L.oft (L.getL l (bts n))
noncomputable def holdsL (l : List Mt) (lb : List L.Lb) : Bool := l.all fun x => x.hold (gotL lb x.n)
theorem getL_len {N : Nat} : ∀ (l : List L.Lb) (n : List UInt8), (∀ x ∈ l, x.v.size ≤ N) → (L.getL l n).length ≤ N
  | [], n, h => by simp [L.getL]
  | x :: t, n, h => by
    unfold L.getL
    split
    · have := h x (by simp)
      rwa [L.size_bts] at this
    · exact getL_len t n (fun y hy => h y (by simp [hy]))

set_option maxRecDepth 100000 in
set_option maxHeartbeats 4000000 in
theorem holdsP (F : Nat → Prop) (w : World) (s : Nat) (l : List Mt) (hS : StR F w s l) (hll : l.length ≤ 1000) (la : Option Addr) (lc : Nat) (lb : List L.Lb) (hB : L.Ls w la lb) (hbl : lb.length ≤ 9223372036854775807) (hbs : ∀ x ∈ lb, x.v.size ≤ 140737488355328) :
    Calls Tryz.prog 13 #[.pointer (some ⟨s, 0, none⟩), .slice la lb.length lc] w fun e w' => e = .returned (.bool (holdsL l lb)) ∧ Below w.heap.size w w' := by
  obtain ⟨v, R, h1, h2, h3, h4, h5, h6, h7⟩ := hS
  have HF := hidden h4
  have HO := hidden h2
  have HR := hidden h3
  have HLB := hidden hB
  obtain ⟨ad, c, rfl, -⟩ := owns_formS h2
  have c0 : w.cell? ⟨s, 0, none⟩ = some (.slice ad R.length c) := h1.cell 0
  obtain ⟨m, hm⟩ : ∃ m, lb.length = m := ⟨_, rfl⟩
  obtain ⟨n, hn⟩ : ∃ n, R.length = n := ⟨_, rfl⟩
  have HM := hidden hm
  have HN := hidden hn
  have hn1 : n ≤ 1000 := by rw [← hn, ← List.length_map (f := Prod.fst), h3]; exact hll
  have hbl' : m ≤ 9223372036854775807 := by omega
  have HBS := hidden hbs
  rw [hm]
  rw [hn] at c0
  clear h1 h2 h3 h4 h5 h6 h7 hB hm hn hbl hbs hll
  go_enter Tryz.func13, Tryz.ntmps13
  go_wp2_with fail
  go_loopw [6, 12] (fun v6 v12 wx => ∃ i : Nat, v12 = .int .i64 (i : Int) ∧ i ≤ n ∧ Hid ((l.take i).all (fun x => x.hold (gotL lb x.n)) = true) ∧ Hid (Below w.heap.size w wx)) (fun _ v12 _ => n - (intOf v12).toNat)
  case atStart => exact ⟨0, rfl, by omega, hidden (by simp), hidden (Below.refl _ _)⟩
  case round =>
    rename World => wx
    obtain ⟨i, rfl, hi, hA, hBl⟩ := hrel
    by_cases hlt : i < n
    · have hltz : (i : Int) < (n : Int) := by omega
      obtain ⟨p, hp⟩ : ∃ p, R[i]? = some p := ⟨R[i]'(by rw [HN.out]; exact hlt), by simp⟩
      obtain ⟨x, fv⟩ := p
      have hx : l[i]? = some x := by rw [← HR.out, List.getElem?_map, hp]; rfl
      have hfv := HF.out _ (List.mem_of_getElem? hp)
      obtain ⟨f, fa, fc, e, hen, hcl⟩ := callH (n := x.n) hfv
      simp only at e
      subst e
      obtain ⟨g, rfl⟩ : ∃ g, ad = some ⟨g, 0, none⟩ := by
        rcases HO.out.2 with ⟨_, e⟩ | ⟨g, cap, cur, e, _⟩
        · rw [HN.out] at e; omega
        · injection e with e; exact ⟨g, e⟩
      have hO := owl HO.out hBl.out
      obtain ⟨k0, k1, k2, k3⟩ := cR_get R i _ hp
      have d0 := hO.cells (g := g) rfl _ _ k0
      have d1 := hO.cells (g := g) rfl _ _ k1
      have d2 := hO.cells (g := g) rfl _ _ k2
      have d3 := hO.cells (g := g) rfl _ _ k3
      rw [Addr.add_lit, Nat.zero_add] at d0 d1 d2 d3
      have HX := hidden hx
      have HCL := hidden hcl
      have HEN := hidden hen
      clear hO hp hx hfv hcl hen k0 k1 k2 k3
      go_upto_region 4 with (refine wpList_new_var rfl rfl 67 6 (.tmp 15) rfl rfl rfl rfl 4 info56n (ruC x (.func (.func f) fa fc)) rfl (one_ruC rfl) (by simp) rfl ?_; intro w4 B4 bl4 hz4; have BL4 := hidden bl4; have HB4 := hidden B4; clear B4 bl4 hz4)
      have B4 : Hid (Below w.heap.size w w4) := hidden (hBl.out.trans (BL4.out.mono hBl.out.size))
      refine holds_r4 wx.heap.size m lc f fa fc la x.n (L.getL lb (bts x.n)) (x.hold (gotL lb x.n)) w4 _ _ (by rfl) (by rfl) (by rfl) HEN.out (fun w5 h5 => (HB4.out.later h5).cell 3) (fun w5 h5 => (HB4.out.later h5).cell 0) (fun w5 h5 => ?_) (fun w5 r h5 hr => ?_) ?_
      · have := L.getP la lc lb x.n w5 (HLB.out.later (B4.out.trans (h5.mono B4.out.size))) (by rw [HM.out]; exact hbl')
        rw [HM.out] at this
        exact this
      · have hrr : r = gotL lb x.n := L.bts_inj (by unfold gotL; rw [L.bts_oft]; exact hr)
        subst hrr
        refine HCL.out w5 _ (hBl.out.trans ((BL4.out.trans (h5.mono BL4.out.size)).mono hBl.out.size) |> fun h => h) ?_
        rw [L.size_bts]
        unfold gotL
        rw [L.bts_oft]
        exact getL_len lb _ HBS.out
      · intro v16 v17 v18 v19 v20 v21 v22 v23 v24 w6 hL6 h24
        subst h24
        have B6 : Hid (Below w.heap.size w w6) := hidden (B4.out.trans (hL6.mono B4.out.size))
        clear hL6 d0 d1 d2 d3
        simp only [Act.put, List.setIfInBounds_toArray, List.set_cons_succ, List.set_cons_zero]
        cases hh : x.hold (gotL lb x.n) with
        | false =>
          have HHF : Hid (holdsL l lb = false) := hidden (by
            unfold holdsL
            rw [List.all_eq_false]
            exact ⟨x, List.mem_of_getElem? HX.out, by rw [hh]; simp⟩)
          clear hh
          go_wp2
          go_ret
          exact ⟨by rw [HHF.out]; rfl, B6.out⟩
        | true =>
          have HA2 : Hid ((l.take (i + 1)).all (fun x => x.hold (gotL lb x.n)) = true) := hidden (by
            rw [take_next HX.out, List.all_append, hA.out, Bool.true_and]
            simp [hh])
          clear hh
          go_wp2_with fail
          exact ⟨⟨i + 1, by rw [Int.natCast_add]; rfl, by omega, HA2, B6⟩, by simp [intOf]; omega⟩
    · have hltz : ¬ (i : Int) < (n : Int) := by omega
      have HHT : Hid (holdsL l lb = true) := hidden (by
        unfold holdsL
        have := hA.out
        rwa [List.take_of_length_le (by rw [← HR.out, List.length_map, HN.out]; omega)] at this)
      go_wp2
      go_ret
      exact ⟨by rw [HHT.out]; rfl, hBl.out⟩

end Go.Proofs.YtanlgplgplncdaaGreatDoor
