/-
  The statements' own tells: the walk.
-/
import Derived.Test.YtcgjmioncbihhaaDoorDcF
namespace Go.Proofs.YtcgjmioncbihhaaDoor
open Go.RowKit
set_option linter.unusedVariables false
set_option linter.unusedSimpArgs false

theorem encN_byte (n : Nat) (h : n < 18446744073709551616) : Byte (Q.enc n) := by
  rw [Q.enc_pre]
  intro x hx
  rcases List.mem_append.1 hx with hx | hx
  · have := Q.pre_byte _ _ x hx
    omega
  · rw [List.mem_singleton.1 hx]
    have := Q.last_lt n h
    generalize n / 128 ^ Q.grp n = q at *
    omega
theorem encB_byte (l : List Sm) (h : l.length < 18446744073709551616) : Byte (encC l) := by
  unfold encC
  split
  · intro x hx; exact absurd hx (by simp)
  · intro x hx
    rcases List.mem_append.1 hx with hx | hx
    · exact encN_byte _ h x hx
    · exact pk_byte _ x hx
theorem wpList_pushE (w : World) {ops : Array Oper} {rest : List Oper} {o : Oper} {a : Act} {Q : Exit → Act → World → Prop} (hgd : o.guard = none) (s x : Operand)
    (ho : o.op = .call { callee := .builtin .append, args := #[s, x], argTypes := #[38, 38] }) (base : Nat) (v : Value) (n : Nat) (xs : List Value) (hs : a.eval s = v) (w0 : World) (hown : w0.ownsRow base 5 1 v n xs) (y : Int)
    (hw : w = w0.alloc (.cells #[.int .u8 y] 5)) (hx : a.eval x = .slice (some ⟨w0.heap.size, 0, none⟩) 1 1) (hn : n ≤ 10000000000) (hbase : base ≤ w0.heap.size)
    (h : ∀ g' c' w', w'.ownsRow base 5 1 (.slice (some ⟨g', 0, none⟩) (n + 1) c') (n + 1) (xs ++ [.int .u8 y]) → Pushed (w0.alloc (.cells #[.int .u8 y] 5)) w' v g' → wpList Tryd.prog ops Q rest (a.put o.dst (.slice (some ⟨g', 0, none⟩) (n + 1) c')) w') : wpList Tryd.prog ops Q (o :: rest) a w := by
  subst hw
  obtain ⟨i0, hi0, hz0, hz1, hz2⟩ := info_parts info5
  exact wpList_push _ hgd s x 38 ho 5 i0 (.int .u8 0) 1 Tryd.underlying38 hi0 hz0 hz1 hz2 rfl base v n xs hs (hown.alloc _) ⟨w0.heap.size, 0, none⟩ (.int .u8 y) hx (by simp) rfl (by unfold maxLen; omega) (by omega) (by simp; omega) h
set_option maxRecDepth 100000 in
set_option maxHeartbeats 16000000 in
theorem tellsP (w : World) (c p x : Nat) (rb rx : Option Nat) (most most2 : Int) (l : List Sm) (hC : CS w c p rb most l) (hX : XC w x rx most2 l) (hl : l.length ≤ 100000) :
    Calls Tryd.prog 12 #[.agg #[.pointer (some ⟨c, 0, none⟩), .pointer (some ⟨x, 0, none⟩)]] w fun e w' => e = .returned (.bool true) ∧ Below w.heap.size w w' := by
  have BY : Hid (∀ wy, Below w.heap.size w wy → Calls Tryd.prog 18 #[.pointer (some ⟨c, 0, none⟩)] wy (BtP wy (encC l))) := hidden (fun wy hb => cbytesP wy c p rb most l (hC.later hb) (by omega))
  have BX : Hid (∀ wy, Below w.heap.size w wy → Calls Tryd.prog 26 #[.pointer (some ⟨x, 0, none⟩)] wy (BtP wy (encC l))) := hidden (fun wy hb => bytesD wy x rx most2 l (hX.later hb) (by omega))
  have LC : Hid (∀ wy, Below w.heap.size w wy → Calls Tryd.prog 10 #[.pointer (some ⟨c, 0, none⟩)] wy fun e w' => e = .returned (.int .i64 (l.length : Int)) ∧ Lat wy w') := hidden (fun wy hb => (clenP wy c p rb most l (hC.later hb)).mono (by rintro e w' ⟨rfl, rfl⟩; exact ⟨rfl, Lat.refl _⟩))
  have LX : Hid (∀ wy, Below w.heap.size w wy → Calls Tryd.prog 11 #[.pointer (some ⟨x, 0, none⟩)] wy fun e w' => e = .returned (.int .i64 (l.length : Int)) ∧ Lat wy w') := hidden (fun wy hb => (lenD wy x rx most2 l (hX.later hb)).mono (by rintro e w' ⟨rfl, rfl⟩; exact ⟨rfl, Lat.refl _⟩))
  have HBB := hidden (encB_byte l (by omega))
  have hle := encC_le hC.ok
  obtain ⟨B, hB⟩ : ∃ B, encC l = B := ⟨_, rfl⟩
  rw [hB] at BY BX HBB hle
  obtain ⟨n, hn⟩ : ∃ n, B.length = n := ⟨_, rfl⟩
  unfold BtP at BY BX
  rw [hn] at BY BX hle
  have HN := hidden hn
  have hnb : n ≤ 2000000 := by omega
  obtain ⟨m, hm⟩ : ∃ m, l.length = m := ⟨_, rfl⟩
  rw [hm] at LC LX
  obtain ⟨S, hS⟩ : ∃ S, strOfNums B = S := ⟨_, rfl⟩
  have STR : Hid (∀ (wy : World) ad cc, Sl wy ad n B → (convert 38 9 (.slice ad n cc)).run Tryd.prog wy = .ok (.string S) wy) := hidden (fun wy ad cc h => by rw [← hS]; exact run_string_of (P := Tryd.prog) 38 5 9 Tryd.underlying38 Tryd.underlying5 Tryd.underlying9 (cap := cc) h)
  clear hC hX hB hn hle hl hm hS
  go_enter Tryd.func12, Tryd.ntmps12
  go_wp2_with (refine wpList_box_blk rfl 27 (.tmp 0) rfl [.pointer (some ⟨c, 0, none⟩), .pointer (some ⟨x, 0, none⟩)] rfl ?_; intro w1 B1 bl1 hz1; have HB1 := hidden B1; have BL1 := hidden bl1; clear bl1 hz1; have e0 := B1.cell 0; have e1 := B1.cell 1; simp at e0 e1; clear B1)
  refine (BY.out w1 BL1.out).mono ?_
  rintro e w2 ⟨ad1, c1, rfl, o2, b2⟩
  have O2 := hidden o2
  have BL2 := hidden (BL1.out.trans (b2.mono BL1.out.size))
  have BB2 := hidden b2
  have HB2 := hidden (HB1.out.later b2)
  have f0 := HB2.out.cell 0
  have f1 := HB2.out.cell 1
  simp at f0 f1
  have hs12 := b2.size
  have hs01 := BL1.out.size
  clear o2 b2 e0 e1
  go_wp2_with fail
  refine (BY.out w2 BL2.out).mono ?_
  rintro e w3 ⟨ad2, c2, rfl, o3, b3⟩
  have O3 := hidden o3
  have O2' := hidden (owl O2.out b3)
  have HLT : Hid (∀ g, (Value.slice ad1 n c1).ownBlock = some g → g < w2.heap.size) := hidden (fun g hg => (O2.out.lt g hg).2)
  have BL3 := hidden (BL2.out.trans (b3.mono BL2.out.size))
  have BB3 := hidden (BB2.out.trans (b3.mono BB2.out.size))
  have HB3 := hidden (HB2.out.later b3)
  have g0 := HB3.out.cell 0
  have g1 := HB3.out.cell 1
  simp at g0 g1
  clear o3 b3 f0 f1 O2
  go_wp2_with fail
  refine (BX.out w3 BL3.out).mono ?_
  rintro e w4 ⟨ad3, c3, rfl, o4, b4⟩
  have st3 := STR.out w4 ad3 c3 (sl_of_owns o4 HBB.out)
  have HB4 := hidden (HB3.out.later b4)
  have T4 : Hid (TW w1 w4 ad1 ad2 n c1 c2 B B) := hidden ⟨owl O2'.out b4, owns_base (owl O3.out b4) (fun g hg => by have := (O3.out.lt g hg).1; omega), fun g hg hg2 => by have := HLT.out g hg; have := (O3.out.lt g hg2).1; omega, BB3.out.trans (b4.mono BB3.out.size)⟩
  clear o4 b4 g0 g1 O3 O2'
  go_upto_region 4 with fail
  refine tells_r4 w.heap.size c x n c1 c2 m ad1 ad2 S w4 _ _ (by rfl) (by rfl) (by rfl) (by rfl) (by rfl) (fun w5 h5 => STR.out w5 ad1 c1 (sl_of_owns (owl T4.out.a h5) HBB.out)) (fun w5 h5 => STR.out w5 ad2 c2 (sl_of_owns (owl T4.out.b h5) HBB.out)) (fun w5 h5 => by have := (HB4.out.later h5).cell 0; simpa using this) (fun w5 h5 => by have := (HB4.out.later h5).cell 1; simpa using this) (fun w5 h5 => LC.out w5 (BL1.out.trans ((T4.out.bel.trans (h5.mono T4.out.bel.size)).mono BL1.out.size))) (fun w5 h5 => LX.out w5 (BL1.out.trans ((T4.out.bel.trans (h5.mono T4.out.bel.size)).mono BL1.out.size))) ?_
  intro v23 v24 v25 v26 v27 v28 v29 v30 v31 v32 v33 v34 v35 v36 v37 v38 v39 v40 v41 w5 hL5 h41
  subst h41
  have T5 : Hid (TW w1 w5 ad1 ad2 n c1 c2 B B) := hidden ⟨owl T4.out.a hL5, owl T4.out.b hL5, T4.out.ne, T4.out.bel.trans (hL5.mono T4.out.bel.size)⟩
  have HB5 := hidden (HB4.out.later hL5)
  clear hL5 T4 HB4 st3 LC LX BX
  simp only [Act.put, List.setIfInBounds_toArray, List.set_cons_succ, List.set_cons_zero]
  go_wp2_with fail
  go_loopw [6] (fun v6 wx => ∃ i : Nat, i ≤ n ∧ v6 = .int .i64 (i : Int) ∧ Hid (TW w1 wx ad1 ad2 n c1 c2 (ones i 1 ++ B.drop i) B)) (fun v6 _ => n - (intOf v6).toNat)
  case atStart => exact ⟨0, by omega, rfl, hidden (by simpa [ones] using T5.out)⟩
  case round =>
    rename World => wx
    obtain ⟨i, hi, rfl, hT⟩ := hrel
    by_cases hlt : i < n
    · have hltz : (i : Int) < (n : Int) := by omega
      obtain ⟨g, rfl⟩ := own_some hT.out.a (by omega)
      obtain ⟨k0, k1⟩ := own_at hT.out.a i (by rw [hT.out.la]; exact hlt)
      have TN : Hid (TW w1 (wx.setCell ⟨g, i, none⟩ (.int .u8 1)) (some ⟨g, 0, none⟩) ad2 n c1 c2 (ones (i + 1) 1 ++ B.drop (i + 1)) B) := hidden (by rw [← over_next (by rw [HN.out]; exact hlt)]; exact hT.out.seta i 1 hlt)
      clear hT T5
      go_wp2_with fail
      exact ⟨⟨i + 1, by omega, by rw [Int.natCast_add]; rfl, TN⟩, by simp [intOf]; omega⟩
    · obtain rfl : i = n := by omega
      have hge : ¬ (i : Int) < (i : Int) := by omega
      have T6 : Hid (TW w1 wx ad1 ad2 i c1 c2 (ones i 1) B) := hidden (by have := hT.out; rwa [List.drop_of_length_le (by rw [HN.out]; exact Nat.le_refl _), List.append_nil] at this)
      have st2 := STR.out wx ad2 c2 (sl_of_owns T6.out.b HBB.out)
      clear hT T5 hlt
      go_wp2_with fail
      clear st2
      go_loopw [7] (fun v7 wy => ∃ j : Nat, j ≤ i ∧ v7 = .int .i64 (j : Int) ∧ Hid (TW w1 wy ad1 ad2 i c1 c2 (ones i 1) (ones j 2 ++ B.drop j))) (fun v7 _ => i - (intOf v7).toNat)
      case atStart => exact ⟨0, by omega, rfl, hidden (by simpa [ones] using T6.out)⟩
      case round =>
        rename World => wy
        obtain ⟨j, hj, rfl, hT⟩ := hrel
        by_cases hlt : j < i
        · have hltz : (j : Int) < (i : Int) := by omega
          obtain ⟨g, rfl⟩ := own_some hT.out.b (by omega)
          obtain ⟨k0, k1⟩ := own_at hT.out.b j (by rw [hT.out.lb]; exact hlt)
          have TN : Hid (TW w1 (wy.setCell ⟨g, j, none⟩ (.int .u8 2)) ad1 (some ⟨g, 0, none⟩) i c1 c2 (ones i 1) (ones (j + 1) 2 ++ B.drop (j + 1))) := hidden (by rw [← over_next (by rw [HN.out]; exact hlt)]; exact hT.out.setb j 2 hlt)
          clear hT T6
          go_wp2_with fail
          exact ⟨⟨j + 1, by omega, by rw [Int.natCast_add]; rfl, TN⟩, by simp [intOf]; omega⟩
        · obtain rfl : j = i := by omega
          have hge : ¬ (j : Int) < (j : Int) := by omega
          have T7 : Hid (TW w1 wy ad1 ad2 j c1 c2 (ones j 1) (ones j 2)) := hidden (by have := hT.out; rwa [List.drop_of_length_le (by rw [HN.out]; exact Nat.le_refl _), List.append_nil] at this)
          clear hT T6 hlt
          have OFF1 : Hid (∀ z, ad1 = some z → z.off = 0 ∧ z.spot = none) := hidden (by
            obtain ⟨ad', c', e1, _, h, _⟩ := owns_formS T7.out.a
            injection e1 with e1
            subst e1
            exact h)
          have OFF2 : Hid (∀ z, ad2 = some z → z.off = 0 ∧ z.spot = none) := hidden (by
            obtain ⟨ad', c', e1, _, h, _⟩ := owns_formS T7.out.b
            injection e1 with e1
            subst e1
            exact h)
          have LT1 : Hid (∀ z, ad1 = some z → z.block < wy.heap.size) := hidden (fun z hz => (T7.out.a.lt z.block (by rw [hz]; rfl)).2)
          have LT2 : Hid (∀ z, ad2 = some z → z.block < wy.heap.size) := hidden (fun z hz => (T7.out.b.lt z.block (by rw [hz]; rfl)).2)
          have G7 : Hid (TG w1 wy ad1 ad2 j (.slice ad1 j c1) (.slice ad2 j c2) 0 0) := hidden ⟨sl_of_owns T7.out.a (by intro z hz; rw [(List.mem_replicate.1 hz).2]; omega), sl_of_owns T7.out.b (by intro z hz; rw [(List.mem_replicate.1 hz).2]; omega), T7.out.a, T7.out.b, T7.out.ne, fun g hg z hz e => T7.out.ne g hg (by rw [hz, ← e]; rfl), fun g hg z hz e => T7.out.ne z.block (by rw [hz]; rfl) (by rw [e]; exact hg), T7.out.bel⟩
          clear T7 hge hj
          go_wp2_with fail
          go_loopw [8, 10] (fun v8 v10 wx => ∃ k : Nat, k ≤ 40 ∧ v10 = .int .i64 (k : Int) ∧ (∃ a8 c8, v8 = .slice a8 (j + k) c8) ∧ Hid (TG w1 wx ad1 ad2 j v8 (.slice ad2 j c2) k 0) ∧ Hid (wy.heap.size ≤ wx.heap.size)) (fun _ v10 _ => 40 - (intOf v10).toNat)
          case atStart => exact ⟨0, by omega, rfl, ⟨_, _, rfl⟩, G7, hidden (Nat.le_refl _)⟩
          case round =>
            rename World => wz
            obtain ⟨k, hk, rfl, ⟨a8, c8, rfl⟩, hT, hsz⟩ := hrel
            by_cases hlt : k < 40
            · have hltz : (k : Int) < 40 := by omega
              have hbs := hT.out.bel.size
              clear G7
              go_wp2_with (refine wpList_pushE _ rfl (.tmp 70) (.tmp 71) rfl w1.heap.size (.slice a8 (j + k) c8) (j + k) (cells8 (ones (j + k) 1)) rfl wz hT.out.x 1 rfl rfl (by omega) hbs ?_
                           intro g9 c9 w9 o9 p9
                           have G9 := hidden (hT.out.pushx OFF1.out (fun z hz => Nat.lt_of_lt_of_le (LT2.out z hz) hsz.out) o9 p9)
                           have hs9 : Hid (wy.heap.size ≤ w9.heap.size) := hidden (Nat.le_trans hsz.out p9.rest.size)
                           clear o9 p9)
              exact ⟨⟨k + 1, by omega, by rw [Int.natCast_add]; rfl, ⟨_, _, rfl⟩, G9, hs9⟩, by simp [intOf]; omega⟩
            · obtain rfl : k = 40 := by omega
              have G8 := hT
              rw [show ((40 : Nat) : Int) = 40 from rfl]
              clear G7 hlt
              go_wp2_with fail
              have LT1z : Hid (∀ z, ad1 = some z → z.block < wz.heap.size) := hidden (fun z hz => Nat.lt_of_lt_of_le (LT1.out z hz) hsz.out)
              clear LT1 LT2 hsz hT
              go_loopw [9, 11] (fun v9 v11 wx => ∃ q : Nat, q ≤ 40 ∧ v11 = .int .i64 (q : Int) ∧ (∃ a9 c9, v9 = .slice a9 (j + q) c9) ∧ Hid (TG w1 wx ad1 ad2 j (.slice a8 (j + 40) c8) v9 40 q) ∧ Hid (wz.heap.size ≤ wx.heap.size)) (fun _ v11 _ => 40 - (intOf v11).toNat)
              case atStart => exact ⟨0, by omega, rfl, ⟨_, _, rfl⟩, G8, hidden (Nat.le_refl _)⟩
              case round =>
                rename World => wq
                obtain ⟨q, hq, rfl, ⟨a9, c9, rfl⟩, hT, hsz⟩ := hrel
                by_cases hlt : q < 40
                · have hltz : (q : Int) < 40 := by omega
                  have hbs := hT.out.bel.size
                  clear G8
                  go_wp2_with (refine wpList_pushE _ rfl (.tmp 77) (.tmp 78) rfl w1.heap.size (.slice a9 (j + q) c9) (j + q) (cells8 (ones (j + q) 2)) rfl wq hT.out.y 2 rfl rfl (by omega) hbs ?_
                               intro g9 c9' w9 o9 p9
                               have G9 := hidden (hT.out.pushy OFF2.out (fun z hz => Nat.lt_of_lt_of_le (LT1z.out z hz) hsz.out) o9 p9)
                               have hs9 : Hid (wz.heap.size ≤ w9.heap.size) := hidden (Nat.le_trans hsz.out p9.rest.size)
                               clear o9 p9)
                  exact ⟨⟨q + 1, by omega, by rw [Int.natCast_add]; rfl, ⟨_, _, rfl⟩, G9, hs9⟩, by simp [intOf]; omega⟩
                · obtain rfl : q = 40 := by omega
                  have G9 := hT
                  rw [show ((40 : Nat) : Int) = 40 from rfl]
                  clear G8 hlt hsz hT LT1z
                  obtain ⟨gx, rfl⟩ := own_some G9.out.x (by omega)
                  obtain ⟨gy, rfl⟩ := own_some G9.out.y (by omega)
                  have hon : ∀ (N i : Nat) (u : Int), i < N → (ones N u).getD i 0 = u := fun N i u h => by simp [ones, List.getD, h]
                  have XAT : Hid (∀ i, i < j + 40 → wq.cell? ⟨gx, i, none⟩ = some (.int .u8 1)) := hidden (fun i hi => by have := (own_at G9.out.x i (by simp [ones]; omega)).1; rwa [hon _ _ _ hi] at this)
                  have YAT : Hid (∀ i, i < j + 40 → wq.cell? ⟨gy, i, none⟩ = some (.int .u8 2)) := hidden (fun i hi => by have := (own_at G9.out.y i (by simp [ones]; omega)).1; rwa [hon _ _ _ hi] at this)
                  have AAT : Hid (∀ i, i < j → ∃ g, ad1 = some ⟨g, 0, none⟩ ∧ wq.cell? ⟨g, i, none⟩ = some (.int .u8 1)) := hidden (fun i hi => by
                    obtain ⟨⟨b, o, sp⟩, hx, hc⟩ := G9.out.a.cell i hi
                    obtain ⟨rfl, rfl⟩ := OFF1.out _ hx
                    rw [Addr.add_lit, Nat.zero_add, hon _ _ _ hi] at hc
                    exact ⟨b, hx, hc⟩)
                  have BAT : Hid (∀ i, i < j → ∃ g, ad2 = some ⟨g, 0, none⟩ ∧ wq.cell? ⟨g, i, none⟩ = some (.int .u8 2)) := hidden (fun i hi => by
                    obtain ⟨⟨b, o, sp⟩, hx, hc⟩ := G9.out.b.cell i hi
                    obtain ⟨rfl, rfl⟩ := OFF2.out _ hx
                    rw [Addr.add_lit, Nat.zero_add, hon _ _ _ hi] at hc
                    exact ⟨b, hx, hc⟩)
                  have BELq := hidden G9.out.bel
                  clear hon G9 OFF1 OFF2
                  go_wp2_with fail
                  go_loopw [12] (fun v12 wx => wq = wx ∧ ∃ i : Nat, i ≤ j + 40 ∧ v12 = .int .i64 (i : Int)) (fun v12 _ => j + 40 - (intOf v12).toNat)
                  case atStart => exact ⟨rfl, 0, by omega, rfl⟩
                  case round =>
                    rename World => wx
                    obtain ⟨rfl, i, hi, rfl⟩ := hrel
                    by_cases hlt : i < j + 40
                    · have hltz : (i : Int) < (j : Int) + 40 := by omega
                      have kx := XAT.out i hlt
                      have ky := YAT.out i hlt
                      by_cases hij : i < j
                      · have hijz : (i : Int) < (j : Int) := by omega
                        obtain ⟨ga, rfl, ka⟩ := AAT.out i hij
                        obtain ⟨gb, rfl, kb⟩ := BAT.out i hij
                        go_wp2_with fail
                        exact ⟨⟨by first | rfl | trivial, i + 1, by omega, by rw [Int.natCast_add]; rfl⟩, by simp [intOf]; omega⟩
                      · have hijz : ¬ (i : Int) < (j : Int) := by omega
                        go_wp2_with fail
                        exact ⟨⟨by first | rfl | trivial, i + 1, by omega, by rw [Int.natCast_add]; rfl⟩, by simp [intOf]; omega⟩
                    · have hge : ¬ (i : Int) < (j : Int) + 40 := by omega
                      have hbq := BELq.out
                      have e0 := (HB1.out.later hbq).cell 0
                      simp at e0
                      have BLq := hidden (BL1.out.trans (hbq.mono BL1.out.size))
                      clear hbq AAT BAT XAT YAT
                      go_wp2_with fail
                      refine (BY.out _ BLq.out).mono ?_
                      rintro e w9 ⟨ad9, c9', rfl, o9, b9⟩
                      have st9 := STR.out w9 ad9 c9' (sl_of_owns o9 HBB.out)
                      have BL9 := hidden (BLq.out.trans (b9.mono BLq.out.size))
                      clear o9 b9
                      go_wp2
                      go_ret
                      exact ⟨by first | rfl | simp, BL9.out⟩

end Go.Proofs.YtcgjmioncbihhaaDoor
