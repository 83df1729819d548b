/-
  ChunkBack: the walk.
-/
import Derived.Test.YtcgjmioncbihhaaDoorLwH
import Derived.Deep.CutBlock
namespace Go.Proofs.YtcgjmioncbihhaaDoor
open Go.RowKit
set_option linter.unusedVariables false
set_option linter.unusedSimpArgs false

theorem enc_byte (n : Nat) (h : n < 18446744073709551616) : Byte (Q.enc n) := by
  rw [Q.enc_pre]
  intro x hx
  rcases List.mem_append.1 hx with hx | hx
  · have := Q.pre_byte _ _ x hx
    omega
  · rw [List.mem_singleton.1 hx]
    have := Q.last_lt n h
    generalize n / 128 ^ Q.grp n = q at *
    omega
theorem encC_byte (l : List Sm) (h : l.length < 18446744073709551616) : Byte (encC l) := by
  unfold encC
  split
  · intro x hx; exact absurd hx (by simp)
  · intro x hx
    rcases List.mem_append.1 hx with hx | hx
    · exact enc_byte _ h x hx
    · exact pk_byte _ x hx
/-- What the second loop holds: a chunk with less room, new since wc; the sizes beside it. -/
structure B2 (w wc wx : World) (d q g9 c9 L2 : Nat) (l : List Sm) (j n : Nat) : Prop where
  cs : CB wc wx d q (L2 : Int) (l.take j)
  old : ∃ c p, B1 w wc c p (.slice (some ⟨g9, 0, none⟩) (n + 1) c9) l n n
  fit : ∀ k, k ≤ j → k ≠ 0 → (encC (l.take k)).length ≤ L2
theorem B2.bel {w wc wx : World} {d q g9 c9 L2 : Nat} {l : List Sm} {j n : Nat} (h : B2 w wc wx d q g9 c9 L2 l j n) : Below w.heap.size w wx := by
  obtain ⟨c, p, h1⟩ := h.old
  exact h1.cs.bel.trans (h.cs.bel.mono h1.cs.bel.size)
theorem B2.at {w wc wx : World} {d q g9 c9 L2 : Nat} {l : List Sm} {j n : Nat} (h : B2 w wc wx d q g9 c9 L2 l j n) {k : Nat} (hk : k ≤ n) : wx.cell? ⟨g9, k, none⟩ = some (.int .i64 ((encC (l.take k)).length : Int)) := by
  obtain ⟨c, p, h1⟩ := h.old
  exact (h1.later h.cs.bel).at hk
theorem below_draw {w wy : World} (h : Below w.heap.size w wy) : Below w.heap.size w wy.drew := h.drew
theorem b2_app {w wc wx wy : World} {d q g9 c9 L2 : Nat} {l : List Sm} {j n S1 : Nat} {x : Sm} (h : B2 w wc wx d q g9 c9 L2 l j n) (hG : Gv wc) (hx : l[j]? = some x) (hok : ∀ y ∈ l, OkS y) (hj : j ≤ 2000) (hS1 : (encC (l.take (j + 1))).length = S1) (hb : Below wx.heap.size wx wy) :
    Calls Tryd.prog 8 #[.pointer (some ⟨d, 0, none⟩), .int .i64 x.t, .int .u64 (x.v : Int)] wy fun e w' => e = .returned (.bool (decide ((S1 : Int) ≤ (L2 : Int)))) ∧ CB wc w' d q (L2 : Int) (if (S1 : Int) ≤ (L2 : Int) then l.take (j + 1) else l.take j) := by
  have h1 := capp_b wc wy d q (L2 : Int) (l.take j) x (h.cs.later hb) hG (hok x (List.mem_of_getElem? hx)) (by rw [List.length_take]; omega)
  rw [take_next hx, hS1] at h1
  exact h1
theorem len_enc (l : List Sm) : l.length ≤ 4 * (encC l).length + 1 := by
  cases l with
  | nil => simp
  | cons s t =>
    have h1 := encC_len (l := s :: t) (by simp)
    have h2 := moB_ge t (tr0 s)
    have h3 : (rowB (s :: t)).length = 128 + (moB (tr0 s) t).length := by simp [rowB, fiB, low_len]; omega
    simp only [List.length_cons] at h1 ⊢
    omega
theorem b3_app {wg wy : World} {g q m j : Nat} {l : List Sm} {x : Sm} (h : CB wg wy g q (m : Int) (l.take j)) (hG : Gv wg) (hx : l[j]? = some x) (hok : ∀ y ∈ l, OkS y) (hj : j ≤ 500000) (hm : (encC l).length = m) :
    Calls Tryd.prog 8 #[.pointer (some ⟨g, 0, none⟩), .int .i64 x.t, .int .u64 (x.v : Int)] wy fun e w' => e = .returned (.bool true) ∧ CB wg w' g q (m : Int) (l.take (j + 1)) := by
  have h1 := capp_b wg wy g q (m : Int) (l.take j) x h hG (hok x (List.mem_of_getElem? hx)) (by rw [List.length_take]; omega)
  rw [take_next hx] at h1
  have hle : ((encC (l.take (j + 1))).length : Int) ≤ (m : Int) := by
    have h2 := encC_pre (l := l.take (j + 1)) (m := l.drop (j + 1)) (by rw [List.take_append_drop]; exact hok)
    rw [List.take_append_drop, hm] at h2
    omega
  rw [if_pos hle, decide_eq_true hle] at h1
  exact h1
theorem sz_step {l : List Sm} {i S0 S1 : Nat} {x : Sm} (hx : l[i]? = some x) (hok : ∀ y ∈ l, OkS y) (hi : i ≤ 2000) (h0 : (encC (l.take i)).length = S0) (h1 : (encC (l.take (i + 1))).length = S1) : S0 ≤ S1 ∧ S1 ≤ S0 + 20 ∧ S1 ≤ 40040 ∧ (i = 0 → S1 = 17) := by
  have hxm : x ∈ l := List.mem_of_getElem? hx
  have hm := encC_mono (l := l.take i) (s := x) (fun y hy => hok y (List.mem_of_mem_take hy)) (hok x hxm)
  rw [take_next hx, h0, h1] at hm
  have hle := encC_le (l := l.take (i + 1)) (fun y hy => hok y (List.mem_of_mem_take hy))
  have h5 : (l.take (i + 1)).length ≤ i + 1 := by rw [List.length_take]; omega
  refine ⟨hm.1, hm.2, by omega, ?_⟩
  rintro rfl
  rw [← take_next hx] at h1
  rw [← h1]
  exact encC_one x
set_option maxRecDepth 100000 in
set_option maxHeartbeats 16000000 in
theorem back_any (w : World) (hG : Gv w) (hlo : 2 ≤ w.heap.size) (a0 : Option Addr) (n0 c0 : Nat) (l0 : List Sm) (h0 : Ss w a0 l0) (hn0 : l0.length = n0) (hc0 : n0 ≤ c0) (hcm0 : c0 ≤ 9223372036854775807) (hno0 : a0 = none → n0 = 0 ∧ c0 = 0)
    (a1 : Option Addr) (n1 c1 : Nat) (b : List Int) (h1 : Sl w a1 n1 b) (hn1 : n1 ≤ 9223372036854775807) (hc1 : n1 ≤ c1) (hcm1 : c1 ≤ 9223372036854775807) (hno1 : a1 = none → n1 = 0 ∧ c1 = 0) (less : Int) (hless : I64 less) :
    Calls Tryd.prog 5 #[.slice a0 n0 c0, .slice a1 n1 c1, .int .i64 less] w fun e w' => e = .returned (.bool true) ∧ Below w.heap.size w w' := by
  have HG := hidden hG
  have H0 := hidden h0
  have H1 := hidden h1
  have HN0 := hidden hn0
  clear hG h0 h1 hn0
  unfold I64 at hless
  obtain ⟨n, hnE⟩ : ∃ n, min n0 2000 = n := ⟨_, rfl⟩
  obtain ⟨l, hlE⟩ : ∃ l, l0.take n = l := ⟨_, rfl⟩
  have HL : Hid (Ss w a0 l) := hidden (by rw [← hlE]; exact ss_take H0.out n)
  have HLN : Hid (l.length = n) := hidden (by rw [← hlE, List.length_take, HN0.out]; omega)
  have hn2 : n ≤ 2000 := by omega
  have hb0 : ∀ x, a0 = some x → l ≠ [] → x.block < w.heap.size := by
    intro x hx hl
    obtain ⟨g, off, e, hg, _⟩ := HL.out.at' hl
    rw [e] at hx; injection hx with hx; subst hx; exact hg
  have HB0 := hidden hb0
  clear hb0 H0 hlE
  go_enter Tryd.func5, Tryd.ntmps5
  go_wp2_with fail
  refine (shownP w HG.out hlo).mono ?_
  rintro e w1 ⟨rfl, bl1⟩
  have BL1 := hidden bl1
  clear bl1
  go_wp2_with fail
  refine (cnew_b w w1 1048576 (by unfold I64; omega) hlo BL1.out).mono ?_
  rintro e w2 ⟨c, p, rfl, h2, _⟩
  have H2 := hidden h2
  clear h2 BL1
  go_upto_if 33 with fail
  go_cut [0] from 34 to 35 (fun s0 wx => wx = w2 ∧ s0 = .slice a0 n c0)
  case first =>
    by_cases hgt : 2000 < n0
    · have hz : (2000 : Int) < (n0 : Int) := by omega
      have hne : n = 2000 := by omega
      go_wp2_with fail
      all_goals (go_meet; refine ⟨rfl, ?_⟩; rw [hne])
    · have hz : ¬ (2000 : Int) < (n0 : Int) := by omega
      have hne : n = n0 := by omega
      go_wp2_with fail
      all_goals (go_meet; exact ⟨rfl, by rw [hne]⟩)
  case rest =>
    obtain ⟨rfl, rfl⟩ := hcut
    have HS1 : Hid (B1 w (wc.alloc (.cells #[.int .i64 0] 3)) c p (.slice (some ⟨wc.heap.size, 0, none⟩) 1 1) l 0 0) := hidden (by
      have bl : Below wc.heap.size wc (wc.alloc (.cells #[.int .i64 0] 3)) := (Below.refl _ _).alloc (Nat.le_refl _) _
      refine ⟨by simpa using H2.out.later bl, ?_⟩
      have hB := Blk.new wc 3 (cI (szL l 0))
      exact ⟨by simp [cI, szL_len], .inr ⟨wc.heap.size, 1, (cI (szL l 0)).toArray, rfl, H2.out.bel.size, hB, Nat.le_refl _, by unfold maxLen; omega, by simp [cI, szL_len], by rw [List.take_of_length_le (by simp [cI, szL_len])]⟩⟩)
    clear H2
    go_wp2_with fail

    go_loopw [9, 10] (fun v9 v10 wx => ∃ i : Nat, v10 = .int .i64 (i : Int) ∧ i ≤ n ∧ (∃ g c9, v9 = .slice (some ⟨g, 0, none⟩) (i + 1) c9) ∧ Hid (B1 w wx c p v9 l i i)) (fun _ v10 _ => n - (intOf v10).toNat)
    case atStart => exact ⟨0, rfl, by omega, ⟨_, _, rfl⟩, HS1⟩
    case round =>
      rename World => wx
      obtain ⟨i, rfl, hi, ⟨g9, c9, rfl⟩, hS⟩ := hrel
      clear HS1
      by_cases hlt : i < n
      · have hltz : (i : Int) < (n : Int) := by omega
        obtain ⟨b0, o0, x, e0, hb0, hx, _, d0, d1, okx⟩ := (HL.out.bel hS.out.cs.bel HB0.out).get (i := i) (by rw [HLN.out]; exact hlt)
        subst e0
        obtain ⟨S0, hS0⟩ : ∃ S0, (encC (l.take i)).length = S0 := ⟨_, rfl⟩
        obtain ⟨S1, hS1⟩ : ∃ S1, (encC (l.take (i + 1))).length = S1 := ⟨_, rfl⟩
        have hSS : S0 ≤ S1 ∧ S1 ≤ S0 + 20 ∧ S1 ≤ 40040 ∧ (i = 0 → S1 = 17) := sz_step hx HL.out.sz (by omega) hS0 hS1
        have HS1 := hidden hS1
        have HS0 := hidden hS0
        have HX := hidden hx
        have HA := hidden (fun wy hb => b1_app (wy := wy) hS.out HG.out HX.out HL.out.sz (by omega) hb)
        clear hS0 hS1 hx okx
        go_upto_region 11 with fail
        go_cut [11] from 43 to 54 (fun s11 wx => s11 = .bool true ∧ Hid (B1 w wx c p (.slice (some ⟨g9, 0, none⟩) (i + 1) c9) l (i + 1) i))
        case first =>
          go_region_with (refine (HA.out _ ((Below.refl _ _).drew)).mono ?_; rintro e w4 ⟨rfl, h4⟩)
          all_goals (have H4 := hidden h4; clear h4; go_wp2_with fail; go_meet; exact ⟨rfl, H4⟩)
        case rest =>
          obtain ⟨rfl, hS4⟩ := hcut
          clear HA d0 d1 hS
          have hlen : (l.take (i + 1)).length = i + 1 := by rw [List.length_take, HLN.out]; omega
          have HLE := hidden hlen
          clear hlen
          go_wp2_with fail
          refine (clen_b w _ c p 1048576 (l.take (i + 1)) hS4.out.cs).mono ?_
          rintro e w5 ⟨rfl, rfl⟩
          rw [HLE.out]
          rw [Int.natCast_add, Int.cast_ofNat_Int]
          go_wp2_with fail
          refine (cbytes_b w _ c p 1048576 (l.take (i + 1)) hS4.out.cs (by rw [HLE.out]; omega)).mono ?_
          rintro e w6 ⟨ad6, c6, rfl, _, b6⟩
          rw [HS1.out]
          have H6 := hidden (hS4.out.later b6)
          clear b6
          have hb6 := H6.out.cs.bel.size
          go_wp2_with (refine wpList_pushI _ rfl (.tmp 64) (.tmp 68) rfl w.heap.size (.slice (some ⟨g9, 0, none⟩) (i + 1) c9) (i + 1) (cI (szL l i)) rfl w6 H6.out.own (S1 : Int) rfl rfl (by omega) hb6 ?_
                       intro g7 c7 w7 o7 p7
                       have H7 := hidden (b1_push H6.out (by rw [HS1.out]; exact o7) p7)
                       clear o7 p7)
          have k0 := H7.out.at (k := i) (by omega)
          have k1 := H7.out.at (k := i + 1) (by omega)
          have kk := H7.out.at (k := 1) (by omega)
          rw [HS0.out] at k0
          rw [HS1.out] at k1
          have g1 : decide ((S1 : Int) < (S0 : Int)) = false := by simp; omega
          have g2 : decide ((S0 : Int) + 20 < (S1 : Int)) = false := by simp; omega
          have g1' : ¬ (S1 : Int) < (S0 : Int) := by omega
          have g2' : ¬ (S0 : Int) + 20 < (S1 : Int) := by omega
          by_cases hz : i = 0
          · have h17 : S1 = 17 := hSS.2.2.2 hz
            have hzb : ((i : Int) == 0) = true := by simp; omega
            have hzi : (i : Int) = 0 := by omega
            have hzl : (1 : Int) < (i : Int) + 1 + 1 := by omega
            have e17 : (encC (l.take 1)).length = 17 := by rw [show (1 : Nat) = i + 1 by omega, HS1.out, h17]
            rw [e17] at kk
            clear hz h17 e17 hzi
            go_quiet (fail)
            go_wp2_with fail
            refine ⟨⟨i + 1, by rw [Int.natCast_add]; rfl, by omega, ⟨_, _, rfl⟩, hidden (H7.out.later (below_drewN (Below.refl _ _) _))⟩, by simp [intOf]; omega⟩
          · have hzi : ¬ (i : Int) = 0 := by omega
            have hzb : ((i : Int) == 0) = false := by simp; omega
            clear kk
            go_quiet (fail)
            go_wp2_with fail
            refine ⟨⟨i + 1, by rw [Int.natCast_add]; rfl, by omega, ⟨_, _, rfl⟩, hidden (H7.out.later (below_drewN (Below.refl _ _) _))⟩, by simp [intOf]; omega⟩
      · have hge : ¬ (i : Int) < (n : Int) := by omega
        obtain rfl : i = n := by omega
        have hll : l.take i = l := by rw [List.take_of_length_le (by rw [HLN.out]; exact Nat.le_refl _)]
        have CB1 := hidden (show CB w wx c p 1048576 l from by rw [← hll]; exact hS.out.cs)
        have HLL := hidden hll
        clear hll hlt
        go_wp2_with fail
        refine (cbytes_b w _ c p 1048576 l CB1.out (by rw [HLN.out]; omega)).mono ?_
        rintro e w3 ⟨ad3, c3, rfl, o3, b3⟩
        have O3 := hidden o3
        have S3 := hidden (hS.out.later b3)
        have HCAP := hidden (owns_cap o3)
        have HEL := hidden (encC_le HL.out.sz)
        have hs3 := S3.out.cs.bel.size
        clear o3 b3
        go_wp2_with fail
        refine (readP w3 ad3 _ c3 (encC l) (sl_of_owns O3.out (encC_byte l (by rw [HLN.out]; omega))) (HG.out.later S3.out.cs.bel) (by have := HEL.out; have := HLN.out; omega) HCAP.out.2.1 (by have := HCAP.out.2.2.1; unfold maxLen at this; omega) HCAP.out.2.2.2 (by omega)).mono ?_
        rintro e w4 ⟨ad4, c4, l4, ec4, rfl, o4, k4, b4, h4⟩
        have hl4 : l4 = l ∧ ec4 = 0 := by
          have hr := rd_enc HL.out.sz (by rw [HLN.out]; omega)
          rcases h4 with ⟨h, e⟩ | ⟨h, _⟩
          · rw [hr] at h; exact ⟨(Option.some.inj h).symm, e⟩
          · rw [hr] at h; exact absurd h (by simp)
        obtain ⟨rfl, rfl⟩ := hl4
        have S4 := hidden (S3.out.later b4)
        have M4 := hidden (ss_of_owns o4 k4)
        have L4 := hidden (HL.out.bel S4.out.cs.bel HB0.out)
        clear o4 k4 b4 h4
        rw [HLN.out]
        go_wp2_with fail
        have HSA := hidden (sameP w4 ad4 a0 c4 c0 l4 M4.out L4.out (by rw [HLN.out]; omega))
        rw [HLN.out] at HSA
        refine HSA.out.mono ?_
        rintro e w5 ⟨rfl, ch5⟩
        have S5 := hidden (S4.out.later (ch5.below (Nat.le_refl _) (fun i hi => hi.elim)))
        clear ch5 HSA M4 L4 HCAP O3
        go_upto_if 119 with fail
        go_cut [2] from 120 to 122 (fun s2 wx => wx = w5 ∧ ∃ L1 : Int, s2 = .int .i64 L1 ∧ 0 ≤ L1 ∧ L1 ≤ 9223372036854775807)
        case first =>
          by_cases hl0 : less < 0
          · go_wp2_with fail
            all_goals (go_meet; exact ⟨rfl, _, rfl, by omega, by omega⟩)
          · go_wp2_with fail
            all_goals (go_meet; exact ⟨rfl, _, rfl, by omega, by omega⟩)
        case rest =>
          obtain ⟨rfl, L1, rfl, hL0, hL1⟩ := hcut
          obtain ⟨Sn, hSn⟩ : ∃ Sn, (encC l4).length = Sn := ⟨_, rfl⟩
          have hSn2 : Sn ≤ 40000 := by have := HEL.out; have := HLN.out; omega
          have k0 := S5.out.at (k := i) (Nat.le_refl _)
          rw [HLL.out, hSn] at k0
          have HSN := hidden hSn
          obtain ⟨L2, hL2⟩ : ∃ L2 : Nat, L1.tmod ((Sn : Int) + 2) = (L2 : Int) := ⟨(L1.tmod ((Sn : Int) + 2)).toNat, by
            have := Int.tmod_nonneg ((Sn : Int) + 2) hL0
            omega⟩
          have hL2b : L2 < Sn + 2 := by
            have h1 := Int.tmod_lt_of_pos L1 (show (0 : Int) < (Sn : Int) + 2 by omega)
            omega
          clear hSn
          go_wp2_with (first | simp only [hL2] | fail)
          refine (cnew_b wc wc (L2 : Int) (by unfold I64; omega) (by have := S5.out.cs.bel.size; omega) (Below.refl _ _)).mono ?_
          rintro e w6 ⟨dd, q, rfl, h6, _⟩
          have D6 := hidden h6
          clear h6 hL2 k0 hL0 hL1
          have hD6 : B2 w wc w6 dd q g9 c9 L2 l4 0 i := ⟨by simpa using D6.out, ⟨c, p, S5.out⟩, fun k hk h => by omega⟩
          have HD6 := hidden hD6
          clear hD6 D6 CB1 S3 S4
          go_upto_block 2 with fail
          go_cut [16, 17] from 135 to 184 (fun s16 s17 wx => Hid (Below w.heap.size w wx))
          case first =>
            go_wp2_with fail
            go_loopw [16, 17] (fun v16 v17 wx => ∃ j : Nat, v16 = .int .i64 (j : Int) ∧ j ≤ i ∧ Hid (B2 w wc wx dd q g9 c9 L2 l4 j i)) (fun v16 _ _ => i - (intOf v16).toNat)
            case atStart => exact ⟨0, rfl, by omega, HD6⟩
            case round =>
              rename World => wx
              obtain ⟨j, rfl, hj, hS⟩ := hrel
              clear HD6
              by_cases hlt : j < i
              · have hltz : (j : Int) < (i : Int) := by omega
                obtain ⟨b0, o0, x, e0, hb0, hx, _, d0, d1, okx⟩ := (HL.out.bel hS.out.bel HB0.out).get (i := j) (by rw [HLN.out]; exact hlt)
                subst e0
                obtain ⟨S0, hS0⟩ : ∃ S0, (encC (l4.take j)).length = S0 := ⟨_, rfl⟩
                obtain ⟨S1, hS1⟩ : ∃ S1, (encC (l4.take (j + 1))).length = S1 := ⟨_, rfl⟩
                have hSS : S0 ≤ S1 ∧ S1 ≤ S0 + 20 ∧ S1 ≤ 40040 ∧ (j = 0 → S1 = 17) := sz_step hx HL.out.sz (by omega) hS0 hS1
                have hS0L : S0 ≤ L2 ∨ j = 0 := by
                  rcases Nat.eq_zero_or_pos j with h | h
                  · exact .inr h
                  · left; rw [← hS0]; exact hS.out.fit j (Nat.le_refl _) (by omega)
                have hS0L' : S0 ≤ L2 := by
                  rcases hS0L with h | h
                  · exact h
                  · subst h; rw [← hS0]; simp [encC]
                have HS1 := hidden hS1
                have HS0 := hidden hS0
                have HX := hidden hx
                have HA := hidden (fun wy hb => b2_app (wy := wy) hS.out (HG.out.later (by obtain ⟨_, _, h⟩ := hS.out.old; exact h.cs.bel)) HX.out HL.out.sz (by omega) HS1.out hb)
                clear hS0 hS1 hx okx hS0L
                go_upto_region 30 with fail
                go_cut [17] from 141 to 152 (fun s17 wy => s17 = .bool (decide ((S1 : Int) ≤ (L2 : Int))) ∧ Hid (CB wc wy dd q (L2 : Int) (if (S1 : Int) ≤ (L2 : Int) then l4.take (j + 1) else l4.take j)))
                case first =>
                  go_region_with (refine (HA.out _ ((Below.refl _ _).drew)).mono ?_; rintro e w4 ⟨rfl, h4⟩)
                  all_goals (have H4 := hidden h4; clear h4; go_wp2_with fail; go_meet; refine ⟨?_, H4⟩; first | rfl | simp)
                case rest =>
                  obtain ⟨rfl, hS4⟩ := hcut
                  clear HA d0 d1
                  rename World => wz
                  by_cases hf : (S1 : Int) ≤ (L2 : Int)
                  · rw [if_pos hf] at hS4
                    rw [decide_eq_true hf]
                    have hN : B2 w wc wz dd q g9 c9 L2 l4 (j + 1) i := ⟨hS4.out, hS.out.old, fun k hk h => by
                      rcases Nat.lt_or_ge j k with h2 | h2
                      · obtain rfl : k = j + 1 := by omega
                        rw [HS1.out]; omega
                      · exact hS.out.fit k h2 h⟩
                    have HNN := hidden hN
                    clear hN hS hS4
                    have k1 := HNN.out.at (k := j + 1) (by omega)
                    rw [HS1.out] at k1
                    go_wp2_with fail
                    refine (cbytes_b wc _ dd q (L2 : Int) (l4.take (j + 1)) HNN.out.cs (by rw [List.length_take]; omega)).mono ?_
                    rintro e w7 ⟨ad7, c7, rfl, _, b7⟩
                    rw [HS1.out]
                    have H7 : Hid (B2 w wc w7 dd q g9 c9 L2 l4 (j + 1) i) := hidden ⟨HNN.out.cs.later b7, HNN.out.old, HNN.out.fit⟩
                    clear b7
                    have hno : ¬ (L2 : Int) < (S1 : Int) := by omega
                    go_wp2_with fail
                    refine ⟨⟨j + 1, by rw [Int.natCast_add]; rfl, by omega, H7⟩, by simp [intOf]; omega⟩
                  · rw [if_neg hf] at hS4
                    rw [decide_eq_false hf]
                    have hN : B2 w wc wz dd q g9 c9 L2 l4 j i := ⟨hS4.out, hS.out.old, hS.out.fit⟩
                    have HNN := hidden hN
                    clear hN hS hS4
                    have k1 := HNN.out.at (k := j + 1) (by omega)
                    have k0 := HNN.out.at (k := j) (by omega)
                    rw [HS1.out] at k1
                    rw [HS0.out] at k0
                    go_wp2_with fail
                    have HBY := hidden (fun wy (hb : Below wz.heap.size wz wy) => cbytes_b wc wy dd q (L2 : Int) (l4.take j) (HNN.out.cs.later hb) (by rw [List.length_take]; omega))
                    have HLE := hidden (fun wy (hb : Below wz.heap.size wz wy) => clen_b wc wy dd q (L2 : Int) (l4.take j) (HNN.out.cs.later hb))
                    have hlj : (l4.take j).length = j := by rw [List.length_take, HLN.out]; omega
                    unfold BtP at HBY
                    rw [HS0.out] at HBY
                    rw [hlj] at HLE
                    clear hlj
                    refine (HBY.out wz (Below.refl _ _)).mono ?_
                    rintro e w7 ⟨ad7, c7, rfl, _, b7⟩
                    have B7 := hidden b7
                    have j0 : w7.cell? ⟨g9, j, none⟩ = some (.int .i64 (S0 : Int)) := by rw [b7.cell (p := ⟨g9, j, none⟩) (World.block_lt_of_cell? wz _ k0)]; exact k0
                    clear b7 k1
                    have hno : ¬ (L2 : Int) < (S0 : Int) := by omega
                    have HBW := hidden HNN.out.bel
                    have hj1 : (j : Int) < (i : Int) + 1 := by omega
                    have hj2 : ¬ (j : Int) < 0 := by omega
                    have HC34 : Hid (∀ w1, Lat w7 w1 → w1.cell? ⟨g9, j, none⟩ = some (.int .i64 (S0 : Int))) := hidden (fun w1 hl => by rw [hl.cell (p := ⟨g9, j, none⟩) (World.block_lt_of_cell? w7 _ j0)]; exact j0)
                    have HLE34 : Hid (∀ w1, Lat w7 w1 → Calls Tryd.prog 10 #[.pointer (some ⟨dd, 0, none⟩)] w1 fun e w' => e = .returned (.int .i64 (j : Int)) ∧ Lat w1 w') := hidden (fun w1 hl => by
                      refine (HLE.out w1 (B7.out.trans (hl.mono B7.out.size))).mono ?_
                      rintro e w' ⟨rfl, rfl⟩
                      exact ⟨rfl, Lat.refl _⟩)
                    have HBY34 : Hid (∀ w1, Lat w7 w1 → Calls Tryd.prog 18 #[.pointer (some ⟨dd, 0, none⟩)] w1 fun e w' => ∃ ad c', e = .returned (.slice ad S0 c') ∧ Lat w1 w') := hidden (fun w1 hl => by
                      refine (HBY.out w1 (B7.out.trans (hl.mono B7.out.size))).mono ?_
                      rintro e w' ⟨ad, c', rfl, _, hb⟩
                      exact ⟨ad, c', rfl, hb⟩)
                    clear HLE HBY
                    go_upto_region 34 with fail
                    refine back_r34 dd j g9 i c9 S0 w7 _ _ (by rfl) (by rfl) (by rfl) (by rfl) (by omega) (by omega) HC34.out HLE34.out HBY34.out ?_
                    intro v171 v172 v173 v174 v175 v176 v177 v178 v179 v180 v181 v182 v183 v184 w8 hL8 h184
                    subst h184
                    have B8 := hidden (B7.out.trans (hL8.mono B7.out.size))
                    clear hL8 HC34 HLE34 HBY34
                    simp only [Act.put, List.setIfInBounds_toArray, List.set_cons_succ, List.set_cons_zero]
                    go_wp2_with fail
                    go_meet
                    exact hidden (HBW.out.trans (B8.out.mono HBW.out.size))
              · have hge : ¬ (j : Int) < (i : Int) := by omega
                go_wp2_with fail
                go_meet
                exact hidden hS.out.bel
          case rest =>
            rename World => wd
            have BLc := hcut
            have hwd := BLc.out.size
            clear S5 HSN HEL HLL HL HLN HB0
            go_wp2_with fail
            refine (firstBP wd a1 n1 c1 hn1 hc1 hcm1 hno1).mono ?_
            rintro e wf ⟨rfl, rfl⟩
            obtain ⟨m, hm⟩ : ∃ m, min n1 100000 = m := ⟨_, rfl⟩
            have hm1 : m ≤ n1 := by omega
            have hm2 : m ≤ 100000 := by omega
            have HSB : Hid (Sl wf a1 m (b.take m)) := hidden ((H1.out.below BLc.out H1.out.lt).take hm1)
            have hblen : (b.take m).length = m := HSB.out.len
            generalize b.take m = bb at *
            rw [hm]
            go_wp2_with fail
            refine (readP wf a1 m c1 bb HSB.out (HG.out.later BLc.out) (by omega) (by omega) hcm1 (fun e => by have := hno1 e; omega) (by omega)).mono ?_
            rintro e wg ⟨ad4, c4, l5, ec4, rfl, o4, k4, b4, h4⟩
            have BLg := hidden (BLc.out.trans (b4.mono BLc.out.size))
            have HSg := hidden (HSB.out.later b4)
            have O4 := hidden o4
            have K4 := hidden k4
            have hwg := BLg.out.size
            clear o4 k4 b4
            rcases h4 with ⟨hr, rfl⟩ | ⟨hr, rfl, rfl⟩
            · have hE := (enc_rd HSB.out.byte hr).1
              have HE := hidden hE
              have hl5 : l5.length ≤ 400001 := by
                have := len_enc l5
                rw [hE, hblen] at this
                omega
              have HGg := hidden (HG.out.later BLg.out)
              clear hr hE
              obtain ⟨n5, hn5⟩ : ∃ n5, l5.length = n5 := ⟨_, rfl⟩
              rw [hn5] at hl5
              rw [hn5]
              have HN5 := hidden hn5
              rw [hn5] at O4
              clear hn5
              go_wp2_with fail
              refine (cnew_b wg wg (m : Int) (by unfold I64; omega) (by omega) (Below.refl _ _)).mono ?_
              rintro e wh ⟨gg, q2, rfl, h6, _⟩
              have D6 := hidden (show CB wg wh gg q2 (m : Int) (l5.take 0) by simpa using h6)
              clear h6
              go_wp2_with fail
              go_loopw [21, 22] (fun v21 v22 wx => ∃ j : Nat, v21 = .int .i64 (j : Int) ∧ j ≤ n5 ∧ Hid (CB wg wx gg q2 (m : Int) (l5.take j))) (fun v21 _ _ => n5 - (intOf v21).toNat)
              case atStart => exact ⟨0, rfl, by omega, D6⟩
              case round =>
                rename World => wx
                obtain ⟨j, rfl, hj, hS⟩ := hrel
                clear D6
                by_cases hlt : j < n5
                · have hltz : (j : Int) < (n5 : Int) := by omega
                  obtain ⟨b0, o0, x, e0, hb0, hx, _, d0, d1, okx⟩ := (ss_of_owns (owl O4.out hS.out.bel) K4.out).get (i := j) (by rw [HN5.out]; exact hlt)
                  subst e0
                  have HA := hidden (fun wy (hb : Below wx.heap.size wx wy) => b3_app (hS.out.later hb) HGg.out hx K4.out (by omega) (by rw [HE.out, hblen]))
                  clear hx okx
                  go_upto_region 46 with fail
                  go_cut [22] from 212 to 223 (fun s22 wy => s22 = .bool true ∧ Hid (CB wg wy gg q2 (m : Int) (l5.take (j + 1))))
                  case first =>
                    go_region_with (refine (HA.out _ ((Below.refl _ _).drew)).mono ?_; rintro e w4 ⟨rfl, h4⟩)
                    all_goals (have H4 := hidden h4; clear h4; go_wp2_with fail; go_meet; exact ⟨rfl, H4⟩)
                  case rest =>
                    obtain ⟨rfl, hS4⟩ := hcut
                    clear HA d0 d1 hS
                    go_wp2_with fail
                    exact ⟨⟨j + 1, by rw [Int.natCast_add]; rfl, by omega, hS4⟩, by simp [intOf]; omega⟩
                · have hge : ¬ (j : Int) < (n5 : Int) := by omega
                  obtain rfl : j = n5 := by omega
                  have hll : l5.take j = l5 := by rw [List.take_of_length_le (by rw [HN5.out]; exact Nat.le_refl _)]
                  rw [hll] at hS
                  have HBY := hidden (fun wy (hb : Below wx.heap.size wx wy) => cbytes_b wg wy gg q2 (m : Int) l5 (hS.out.later hb) (by rw [HN5.out]; omega))
                  rw [HE.out] at HBY
                  have ST := hidden (fun wy (hb : Below wx.heap.size wx wy) => run_string_of (P := Tryd.prog) 38 5 9 Tryd.underlying38 Tryd.underlying5 Tryd.underlying9 (cap := c1) ((HSg.out.later hS.out.bel).later hb))
                  have st1 := ST.out wx.drew ((Below.refl _ _).drew)
                  have BLx := hidden (BLg.out.trans (hS.out.bel.mono BLg.out.size))
                  have HBB := hidden HSB.out.byte
                  unfold BtP at HBY
                  rw [hblen] at HBY
                  clear hll hlt HSB
                  go_wp2_with fail
                  go_region_with (refine (HBY.out _ ((Below.refl _ _).drew)).mono ?_; rintro e w8 ⟨ad8, c8, rfl, o8, b8⟩; have st2 := run_string_of (P := Tryd.prog) 38 5 9 Tryd.underlying38 Tryd.underlying5 Tryd.underlying9 (cap := c8) (sl_of_owns o8 HBB.out); have bl8 : Below wx.heap.size wx w8 := ((Below.refl _ _).drew).trans b8; have st3 := ST.out w8 bl8; have B8 := hidden bl8; clear o8 b8 bl8)
                  all_goals
                    go_wp2
                    go_ret
                    exact ⟨by first | rfl | simp, BLx.out.trans (B8.out.mono BLx.out.size)⟩
            · go_wp2_with fail
              go_ret
              exact ⟨rfl, BLg.out⟩

end Go.Proofs.YtcgjmioncbihhaaDoor
