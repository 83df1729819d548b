/-
  The document's disk: Sync, Truncate, Fuse, Read.
-/
import Derived.Test.YtgmcfejmhlglkaaRkC
namespace Go.Proofs.Ytgmcfejmhlglkaa
open Go.RowKit
set_option linter.unusedVariables false
set_option linter.unusedSimpArgs false

theorem Dk.pfb {dt ft : TypeId} {w : World} {p : Nat} {F : Nat → Prop} {S : St} (ht : Ty4 dt ft) (h : Dk dt ft w p F S) {fb n fc : Nat} (hc : w.cell? ⟨p, 0, none⟩ = some (.slice (some ⟨fb, 0, none⟩) n fc)) : p ≠ fb := by
  obtain ⟨fb', fc', rs, set, ops, kv, kl, h, hL, hfu, rfl⟩ := h
  have := h.blk.cell 0
  simp only [List.getElem?_cons_zero] at this
  rw [hc] at this
  simp at this
  obtain ⟨rfl, _⟩ := this
  rintro rfl
  exact ht.1 (h.tgp.one h.tgf)
theorem op_burn {S : St} {K : List Int} (h : S.fuse = some (0, K)) : S.op = (40, S.fail K) := by
  unfold St.op
  rw [h]

set_option maxRecDepth 10000 in
set_option maxHeartbeats 1000000 in
theorem syncR (p : Nat) (F : Nat → Prop) (S : St) (w : World) (f : Int) (h : Dk 75 86 w p F S) (hf : S.falls ≤ 1099511627776) :
    Calls Try.prog 28 #[.pointer (some ⟨p, 0, none⟩), .int .i64 f] w fun e w' => e = .returned (.int .i64 (S.sync f).1) ∧ Dks 75 86 w w' p F (S.sync f).2 := by
  have hh := hidden (refusalR p F S w f h)
  obtain ⟨er, her⟩ : ∃ er, S.refuse f = er := ⟨_, rfl⟩
  obtain ⟨q, hq⟩ : ∃ q, S.sync f = q := ⟨_, rfl⟩
  rw [hq]
  unfold St.sync at hq
  rw [her] at hq hh
  have HDk := hidden h
  have HBU := hidden (burnsR p F S w h)
  clear h
  by_cases h0 : er = 0
  · subst h0
    obtain ⟨hon, hf0, hf1⟩ := refuse_no her
    rw [if_neg (by simp)] at hq
    obtain ⟨i, rfl⟩ : ∃ i : Nat, f = (i : Int) := ⟨f.toNat, by omega⟩
    have HQ := hidden hq
    have HI : Hid (i < S.L.length) := by show i < _; omega
    clear hq hf0 hf1 her hon
    go_enter Try.func28, Try.ntmps28
    go_wp2_with fail
    refine hh.out.mono ?_
    rintro e w' ⟨rfl, rfl⟩
    go_wp2_with fail
    refine HBU.out.mono ?_
    rintro e w2 (⟨hop, rfl, F2, k1, k2, k3⟩ | ⟨hop, rfl, rfl, K, hK⟩)
    · obtain ⟨hL2, _, _⟩ := op_ok hop
      obtain ⟨x, hx⟩ : ∃ x, S.op.2.L[i]? = some x := ⟨_, List.getElem?_eq_getElem (by rw [hL2]; exact HI.out)⟩
      obtain ⟨fb, fc, ad, c, c0, c1, c2, f0, f1, g1, g2, g3, g4, g5, G1, G2⟩ := k1.file ty75 i x hx
      obtain ⟨N, hN⟩ : ∃ N, S.op.2.L.length = N := ⟨_, rfl⟩
      rw [hN] at c0 g4 g5
      obtain ⟨n, hn⟩ : ∃ n, x.b.length = n := ⟨_, rfl⟩
      have HG := hidden G1
      rw [hn] at c1 g1 g2 g3 HG
      have HN := hidden hn
      have HX := hidden hx
      have HOP := hidden hop
      have HK2 := hidden k2
      have HK3 := hidden k3
      clear k1 k2 k3 G1 G2 hN hn hx hop hL2
      go_wp2_with fail
      go_region
      go_wp2_with fail
      go_ret
      have hfin := (Dks.trans HK2.out HK3.out (HG.out n (Nat.le_refl _))).drew
      have hqe := HQ.out
      rw [if_neg (by rw [HOP.out]; simp), Int.toNat_natCast] at hqe
      simp only [HX.out] at hqe
      rw [← hqe, HN.out]
      exact ⟨rfl, hfin⟩
    · obtain ⟨ka, kn, kc, c5, hcall⟩ := HDk.out.keepR hf hK
      have HCL := hidden hcall
      have HK := hidden hK
      clear hcall hK hop
      go_wp2_with fail
      refine HCL.out.mono ?_
      rintro e w3 ⟨rfl, hd⟩
      have HD3 := hidden hd
      clear hd
      go_wp2_with fail
      go_ret
      have hqe := HQ.out
      rw [op_burn HK.out, if_pos (by simp)] at hqe
      rw [← hqe]
      exact ⟨rfl, HD3.out⟩
  · rw [if_pos h0] at hq
    subst hq
    go_enter Try.func28, Try.ntmps28
    go_wp2_with fail
    refine hh.out.mono ?_
    rintro e w' ⟨rfl, rfl⟩
    go_wp2_with fail
    go_ret
    exact ⟨rfl, _, HDk.out, Chg.refl _ _, New.refl _ _⟩

set_option maxRecDepth 10000 in
set_option maxHeartbeats 2000000 in
theorem truncateR (p : Nat) (F : Nat → Prop) (S : St) (w : World) (f n : Int) (h : Dk 75 86 w p F S) (hf : S.falls ≤ 1099511627776) (hn : -9223372036854775808 ≤ n ∧ n ≤ 9223372036854775807) :
    Calls Try.prog 29 #[.pointer (some ⟨p, 0, none⟩), .int .i64 f, .int .i64 n] w fun e w' => e = .returned (.int .i64 (S.truncate f n).1) ∧ Dks 75 86 w w' p F (S.truncate f n).2 := by
  have hh := hidden (refusalR p F S w f h)
  obtain ⟨er, her⟩ : ∃ er, S.refuse f = er := ⟨_, rfl⟩
  obtain ⟨q, hq⟩ : ∃ q, S.truncate f n = q := ⟨_, rfl⟩
  rw [hq]
  unfold St.truncate at hq
  rw [her] at hq hh
  have HDk := hidden h
  have HBU := hidden (burnsR p F S w h)
  by_cases h0 : er = 0
  · subst h0
    obtain ⟨hon, hf0, hf1⟩ := refuse_no her
    rw [if_neg (by simp)] at hq
    obtain ⟨i, rfl⟩ : ∃ i : Nat, f = (i : Int) := ⟨f.toNat, by omega⟩
    have hi : i < S.L.length := by omega
    obtain ⟨x, hx⟩ : ∃ x, S.L[i]? = some x := ⟨_, List.getElem?_eq_getElem hi⟩
    obtain ⟨fb, fc, ad, c, c0, c1, c2, f0, f1, g1, g2, g3, g4, g5, G1, G2⟩ := h.file ty75 i x hx
    rw [Int.toNat_natCast] at hq
    simp only [hx] at hq
    obtain ⟨N, hN⟩ : ∃ N, S.L.length = N := ⟨_, rfl⟩
    rw [hN] at c0 g4 g5
    obtain ⟨m, hm⟩ : ∃ m, x.b.length = m := ⟨_, rfl⟩
    rw [hm] at c1 g1 g2 g3 hq
    have HX := hidden hx
    have HM := hidden hm
    clear h hx G1 G2 hN hf0 hf1 her hon hi hm c2 f0 f1
    by_cases hbad : n < 0 ∨ (m : Int) < n
    · rw [if_pos hbad] at hq
      subst hq
      by_cases hn0 : n < 0
      · clear hbad
        go_enter Try.func29, Try.ntmps29
        go_wp2_with fail
        refine hh.out.mono ?_
        rintro e w' ⟨rfl, rfl⟩
        go_wp2_with fail
        go_ret
        exact ⟨rfl, _, HDk.out, Chg.refl _ _, New.refl _ _⟩
      · have hn1 : (m : Int) < n := by omega
        have hn2 : 0 ≤ n := by omega
        clear hbad
        go_enter Try.func29, Try.ntmps29
        go_wp2_with fail
        refine hh.out.mono ?_
        rintro e w' ⟨rfl, rfl⟩
        go_wp2_with fail
        go_ret
        exact ⟨rfl, _, HDk.out, Chg.refl _ _, New.refl _ _⟩
    · rw [if_neg hbad] at hq
      obtain ⟨t, rfl⟩ : ∃ t : Nat, n = (t : Int) := ⟨n.toNat, by omega⟩
      rw [Int.toNat_natCast] at hq
      have htm : t ≤ m := by omega
      clear hbad
      have HQ := hidden hq
      clear hq
      go_enter Try.func29, Try.ntmps29
      go_wp2_with fail
      refine hh.out.mono ?_
      rintro e w' ⟨rfl, rfl⟩
      go_wp2_with fail
      refine HBU.out.mono ?_
      rintro e w2 (⟨hop, rfl, F2, k1, k2, k3⟩ | ⟨hop, rfl, rfl, K, hK⟩)
      · obtain ⟨hL2, _, _⟩ := op_ok hop
        clear c0 c1 g1 g2 g3 g4 g5
        obtain ⟨fb, fc, ad, c, c0, c1, c2, f0, f1, g1, g2, g3, g4, g5, G1, G2⟩ := k1.file ty75 i x (by rw [hL2]; exact HX.out)
        have hpf := k1.pfb ty75 c0
        obtain ⟨N2, hN⟩ : ∃ N2, S.op.2.L.length = N2 := ⟨_, rfl⟩
        rw [hN] at c0 g4 g5
        rw [HM.out] at c1 g1 g2 g3 G2
        have HG := hidden G2
        have HOP := hidden hop
        have HK2 := hidden k2
        have HK3 := hidden k3
        have HL2 := hidden hL2
        clear k1 k2 k3 G1 G2 hN hop hL2
        have htc : t ≤ c := by omega
        have hfin : ∀ s, s = min x.n t → q = (0, { S.op.2 with L := S.op.2.L.set i ⟨x.b.take t, s⟩ }) := by
          rintro s rfl
          have hqe := HQ.out
          rw [if_neg (by rw [HOP.out]; simp)] at hqe
          exact hqe.symm
        have HFI := hidden hfin
        clear hfin
        by_cases hmin : x.n ≤ t
        · have hs : min x.n t = x.n := by omega
          have HMIN := hidden hs
          clear hs
          go_wp2_with fail
          go_region
          go_wp2_with fail
          go_region
          go_wp2_with fail
          go_ret
          rw [HFI.out x.n HMIN.out.symm]
          exact ⟨rfl, ((Dks.trans HK2.out HK3.out (HG.out t x.n htm hmin)).drew).drew⟩
        · have hs : min x.n t = t := by omega
          have hmin2 : t < x.n := by omega
          have HMIN := hidden hs
          clear hs
          go_wp2_with fail
          go_region
          go_wp2_with fail
          go_region
          go_wp2_with fail
          go_ret
          rw [HFI.out t HMIN.out.symm]
          exact ⟨rfl, ((Dks.trans HK2.out HK3.out (HG.out t t htm (Nat.le_refl _))).drew).drew⟩
      · obtain ⟨ka, kn, kc, c5, hcall⟩ := HDk.out.keepR hf hK
        have HCL := hidden hcall
        have HK := hidden hK
        clear hcall hK hop
        go_wp2_with fail
        refine HCL.out.mono ?_
        rintro e w3 ⟨rfl, hd⟩
        have HD3 := hidden hd
        clear hd
        go_wp2_with fail
        go_ret
        have hqe := HQ.out
        rw [op_burn HK.out, if_pos (by simp)] at hqe
        rw [← hqe]
        exact ⟨rfl, HD3.out⟩
  · rw [if_pos h0] at hq
    subst hq
    go_enter Try.func29, Try.ntmps29
    go_wp2_with fail
    refine hh.out.mono ?_
    rintro e w' ⟨rfl, rfl⟩
    go_wp2_with fail
    go_ret
    exact ⟨rfl, _, HDk.out, Chg.refl _ _, New.refl _ _⟩

theorem owns_base {w : World} {base : Nat} {e : TypeId} {v : Value} {n : Nat} {xs : List Value} (h : w.ownsRow 0 e 1 v n xs) (hb : ∀ g, v.ownBlock = some g → base ≤ g) : w.ownsRow base e 1 v n xs := by
  refine ⟨h.1, ?_⟩
  rcases h.2 with h0 | ⟨g, cap, cur, rfl, _, r⟩
  · exact .inl h0
  · exact .inr ⟨g, cap, cur, rfl, hb g rfl, r⟩
theorem Chg.bel_none {w w' : World} {v : Value} (h : Chg (fun i => v.ownBlock = some i) w w') (hv : ∀ g, v.ownBlock = some g → w.heap.size ≤ g) : Below w.heap.size w w' := ⟨h.os, h.tape, h.output, h.size, fun k hk => h.block k hk (fun e => by have := hv k e; omega)⟩

set_option maxHeartbeats 1000000 in
theorem readR (p : Nat) (F : Nat → Prop) (S : St) (w : World) (f at_ n : Int) (h : Dk 75 86 w p F S) (ha : -9223372036854775808 ≤ at_ ∧ at_ ≤ 9223372036854775807) (hn : -9223372036854775808 ≤ n ∧ n ≤ 9223372036854775807) :
    Calls Try.prog 52 #[.pointer (some ⟨p, 0, none⟩), .int .i64 f, .int .i64 at_, .int .i64 n] w fun e w' => ∃ ad m c, e = .returned (.tuple #[.slice ad m c, .int .i64 (S.read f at_ n).1]) ∧ w'.ownsRow w.heap.size 5 1 (.slice ad m c) m (cells8 (S.read f at_ n).2) ∧ Byte (S.read f at_ n).2 ∧ Below w.heap.size w w' := by
  have hh := hidden (refusalR p F S w f h)
  obtain ⟨er, her⟩ : ∃ er, S.refuse f = er := ⟨_, rfl⟩
  obtain ⟨q, hq⟩ : ∃ q, S.read f at_ n = q := ⟨_, rfl⟩
  obtain ⟨q1, q2⟩ := q
  rw [hq]
  unfold St.read at hq
  rw [her] at hq hh
  by_cases h0 : er = 0
  · subst h0
    obtain ⟨hon, hf0, hf1⟩ := refuse_no her
    obtain ⟨i, rfl⟩ : ∃ i : Nat, f = (i : Int) := ⟨f.toNat, by omega⟩
    obtain ⟨fb, fc, ad, c, x, hx, c0, c1, c2, ho, hb, ht, hl, h8, hF⟩ := h.at i (by omega)
    rw [if_neg (by simp), Int.toNat_natCast, hx] at hq
    simp only at hq
    have hi : i < S.L.length := by omega
    obtain ⟨N, hN⟩ : ∃ N, S.L.length = N := ⟨_, rfl⟩
    rw [hN] at c0 h8 hi
    have hSl := sl_of_owns ho hb
    have HO := hidden ho
    have HSl := hidden hSl
    have HB := hidden hb
    obtain ⟨m, hm⟩ : ∃ m, x.b.length = m := ⟨_, rfl⟩
    rw [hm] at c1 ht hl hq HSl HO
    have hle := owns_le HO.out
    have HNO := hidden (owns_none HO.out)
    have HM := hidden hm
    clear hm hN hx hF hf0 hf1 her hon ho hb hSl h c2 hl
    have bad : (at_ < 0 ∨ n < 0 ∨ (m : Int) < at_ + n) → q1 = 1 ∧ q2 = [] := by
      intro hb
      rw [if_pos hb] at hq
      exact ⟨(Prod.mk.inj hq).1.symm, (Prod.mk.inj hq).2.symm⟩
    by_cases ha0 : at_ < 0
    · obtain ⟨rfl, rfl⟩ := bad (.inl ha0)
      clear hq bad
      go_enter Try.func52, Try.ntmps52
      go_wp2_with fail
      refine hh.out.mono ?_
      rintro e w' ⟨rfl, rfl⟩
      go_wp2_with fail
      go_ret2
      exact ⟨_, _, _, rfl, World.ownsRow_nil _ _ _ _, fun n hn => by simp at hn, Below.refl _ _⟩
    · by_cases hn0 : n < 0
      · obtain ⟨rfl, rfl⟩ := bad (.inr (.inl hn0))
        clear hq bad
        have ha1 : 0 ≤ at_ := by omega
        go_enter Try.func52, Try.ntmps52
        go_wp2_with fail
        refine hh.out.mono ?_
        rintro e w' ⟨rfl, rfl⟩
        go_wp2_with fail
        go_ret2
        exact ⟨_, _, _, rfl, World.ownsRow_nil _ _ _ _, fun n hn => by simp at hn, Below.refl _ _⟩
      · by_cases hbig : (m : Int) < at_ + n
        · obtain ⟨rfl, rfl⟩ := bad (.inr (.inr hbig))
          clear hq bad
          have ha1 : 0 ≤ at_ := by omega
          have hn1 : 0 ≤ n := by omega
          have hb2 : (m : Int) - at_ < n := by omega
          by_cases hat : (m : Int) < at_
          · go_enter Try.func52, Try.ntmps52
            go_wp2_with fail
            refine hh.out.mono ?_
            rintro e w' ⟨rfl, rfl⟩
            go_wp2_with fail
            go_ret2
            exact ⟨_, _, _, rfl, World.ownsRow_nil _ _ _ _, fun n hn => by simp at hn, Below.refl _ _⟩
          · have hat2 : at_ ≤ (m : Int) := by omega
            go_enter Try.func52, Try.ntmps52
            go_wp2_with fail
            refine hh.out.mono ?_
            rintro e w' ⟨rfl, rfl⟩
            go_wp2_with fail
            go_ret2
            exact ⟨_, _, _, rfl, World.ownsRow_nil _ _ _ _, fun n hn => by simp at hn, Below.refl _ _⟩
        · rw [if_neg (by omega)] at hq
          obtain ⟨rfl, hq2⟩ := Prod.mk.inj hq
          clear hq bad
          obtain ⟨A, rfl⟩ : ∃ A : Nat, at_ = (A : Int) := ⟨at_.toNat, by omega⟩
          obtain ⟨B, rfl⟩ : ∃ B : Nat, n = (B : Int) := ⟨n.toNat, by omega⟩
          rw [Int.toNat_natCast, Int.toNat_natCast] at hq2
          have hAB : A + B ≤ m := by omega
          have hb2 : (B : Int) ≤ (m : Int) - (A : Int) := by omega
          have hAB2 : (A : Int) + (B : Int) = ((A + B : Nat) : Int) := by omega
          obtain ⟨E, hE⟩ : ∃ E, A + B = E := ⟨_, rfl⟩
          rw [hE] at hAB2 hAB
          have hEB : E - A = B := by omega
          have hAm : A ≤ m := by omega
          have HQ2 := hidden hq2
          have HE := hidden hE
          clear hq2 hE hbig
          obtain ⟨i0, hi0, hz0, hz1, hz2⟩ := info_parts info5
          have hlen : q2.length = B := by rw [← HQ2.out]; have := HM.out; have := HE.out; simp; omega
          have HLEN := hidden hlen
          clear hlen
          by_cases hAc : c = A
          · obtain rfl : B = 0 := by have := HE.out; omega
            have HP0 : Hid (Sl w ad 0 q2) := by
              show Sl _ _ _ _
              rw [← HQ2.out]
              exact HSl.out.part0 _ (by have := HE.out; omega) rfl
            have HAC := hidden hAc
            subst hAc
            go_enter Try.func52, Try.ntmps52
            go_wp2_with fail
            refine hh.out.mono ?_
            rintro e w' ⟨rfl, rfl⟩
            go_wp2_with (refine wpList_appends _ rfl (.tmp 46) (.tmp 59) 27 rfl 5 i0 (.int .u8 0) Try.underlying27 hi0 hz0 hz1 hz2 rfl (.slice none 0 0) 0 [] rfl (World.ownsRow_nil _ _ _ _) (ad) 0 0 q2 rfl HP0.out (fun _ => ⟨rfl, rfl⟩) (by omega) ?_; intro v5 w5 ho5 hc5 hm5; obtain ⟨a5, c5, rfl⟩ := owns_form ho5; have HO5 := hidden ho5; have HC5 := hidden hc5; have HM5 := hidden hm5; clear ho5 hc5 hm5)
            go_ret2
            have hnew : ∀ g, (Value.slice a5 (0 + 0) c5).ownBlock = some g → w'.heap.size ≤ g := by
              intro g hg
              rcases HM5.out with e | ⟨g', e, hg'⟩
              · rw [hg] at e
                cases e
              · rw [hg] at e
                obtain rfl := Option.some.inj e
                exact hg'
            refine ⟨a5, _, c5, rfl, ?_, by rw [← HQ2.out]; exact (HB.out.drop _).take _, HC5.out.bel_none (fun g hg => by cases hg)⟩
            exact owns_base (by simpa using HO5.out) (by simpa using hnew)
          · have HP1 : Hid (Sl w (Option.map (fun x => x.add A) ad) B q2) := by
              show Sl _ _ _ _
              rw [← HQ2.out]
              exact HSl.out.part (by have := HE.out; omega)
            have HN1 : Hid (Option.map (fun x => x.add A) ad = none → B = 0 ∧ c - A = 0) := by
              intro hno
              obtain ⟨r1, r2⟩ := HNO.out (by simpa using hno)
              have := HE.out
              omega
            go_enter Try.func52, Try.ntmps52
            go_wp2_with fail
            refine hh.out.mono ?_
            rintro e w' ⟨rfl, rfl⟩
            go_wp2_with (refine wpList_appends _ rfl (.tmp 46) (.tmp 59) 27 rfl 5 i0 (.int .u8 0) Try.underlying27 hi0 hz0 hz1 hz2 rfl (.slice none 0 0) 0 [] rfl (World.ownsRow_nil _ _ _ _) (Option.map (fun x => x.add A) ad) B (c - A) q2 rfl HP1.out HN1.out (by omega) ?_; intro v5 w5 ho5 hc5 hm5; obtain ⟨a5, c5, rfl⟩ := owns_form ho5; have HO5 := hidden ho5; have HC5 := hidden hc5; have HM5 := hidden hm5; clear ho5 hc5 hm5)
            go_ret2
            have hnew : ∀ g, (Value.slice a5 (0 + B) c5).ownBlock = some g → w'.heap.size ≤ g := by
              intro g hg
              rcases HM5.out with e | ⟨g', e, hg'⟩
              · rw [hg] at e
                cases e
              · rw [hg] at e
                obtain rfl := Option.some.inj e
                exact hg'
            refine ⟨a5, _, c5, rfl, ?_, by rw [← HQ2.out]; exact (HB.out.drop _).take _, HC5.out.bel_none (fun g hg => by cases hg)⟩
            exact owns_base (by simpa using HO5.out) (by simpa using hnew)
  · rw [if_pos h0] at hq
    obtain ⟨rfl, rfl⟩ := Prod.mk.inj hq
    clear hq
    go_enter Try.func52, Try.ntmps52
    go_wp2_with fail
    refine hh.out.mono ?_
    rintro e w' ⟨rfl, rfl⟩
    go_wp2_with fail
    go_ret2
    exact ⟨_, _, _, rfl, World.ownsRow_nil _ _ _ _, fun n hn => by simp at hn, Below.refl _ _⟩

end Go.Proofs.Ytgmcfejmhlglkaa
