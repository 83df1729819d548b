import Derived.Test.YtnfjhdedcnbdbaaGreatFrD
import Derived.Test.YtnfjhdedcnbdbaaGreatRkF
/-
  The document's frames: four, Made.
-/
namespace Go.Proofs.YtnfjhdedcnbdbaaGreat
open Go.RowKit
set_option linter.unusedVariables false
set_option linter.unusedSimpArgs false

set_option maxRecDepth 100000 in
set_option maxHeartbeats 1000000 in
theorem four_any (ad : Option Addr) (n cap : Nat) (xs : List Int) (x : Nat) (w : World) (ho : w.ownsRow 0 5 1 (.slice ad n cap) n (cells8 xs)) (hx : x < 4294967296) (hb : n ≤ 140737488355320) :
    Calls Tryz.prog 87 #[.slice ad n cap, .int .u32 (x : Int)] w fun e w' => ∃ ad' c', e = .returned (.slice ad' (n + 4) c') ∧ w'.ownsRow 0 5 1 (.slice ad' (n + 4) c') (n + 4) (cells8 (xs ++ w4 x)) ∧
      Chg (fun i => (Value.slice ad n cap).ownBlock = some i) w w' ∧ Moved w (Value.slice ad n cap).ownBlock (Value.slice ad' (n + 4) c').ownBlock := by
  obtain ⟨i0, hi, hz0, hz1, hz2⟩ := info_parts info5
  have HO := hidden ho
  have HB := hidden (w4_byte x)
  have HX : Hid ((cells8 (w4 x)).toArray = #[Value.int .u8 ((x : Int) % 256), .int .u8 ((x : Int) / 256 % 256), .int .u8 ((x : Int) / 65536 % 256), .int .u8 ((x : Int) / 16777216)]) := by
    have e : (x : Int) / 16777216 = ((x / 16777216 % 256 : Nat) : Int) := by omega
    rw [e]
    simp [cells8, w4, Hid]
  clear ho
  go_enter Tryz.func87, Tryz.ntmps87
  go_wp2_with (at_builtin; refine wpList_appends _ rfl (.tmp 5) (.tmp 17) 28 rfl 5 i0 (.int .u8 0) Tryz.underlying28 hi hz0 hz1 hz2 rfl (.slice ad n cap) n xs rfl (HO.out.alloc _) (some ⟨w.heap.size, 0, none⟩) 4 4 (w4 x) rfl (sl_lit w (w4 x) HB.out 5 (0, 0) 4 rfl _ ?_ _ rfl) (fun h => by cases h) (by omega) ?_; (exact HX.out.symm); intro v1 w1 ho1 hc1 hm1; obtain ⟨a1, c1, rfl⟩ := owns_form ho1; have HO1 := hidden ho1; have HC1 := hidden hc1; have HM1 := hidden hm1; clear ho1 hc1 hm1)
  go_ret
  exact ⟨_, _, rfl, HO1.out, (Chg.alloc _ w _).trans HC1.out (fun i _ h => h), HM1.out.up (by simp)⟩
set_option maxRecDepth 100000 in
set_option maxHeartbeats 1000000 in
theorem made_any (k : Int) (ad : Option Addr) (ld cd : Nat) (D : List Int) (w : World) (hk : 0 ≤ k ∧ k ≤ 255) (hsd : Sl w ad ld D) (hnd : ad = none → ld = 0 ∧ cd = 0) (hd : ld ≤ 4194304) :
    Calls Tryz.prog 58 #[.int .u8 k, .slice ad ld cd] w fun e w' => ∃ ag c, e = .returned (.slice ag (ld + 9) c) ∧ Bld w w' (.slice ag (ld + 9) c) (ld + 9) (made k D) := by
  obtain ⟨i0, hi, hz0, hz1, hz2⟩ := info_parts info5
  have hld := hidden hsd.len
  have HSD := hidden hsd
  have HND := hidden hnd
  have HK := hidden hk
  clear hsd hnd
  go_enter Tryz.func58, Tryz.ntmps58
  go_wp2_with fail
  have H1 := hidden (owns_one w k _ rfl)
  refine (four_any (some ⟨w.heap.size, 0, none⟩) 1 1 [k] ld _ H1.out.row (by omega) (by omega)).mono ?_
  rintro e w2 ⟨a2, c2, rfl, ho2, hc2, hm2⟩
  have H2 := hidden (H1.out.step ho2 hc2 hm2)
  clear ho2 hc2 hm2
  go_wp2_with (first
    | (at_builtin; refine wpList_appends _ rfl (.tmp 12) (.tmp 13) 28 rfl 5 i0 (.int .u8 0) Tryz.underlying28 hi hz0 hz1 hz2 rfl (.slice a2 (1 + 4) c2) (1 + 4) ([k] ++ w4 ld) rfl H2.out.row ad ld cd D rfl (HSD.out.later H2.out.bel) HND.out (by omega) ?_; intro v5 w5 ho5 hc5 hm5; have H5 := hidden (H2.out.step ho5 hc5 hm5); obtain ⟨g5, c5, rfl, hl5, _, _⟩ := owns_some ho5 (by omega); clear ho5 hc5 hm5))
  have hby : Byte ([k] ++ w4 ld ++ D) := (Byte.append (show Byte [k] from fun z hz => by simp at hz; rw [hz]; exact HK.out) (w4_byte ld)).append HSD.out.byte
  have e1 : [k] ++ w4 ld ++ D = head k D := by rw [← hld.out]; rfl
  have hsl : Sl w5 (some ⟨g5, 0, none⟩) (1 + 4 + ld) (head k D) := by rw [← e1]; exact H5.out.sl hby
  clear hby
  refine (refCrc_any _ _ _ _ w5 hsl (by omega)).mono ?_
  rintro e w6 ⟨rfl, rfl⟩
  clear hsl
  have hcl := crc_lt (head k D)
  obtain ⟨x, hx⟩ : ∃ x, crc (head k D) = x := ⟨_, rfl⟩
  rw [hx] at hcl ⊢
  have HX := hidden hx
  have HE := hidden e1
  clear hx e1
  go_wp2_with fail
  refine (four_any (some ⟨g5, 0, none⟩) (1 + 4 + ld) c5 _ x _ H5.out.row hcl (by omega)).mono ?_
  rintro e w7 ⟨a7, c7, rfl, ho7, hc7, hm7⟩
  have H7 := hidden (H5.out.step ho7 hc7 hm7)
  clear ho7 hc7 hm7
  go_wp2_with fail
  go_ret
  have e : 1 + 4 + ld + 4 = ld + 9 := by omega
  have h7 := H7.out
  rw [e, HE.out, ← HX.out] at h7
  rw [e]
  exact ⟨_, _, rfl, h7⟩

end Go.Proofs.YtnfjhdedcnbdbaaGreat

/-
  The document's disk: Restart, Crash, Sync, Fuse.
-/
namespace Go.Proofs.YtnfjhdedcnbdbaaGreat
open Go.RowKit
set_option linter.unusedVariables false
set_option linter.unusedSimpArgs false

set_option maxRecDepth 100000 in
theorem restartR (p : Nat) (F : Nat → Prop) (S : St) (w : World) (h : Dk 82 97 w p F S) : Calls Tryz.prog 31 #[.pointer (some ⟨p, 0, none⟩)] w fun e w' => e = .returned (.tuple #[]) ∧ Dks 82 97 w w' p F S.restart := by
  obtain ⟨fb, fc, rs, set, ops, kv, kl, h, hL, hf, rfl⟩ := h
  have HH := hidden h
  have B0 := h.blk
  have HL := hidden hL
  clear h hL hf
  have c1 := B0.cell 1
  have c3 := B0.cell 3
  simp only [List.getElem?_cons_succ, List.getElem?_cons_zero] at c1 c3
  have f1 := B0.frozen 1
  have f3 := B0.frozen 3
  have HB := hidden B0
  clear B0
  go_enter Tryz.func31, Tryz.ntmps31
  go_wp2_with fail
  go_end0
  have hS := (HB.out.set 1 (.bool true)).set 3 (.bool false)
  simp only [List.set_cons_succ, List.set_cons_zero] at hS
  have hC : Chg (fun i => i = p) w ((w.setCell ⟨p, 1, none⟩ (.bool true)).setCell ⟨p, 3, none⟩ (.bool false)) := (Chg.set ⟨p, 1, none⟩ (.bool true) w).trans (Chg.set ⟨p, 3, none⟩ (.bool false) _) (fun _ _ h => h)
  refine ⟨rfl, _, ⟨fb, fc, rs, false, ops, kv, kl, HH.out.swap ty75 hC hS HH.out.keep HH.out.kint HH.out.opsb HH.out.klen, HL.out, rfl, rfl⟩, hC.mono (fun i _ hi => .inl hi), New.refl _ _⟩
set_option maxRecDepth 100000 in
theorem crashR (p : Nat) (F : Nat → Prop) (S : St) (ka : Option Addr) (kn kc : Nat) (K : List Int) (w : World) (h : Dk 82 97 w p F S) (hS : Sn w ka kn K) (hka : ∀ x, ka = some x → 0 < kn → ¬ F x.block) (hf : S.falls ≤ 1099511627776) :
    Calls Tryz.prog 29 #[.pointer (some ⟨p, 0, none⟩), .slice ka kn kc] w fun e w' => e = .returned (.tuple #[]) ∧ Dks 82 97 w w' p F (S.crash K) := by
  have HDk := hidden h
  obtain ⟨fb, fc, rs, set, ops, kv, kl, h, hL, hfu, rfl⟩ := h
  have c1 := h.blk.cell 1
  simp only [List.getElem?_cons_succ, List.getElem?_cons_zero] at c1
  have HH := hidden h
  have HL := hidden hL
  have HS := hidden hS
  have HKA := hidden hka
  clear h hL hfu hS hka
  obtain ⟨S', hS'⟩ : ∃ S', S.crash K = S' := ⟨_, rfl⟩
  rw [hS']
  have HS' := hidden hS'
  clear hS'
  obtain ⟨on, hon⟩ : ∃ on, S.on = on := ⟨_, rfl⟩
  rw [hon] at c1
  have HON := hidden hon
  clear hon
  cases on with
  | false =>
    go_enter Tryz.func29, Tryz.ntmps29
    go_wp2_with fail
    go_end0
    refine ⟨rfl, ?_⟩
    rw [← HS'.out]
    unfold St.crash
    rw [HON.out, if_neg (by decide)]
    exact ⟨_, HDk.out, Chg.refl _ _, New.refl _ _⟩
  | true =>
    go_enter Tryz.func29, Tryz.ntmps29
    go_wp2_with fail
    refine (failR p fb fc rs S.on S.falls set ops kv kl ka kn kc K w HH.out HS.out (fun x hx h0 e => HKA.out x hx h0 (.inr (.inl e))) hf).mono ?_
    rintro e w' ⟨rfl, rs', hD, hLo, hC⟩
    have HD := hidden hD
    have HLo := hidden hLo
    have HC := hidden hC
    clear hD hLo hC
    go_wp2_with fail
    go_end0
    have e2 : S' = S.fail K := by rw [← HS'.out]; unfold St.crash; rw [HON.out, if_pos rfl]
    rw [e2]
    refine ⟨rfl, _, ⟨fb, fc, rs', false, ops, _, kl, HD.out, ?_, rfl, rfl⟩, HC.out.mono ?_, HLo.out.fp2 w p fb _⟩
    · show loseAll S.L _ = _
      rw [HL.out, HLo.out.all]
    · rintro i _ (rfl | rfl)
      · exact .inl rfl
      · exact .inr (.inl rfl)
set_option maxRecDepth 10000 in
set_option maxHeartbeats 1000000 in
theorem syncR (p : Nat) (F : Nat → Prop) (S : St) (w : World) (f : Int) (h : Dk 82 97 w p F S) (hf : S.falls ≤ 1099511627776) :
    Calls Tryz.prog 54 #[.pointer (some ⟨p, 0, none⟩), .int .i64 f] w fun e w' => e = .returned (.int .i64 (S.sync f).1) ∧ Dks 82 97 w w' p F (S.sync f).2 := by
  have hh := hidden (refusalR p F S w f h)
  obtain ⟨er, her⟩ : ∃ er, S.refuse f = er := ⟨_, rfl⟩
  obtain ⟨q, hq⟩ : ∃ q, S.sync f = q := ⟨_, rfl⟩
  rw [hq]
  unfold St.sync at hq
  rw [her] at hq hh
  have HDk := hidden h
  have HBU := hidden (burnsR p F S w h)
  clear h
  by_cases h0 : er = 0
  · subst h0
    obtain ⟨hon, hf0, hf1⟩ := refuse_no her
    rw [if_neg (by simp)] at hq
    obtain ⟨i, rfl⟩ : ∃ i : Nat, f = (i : Int) := ⟨f.toNat, by omega⟩
    have HQ := hidden hq
    have HI : Hid (i < S.L.length) := by show i < _; omega
    clear hq hf0 hf1 her hon
    go_enter Tryz.func54, Tryz.ntmps54
    go_wp2_with fail
    refine hh.out.mono ?_
    rintro e w' ⟨rfl, rfl⟩
    go_wp2_with fail
    refine HBU.out.mono ?_
    rintro e w2 (⟨hop, rfl, F2, k1, k2, k3⟩ | ⟨hop, rfl, rfl, K, hK⟩)
    · obtain ⟨hL2, _, _⟩ := op_ok hop
      obtain ⟨x, hx⟩ : ∃ x, S.op.2.L[i]? = some x := ⟨_, List.getElem?_eq_getElem (by rw [hL2]; exact HI.out)⟩
      obtain ⟨fb, fc, ad, c, c0, c1, c2, f0, f1, g1, g2, g3, g4, g5, G1, G2⟩ := k1.file ty75 i x hx
      obtain ⟨N, hN⟩ : ∃ N, S.op.2.L.length = N := ⟨_, rfl⟩
      rw [hN] at c0 g4 g5
      obtain ⟨n, hn⟩ : ∃ n, x.b.length = n := ⟨_, rfl⟩
      have HG := hidden G1
      rw [hn] at c1 g1 g2 g3 HG
      have HN := hidden hn
      have HX := hidden hx
      have HOP := hidden hop
      have HK2 := hidden k2
      have HK3 := hidden k3
      clear k1 k2 k3 G1 G2 hN hn hx hop hL2
      go_wp2_with fail
      go_region
      go_wp2_with fail
      go_ret
      have hfin := (Dks.trans HK2.out HK3.out (HG.out n (Nat.le_refl _))).drew
      have hqe := HQ.out
      rw [if_neg (by rw [HOP.out]; simp), Int.toNat_natCast] at hqe
      simp only [HX.out] at hqe
      rw [← hqe, HN.out]
      exact ⟨rfl, hfin⟩
    · obtain ⟨ka, kn, kc, c5, hcall⟩ := HDk.out.keepR hf hK
      have HCL := hidden hcall
      have HK := hidden hK
      clear hcall hK hop
      go_wp2_with fail
      refine HCL.out.mono ?_
      rintro e w3 ⟨rfl, hd⟩
      have HD3 := hidden hd
      clear hd
      go_wp2_with fail
      go_ret
      have hqe := HQ.out
      rw [op_burn HK.out, if_pos (by simp)] at hqe
      rw [← hqe]
      exact ⟨rfl, HD3.out⟩
  · rw [if_pos h0] at hq
    subst hq
    go_enter Tryz.func54, Tryz.ntmps54
    go_wp2_with fail
    refine hh.out.mono ?_
    rintro e w' ⟨rfl, rfl⟩
    go_wp2_with fail
    go_ret
    exact ⟨rfl, _, HDk.out, Chg.refl _ _, New.refl _ _⟩
set_option maxRecDepth 100000 in
set_option maxHeartbeats 1000000 in
theorem fuseR (p : Nat) (F : Nat → Prop) (S : St) (o : Int) (ka : Option Addr) (kn kc : Nat) (K : List Int) (w : World) (h : Dk 82 97 w p F S) (hS : Sn w ka kn K) (hnone : ka = none → kn = 0 ∧ kc = 0) (hkn : kn ≤ 1099511627776) (hka : ∀ x, ka = some x → 0 < kn → ¬ F x.block) (ho : -9223372036854775808 ≤ o ∧ o ≤ 9223372036854775807) :
    Calls Tryz.prog 27 #[.pointer (some ⟨p, 0, none⟩), .int .i64 o, .slice ka kn kc] w fun e w' => e = .returned (.int .i64 (S.setFuse o K).1) ∧ Dks 82 97 w w' p F (S.setFuse o K).2 := by
  have HDk := hidden h
  obtain ⟨fb, fc, rs, set, ops, kv, kl, h, hL, hfu, rfl⟩ := h
  have hn : S.L.length = rs.length := by rw [hL]; simp
  have B0 := h.blk
  have c1 := B0.cell 1
  have c3 := B0.cell 3
  have c4 := B0.cell 4
  have c5 := B0.cell 5
  have f3 := B0.frozen 3
  have f4 := B0.frozen 4
  simp only [List.getElem?_cons_succ, List.getElem?_cons_zero] at c1 c3 c4 c5
  have HH := hidden h
  have HB := hidden B0
  have HL := hidden hL
  have HS := hidden hS
  have HNO := hidden hnone
  have HKA := hidden hka
  have HNL := hidden hn
  clear h hL hfu hS B0 hnone hka hn
  obtain ⟨q, hq⟩ : ∃ q, S.setFuse o K = q := ⟨_, rfl⟩
  rw [hq]
  unfold St.setFuse at hq
  obtain ⟨on, hon⟩ : ∃ on, S.on = on := ⟨_, rfl⟩
  rw [hon] at c1 hq
  have HON := hidden hon
  clear hon
  cases on with
  | false =>
    rw [if_pos rfl] at hq
    subst hq
    go_enter Tryz.func27, Tryz.ntmps27
    go_wp2_with fail
    go_ret
    exact ⟨rfl, _, HDk.out, Chg.refl _ _, New.refl _ _⟩
  | true =>
    rw [if_neg (by decide)] at hq
    by_cases h0 : o < 0
    · rw [if_pos h0] at hq
      subst hq
      go_enter Tryz.func27, Tryz.ntmps27
      go_wp2_with fail
      go_ret
      exact ⟨rfl, _, HDk.out, Chg.refl _ _, New.refl _ _⟩
    · rw [if_neg h0] at hq
      have h0' : 0 ≤ o := by omega
      have HQ := hidden hq
      clear hq h0
      have hB1 := (HB.out.set 3 (.bool true)).set 4 (.int .i64 o)
      simp only [List.set_cons_succ, List.set_cons_zero] at hB1
      have hC1 : Chg (fun i => i = p) w ((w.setCell ⟨p, 3, none⟩ (.bool true)).setCell ⟨p, 4, none⟩ (.int .i64 o)) := (Chg.set ⟨p, 3, none⟩ _ w).trans (Chg.set ⟨p, 4, none⟩ _ _) (fun _ _ h => h)
      have hD1 := HH.out.swap ty75 hC1 (on' := S.on) (falls' := S.falls) (set' := true) (ops' := o.toNat) (kv' := kv) (kl' := kl) (by rw [Int.toNat_of_nonneg h0']; exact hB1) HH.out.keep HH.out.kint (by omega) HH.out.klen
      have HD1 := hidden hD1
      have HC1 := hidden hC1
      have HS1 : Hid (Sn ((w.setCell ⟨p, 3, none⟩ (.bool true)).setCell ⟨p, 4, none⟩ (.int .i64 o)) ka kn K) := hC1.sn HS.out (fun x hx h0 e => HKA.out x hx h0 (.inl e))
      clear hB1 hC1 hD1
      go_enter Tryz.func27, Tryz.ntmps27
      go_wp2_with (refine wpList_appendsI _ rfl (.tmp 23) (.tmp 24) rfl (.slice none 0 0) 0 [] rfl (World.ownsRow_nil _ _ _ _) ka kn kc K rfl HS1.out HNO.out (by omega) ?_; intro v5 w5 ho5 hc5 hm5; rw [Nat.zero_add, List.nil_append] at ho5; obtain ⟨a5, c5', rfl⟩ := owns_form ho5; have bl5 := hc5.bel_noneR (fun g hg => by cases hg); have D5 := HD1.out.chg (Chg.of_below (F := fun _ => False) bl5) (fun _ _ h => h); have e5 : w5.cell? ⟨p, 5, none⟩ = some kv := D5.blk.cell 5; have f5 := D5.blk.frozen 5; have HO5 := hidden ho5; have HBL5 := hidden bl5; have HM5 := hidden hm5; have HD5 := hidden D5; clear ho5 hc5 hm5 bl5 D5)
      go_ret
      have hB6 := HD5.out.blk.set 5 (.slice a5 kn c5')
      simp only [List.set_cons_succ, List.set_cons_zero] at hB6
      have hC6 := Chg.set ⟨p, 5, none⟩ (.slice a5 kn c5') w5
      have hlK := HS.out.len
      have hD6 := HD5.out.swap ty75 hC6 (on' := S.on) (falls' := S.falls) (set' := true) (ops' := o.toNat) (kv' := .slice a5 kn c5') (kl' := K) hB6 (by rw [hlK]; exact HO5.out) HS.out.int (by omega) (by omega)
      rw [HON.out] at hD6
      rw [← HQ.out]
      refine ⟨rfl, FPd p fb rs (.slice a5 kn c5'), ⟨fb, fc, rs, true, o.toNat, .slice a5 kn c5', K, hD6, HL.out, ?_, rfl⟩, ?_, FPd_nokeep (fun g hg => .inr ?_)⟩
      · show some (o.toNat, K.take S.L.length) = some (o.toNat, K.take rs.length)
        rw [HNL.out]
      · exact ((HC1.out.mono (fun i _ hi => .inl hi)).trans (Chg.of_below (F := fun _ => False) HBL5.out) (fun _ _ h => h.elim)).trans hC6 (fun i _ hi => .inl hi)
      · rcases HM5.out with e | ⟨g', e, hg'⟩
        · rw [hg] at e
          cases e
        · rw [hg] at e
          obtain rfl := Option.some.inj e
          have : ((w.setCell ⟨p, 3, none⟩ (.bool true)).setCell ⟨p, 4, none⟩ (.int .i64 o)).heap.size = w.heap.size := by simp [World.setCell]
          omega

end Go.Proofs.YtnfjhdedcnbdbaaGreat
