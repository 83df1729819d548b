/-
  WalLasts: wakes.
-/
import Derived.Test.YtnfjhdedcnbdbaaWtB
namespace Go.Proofs.Ytnfjhdedcnbdbaa
open Go.RowKit
set_option linter.unusedVariables false
set_option linter.unusedSimpArgs false

theorem OpenR.ret {w w' : World} {p : Nat} {F : Nat → Prop} {S : St} {e : Ending} (h : OpenR w p F S e w') : ∃ v, e = .returned v := by
  obtain ⟨F', h1, h2, h3, hc⟩ := h
  rcases hc with ⟨er, _, _, rfl⟩ | ⟨f', lp, x, r, sv, rv, _, _, _, _, _, _, _, _, _, _, rfl⟩ <;> exact ⟨_, rfl⟩
theorem sn_two {w : World} {b : Nat} {k j : Int} (h : Blk w b 3 [.int .i64 k, .int .i64 j]) (hk : -9223372036854775808 ≤ k ∧ k ≤ 9223372036854775807) (hj : -9223372036854775808 ≤ j ∧ j ≤ 9223372036854775807) : Sn w (some ⟨b, 0, none⟩) 2 [k, j] := by
  refine ⟨rfl, fun n hn => ?_, fun i hi => ⟨_, rfl, ?_⟩⟩
  · simp only [List.mem_cons, List.not_mem_nil, or_false] at hn
    rcases hn with rfl | rfl <;> omega
  · rw [Addr.add_lit, Nat.zero_add, h.cell i]
    match i, hi with
    | 0, _ => rfl
    | 1, _ => rfl

theorem and64_1 (n : Int) : bits .and .i64 n 1 = n % 2 := by
  have h1 : (BitVec.ofInt 64 1).toNat = 2 ^ 1 - 1 := by decide
  have key : (BitVec.ofInt 64 n &&& BitVec.ofInt 64 1).toNat = (n % ((2 ^ 64 : Nat) : Int)).toNat % 2 ^ 1 := by
    rw [BitVec.toNat_and, BitVec.toNat_ofInt, h1, Nat.and_two_pow_sub_one_eq_mod]
  show IntKind.i64.wrap ((BitVec.ofInt 64 n &&& BitVec.ofInt 64 1).toNat : Nat) = n % 2
  rw [key, IntKind.wrap_i64]
  omega
theorem and64_1023 (n : Int) : bits .and .i64 n 1023 = n % 1024 := by
  have h1 : (BitVec.ofInt 64 1023).toNat = 2 ^ 10 - 1 := by decide
  have key : (BitVec.ofInt 64 n &&& BitVec.ofInt 64 1023).toNat = (n % ((2 ^ 64 : Nat) : Int)).toNat % 2 ^ 10 := by
    rw [BitVec.toNat_and, BitVec.toNat_ofInt, h1, Nat.and_two_pow_sub_one_eq_mod]
  show IntKind.i64.wrap ((BitVec.ofInt 64 n &&& BitVec.ofInt 64 1023).toNat : Nat) = n % 1024
  rw [key, IntKind.wrap_i64]
  omega

set_option maxRecDepth 100000 in
set_option maxHeartbeats 4000000 in
theorem wakesP (p : Nat) (F : Nat → Prop) (S : St) (ops keep : Int) (falls live : Nat) (hd : Hd) (st : List Int) (recs : List (List Int)) (x y : List Int) (w : World) (h : Dk 71 66 w p F S) (c : Cr S falls live hd st recs x y) (hl : live ≤ 1) (k : Lgok hd st recs) (hf : falls ≤ 1099511627000) (hb : Byte st) (hbr : ∀ r ∈ recs, Byte r) (ho : -9223372036854775808 ≤ ops ∧ ops ≤ 9223372036854775807) (hk : -9223372036854775808 ≤ keep ∧ keep ≤ 9223372036854775807) :
    Calls Try.prog 24 #[.pointer (some ⟨p, 0, none⟩), .int .i64 ops, .int .i64 keep] w fun e w' => ∃ F' falls' lp sa sc ra rc els, e = .returned (.tuple #[.pointer (some ⟨lp, 0, none⟩), .slice sa st.length sc, .slice ra recs.length rc, .bool true]) ∧ falls' ≤ falls + 1 ∧
      Dk 71 66 w' p F' (LS falls' live hd st recs) ∧ Chg F w w' ∧ New w F F' ∧ Lg 94 w' lp p ⟨falls', live, hd⟩ ∧ (⟨falls', live, hd⟩ : Lw).fine ∧ w.heap.size ≤ lp ∧ Sl w' sa st.length st ∧ RecM (fun _ => False) w' (.slice ra recs.length rc) recs els := by
  have H := hidden h
  have HC := hidden c
  have HK := hidden k
  have HB := hidden hb
  have HBR := hidden hbr
  have HKP := hidden hk
  have hkp := hk
  clear h c k hb hbr hk
  go_enter Try.func24, Try.ntmps24
  go_wp2_with fail
  refine (restartP p F S w H.out).mono ?_
  rintro e w1 ⟨rfl, F1, d1, g1, n1⟩
  have HD1 := hidden d1
  have HG1 := hidden g1
  have HN1 := hidden n1
  clear d1 g1 n1
  by_cases hneg : 0 ≤ ops
  · have hbt := and64_1 ops
    obtain ⟨o, ho2⟩ : ∃ o : Nat, ops % 2 = (o : Int) ∧ o ≤ 1 := ⟨(ops % 2).toNat, by omega, by omega⟩
    rw [ho2.1] at hbt
    have ho1 := ho2.2
    clear ho2
    go_wp2_with fail
    obtain ⟨w2, hw2, B2, L2, z2⟩ := one_new w1 3 [.int .i64 keep, .int .i64 keep]
    have hw2' : w1.alloc (Obj.cells #[Value.int IntKind.i64 keep, Value.int IntKind.i64 keep] 3) = w2 := hw2
    rw [hw2']
    have HB2 := hidden B2
    have HL2 : Hid (Lat w1 w2) := L2
    clear hw2 hw2' B2 L2 z2
    refine (fuseP p F1 S.restart (o : Int) (some ⟨w1.heap.size, 0, none⟩) 2 2 [keep, keep] w2 (HD1.out.lat HL2.out) (sn_two HB2.out HKP.out HKP.out) (Nat.le_refl _) (by omega)).mono ?_
    have hse : S.restart.setFuse (o : Int) [keep, keep] = (0, { S.restart with fuse := some (o, [keep, keep].take S.L.length) }) := by
      unfold St.setFuse
      rw [if_neg (by simp [St.restart]), if_neg (by omega)]
      simp [St.restart]
    rw [hse]
    rintro e w3 ⟨rfl, F3, d3, g3, n3⟩
    have HC3 : Hid (Cr ({ S.restart with fuse := some (o, [keep, keep].take S.L.length) } : St) falls live hd st recs x y) := ⟨HC.out.f, HC.out.L, HC.out.x, HC.out.y⟩
    have HON : Hid (({ S.restart with fuse := some (o, [keep, keep].take S.L.length) } : St).on = true) := rfl
    have HD3 : Hid (Dk 71 66 w3 p F3 ({ S.restart with fuse := some (o, [keep, keep].take S.L.length) } : St)) := d3
    have HG3 := hidden g3
    have HN3 := hidden n3
    clear d3 g3 n3 hse hbt
    generalize ({ S.restart with fuse := some (o, [keep, keep].take S.L.length) } : St) = S3 at *
    go_wp2_with fail
    refine open_walk p F3 S3 w3 HD3.out (by rw [HC3.out.f]; omega) _ ?_
    intro e w4 hO
    obtain ⟨v, rfl⟩ := hO.ret
    obtain ⟨F4, d4, g4, n4, _⟩ := hO
    obtain ⟨f4, x4, y4, hf4, hc4⟩ := HC3.out.opensF hl HON.out HK.out
    have HD4 := hidden d4
    have HG4 := hidden g4
    have HN4 := hidden n4
    have HC4 := hidden hc4
    clear d4 g4 n4 hc4
    go_wp2_with fail
    refine (restartP p F4 S3.opens.2 w4 HD4.out).mono ?_
    rintro e w5 ⟨rfl, F5, d5, g5, n5⟩
    have HD5 := hidden d5
    have HG5 := hidden g5
    have HN5 := hidden n5
    have HC5 := hidden HC4.out.restart
    have HCH : Hid (Chg F w w5) := by
      have q1 : Chg F w w2 := HG1.out.trans (Chg.of_below (F := fun _ => False) HL2.out) (fun _ _ h => h.elim)
      have m1 : New w F F1 := HN1.out
      have q3 : Chg F w w3 := q1.new HG3.out m1
      have m3 : New w F F3 := m1.trans HN3.out q1.size
      have q4 : Chg F w w4 := q3.new HG4.out m3
      have m4 : New w F F4 := m3.trans HN4.out q3.size
      exact q4.new HG5.out m4
    have HNW : Hid (New w F F5) := by
      have q1 : Chg F w w2 := HG1.out.trans (Chg.of_below (F := fun _ => False) HL2.out) (fun _ _ h => h.elim)
      have m1 : New w F F1 := HN1.out
      have q3 : Chg F w w3 := q1.new HG3.out m1
      have m3 : New w F F3 := m1.trans HN3.out q1.size
      have q4 : Chg F w w4 := q3.new HG4.out m3
      have m4 : New w F F4 := m3.trans HN4.out q3.size
      exact m4.trans HN5.out q4.size
    clear d5 g5 n5
    go_wp2_with fail
    refine open_walk p F5 _ w5 HD5.out (by rw [HC5.out.f]; omega) _ ?_
    intro e w9 hO
    obtain ⟨F9, d9, g9, n9, lp, sa, sc, ra, rc, els, rfl, hlg, hfn, hlp, hsl, hrm⟩ := hO.found (HC5.out.opens hl rfl rfl HK.out) HB.out HBR.out
    rw [HC5.out.f] at hlg hfn
    have HALL := hidden (⟨d9, g9, n9, hlg, hfn, hlp, hsl, hrm⟩ : Dk 71 66 w9 p F9 _ ∧ Chg _ _ w9 ∧ New _ _ F9 ∧ Lg 94 w9 lp p _ ∧ Lw.fine _ ∧ _ ≤ lp ∧ Sl w9 sa _ _ ∧ RecM _ w9 _ _ els)
    clear hO d9 g9 n9 hlg hfn hlp hsl hrm
    obtain ⟨sn, hsn⟩ : ∃ sn, st.length = sn := ⟨_, rfl⟩
    obtain ⟨rn, hrn⟩ : ∃ rn, recs.length = rn := ⟨_, rfl⟩
    rw [show (⟨live, hd, st, recs, (laid hd st recs).length⟩ : Fnd).state.length = sn from hsn, show (⟨live, hd, st, recs, (laid hd st recs).length⟩ : Fnd).recs.length = rn from hrn]
    have HSN := hidden hsn
    have HRN := hidden hrn
    clear hsn hrn
    go_wp2_with fail
    refine bodyPost_ret (results_tmp4 rfl _ _ _) rfl ?_
    refine ⟨F9, f4, lp, sa, sc, ra, rc, els, by rw [HSN.out, HRN.out]; rfl, hf4, HALL.out.1, HCH.out.new HALL.out.2.1 HNW.out, HNW.out.trans HALL.out.2.2.1 HCH.out.size, HALL.out.2.2.2.1, HALL.out.2.2.2.2.1, Nat.le_trans HCH.out.size HALL.out.2.2.2.2.2.1, HALL.out.2.2.2.2.2.2.1, HALL.out.2.2.2.2.2.2.2⟩
  · go_wp2_with fail
    refine open_walk p F1 S.restart w1 HD1.out (by rw [(hidden HC.out.restart).out.f]; omega) _ ?_
    intro e w9 hO
    obtain ⟨F9, d9, g9, n9, lp, sa, sc, ra, rc, els, rfl, hlg, hfn, hlp, hsl, hrm⟩ := hO.found ((hidden HC.out.restart).out.opens hl rfl rfl HK.out) HB.out HBR.out
    rw [(hidden HC.out.restart).out.f] at hlg hfn
    have HALL := hidden (⟨d9, g9, n9, hlg, hfn, hlp, hsl, hrm⟩ : Dk 71 66 w9 p F9 _ ∧ Chg _ _ w9 ∧ New _ _ F9 ∧ Lg 94 w9 lp p _ ∧ Lw.fine _ ∧ _ ≤ lp ∧ Sl w9 sa _ _ ∧ RecM _ w9 _ _ els)
    clear hO d9 g9 n9 hlg hfn hlp hsl hrm
    obtain ⟨sn, hsn⟩ : ∃ sn, st.length = sn := ⟨_, rfl⟩
    obtain ⟨rn, hrn⟩ : ∃ rn, recs.length = rn := ⟨_, rfl⟩
    rw [show (⟨live, hd, st, recs, (laid hd st recs).length⟩ : Fnd).state.length = sn from hsn, show (⟨live, hd, st, recs, (laid hd st recs).length⟩ : Fnd).recs.length = rn from hrn]
    have HSN := hidden hsn
    have HRN := hidden hrn
    clear hsn hrn
    go_wp2_with fail
    refine bodyPost_ret (results_tmp4 rfl _ _ _) rfl ?_
    refine ⟨F9, falls, lp, sa, sc, ra, rc, els, by rw [HSN.out, HRN.out]; rfl, by omega, HALL.out.1, HG1.out.new HALL.out.2.1 HN1.out, HN1.out.trans HALL.out.2.2.1 HG1.out.size, HALL.out.2.2.2.1, HALL.out.2.2.2.2.1, Nat.le_trans HG1.out.size HALL.out.2.2.2.2.2.1, HALL.out.2.2.2.2.2.2.1, HALL.out.2.2.2.2.2.2.2⟩

end Go.Proofs.Ytnfjhdedcnbdbaa
