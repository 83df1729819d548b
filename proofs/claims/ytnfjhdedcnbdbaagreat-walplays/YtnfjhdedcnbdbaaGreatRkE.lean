/-
  The document's disk: Append, Fuse.
-/
import Derived.Test.YtnfjhdedcnbdbaaGreatRkA
namespace Go.Proofs.YtnfjhdedcnbdbaaGreat
open Go.RowKit
set_option linter.unusedVariables false
set_option linter.unusedSimpArgs false

theorem below_cell {w w' : World} {B : Nat} {a : Addr} {v : Value} (h : Below B w w') (hl : a.block < B) (hc : w.cell? a = some v) : w'.cell? a = some v := by
  rw [← hc]
  exact World.cell?_of_block (h.block _ hl)
theorem below_frozen {w w' : World} {B : Nat} {a : Addr} (h : Below B w w') (hl : a.block < B) (hc : w.frozen? a = false) : w'.frozen? a = false := by
  rw [← hc]
  exact World.frozen?_of_block (h.block _ hl)
theorem below_drew (w : World) (B : Nat) : Below B w w.drew := ⟨rfl, rfl, rfl, Nat.le_refl _, fun _ _ => rfl⟩
/-- Two appends, the first of them to nothing. -/
theorem two_appends {wb w5 w6 : World} {v5 v6 : Value} {n : Nat} {xs : List Value} (hc5 : Chg (fun i => (Value.slice none 0 0).ownBlock = some i) wb w5) (hm5 : Moved wb (Value.slice none 0 0).ownBlock v5.ownBlock) (hc6 : Chg (fun i => v5.ownBlock = some i) w5.drew w6) (hm6 : Moved w5.drew v5.ownBlock v6.ownBlock) (ho6 : w6.ownsRow 0 5 1 v6 n xs) :
    Below wb.heap.size wb w6 ∧ w6.ownsRow wb.heap.size 5 1 v6 n xs := by
  have h5 : ∀ g, v5.ownBlock = some g → wb.heap.size ≤ g := by
    intro g hg
    rcases hm5 with e | ⟨g', e, hg'⟩
    · rw [hg] at e
      cases e
    · rw [hg] at e
      obtain rfl := Option.some.inj e
      exact hg'
  have b5 : Below wb.heap.size wb w5 := hc5.bel_noneR (fun g hg => by cases hg)
  have hs : wb.heap.size ≤ w5.drew.heap.size := b5.size
  refine ⟨(b5.trans (below_drew w5 _)).trans ⟨hc6.os, hc6.tape, hc6.output, hc6.size, fun k hk => hc6.block k (Nat.lt_of_lt_of_le hk hs) (fun e => by have := h5 k e; omega)⟩, owns_base ho6 (fun g hg => ?_)⟩
  rcases hm6 with e | ⟨g', e, hg'⟩
  · exact h5 g (by rw [← e]; exact hg)
  · rw [hg] at e
    obtain rfl := Option.some.inj e
    exact Nat.le_trans hs hg'
theorem op_set {S : St} (L' : List Fl) (h : S.op.1 = 0) : ({ S with L := L' } : St).op = (0, { S.op.2 with L := L' }) := by
  unfold St.op at *
  split at h
  · rename_i e
    simp only [e]
  · cases h
  · rename_i e
    simp only [e]

set_option maxRecDepth 10000 in
set_option maxHeartbeats 4000000 in
set_option maxRecDepth 100000 in
theorem appendR (p : Nat) (F : Nat → Prop) (S : St) (w : World) (f : Int) (ad : Option Addr) (m c : Nat) (l : List Int) (h : Dk 82 97 w p F S) (hf : S.falls ≤ 1099511627776) (hS : Sl w ad m l) (hnone : ad = none → m = 0 ∧ c = 0) (hm : m ≤ 70368744177664) (hF : ∀ x, ad = some x → 0 < m → ¬ F x.block) :
    Calls Tryz.prog 33 #[.pointer (some ⟨p, 0, none⟩), .int .i64 f, .slice ad m c] w fun e w' => e = .returned (.int .i64 (S.append f l).1) ∧ Dks 82 97 w w' p F (S.append f l).2 := by
  have hh := hidden (refusalR p F S w f h)
  obtain ⟨er, her⟩ : ∃ er, S.refuse f = er := ⟨_, rfl⟩
  obtain ⟨q, hq⟩ : ∃ q, S.append f l = q := ⟨_, rfl⟩
  rw [hq]
  unfold St.append at hq
  rw [her] at hq hh
  have HDk := hidden h
  have HSl := hidden hS
  have HNO := hidden hnone
  have HF := hidden hF
  have HBU := hidden (burnsR p F S w h)
  clear hnone hF
  by_cases h0 : er = 0
  · subst h0
    obtain ⟨hon, hf0, hf1⟩ := refuse_no her
    obtain ⟨i, rfl⟩ : ∃ i : Nat, f = (i : Int) := ⟨f.toNat, by omega⟩
    have hi : i < S.L.length := by omega
    obtain ⟨x, hx⟩ : ∃ x, S.L[i]? = some x := ⟨_, List.getElem?_eq_getElem hi⟩
    obtain ⟨fb, fc, av, cv, c0, c1, f1, hown, hby, hle, htop, h8, hpl, hfl, hgo⟩ := h.newrow ty75 i x hx
    rw [if_neg (by simp), Int.toNat_natCast, hx] at hq
    simp only at hq
    obtain ⟨N, hN⟩ : ∃ N, S.L.length = N := ⟨_, rfl⟩
    have HNN := hidden hN
    rw [hN] at c0 h8 hi
    obtain ⟨n, hn⟩ : ∃ n, x.b.length = n := ⟨_, rfl⟩
    have HN := hidden hn
    have HX := hidden hx
    rw [hn] at c1 htop hle hq
    have hml := hS.len
    rw [hml] at hq
    clear h hown hby hN hn hf0 hf1 her hon hS hml hgo hpl hfl f1 hx
    by_cases hfull : 16777216 < n + m
    · rw [if_pos hfull] at hq
      subst hq
      have hfi : (16777216 : Int) - (n : Int) < (m : Int) := by omega
      go_enter Tryz.func33, Tryz.ntmps33
      go_wp2_with fail
      refine hh.out.mono ?_
      rintro e w' ⟨rfl, rfl⟩
      go_wp2_with fail
      go_ret
      exact ⟨rfl, _, HDk.out, Chg.refl _ _, New.refl _ _⟩
    · rw [if_neg hfull] at hq
      have HQ := hidden hq
      clear hq
      have hfi : (m : Int) ≤ (16777216 : Int) - (n : Int) := by omega
      obtain ⟨i0, hi0, hz0, hz1, hz2⟩ := info_parts info5
      go_enter Tryz.func33, Tryz.ntmps33
      go_wp2_with fail
      refine hh.out.mono ?_
      rintro e w' ⟨rfl, rfl⟩
      go_wp2_with fail
      refine HBU.out.mono ?_
      rintro e w2 (⟨hop, rfl, F2, k1, k2, k3⟩ | ⟨hop, rfl, rfl, K, hK⟩)
      · obtain ⟨hL2, hfa2, _⟩ := op_ok hop
        clear c0 c1
        obtain ⟨fb, fc, av, cv, c0, c1, f1, hown, hby, _, _, _, hpl, hfl, hgo⟩ := k1.newrow ty75 i x (by rw [hL2]; exact HX.out)
        have hsl2 : Sl w2 ad m l := k2.sl HSl.out HF.out
        rw [hL2, HNN.out] at c0
        rw [HN.out] at c1 hown
        have HO := hidden hown
        have HBY := hidden hby
        have HG := hidden hgo
        have HS2 := hidden hsl2
        have HOP := hidden hop
        have HK2 := hidden k2
        have HK3 := hidden k3
        have HL2 := hidden hL2
        clear k1 k2 k3 hop hL2 hfa2 hown hby hgo hsl2
        go_wp2_with (first
          | (refine wpList_appends _ rfl (.tmp 31) (.tmp 39) 28 rfl 5 i0 (.int .u8 0) Tryz.underlying28 hi0 hz0 hz1 hz2 rfl (.slice none 0 0) 0 [] rfl (World.ownsRow_nil _ _ _ _) av n cv x.b rfl (sl_of_owns HO.out HBY.out) (owns_none HO.out) (by omega) ?_; intro v5 w5 ho5 hc5 hm5; rw [Nat.zero_add, List.nil_append] at ho5; obtain ⟨a5, c5, rfl⟩ := owns_form ho5; have bl5 := hc5.bel_noneR (fun g hg => by cases hg); have d0 := below_cell bl5 hpl c0; have HO5 := hidden ho5; have HC5 := hidden hc5; have HM5 := hidden hm5; have HS5 := hidden (HS2.out.later bl5); have HBL5 := hidden bl5; clear ho5 hc5 hm5 bl5))
        go_region_law (refine step_appends _ (by rfl) (.tmp 46) (.tmp 47) 28 (by rfl) 5 i0 (.int .u8 0) Tryz.underlying28 hi0 hz0 hz1 hz2 (by rfl) (.slice a5 n c5) n x.b (by rfl) (by exact (Chg.drew (fun _ => False) w5).owns HO5.out (fun _ _ h => h)) ad m c l (by rfl) (by exact (Chg.drew (fun _ => False) w5).sl HS5.out (fun _ _ _ h => h)) HNO.out (by omega) ?_; intro v6 w6 ho6 hc6 hm6; obtain ⟨a6, c6, rfl⟩ := owns_form ho6; obtain ⟨bl6, on6⟩ := two_appends HC5.out HM5.out hc6 hm6 ho6; have e0 := below_cell bl6 hpl c0; have e1 := below_cell bl6 hfl c1; have e2 := below_frozen bl6 hfl f1; have HBL6 := hidden bl6; have HON6 := hidden on6; clear ho6 hc6 hm6 bl6 on6)
        all_goals
          go_wp2_with fail
          go_ret
          have hqe := HQ.out
          rw [op_set _ HOP.out] at hqe
          rw [← hqe]
          refine ⟨rfl, ?_⟩
          have := HG.out w6 _ (x.b ++ l) HBL6.out (by rw [List.length_append, HN.out, HSl.out.len]; exact HON6.out) (HBY.out.append HSl.out.byte) (by rw [List.length_append, HN.out]; omega) (by rw [List.length_append, HN.out, HSl.out.len]; omega)
          rw [HL2.out] at this
          exact Dks.trans HK2.out HK3.out this
      · clear c0 c1
        obtain ⟨fb, fc, av, cv, c0, c1, f1, hown, hby, _, _, _, hpl, hfl, hgo⟩ := HDk.out.newrow ty75 i x HX.out
        rw [HNN.out] at c0
        rw [HN.out] at c1 hown
        have HO := hidden hown
        have HBY := hidden hby
        have HG := hidden hgo
        have HS2 := HSl
        have HK := hidden hK
        clear hop hown hby hgo hK
        go_wp2_with (first
          | (refine wpList_appends _ rfl (.tmp 31) (.tmp 39) 28 rfl 5 i0 (.int .u8 0) Tryz.underlying28 hi0 hz0 hz1 hz2 rfl (.slice none 0 0) 0 [] rfl (World.ownsRow_nil _ _ _ _) av n cv x.b rfl (sl_of_owns HO.out HBY.out) (owns_none HO.out) (by omega) ?_; intro v5 w5 ho5 hc5 hm5; rw [Nat.zero_add, List.nil_append] at ho5; obtain ⟨a5, c5, rfl⟩ := owns_form ho5; have bl5 := hc5.bel_noneR (fun g hg => by cases hg); have d0 := below_cell bl5 hpl c0; have HO5 := hidden ho5; have HC5 := hidden hc5; have HM5 := hidden hm5; have HS5 := hidden (HS2.out.later bl5); have HBL5 := hidden bl5; clear ho5 hc5 hm5 bl5))
        go_region_law (refine step_appends _ (by rfl) (.tmp 46) (.tmp 47) 28 (by rfl) 5 i0 (.int .u8 0) Tryz.underlying28 hi0 hz0 hz1 hz2 (by rfl) (.slice a5 n c5) n x.b (by rfl) (by exact (Chg.drew (fun _ => False) w5).owns HO5.out (fun _ _ h => h)) ad m c l (by rfl) (by exact (Chg.drew (fun _ => False) w5).sl HS5.out (fun _ _ _ h => h)) HNO.out (by omega) ?_; intro v6 w6 ho6 hc6 hm6; obtain ⟨a6, c6, rfl⟩ := owns_form ho6; obtain ⟨bl6, on6⟩ := two_appends HC5.out HM5.out hc6 hm6 ho6; have e0 := below_cell bl6 hpl c0; have e1 := below_cell bl6 hfl c1; have e2 := below_frozen bl6 hfl f1; have hds := HG.out w6 _ (x.b ++ l) bl6 (by rw [List.length_append, HN.out, HSl.out.len]; exact on6) (HBY.out.append HSl.out.byte) (by rw [List.length_append, HN.out]; omega) (by rw [List.length_append, HN.out, HSl.out.len]; omega); have HDS := hidden hds; obtain ⟨F3, m1, m2, m3⟩ := hds; obtain ⟨ka, kn, kc, c5', hcall⟩ := m1.keepR hf HK.out; have HCL := hidden hcall; have HM2 := hidden m2; have HM3 := hidden m3; clear ho6 hc6 hm6 bl6 on6 hcall m1 m2 m3)
        all_goals
          go_wp2_with fail
          refine HCL.out.mono ?_
          rintro e w7 ⟨rfl, hd⟩
          have HD7 := hidden hd
          clear hd
          go_wp2_with fail
          go_ret
          have hqe := HQ.out
          rw [op_burn (S := { S with L := S.L.set i ⟨x.b ++ l, x.n⟩ }) (K := K) HK.out] at hqe
          rw [← hqe]
          exact ⟨rfl, Dks.trans HM2.out HM3.out HD7.out⟩
  · rw [if_pos h0] at hq
    subst hq
    go_enter Tryz.func33, Tryz.ntmps33
    go_wp2_with fail
    refine hh.out.mono ?_
    rintro e w' ⟨rfl, rfl⟩
    go_wp2_with fail
    go_ret
    exact ⟨rfl, _, HDk.out, Chg.refl _ _, New.refl _ _⟩

end Go.Proofs.YtnfjhdedcnbdbaaGreat
