/-
  Append, Format.
-/
import Derived.Test.YtnfjhdedcnbdbaaWlP
namespace Go.Proofs.Ytnfjhdedcnbdbaa
open Go.RowKit
set_option linter.unusedVariables false
set_option linter.unusedSimpArgs false

theorem Lg.chg {lt : TypeId} {w w' : World} {lp p : Nat} {l : Lw} {F : Nat → Prop} (h : Lg lt w lp p l) (hc : Chg F w w') (hF : ¬ F lp) : Lg lt w' lp p l := hc.blk h hF

set_option maxRecDepth 100000 in
theorem wappendP (lp p : Nat) (F : Nat → Prop) (S : St) (l : Lw) (ad : Option Addr) (n c : Nat) (r : List Int) (w : World) (h : Dk 71 66 w p F S) (hl : Lg 94 w lp p l) (hf : S.falls ≤ 1099511627776) (hS : Sl w ad n r) (hno : ad = none → n = 0 ∧ c = 0) (hn : n ≤ 9223372036854775807) :
    Calls Try.prog 18 #[.pointer (some ⟨lp, 0, none⟩), .slice ad n c] w fun e w' => e = .returned (.int .i64 (S.wappend l r).1) ∧ Dks 71 66 w w' p F (S.wappend l r).2 ∧ Lg 94 w' lp p l := by
  have H := hidden h
  have HL := hidden hl
  have HS := hidden hS
  have HNO := hidden hno
  have HF := hidden hf
  have HD := hidden (deadP lp p F S l w h hl)
  have HOUT := hidden (hl.out h)
  have hlen := hidden hS.len
  clear h hl hS hno hf
  have hq : Hid (S.wappend l r = if S.falls ≠ l.falls then (40, S) else if S.fits l r.length = false then (60, S) else S.put l.live 2 r) := rfl
  obtain ⟨q, hqq⟩ : ∃ q, S.wappend l r = q := ⟨_, rfl⟩
  rw [hqq] at hq ⊢
  clear hqq
  by_cases hx : S.falls = l.falls
  · rw [if_neg (fun k => k hx), hlen.out] at hq
    rw [decide_eq_false (fun k => k hx)] at HD
    go_enter Try.func18, Try.ntmps18
    go_wp2_with fail
    refine HD.out.mono ?_
    rintro e w1 ⟨rfl, hL1⟩
    have HL1 := hidden hL1
    clear hL1
    go_wp2_with fail
    refine (fitsP lp p F S l n w1 (H.out.lat HL1.out) (HL.out.lat HL1.out) (by omega)).mono ?_
    rintro e w2 ⟨rfl, hL2⟩
    have HL2 := hidden (Lat.trans _ _ _ HL1.out hL2)
    clear hL2
    have hfit : Hid (S.fits l n = true → n ≤ 4194304) := fun h => by
      unfold St.fits at h
      have := of_decide_eq_true h
      omega
    obtain ⟨b, hb⟩ : ∃ b, S.fits l n = b := ⟨_, rfl⟩
    rw [hb] at hq hfit ⊢
    clear hb
    cases b with
    | false =>
      rw [if_pos rfl] at hq
      go_wp2_with fail
      go_ret
      rw [hq.out]
      exact ⟨rfl, Dks.lat HL2.out (Dks.same (H.out.lat HL2.out)), HL.out.lat HL2.out⟩
    | true =>
      rw [if_neg (by simp)] at hq
      have hn4 : n ≤ 4194304 := hfit.out rfl
      go_wp2_with fail
      refine append_r5 lp p l.live n c ad (fun x w3 => x = .int .i64 q.1 ∧ Dks 71 66 w w3 p F q.2 ∧ Lg 94 w3 lp p l) w2 _ _ (by rfl) (by rfl) (by rfl) (fun w3 hL => (HL.out.lat (Lat.trans _ _ _ HL2.out hL)).head.1) (fun w3 hL => (HL.out.lat (Lat.trans _ _ _ HL2.out hL)).head.2.2.1) (fun w3 hL => ?_) ?_
      · have hL3 := Lat.trans _ _ _ HL2.out hL
        refine (putP p F S w3 l.live 2 ad n c r (H.out.lat hL3) HF.out (HS.out.later hL3) HNO.out hn4 (by omega)).mono ?_
        rintro e w4 ⟨rfl, hD4⟩
        refine ⟨_, rfl, ?_⟩
        rw [hq.out]
        refine ⟨rfl, Dks.lat hL3 hD4, ?_⟩
        obtain ⟨F', k1, k2, k3⟩ := hD4
        exact (HL.out.lat hL3).chg k2 HOUT.out
      · intros
        rename_i x w3 hR
        obtain ⟨rfl, hR2, hR3⟩ := hR
        have HR2 := hidden hR2
        have HR3 := hidden hR3
        clear hR2 hR3
        simp only [Act.put, List.setIfInBounds_toArray, List.set_cons_succ, List.set_cons_zero]
        go_wp2_with fail
        go_ret
        exact ⟨rfl, HR2.out, HR3.out⟩
  · rw [if_pos hx] at hq
    rw [decide_eq_true (show S.falls ≠ l.falls from hx)] at HD
    go_enter Try.func18, Try.ntmps18
    go_wp2_with fail
    refine HD.out.mono ?_
    rintro e w1 ⟨rfl, hL1⟩
    have HL1 := hidden hL1
    clear hL1
    go_wp2_with fail
    go_ret
    rw [hq.out]
    exact ⟨rfl, Dks.lat HL1.out (Dks.same (H.out.lat HL1.out)), HL.out.lat HL1.out⟩

end Go.Proofs.Ytnfjhdedcnbdbaa
