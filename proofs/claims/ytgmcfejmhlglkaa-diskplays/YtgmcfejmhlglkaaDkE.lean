/-
  Append, Sync, Truncate, Fuse. The program's.
-/
import Derived.Test.YtgmcfejmhlglkaaDkD
import Derived.Deep.RegionLaw
namespace Go.Proofs.Ytgmcfejmhlglkaa
open Go.RowKit
set_option linter.unusedVariables false
set_option linter.unusedSimpArgs false

/-- A disk of which a file's row was grown. -/
theorem Dk.grown {dt ft : TypeId} {w : World} {p : Nat} {F : Nat → Prop} {S : St} (ht : Ty4 dt ft) (h : Dk dt ft w p F S) (i : Nat) (x : Fl) (hx : S.L[i]? = some x) :
    ∃ fb fc v, w.cell? ⟨p, 0, none⟩ = some (.slice (some ⟨fb, 0, none⟩) S.L.length fc) ∧ w.cell? ⟨fb, i * 2, none⟩ = some v ∧ w.frozen? ⟨fb, i * 2, none⟩ = false ∧ w.ownsRow 0 5 1 v x.b.length (cells8 x.b) ∧ Byte x.b ∧ x.n ≤ x.b.length ∧ x.b.length ≤ 16777216 ∧ (∀ g, v.ownBlock = some g → F g) ∧ S.L.length ≤ 8 ∧
      ∀ (w1 : World) (v' : Value) (b' : List Int), Chg (fun k => v.ownBlock = some k) w w1 → Moved w v.ownBlock v'.ownBlock → w1.ownsRow 0 5 1 v' b'.length (cells8 b') → Byte b' → x.n ≤ b'.length → b'.length ≤ 16777216 →
        w1.cell? ⟨p, 0, none⟩ = some (.slice (some ⟨fb, 0, none⟩) S.L.length fc) ∧ w1.cell? ⟨fb, i * 2, none⟩ = some v ∧ w1.frozen? ⟨fb, i * 2, none⟩ = false ∧
        Dks dt ft w (w1.setCell ⟨fb, i * 2, none⟩ v') p F { S with L := S.L.set i ⟨b', x.n⟩ } := by
  obtain ⟨fb, fc, rs, set, ops, kv, kl, h, hL, hfu, rfl⟩ := h
  have hn : S.L.length = rs.length := by rw [hL]; simp
  obtain ⟨r, hr, hrx⟩ : ∃ r, rs[i]? = some r ∧ r.2 = x := by
    rw [hL] at hx
    simpa using hx
  have hR := h.row i r hr
  subst hrx
  refine ⟨fb, fc, r.1, by rw [hn]; exact h.blk.cell 0, owns_cell h.files _ _ (fcells_row rs i r hr), owns_frozen h.files _, hR.row, hR.byte, hR.le, hR.top, fun g hg => .inr (.inr (.inl ⟨i, r, hr, hg⟩)), by rw [hn]; exact h.n8, ?_⟩
  intro w1 v' b' hc hm ho hb hle htop
  have hC : Chg (fun k => k = fb ∨ r.1.ownBlock = some k) w (w1.setCell ⟨fb, i * 2, none⟩ v') := (hc.mono (fun _ _ h => .inr h)).trans (Chg.set ⟨fb, i * 2, none⟩ v' w1) (fun _ _ h => .inl h)
  have hpn : r.1.ownBlock ≠ some p := fun e => ht.2.1 (h.tgp.one (h.tgr i r hr _ e))
  have hfn : r.1.ownBlock ≠ some fb := fun e => ht.2.2.2.1 (h.tgf.one (h.tgr i r hr _ e))
  have hf1 : w1.ownsRow 0 ft 2 (.slice (some ⟨fb, 0, none⟩) rs.length fc) rs.length (fcells rs) := hc.owns h.files (fun g hg e => hfn (by have e2 : fb = g := Option.some.inj hg; rw [e2]; exact e))
  have hil := (List.getElem?_eq_some_iff.1 hr).1
  have hv'fb : v'.ownBlock ≠ some fb := by
    intro e
    rcases hm with e2 | ⟨g, e2, hg⟩
    · exact hfn (by rw [← e2]; exact e)
    · rw [e] at e2
      have := (h.files.lt fb rfl).2
      have e3 : fb = g := Option.some.inj e2
      omega
  refine ⟨by rw [hn]; exact (hc.blk h.blk hpn).cell 0, owns_cell hf1 _ _ (fcells_row rs i r hr), owns_frozen hf1 _, _, ⟨fb, fc, rs.set i (v', ⟨b', r.2.n⟩), set, ops, kv, kl, h.file ht i r _ hr hC ?_ ⟨?_, hb, hle, htop⟩ hm, ?_, ?_, rfl⟩, hC.mono ?_, FPd_file hr hm⟩
  · rw [fcells_set_row rs i r hr]
    exact owns_setv hf1 (i * 2) v' (by rw [fcells_length]; omega)
  · refine (Chg.set ⟨fb, i * 2, none⟩ v' w1).owns ho (fun g hg e => hv'fb ?_)
    rw [hg]
    exact congrArg some e
  · simp [hL, List.map_set]
  · simpa using hfu
  · rintro k _ (rfl | e)
    · exact .inr (.inl rfl)
    · exact .inr (.inr (.inl ⟨i, r, hr, e⟩))

set_option maxHeartbeats 2000000 in
theorem appendP (p : Nat) (F : Nat → Prop) (S : St) (w : World) (f : Int) (ad : Option Addr) (m c : Nat) (l : List Int) (h : Dk 80 82 w p F S) (hf : S.falls ≤ 1099511627776) (hS : Sl w ad m l) (hnone : ad = none → m = 0 ∧ c = 0) (hm : m ≤ 70368744177664) :
    Calls Try.prog 12 #[.pointer (some ⟨p, 0, none⟩), .int .i64 f, .slice ad m c] w fun e w' => e = .returned (.int .i64 (S.append f l).1) ∧ Dks 80 82 w w' p F (S.append f l).2 := by
  have hh := hidden (refusalP p F S w f h)
  obtain ⟨er, her⟩ : ∃ er, S.refuse f = er := ⟨_, rfl⟩
  obtain ⟨q, hq⟩ : ∃ q, S.append f l = q := ⟨_, rfl⟩
  rw [hq]
  unfold St.append at hq
  rw [her] at hq hh
  have HDk := hidden h
  have HSl := hidden hS
  have HNO := hidden hnone
  clear hnone
  by_cases h0 : er = 0
  · subst h0
    obtain ⟨hon, hf0, hf1⟩ := refuse_no her
    obtain ⟨i, rfl⟩ : ∃ i : Nat, f = (i : Int) := ⟨f.toNat, by omega⟩
    have hi : i < S.L.length := by omega
    obtain ⟨x, hx⟩ : ∃ x, S.L[i]? = some x := ⟨_, List.getElem?_eq_getElem hi⟩
    obtain ⟨fb, fc, v, c0, c1, f1, hown, hby, hle, htop, hFv, h8, hgo⟩ := h.grown ty80 i x hx
    rw [if_neg (by simp), Int.toNat_natCast, hx] at hq
    simp only at hq
    obtain ⟨N, hN⟩ : ∃ N, S.L.length = N := ⟨_, rfl⟩
    rw [hN] at c0 h8 hi hgo
    obtain ⟨av, cv, rfl⟩ := owns_form hown
    obtain ⟨n, hn⟩ : ∃ n, x.b.length = n := ⟨_, rfl⟩
    have HG := hidden hgo
    have HO := hidden hown
    have HBY := hidden hby
    have HN := hidden hn
    rw [hn] at c1 htop hle hq
    have hml := hS.len
    rw [hml] at hq
    clear h hgo hown hby hN hn hf0 hf1 her hon hS hFv hml
    by_cases hfull : 16777216 < n + m
    · rw [if_pos hfull] at hq
      subst hq
      have hfi : (16777216 : Int) - (n : Int) < (m : Int) := by omega
      go_enter Try.func12, Try.ntmps12
      go_wp2_with fail
      refine hh.out.mono ?_
      rintro e w' ⟨rfl, rfl⟩
      go_wp2_with fail
      go_ret
      exact ⟨rfl, _, HDk.out, Chg.refl _ _, New.refl _ _⟩
    · rw [if_neg hfull] at hq
      have HQ := hidden hq
      clear hq
      have hfi : (m : Int) ≤ (16777216 : Int) - (n : Int) := by omega
      obtain ⟨i0, hi0, hz0, hz1, hz2⟩ := info_parts info5
      go_enter Try.func12, Try.ntmps12
      go_wp2_with fail
      refine hh.out.mono ?_
      rintro e w' ⟨rfl, rfl⟩
      go_wp2_with fail
      go_region_law (refine step_appends _ (by rfl) (.tmp 34) (.tmp 35) 27 (by rfl) 5 i0 (.int .u8 0) Try.underlying27 hi0 hz0 hz1 hz2 (by rfl) (.slice av n cv) n x.b (by rfl) (by exact HN.out ▸ (Chg.drew (fun _ => False) w').owns HO.out (fun _ _ h => h)) ad m c l (by rfl) (by exact (Chg.drew (fun _ => False) w').sl HSl.out (fun _ _ _ h => h)) HNO.out (by omega) ?_; intro v6 w6 ho6 hc6 hm6; obtain ⟨a6, c6, rfl⟩ := owns_form ho6; obtain ⟨e0, e1, e2, e3⟩ := HG.out w6 _ (x.b ++ l) ((Chg.drew _ w').trans hc6 (fun _ _ h => by rw [HN.out]; exact h)) (by rw [HN.out]; exact hm6) (by rw [List.length_append, HN.out, HSl.out.len]; exact ho6) (HBY.out.append HSl.out.byte) (by rw [List.length_append, HN.out]; omega) (by rw [List.length_append, HN.out, HSl.out.len]; omega); rw [HN.out] at e1; have HE3 := hidden e3; clear e3 ho6 hc6 hm6)
      all_goals
        go_wp2_with fail
        obtain ⟨F2, k1, k2, k3⟩ := HE3.out
        refine (opP p F2 _ _ k1 hf).mono ?_
        rintro e w7 ⟨rfl, hd7⟩
        have HD7 := hidden hd7
        have HQ2 := hidden (HQ.out)
        clear hd7
        obtain ⟨er2, her2⟩ : ∃ er2, ({ S with L := S.L.set i ⟨x.b ++ l, x.n⟩ } : St).op.1 = er2 := ⟨_, rfl⟩
        rw [her2]
        have HER := hidden her2
        clear her2
        go_wp2_with fail
        go_ret
        rw [← HQ.out, HER.out]
        exact ⟨rfl, Dks.trans k2 k3 HD7.out⟩
  · rw [if_pos h0] at hq
    subst hq
    go_enter Try.func12, Try.ntmps12
    go_wp2_with fail
    refine hh.out.mono ?_
    rintro e w' ⟨rfl, rfl⟩
    go_wp2_with fail
    go_ret
    exact ⟨rfl, _, HDk.out, Chg.refl _ _, New.refl _ _⟩

end Go.Proofs.Ytgmcfejmhlglkaa
