/-
  The document's Cmp.
-/
import Derived.Test.YtpdffdoogobhfaaDoorReD
namespace Go.Proofs.YtpdffdoogobhfaaDoor
open Go.RowKit
set_option linter.unusedVariables false
set_option linter.unusedSimpArgs false

theorem cmp_end {l m : List Lb} {i : Nat} (h1 : i ≤ l.length) (h2 : i ≤ m.length) (h : i = l.length ∨ i = m.length) : cmpL (l.drop i) (m.drop i) = if l.length < m.length then -1 else if m.length < l.length then 1 else 0 := by
  cases hl : l.drop i with
  | nil =>
    have e : l.length = i := by have := congrArg List.length hl; simp at this; omega
    cases hm : m.drop i with
    | nil =>
      have e2 : m.length = i := by have := congrArg List.length hm; simp at this; omega
      rw [cmpL, if_neg (by omega), if_neg (by omega)]
    | cons y t =>
      have e2 : i < m.length := by have := congrArg List.length hm; simp at this; omega
      rw [cmpL, if_pos (by omega)]
  | cons x s =>
    have e : i < l.length := by have := congrArg List.length hl; simp at this; omega
    have e2 : m.length = i := by omega
    have hm : m.drop i = [] := List.drop_of_length_le (by omega)
    rw [hm, cmpL, if_neg (by omega), if_pos (by omega)]

set_option maxRecDepth 100000 in
set_option maxHeartbeats 4000000 in
theorem rcmpP (ad bd : Option Addr) (c d : Nat) (l m : List Lb) (w : World) (hL : Ls w ad l) (hM : Ls w bd m) (hl : l.length ≤ 4611686018427387904) (hm : m.length ≤ 4611686018427387904) :
    Calls Tryd.prog 19 #[.slice ad l.length c, .slice bd m.length d] w fun e w' => e = .returned (.int .i64 (cmpL l m)) ∧ Below w.heap.size w w' := by
  obtain ⟨n, hn⟩ : ∃ n, l.length = n := ⟨_, rfl⟩
  obtain ⟨k, hk⟩ : ∃ k, m.length = k := ⟨_, rfl⟩
  rw [hn] at hl ⊢
  rw [hk] at hm ⊢
  obtain ⟨R, hR⟩ : ∃ R, cmpL l m = R := ⟨_, rfl⟩
  have HR := hidden hR
  have HL := hidden hL
  have HM := hidden hM
  have HN := hidden hn
  have HK := hidden hk
  rw [hR]
  clear hR hL hM hn hk
  go_enter Tryd.func19, Tryd.ntmps19
  go_wp2
  go_loopw [5] (fun s0 wx => ∃ i : Nat, s0 = .int .i64 (i : Int) ∧ i ≤ n ∧ i ≤ k ∧ Hid (cmpL (l.drop i) (m.drop i) = R) ∧ Hid (Below w.heap.size w wx)) (fun s0 _ => n - (intOf s0).toNat)
  case atStart => exact ⟨0, rfl, by omega, by omega, hidden (by simpa using HR.out), hidden (Below.refl _ _)⟩
  case round =>
    rename World => wr
    obtain ⟨i, rfl, hi, hik', hrel, hbel⟩ := hrel
    by_cases hin : i < n
    · have hinz : (i : Int) < (n : Int) := by omega
      by_cases hik : i < k
      · have hikz : (i : Int) < (k : Int) := by omega
        obtain ⟨b, off, x, rfl, hb, hx, hx', c0, c1, z0, z1⟩ := (HL.out.later hbel.out).get (i := i) (by rw [HN.out]; exact hin)
        obtain ⟨b', off', y, rfl, hb', hy, hy', d0, d1, y0, y1⟩ := (HM.out.later hbel.out).get (i := i) (by rw [HK.out]; exact hik)
        have hdx : Hid (l.drop i = x :: l.drop (i + 1)) := by rw [← hx']; exact List.drop_eq_getElem_cons _
        have hdy : Hid (m.drop i = y :: m.drop (i + 1)) := by rw [← hy']; exact List.drop_eq_getElem_cons _
        clear hx hx' hy hy' z0 z1 y0 y1
        have k1 := fun w => textsP x.n y.n w
        have k2 := fun w => textsP x.v y.v w
        have hst : Hid (R = if cmpS (bts x.n) (bts y.n) ≠ 0 then cmpS (bts x.n) (bts y.n) else if cmpS (bts x.v) (bts y.v) ≠ 0 then cmpS (bts x.v) (bts y.v) else cmpL (l.drop (i + 1)) (m.drop (i + 1))) := hidden (by rw [← hrel.out, hdx.out, hdy.out, cmpL])
        obtain ⟨o1, ho1⟩ : ∃ o, cmpS (bts x.n) (bts y.n) = o := ⟨_, rfl⟩
        obtain ⟨o2, ho2⟩ : ∃ o, cmpS (bts x.v) (bts y.v) = o := ⟨_, rfl⟩
        rw [ho1, ho2] at hst
        rw [ho1] at k1
        rw [ho2] at k2
        clear ho1 ho2 hrel hdx hdy
        by_cases h1 : o1 = 0
        · subst h1
          by_cases h2 : o2 = 0
          · subst h2
            have HC : Hid (cmpL (l.drop (i + 1)) (m.drop (i + 1)) = R) := hidden (by rw [hst.out]; simp)
            clear hst
            go_wp2
            go_quiet ((go_at_call 35; exact Calls.quiet_of_same (k1 _)))
            have c1n : (wr.drewN nq).cell? ⟨b, off + i * 2 + 1, none⟩ = some (.string x.v) := c1
            have d1n : (wr.drewN nq).cell? ⟨b', off' + i * 2 + 1, none⟩ = some (.string y.v) := d1
            have HBq := hidden (below_drewN hbel.out nq)
            clear k1
            generalize wr.drewN nq = wq at *
            go_wp2
            go_quiet ((go_at_call 35; exact Calls.quiet_of_same (k2 _)))
            go_wp2
            refine ⟨⟨i + 1, by first | rfl | simp, by omega, by omega, HC, hidden (below_drewN HBq.out _)⟩, ?_⟩
            simp [intOf]
            omega
          · have e2 : (o2 == 0) = false := by simpa using h2
            have HC : Hid (R = o2) := hidden (by rw [hst.out]; simp [h2])
            clear hst h2
            go_wp2
            go_quiet ((go_at_call 35; exact Calls.quiet_of_same (k1 _)))
            have c1n : (wr.drewN nq).cell? ⟨b, off + i * 2 + 1, none⟩ = some (.string x.v) := c1
            have d1n : (wr.drewN nq).cell? ⟨b', off' + i * 2 + 1, none⟩ = some (.string y.v) := d1
            have HBq := hidden (below_drewN hbel.out nq)
            clear k1
            generalize wr.drewN nq = wq at *
            go_wp2
            go_quiet ((go_at_call 35; exact Calls.quiet_of_same (k2 _)))
            go_wp2
            go_ret
            exact ⟨by rw [HC.out]; rfl, below_drewN HBq.out _⟩
        · have e1 : (o1 == 0) = false := by simpa using h1
          have HC : Hid (R = o1) := hidden (by rw [hst.out]; simp [h1])
          clear hst h1
          go_wp2
          go_quiet ((go_at_call 35; exact Calls.quiet_of_same (k1 _)))
          go_wp2
          go_ret
          exact ⟨by rw [HC.out]; rfl, below_drewN hbel.out _⟩
      · have hikz : ¬ (i : Int) < (k : Int) := by omega
        have HE := hidden (hrel.out.symm.trans (cmp_end (l := l) (m := m) (by rw [HN.out]; omega) (by rw [HK.out]; omega) (.inr (by rw [HK.out]; omega))))
        have f1 : ¬ (n : Int) < (k : Int) := by omega
        have f2 : (k : Int) < (n : Int) := by omega
        go_wp2
        go_ret
        exact ⟨by rw [HE.out, HN.out, HK.out, if_neg (by omega), if_pos (by omega)]; rfl, hbel.out⟩
    · have hinz : ¬ (i : Int) < (n : Int) := by omega
      have HE := hidden (hrel.out.symm.trans (cmp_end (l := l) (m := m) (by rw [HN.out]; omega) (by rw [HK.out]; omega) (.inl (by rw [HN.out]; omega))))
      by_cases hnk : n < k
      · have f1 : (n : Int) < (k : Int) := by omega
        go_wp2
        go_ret
        exact ⟨by rw [HE.out, HN.out, HK.out, if_pos (by omega)]; rfl, hbel.out⟩
      · have f1 : ¬ (n : Int) < (k : Int) := by omega
        have f2 : ¬ (k : Int) < (n : Int) := by omega
        go_wp2
        go_ret
        exact ⟨by rw [HE.out, HN.out, HK.out, if_neg (by omega), if_neg (by omega)]; rfl, hbel.out⟩

end Go.Proofs.YtpdffdoogobhfaaDoor
