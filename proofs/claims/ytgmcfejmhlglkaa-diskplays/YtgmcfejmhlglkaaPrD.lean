/-
  All that may be asked.
-/
import Derived.Test.YtgmcfejmhlglkaaPrR
namespace Go.Proofs.Ytgmcfejmhlglkaa
open Go.RowKit
set_option linter.unusedVariables false
set_option linter.unusedSimpArgs false

theorem PSs.trans {a b c : World} {m m1 : PM} {t : It} {st : List It} {ks ks1 : List Kp} {Z Z1 : Nat → Prop} {d e : Nat} (hpp : m1.pp = m.pp) (hks : ks1.length ≤ ks.length + d) (hc : Chg (fun k => m.F k) a b) (hF : ∀ k, m1.F k → m.F k ∨ a.heap.size ≤ k) (hZ : ∀ k, Z k → Z1 k) (hZ1 : ∀ k, Z1 k → Z k ∨ a.heap.size ≤ k) (h : PSs b c m1 t st ks1 Z1 e) : PSs a c m t st ks Z (d + e) := by
  obtain ⟨m2, ks2, Z2, h1, h2, h3, h4, h5, h6, h7⟩ := h
  have hs := hc.size
  refine ⟨m2, ks2, Z2, h1.trans hpp, h2, by omega, hc.trans h4 (fun k hk e => ?_), fun k hk => ?_, fun k hk => h6 k (hZ k hk), fun k hk => ?_⟩
  · rcases hF k e with f | f
    · exact f
    · omega
  · rcases h5 k hk with f | f
    · exact hF k f
    · exact .inr (by omega)
  · rcases h7 k hk with f | f
    · exact hZ1 k f
    · exact .inr (by omega)
theorem PSs.refl {w : World} {m : PM} {t : It} {st : List It} {ks : List Kp} {Z : Nat → Prop} (h : PS w m t st ks Z) (d : Nat) : PSs w w m t st ks Z d := ⟨m, ks, Z, rfl, h, by omega, Chg.refl _ _, fun k hk => .inl hk, fun k hk => hk, fun k hk => .inl hk⟩
theorem PSs.later {w w1 w2 : World} {m : PM} {t : It} {st : List It} {ks : List Kp} {Z : Nat → Prop} {d : Nat} (h : PSs w w1 m t st ks Z d) (hb : Below w1.heap.size w1 w2) : PSs w w2 m t st ks Z d := by
  obtain ⟨m2, ks2, Z2, h1, h2, h3, h4, h5, h6, h7⟩ := h
  exact ⟨m2, ks2, Z2, h1, h2.later hb, h3, h4.trans (Chg.of_below (F := fun _ => False) hb) (fun _ _ h => h.elim), h5, h6, h7⟩

set_option maxRecDepth 10000 in
set_option maxHeartbeats 4000000 in
theorem all_any (w : World) (m : PM) (t : It) (st : List It) (ks : List Kp) (Z : Nat → Prop) (h : PS w m t st ks Z) (hll : ks.length ≤ 1099511620000) :
    Calls Try.prog 9 #[.pointer (some ⟨m.pp, 0, none⟩)] w fun e w' => e = .returned (.bool true) ∧ PSs w w' m t st ks Z 40 := by
  have HH := hidden h
  obtain ⟨fb, fc, set, ops, ka, kn, kc, _, _, _, _, _, _, h8, h1⟩ := h.1.it.b.head
  obtain ⟨n, hn⟩ : ∃ n, t.S.L.length = n := ⟨_, rfl⟩
  rw [hn] at h8 h1
  have HN := hidden hn
  clear h hn
  obtain ⟨pp, hpp⟩ : ∃ pp, m.pp = pp := ⟨_, rfl⟩
  have HPP := hidden hpp
  simp only [hpp]
  clear hpp
  go_enter Try.func9, Try.ntmps9
  go_wp2_with fail
  go_loopw [3] (fun fv wr => ∃ k : Nat, k ≤ n + 2 ∧ fv = .int .i64 ((k : Int) - 1) ∧ PSs w wr m t st ks Z (4 * k)) (fun fv _ => (n + 2 - (intOf fv + 1).toNat))
  case atStart => exact ⟨0, by omega, rfl, PSs.refl HH.out 0⟩
  case round =>
    rename World => wr
    obtain ⟨k, hk, rfl, m1, ks1, Z1, q1, q2, q3, q4, q5, q6, q7⟩ := hrel
    have Q1 := hidden q1
    have Q2 := hidden q2
    have Q3 := hidden q3
    have Q4 := hidden q4
    have Q5 := hidden q5
    have Q6 := hidden q6
    have Q7 := hidden q7
    have c0 := q2.1.blk.cell 0
    have c1 := q2.1.blk.cell 1
    simp only [List.getElem?_cons_succ, List.getElem?_cons_zero, q1, HPP.out] at c0 c1
    have C0 : Hid (∀ w1, Lat wr w1 → w1.cell? ⟨pp, 0, none⟩ = some (.pointer (some ⟨t.p, 0, none⟩))) := fun w1 hl => by have := (Q2.out.later hl).1.blk.cell 0; simp only [List.getElem?_cons_succ, List.getElem?_cons_zero, Q1.out, HPP.out] at this; exact this
    have C1 : Hid (∀ w1, Lat wr w1 → w1.cell? ⟨pp, 1, none⟩ = some (.pointer (some ⟨t.q, 0, none⟩))) := fun w1 hl => by have := (Q2.out.later hl).1.blk.cell 1; simp only [List.getElem?_cons_succ, List.getElem?_cons_zero, Q1.out, HPP.out] at this; exact this
    obtain ⟨fb1, fc1, _, _, _, _, _, e0, _, _, _, _, _, _, _⟩ := q2.1.it.b.head
    rw [HN.out] at e0
    clear q1 q2 q3 q4 q5 q6 q7
    obtain ⟨f, hf⟩ : ∃ f : Int, (k : Int) - 1 = f := ⟨_, rfl⟩
    have HF := hidden hf
    have hfk : f + 1 = (k : Int) := by omega
    rw [hf]
    by_cases hkn : k < n + 2
    · have hle : f ≤ (n : Int) := by omega
      clear hf
      go_wp2_with fail
      refine all_r4 pp t.p t.q f (t.S.size f) (t.S.lasts f) _ _ _ (by rfl) (by rfl) (by rfl) C0.out C1.out (fun w1 hl => sizeP t.p t.F1 t.S w1 f (Q2.out.later hl).1.it.a) (fun w1 hl => sizeR t.q t.F2 t.S w1 f (Q2.out.later hl).1.it.b) (fun w1 hl => lastsP t.p t.F1 t.S w1 f (Q2.out.later hl).1.it.a) (fun w1 hl => lastsR t.q t.F2 t.S w1 f (Q2.out.later hl).1.it.b) ?_
      intros
      rename World => w2
      rename Lat wr w2 => hL2
      have R2 := hidden (Q2.out.later hL2)
      have HL2 := hidden hL2
      have d1 := C1.out w2 hL2
      clear hL2 c0 c1 e0
      simp only [Act.put, List.setIfInBounds_toArray, List.set_cons_succ, List.set_cons_zero]
      go_wp2_with fail
      refine (sizeR t.q t.F2 t.S w2 f R2.out.1.it.b).mono ?_
      rintro e w' ⟨rfl, hw⟩
      obtain rfl := hw.symm
      clear hw
      have hsz : t.S.size f = -1 ∨ ∃ z : Nat, t.S.size f = (z : Int) ∧ z ≤ 16777216 := by
        by_cases hr : 0 ≤ f ∧ f < t.S.L.length
        · obtain ⟨fb, fc, ad, c, x, hx, _, _, _, _, _, ht, _, _, _⟩ := R2.out.1.it.b.at f.toNat (by omega)
          refine .inr ⟨x.b.length, ?_, ht⟩
          unfold St.size
          rw [if_pos hr, hx]
        · exact .inl (if_neg hr)
      have fin : ∀ z : Int, 0 ≤ z → z ≤ 16777216 → Calls Try.prog 30 #[.pointer (some ⟨pp, 0, none⟩), .int .i64 f, .int .i64 0, .int .i64 z] w2 fun e w' => e = .returned (.bool true) ∧ PSs w w' m t st ks Z (4 * (k + 1)) := by
        intro z hz0 hz1
        have := reads_any w2 m1 t st ks1 Z1 R2.out f 0 z (by omega) (by omega) (by have := Q3.out; omega)
        rw [Q1.out, HPP.out] at this
        refine this.mono ?_
        rintro e w' ⟨rfl, hP⟩
        have hs := HL2.out.size
        have hP2 : PSs wr w' m1 t st ks1 Z1 4 := PSs.trans (d := 0) rfl (Nat.le_refl _) (Chg.of_below HL2.out) (fun k hk => .inl hk) (fun k hk => hk) (fun k hk => .inl hk) hP
        have := PSs.trans (d := 4 * k) Q1.out Q3.out Q4.out Q5.out Q6.out Q7.out hP2
        exact ⟨rfl, this⟩
      have HFIN := hidden fin
      clear fin
      rcases hsz with hsz | ⟨z, hsz, hz⟩
      · rw [hsz]
        go_wp2_with fail
        refine (HFIN.out 0 (by decide) (by decide)).mono ?_
        rintro e w3 ⟨rfl, hP⟩
        have HP := hidden hP
        clear hP
        go_wp2_with fail
        refine ⟨⟨k + 1, by omega, ?_, HP.out⟩, ?_⟩
        · congr 1
          have := HF.out
          omega
        · simp [intOf]
          have := HF.out
          omega
      · rw [hsz]
        have hz0 : (0 : Int) ≤ (z : Int) := by omega
        go_wp2_with fail
        all_goals
          refine (HFIN.out (z : Int) (by omega) (by omega)).mono ?_
          rintro e w3 ⟨rfl, hP⟩
          have HP := hidden hP
          clear hP
          go_wp2_with fail
          refine ⟨⟨k + 1, by omega, ?_, HP.out⟩, ?_⟩
          · congr 1
            have := HF.out
            omega
          · simp [intOf]
            have := HF.out
            omega
    · have hgt : (n : Int) < f := by omega
      clear hf
      go_wp2_with fail
      refine all_r9 pp t.p t.q t.S.on (t.S.falls : Int) _ _ _ (by rfl) (by rfl) C0.out C1.out (fun w1 hl => aliveP t.p t.F1 t.S w1 (Q2.out.later hl).1.it.a) (fun w1 hl => aliveR t.q t.F2 t.S w1 (Q2.out.later hl).1.it.b) (fun w1 hl => fallsP t.p t.F1 t.S w1 (Q2.out.later hl).1.it.a) (fun w1 hl => fallsR t.q t.F2 t.S w1 (Q2.out.later hl).1.it.b) ?_
      intros
      rename World => w2
      rename Lat wr w2 => hL2
      have HL2 := hidden hL2
      clear hL2 c0 c1 e0
      simp only [Act.put, List.setIfInBounds_toArray, List.set_cons_succ, List.set_cons_zero]
      go_wp2_with fail
      go_ret
      refine ⟨rfl, ?_⟩
      have h0 : PSs w wr m t st ks Z (4 * k) := ⟨m1, ks1, Z1, Q1.out, Q2.out, Q3.out, Q4.out, Q5.out, Q6.out, Q7.out⟩
      obtain ⟨m2, ks2, Z2, r1, r2, r3, r4⟩ := h0.later HL2.out
      exact ⟨m2, ks2, Z2, r1, r2, by omega, r4⟩

end Go.Proofs.Ytgmcfejmhlglkaa
