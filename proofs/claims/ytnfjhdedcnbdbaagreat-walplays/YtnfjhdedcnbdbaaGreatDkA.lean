import Derived.Test.YtnfjhdedcnbdbaaGreatChecked
import Derived.Test.YtnfjhdedcnbdbaaGreatDsk
import Derived.Test.YtnfjhdedcnbdbaaGreatLent
import Derived.Deep.QuietTactic
import Derived.Deep.CutRange
import Derived.BigQuiet
import Derived.Handy
namespace Go.Proofs.YtnfjhdedcnbdbaaGreat
open Go.RowKit
set_option linter.unusedVariables false
set_option linter.unusedSimpArgs false

set_option maxRecDepth 100000 in
theorem aliveP (p : Nat) (F : Nat → Prop) (S : St) (w : World) (h : Dk 64 79 w p F S) : Calls Tryz.prog 71 #[.pointer (some ⟨p, 0, none⟩)] w fun e w' => e = .returned (.bool S.on) ∧ w' = w := by
  obtain ⟨fb, fc, set, ops, ka, kn, kc, c0, c1, c2, c3, c4, c5, h8, h1⟩ := h.head
  clear h
  go_enter Tryz.func71, Tryz.ntmps71
  go_wp2_with fail
  go_ret
  exact ⟨rfl, rfl⟩
set_option maxRecDepth 100000 in
theorem fallsP (p : Nat) (F : Nat → Prop) (S : St) (w : World) (h : Dk 64 79 w p F S) : Calls Tryz.prog 39 #[.pointer (some ⟨p, 0, none⟩)] w fun e w' => e = .returned (.int .i64 (S.falls : Int)) ∧ w' = w := by
  obtain ⟨fb, fc, set, ops, ka, kn, kc, c0, c1, c2, c3, c4, c5, h8, h1⟩ := h.head
  clear h
  go_enter Tryz.func39, Tryz.ntmps39
  go_wp2_with fail
  go_ret
  exact ⟨rfl, rfl⟩
set_option maxRecDepth 100000 in
theorem hasP (p : Nat) (F : Nat → Prop) (S : St) (w : World) (f : Int) (h : Dk 64 79 w p F S) (b : Bool) (hb : b = decide (0 ≤ f ∧ f < S.L.length)) : Calls Tryz.prog 48 #[.pointer (some ⟨p, 0, none⟩), .int .i64 f] w fun e w' => e = .returned (.bool b) ∧ w' = w := by
  obtain ⟨fb, fc, set, ops, ka, kn, kc, c0, c1, c2, c3, c4, c5, h8, h1⟩ := h.head
  clear h
  obtain ⟨n, hn⟩ : ∃ n, S.L.length = n := ⟨_, rfl⟩
  rw [hn] at c0 hb h8 h1
  clear hn
  by_cases h0 : 0 ≤ f
  · by_cases h2 : f < n
    · have hb2 : b = true := by rw [hb]; simp [h0, h2]
      subst hb2
      clear hb
      go_enter Tryz.func48, Tryz.ntmps48
      go_wp2_with fail
      go_ret
      exact ⟨rfl, rfl⟩
    · have hb2 : b = false := by rw [hb]; simp [h2]
      subst hb2
      clear hb
      have h2' : (n : Int) ≤ f := by omega
      go_enter Tryz.func48, Tryz.ntmps48
      go_wp2_with fail
      go_ret
      exact ⟨rfl, rfl⟩
  · have hb2 : b = false := by rw [hb]; simp [h0]
    subst hb2
    clear hb
    have h0' : f < 0 := by omega
    go_enter Tryz.func48, Tryz.ntmps48
    go_wp2_with fail
    go_ret
    exact ⟨rfl, rfl⟩
set_option maxRecDepth 100000 in
theorem refusalP (p : Nat) (F : Nat → Prop) (S : St) (w : World) (f : Int) (h : Dk 64 79 w p F S) : Calls Tryz.prog 63 #[.pointer (some ⟨p, 0, none⟩), .int .i64 f] w fun e w' => e = .returned (.int .i64 (S.refuse f)) ∧ w' = w := by
  have hh := hidden (fun b => hasP p F S w f h b)
  obtain ⟨fb, fc, set, ops, ka, kn, kc, c0, c1, c2, c3, c4, c5, h8, h1⟩ := h.head
  clear h
  have hx : Hid (S.refuse f = if S.on = false then 40 else if 0 ≤ f ∧ f < S.L.length then 0 else 1) := rfl
  obtain ⟨x, he⟩ : ∃ x, S.refuse f = x := ⟨_, rfl⟩
  rw [he] at hx ⊢
  clear he c0
  obtain ⟨on, ho⟩ : ∃ on, S.on = on := ⟨_, rfl⟩
  rw [ho] at c1 hx
  cases on with
  | false =>
    have h40 : x = 40 := hx.out
    subst h40
    go_enter Tryz.func63, Tryz.ntmps63
    go_wp2_with fail
    go_ret
    exact ⟨rfl, rfl⟩
  | true =>
    by_cases hf : 0 ≤ f ∧ f < S.L.length
    · have h40 : x = 0 := by rw [hx.out, if_neg (by decide), if_pos hf]
      subst h40
      go_enter Tryz.func63, Tryz.ntmps63
      go_wp2_with fail
      refine (hh.out true (decide_eq_true hf).symm).mono ?_
      rintro e w' ⟨rfl, rfl⟩
      go_wp2_with fail
      go_ret
      exact ⟨rfl, rfl⟩
    · have h40 : x = 1 := by rw [hx.out, if_neg (by decide), if_neg hf]
      subst h40
      go_enter Tryz.func63, Tryz.ntmps63
      go_wp2_with fail
      refine (hh.out false (decide_eq_false hf).symm).mono ?_
      rintro e w' ⟨rfl, rfl⟩
      go_wp2_with fail
      go_ret
      exact ⟨rfl, rfl⟩
set_option maxRecDepth 100000 in
theorem sizeP (p : Nat) (F : Nat → Prop) (S : St) (w : World) (f : Int) (h : Dk 64 79 w p F S) : Calls Tryz.prog 17 #[.pointer (some ⟨p, 0, none⟩), .int .i64 f] w fun e w' => e = .returned (.int .i64 (S.size f)) ∧ w' = w := by
  have hh := hidden (fun b => hasP p F S w f h b)
  obtain ⟨x, hx⟩ : ∃ x, S.size f = x := ⟨_, rfl⟩
  rw [hx]
  by_cases hf : 0 ≤ f ∧ f < S.L.length
  · obtain ⟨i, rfl⟩ : ∃ i : Nat, f = (i : Int) := ⟨f.toNat, by omega⟩
    have hi : i < S.L.length := by omega
    obtain ⟨fb, fc, ad, c, y, hy, c0, c1, c2, ho, hb, ht, hl, h8, hF⟩ := h.at i hi
    have hh2 := hidden (hh.out true (decide_eq_true hf).symm)
    unfold St.size at hx
    rw [if_pos hf, Int.toNat_natCast, hy] at hx
    simp only at hx
    subst hx
    clear h hh hf ho hb hl hF
    obtain ⟨n, hn⟩ : ∃ n, S.L.length = n := ⟨_, rfl⟩
    rw [hn] at c0 hi h8
    obtain ⟨m, hm⟩ : ∃ m, y.b.length = m := ⟨_, rfl⟩
    rw [hm] at c1 ht ⊢
    clear hn hm hy
    go_enter Tryz.func17, Tryz.ntmps17
    go_wp2_with fail
    refine hh2.out.mono ?_
    rintro e w' ⟨rfl, rfl⟩
    go_wp2_with fail
    go_ret
    exact ⟨rfl, rfl⟩
  · have hx2 : x = -1 := by rw [← hx]; exact if_neg hf
    subst hx2
    have hh2 := hidden (hh.out false (decide_eq_false hf).symm)
    clear hh hx h hf
    go_enter Tryz.func17, Tryz.ntmps17
    go_wp2_with fail
    refine hh2.out.mono ?_
    rintro e w' ⟨rfl, rfl⟩
    go_wp2_with fail
    go_ret
    exact ⟨rfl, rfl⟩
set_option maxRecDepth 100000 in
theorem lastsP (p : Nat) (F : Nat → Prop) (S : St) (w : World) (f : Int) (h : Dk 64 79 w p F S) : Calls Tryz.prog 67 #[.pointer (some ⟨p, 0, none⟩), .int .i64 f] w fun e w' => e = .returned (.int .i64 (S.lasts f)) ∧ w' = w := by
  have hh := hidden (fun b => hasP p F S w f h b)
  obtain ⟨x, hx⟩ : ∃ x, S.lasts f = x := ⟨_, rfl⟩
  rw [hx]
  by_cases hf : 0 ≤ f ∧ f < S.L.length
  · obtain ⟨i, rfl⟩ : ∃ i : Nat, f = (i : Int) := ⟨f.toNat, by omega⟩
    have hi : i < S.L.length := by omega
    obtain ⟨fb, fc, ad, c, y, hy, c0, c1, c2, ho, hb, ht, hl, h8, hF⟩ := h.at i hi
    have hh2 := hidden (hh.out true (decide_eq_true hf).symm)
    unfold St.lasts at hx
    rw [if_pos hf, Int.toNat_natCast, hy] at hx
    simp only at hx
    subst hx
    clear h hh hf ho hb hF
    obtain ⟨n, hn⟩ : ∃ n, S.L.length = n := ⟨_, rfl⟩
    rw [hn] at c0 hi h8
    obtain ⟨m, hm⟩ : ∃ m, y.b.length = m := ⟨_, rfl⟩
    rw [hm] at c1 ht hl
    clear hn hm hy
    go_enter Tryz.func67, Tryz.ntmps67
    go_wp2_with fail
    refine hh2.out.mono ?_
    rintro e w' ⟨rfl, rfl⟩
    go_wp2_with fail
    go_ret
    exact ⟨rfl, rfl⟩
  · have hx2 : x = -1 := by rw [← hx]; exact if_neg hf
    subst hx2
    have hh2 := hidden (hh.out false (decide_eq_false hf).symm)
    clear hh hx h hf
    go_enter Tryz.func67, Tryz.ntmps67
    go_wp2_with fail
    refine hh2.out.mono ?_
    rintro e w' ⟨rfl, rfl⟩
    go_wp2_with fail
    go_ret
    exact ⟨rfl, rfl⟩

end Go.Proofs.YtnfjhdedcnbdbaaGreat
