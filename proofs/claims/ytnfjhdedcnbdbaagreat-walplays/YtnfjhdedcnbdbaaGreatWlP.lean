/-
  put: a frame that lasts.
-/
import Derived.Test.YtnfjhdedcnbdbaaGreatWlE
namespace Go.Proofs.YtnfjhdedcnbdbaaGreat
open Go.RowKit
set_option linter.unusedVariables false
set_option linter.unusedSimpArgs false

theorem owns_addr {w : World} {base : Nat} {e : TypeId} {ad : Option Addr} {n c : Nat} {xs : List Value} (h : w.ownsRow base e 1 (.slice ad n c) n xs) (hp : 0 < n) : ∃ g, ad = some ⟨g, 0, none⟩ := by
  rcases h.2 with ⟨_, h0⟩ | ⟨g, c', cur, hv, _⟩
  · omega
  · simp only [Value.slice.injEq] at hv
    exact ⟨g, hv.1⟩
set_option maxRecDepth 100000 in
set_option maxHeartbeats 400000 in
theorem putP (p : Nat) (F : Nat → Prop) (S : St) (w : World) (f k : Int) (ad : Option Addr) (n c : Nat) (l : List Int) (h : Dk 64 79 w p F S) (hf : S.falls ≤ 1099511627776) (hS : Sl w ad n l) (hno : ad = none → n = 0 ∧ c = 0) (hn : n ≤ 4194304) (hk : 0 ≤ k ∧ k ≤ 255) :
    Calls Tryz.prog 44 #[.pointer (some ⟨p, 0, none⟩), .int .i64 f, .int .u8 k, .slice ad n c] w fun e w' => e = .returned (.int .i64 (S.put f k l).1) ∧ Dks 64 79 w w' p F (S.put f k l).2 := by
  have HP := hidden (put_any none 0 0 [] k ad n c l w (Sl.nil _ _) hk hS hno (by omega) hn)
  have H := hidden h
  have HB := hidden (made_byte hk hS.byte)
  have HF := hidden hf
  have HLEN := hidden hS.len
  clear hS hno h
  have hq : Hid (S.put f k l = if (S.append f (made k l)).1 ≠ 0 then S.append f (made k l) else (S.append f (made k l)).2.sync f) := rfl
  obtain ⟨q, hqq⟩ : ∃ q, S.put f k l = q := ⟨_, rfl⟩
  rw [hqq] at hq ⊢
  clear hqq
  go_enter Tryz.func44, Tryz.ntmps44
  go_wp2_with fail
  refine HP.out.mono ?_
  rintro e w1 ⟨ag, c1, rfl, hb1⟩
  rw [List.nil_append, Nat.zero_add] at hb1
  rw [Nat.zero_add]
  obtain ⟨m, hm⟩ : ∃ m, n + 9 = m := ⟨_, rfl⟩
  rw [hm] at hb1 ⊢
  have HM := hidden hm
  clear hm
  have HB1 := hidden hb1
  clear hb1
  go_wp2_with fail
  have hd1 := H.out.lat HB1.out.bel
  refine (appendP p F S w1 f ag m c1 (made k l) hd1 HF.out (HB1.out.sl HB.out) (fun e => by
    obtain ⟨g, hg⟩ := owns_addr HB1.out.row (by have := HM.out; omega)
    rw [hg] at e; cases e) (by have := HM.out; omega)).mono ?_
  rintro e w2 ⟨rfl, hD2⟩
  have HD2 := hidden (Dks.lat HB1.out.bel hD2)
  clear hD2 hd1
  have HOK : Hid ((S.append f (made k l)).1 = 0 → (S.append f (made k l)).2.falls = S.falls) := append_ok
  generalize S.append f (made k l) = r at *
  obtain ⟨er, S2⟩ := r
  dsimp only at hq HOK HD2 ⊢
  by_cases h0 : er = 0
  · subst h0
    rw [if_neg (by simp)] at hq
    go_wp2_with fail
    obtain ⟨F2, k1, k2, k3⟩ := HD2.out
    refine (syncP p F2 S2 w2 f k1 (by rw [HOK.out (by first | rfl | trivial)]; exact HF.out)).mono ?_
    rintro e w3 ⟨rfl, hD3⟩
    have HD3 := hidden (Dks.trans k2 k3 hD3)
    clear hD3 k1 k2 k3
    go_wp2_with fail
    go_ret
    rw [hq.out]
    exact ⟨rfl, HD3.out⟩
  · rw [if_pos h0] at hq
    go_wp2_with fail
    go_ret
    rw [hq.out]
    exact ⟨rfl, HD2.out⟩

end Go.Proofs.YtnfjhdedcnbdbaaGreat
