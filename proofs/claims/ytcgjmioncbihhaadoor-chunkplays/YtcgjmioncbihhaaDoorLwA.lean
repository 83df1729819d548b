/-
  The statements' own same, first.
-/
import Derived.Test.YtcgjmioncbihhaaDoorChV
import Derived.BigQuiet
import Derived.Laws.StructEq
namespace Go.Proofs.YtcgjmioncbihhaaDoor
open Go.RowKit
set_option linter.unusedVariables false
set_option linter.unusedSimpArgs false

theorem Ss.chg0 {w w' : World} {ad : Option Addr} {l : List Sm} (h : Ss w ad l) (hc : Chg (fun _ => False) w w') : Ss w' ad l := by
  refine ⟨h.sz, fun h0 => ?_⟩
  obtain ⟨b, off, e, hlt, hcc⟩ := h.at' h0
  refine ⟨b, off, e, Nat.lt_of_lt_of_le hlt hc.size, fun i x hx => ?_⟩
  obtain ⟨k1, k2⟩ := hcc i x hx
  have hb := hc.block b hlt (fun e => e)
  exact ⟨by rw [World.cell?_of_block (w := w) (a := ⟨b, _, none⟩) hb]; exact k1, by rw [World.cell?_of_block (w := w) (a := ⟨b, _, none⟩) hb]; exact k2⟩

set_option maxRecDepth 100000 in
set_option maxHeartbeats 8000000 in
theorem sameP (w : World) (a1 a2 : Option Addr) (c1 c2 : Nat) (l : List Sm) (h1 : Ss w a1 l) (h2 : Ss w a2 l) (hl : l.length ≤ 1000000000) :
    Calls Tryd.prog 16 #[.slice a1 l.length c1, .slice a2 l.length c2] w fun e w' => e = .returned (.bool true) ∧ Chg (fun _ => False) w w' := by
  have H1 := hidden h1
  have H2 := hidden h2
  obtain ⟨n, hn⟩ : ∃ n, l.length = n := ⟨_, rfl⟩
  rw [hn] at hl
  rw [hn]
  have HN := hidden hn
  clear h1 h2 hn
  go_enter Tryd.func16, Tryd.ntmps16
  go_wp2_with fail
  generalize hnn : ((n : Int) != (n : Int)) = bb at *
  go_loopw [5] (fun s5 wr => ∃ i : Nat, s5 = .int .i64 (i : Int) ∧ i ≤ n ∧ Hid (Chg (fun _ => False) w wr)) (fun s5 _ => n - (intOf s5).toNat)
  case atStart => exact ⟨0, rfl, by omega, hidden (Chg.refl _ _)⟩
  case round =>
    rename World => wr
    obtain ⟨i, rfl, hi, hC⟩ := hrel
    by_cases hlt : i < n
    · have hltz : (i : Int) < (n : Int) := by omega
      obtain ⟨b1, o1, x1, e1, hb1, hx1, _, k1, k2, _⟩ := (H1.out.chg0 hC.out).get (i := i) (by rw [HN.out]; exact hlt)
      obtain ⟨b2, o2, x2, e2, hb2, hx2, _, k3, k4, _⟩ := (H2.out.chg0 hC.out).get (i := i) (by rw [HN.out]; exact hlt)
      have hxx : x1 = x2 := by rw [hx1] at hx2; exact Option.some.inj hx2
      subst hxx e1 e2
      clear hx1 hx2
      go_wp2_with fail
      go_quiet (fail)
      go_wp2
      refine ⟨⟨i + 1, by rw [Int.natCast_add]; rfl, by omega, hidden (hC.out.trans (Chg.drewN (fun _ => False) wr nq) (fun _ _ e => e))⟩, ?_⟩
      simp [intOf]
      omega
    · have hltz : ¬ (i : Int) < (n : Int) := by omega
      go_wp2
      go_ret
      exact ⟨rfl, hC.out⟩


set_option maxRecDepth 100000 in
set_option maxHeartbeats 4000000 in
theorem firstBP (w : World) (ad : Option Addr) (n cap : Nat) (hl : n ≤ 9223372036854775807) (hlc : n ≤ cap) (hcm : cap ≤ 9223372036854775807) (hno : ad = none → n = 0 ∧ cap = 0) :
    Calls Tryd.prog 13 #[.slice ad n cap] w fun e w' => e = .returned (.slice ad (min n 100000) cap) ∧ w' = w := by
  cases ad with
  | none =>
    obtain ⟨rfl, rfl⟩ := hno rfl
    go_enter Tryd.func13, Tryd.ntmps13
    go_wp2
    go_ret
    exact ⟨rfl, rfl⟩
  | some x =>
    clear hno
    by_cases h : n ≤ 100000
    · have e : min n 100000 = n := by omega
      rw [e]
      have hz : min (n : Int) 100000 = (n : Int) := by omega
      go_enter Tryd.func13, Tryd.ntmps13
      go_wp2
      go_ret
      exact ⟨rfl, rfl⟩
    · have e : min n 100000 = 100000 := by omega
      rw [e]
      have hz : min (n : Int) 100000 = 100000 := by omega
      go_enter Tryd.func13, Tryd.ntmps13
      go_wp2
      go_ret
      exact ⟨rfl, rfl⟩

end Go.Proofs.YtcgjmioncbihhaaDoor
