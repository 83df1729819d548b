import Derived.Test.YtfhhcpcedfgceaaNumF
import Derived.Test.YtfhhcpcedfgceaaRowB
import Derived.Deep.QuietTactic
import Derived.BigQuiet
namespace Go.Proofs.Ytfhhcpcedfgceaa
open Go.RowKit
set_option linter.unusedVariables false

set_option maxRecDepth 100000 in
set_option maxHeartbeats 4000000 in
theorem looks_any (p gl cl gm cm T : Nat) (w : World) (h0 : w.cell? ⟨p, 0, none⟩ = some (.slice (some ⟨gl, 0, none⟩) T cl)) (h1 : w.cell? ⟨p, 1, none⟩ = some (.slice (some ⟨gm, 0, none⟩) T cm))
    (hq : ∀ q, q < T → ∃ A N C K, w.cell? ⟨gl, q, none⟩ = some (.slice A N C) ∧ w.cell? ⟨gm, q, none⟩ = some (.int .u8 K) ∧ Sl w A N (List.replicate N K) ∧ N ≤ 9223372036854775807) (hT : T ≤ 1000) :
    Calls Try.prog 16 #[.pointer (some ⟨p, 0, none⟩)] w fun e w' => e = .returned (.bool true) ∧ ∃ n, w' = w.drewN n := by
  have HQ := hidden hq
  clear hq
  go_enter Try.func16, Try.ntmps16
  go_wp2_with fail
  go_loopw [3] (fun iv wr => ∃ q n : Nat, q ≤ T ∧ iv = .int .i64 q ∧ wr = w.drewN n) (fun iv _ => T - (intOf iv).toNat)
  case atStart => exact ⟨0, 0, Nat.zero_le _, rfl, rfl⟩
  case round =>
    obtain ⟨q, n, hq, rfl, rfl⟩ := hrel
    by_cases hlt : q < T
    · obtain ⟨A, N, C, K, hlq, hmq, hsq, hNq⟩ := HQ.out q hlt
      have HS := hidden hsq
      clear hsq
      go_wp2_with fail
      go_loopw [4] (fun kv wr => ∃ k n : Nat, k ≤ N ∧ kv = .int .i64 k ∧ wr = w.drewN n) (fun kv _ => N - (intOf kv).toNat)
      case atStart => exact ⟨0, n, Nat.zero_le _, rfl, rfl⟩
      case round =>
        obtain ⟨k, n2, hk, rfl, rfl⟩ := hrel
        by_cases hkn : k < N
        · obtain ⟨b, off, hab, _, hc⟩ := HS.out.at (by omega)
          have hck : w.cell? ⟨b, off + k, none⟩ = some (.int .u8 K) := by
            rw [hc k hkn]
            simp [List.getD, hkn]
          clear hc
          subst hab
          have hki : (k : Int) < (N : Int) := by omega
          have hqi : (q : Int) < (T : Int) := by omega
          go_wp2_with fail
          go_quiet (fail)
          go_wp2
          exact ⟨⟨k + 1, n2 + nq, by omega, by go_num, rfl⟩, by simp [intOf]; omega⟩
        · go_wp2
          exact ⟨⟨q + 1, n2, by omega, by go_num, rfl⟩, by simp [intOf]; omega⟩
    · go_wp2
      go_ret
      exact ⟨rfl, n, rfl⟩

end Go.Proofs.Ytfhhcpcedfgceaa
