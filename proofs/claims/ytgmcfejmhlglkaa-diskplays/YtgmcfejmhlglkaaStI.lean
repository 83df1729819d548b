/-
  A step of a pair, of whatever kind.
-/
import Derived.Test.YtgmcfejmhlglkaaStF
import Derived.Test.YtgmcfejmhlglkaaStH
namespace Go.Proofs.Ytgmcfejmhlglkaa
open Go.RowKit
set_option linter.unusedVariables false

theorem step_any (w : World) (m : PM) (t : It) (st : List It) (ks : List Kp) (Z : Nat → Prop) (B : Nat) (h : PS w m t st ks Z) (hB : Fb B t st) (hB2 : B + 2 ≤ 1099511627776) (kd dd f a n : Int) (ba : Option Addr) (bn bc : Nat) (ka : Option Addr) (kn kc : Nat)
    (ha : -9223372036854775808 ≤ a ∧ a ≤ 9223372036854775807) (hn : -9223372036854775808 ≤ n ∧ n ≤ 9223372036854775807) (hll : ks.length ≤ 1099511620000) (hsl : st.length ≤ 1099511627776)
    (bs : List Int) (hS : Sl w ba bn bs) (hnone : ba = none → bn = 0 ∧ bc = 0) (hbn : bn ≤ 2147483648) (hbo : ∀ x, ba = some x → 0 < bn → x.block < w.heap.size ∧ ¬ FPp m t st x.block)
    (kl : List Int) (hK : Sn w ka kn kl) (hkone : ka = none → kn = 0 ∧ kc = 0) (hkn : kn ≤ 2147483648) (hko : ∀ x, ka = some x → 0 < kn → x.block < w.heap.size ∧ ¬ FPp m t st x.block) :
    Calls Try.prog 7 #[.pointer (some ⟨m.pp, 0, none⟩), .agg #[.int .i64 kd, .int .i64 dd, .int .i64 f, .int .i64 a, .int .i64 n, .slice ba bn bc, .slice ka kn kc]] w fun e w' => e = .returned (.bool true) ∧ PX w w' m t st ks Z B := by
  have hB3 : B ≤ 1099511627776 := by omega
  by_cases h1 : kd < 1 ∨ 11 < kd
  · exact step_other w m t st ks Z B h hB hB3 dd f a n ba bn bc ka kn kc kd h1
  rcases (show kd = 1 ∨ kd = 2 ∨ kd = 3 ∨ kd = 4 ∨ kd = 5 ∨ kd = 6 ∨ kd = 7 ∨ kd = 8 ∨ kd = 9 ∨ kd = 10 ∨ kd = 11 by omega) with rfl | rfl | rfl | rfl | rfl | rfl | rfl | rfl | rfl | rfl | rfl
  · exact step_append w m t st ks Z B h hB hB3 dd f a n ba bn bc ka kn kc bs hS hnone hbn hbo
  · exact step_sync w m t st ks Z B h hB hB3 dd f a n ba bn bc ka kn kc
  · exact step_truncate w m t st ks Z B h hB hB3 dd f a n ba bn bc ka kn kc hn
  · exact step_read w m t st ks Z B h hB hB3 dd f a n ba bn bc ka kn kc ha hn hll
  · exact step_all w m t st ks Z B h hB hB3 dd f a n ba bn bc ka kn kc hll
  · exact step_fuse w m t st ks Z B h hB hB3 dd f a n ba bn bc ka kn kc kl hK hkone hkn hko hn
  · exact step_crash w m t st ks Z B h hB hB3 dd f a n ba bn bc ka kn kc kl hK hkone hkn hko
  · exact step_restart w m t st ks Z B h hB hB3 dd f a n ba bn bc ka kn kc
  · exact step_copy w m t st ks Z B h hB hB3 dd f a n ba bn bc ka kn kc hsl
  · exact step_back w m t st ks Z B h hB hB3 dd f a n ba bn bc ka kn kc hsl
  · exact step_same w m t st ks Z B h hB hB2 dd f a n ba bn bc ka kn kc bs hS hnone hbn hbo

end Go.Proofs.Ytgmcfejmhlglkaa
