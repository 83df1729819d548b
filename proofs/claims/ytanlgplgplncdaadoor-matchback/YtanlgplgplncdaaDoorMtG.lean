/-
  slices.Grow, slices.Concat of rules; And.
-/
import Derived.Test.YtanlgplgplncdaaDoorMtE
import Derived.Lib.AppendZerosOnto
namespace Go.Proofs.YtanlgplgplncdaaDoor
open Go.RowKit
set_option linter.unusedVariables false
set_option linter.unusedSimpArgs false

theorem zeroC_size (z : Array Value) (k : Nat) (hz : z.size = 4) : (Builtin.zeroCells z k).size = k * 4 := by
  simp [Builtin.zeroCells, hz]
theorem grow_run (w : World) (k : Nat) (h0 : 0 < k) (hk : k ≤ 2000) (ty : TypeId) : ∃ c w', (Builtin.append_ #[51, 3] ty #[.slice none 0 0, .int .i64 (k : Int)]).run Tryd.prog w = .ok (.slice (some ⟨w.heap.size, 0, none⟩) k c) w' ∧ k ≤ c ∧ c ≤ maxLen ∧ w'.ownsRow w.heap.size 56 4 (.slice (some ⟨w.heap.size, 0, none⟩) 0 c) 0 [] ∧ Below w.heap.size w w' := by
  obtain ⟨i0, hi0, hz0, hz1, hz2⟩ := info_parts info56
  have hn : Builtin.nextslicecap (0 + k) 0 = k := by unfold Builtin.nextslicecap; rw [if_pos (by omega)]; omega
  have h := Lib.run_append_grow_zeros (P := Tryd.prog) w 51 3 ty 56 i0 _ .i64 .i64 Tryd.underlying51 Tryd.underlying3 hi0 hz0 none 0 0 [] (by rfl) k h0 (by omega) (by omega) (by omega) (by rw [hz2]; omega) (by rw [hn, hz2]; omega)
  rw [Nat.zero_add] at h
  have hge := grownCap_ge w k 0 56
  have hle := grownCap_le_maxLen w k 0 56 (by unfold maxLen; omega)
  have hcs : (([] : List Value).toArray ++ Builtin.zeroCells (Value.agg #[.string ⟨#[]⟩, .int .i64 0, .string ⟨#[]⟩, .nilFunc]).cells k ++ Builtin.zeroCells (Value.agg #[.string ⟨#[]⟩, .int .i64 0, .string ⟨#[]⟩, .nilFunc]).cells (grownCap w k 0 56 - k)).size = grownCap w k 0 56 * 4 := by
    rw [Array.size_append, Array.size_append, zeroC_size _ _ (by rfl), zeroC_size _ _ (by rfl)]
    simp
    omega
  generalize (([] : List Value).toArray ++ Builtin.zeroCells (Value.agg #[.string ⟨#[]⟩, .int .i64 0, .string ⟨#[]⟩, .nilFunc]).cells k ++ Builtin.zeroCells (Value.agg #[.string ⟨#[]⟩, .int .i64 0, .string ⟨#[]⟩, .nilFunc]).cells (grownCap w k 0 56 - k)) = cur at h hcs
  refine ⟨grownCap w k 0 56, w.drew.alloc (.cells cur 56), h, hge, hle, ⟨by simp, .inr ⟨w.heap.size, grownCap w k 0 56, cur, rfl, Nat.le_refl _, heap_alloc_new w.drew _, Nat.zero_le _, hle, hcs, by simp⟩⟩, ?_⟩
  exact ((Below.refl w.heap.size w).drew).alloc (Nat.le_refl _) _

theorem wpList_zeros (w : World) {ops : Array Oper} {rest : List Oper} {o : Oper} {a : Act} {Q : Exit → Act → World → Prop} (hgd : o.guard = none) (s x : Operand)
    (ho : o.op = .call { callee := .builtin .append, args := #[s, x], argTypes := #[51, 3] }) (k : Nat) (hs : a.eval s = .slice none 0 0) (hx : a.eval x = .int .i64 (k : Int)) (h0 : 0 < k) (hk : k ≤ 2000)
    (h : ∀ c w', k ≤ c → c ≤ 9223372036854775807 → w'.ownsRow w.heap.size 56 4 (.slice (some ⟨w.heap.size, 0, none⟩) 0 c) 0 [] → Below w.heap.size w w' → wpList Tryd.prog ops Q rest (a.put o.dst (.slice (some ⟨w.heap.size, 0, none⟩) k c)) w') : wpList Tryd.prog ops Q (o :: rest) a w := by
  refine wpList_plain hgd fun K hK => ?_
  obtain ⟨c, w2, hr, h1, h2, h3, h4⟩ := grow_run w k h0 hk o.type
  unfold maxLen at h2
  unfold Oper.wp
  simp [execOp, ho, resolve, invoke, builtin, hs, hx, hr, Result.andThen]
  exact hK _ _ (h c w2 h1 h2 h3 h4)

set_option maxRecDepth 100000 in
set_option maxHeartbeats 2000000 in
theorem growP (k : Nat) (w : World) (hk : k ≤ 2000) : Calls Tryd.prog 24 #[.slice none 0 0, .int .i64 (k : Int)] w fun e w' => ∃ v, e = .returned v ∧ w'.ownsRow w.heap.size 56 4 v 0 [] ∧ Below w.heap.size w w' := by
  by_cases h0 : k = 0
  · subst h0
    rw [show ((0 : Nat) : Int) = 0 from rfl]
    go_enter Tryd.func24, Tryd.ntmps24
    go_wp2
    go_ret
    exact ⟨_, rfl, World.ownsRow_nil _ _ _ _, Below.refl _ _⟩
  · have hkz : ¬ (k : Int) < 0 := by omega
    have hkz2 : 0 < (k : Int) := by omega
    have h0' : 0 < k := by omega
    go_enter Tryd.func24, Tryd.ntmps24
    go_wp2_with (refine wpList_zeros _ rfl (.tmp 20) (.tmp 21) rfl k rfl rfl h0' hk ?_
                 intro c w2 h1 h2 h3 h4
                 have H3 := hidden h3
                 have H4 := hidden h4
                 clear h3 h4)
    go_ret
    exact ⟨_, rfl, H3.out, H4.out⟩

/-- Rules as they lie. -/
def RuL (w : World) (ad : Option Addr) (R : List (Mt × Value)) : Prop := (∀ p ∈ R, p.2.oneCell' = true) ∧ (ad = none → R = []) ∧ ∀ x, ad = some x → x.block < w.heap.size ∧ x.spot = none ∧ ∀ j u, (cR R)[j]? = some u → w.cell? (x.add j) = some u
theorem RuL.later {w w' : World} {ad : Option Addr} {R : List (Mt × Value)} (h : RuL w ad R) (hb : Below w.heap.size w w') : RuL w' ad R :=
  ⟨h.1, h.2.1, fun x hx => ⟨Nat.lt_of_lt_of_le (h.2.2 x hx).1 hb.size, (h.2.2 x hx).2.1, fun j u hu => by
    have hc := (h.2.2 x hx).2.2 j u hu
    have hs := (h.2.2 x hx).2.1
    obtain ⟨b, off, sp⟩ := x
    simp only at hs
    subst hs
    rw [Addr.add_lit] at hc ⊢
    rw [hb.cell (p := ⟨b, off + j, none⟩) (h.2.2 _ hx).1]
    exact hc⟩⟩
theorem one_cR {R : List (Mt × Value)} (h : ∀ p ∈ R, p.2.oneCell' = true) : ∀ u ∈ cR R, u.oneCell' = true := by
  intro u hu
  obtain ⟨p, hp, hx⟩ := List.mem_flatMap.1 hu
  exact one_ruC (h p hp) u hx
theorem wpList_appR (w : World) {ops : Array Oper} {rest : List Oper} {o : Oper} {a : Act} {Q : Exit → Act → World → Prop} (hgd : o.guard = none) (s x : Operand)
    (ho : o.op = .call { callee := .builtin .append, args := #[s, x], argTypes := #[51, 51] }) (base : Nat) (v : Value) (n : Nat) (A : List (Mt × Value)) (hs : a.eval s = v) (hown : w.ownsRow base 56 4 v n (cR A))
    (ad : Option Addr) (m c : Nat) (R : List (Mt × Value)) (hx : a.eval x = .slice ad m c) (hL : RuL w ad R) (hm : R.length = m) (hc : ad = none → c = 0) (hb : n + m ≤ 1000000) (hbase : base ≤ w.heap.size)
    (h : ∀ v' w', w'.ownsRow base 56 4 v' (n + m) (cR (A ++ R)) → Below base w w' → wpList Tryd.prog ops Q rest (a.put o.dst v') w') : wpList Tryd.prog ops Q (o :: rest) a w := by
  obtain ⟨i0, hi0, hz0, hz1, hz2⟩ := info_parts info56
  cases ad with
  | none =>
    obtain rfl := hL.2.1 rfl
    obtain rfl := hc rfl
    obtain rfl : m = 0 := hm.symm
    refine wpList_append_own_none hgd s x 51 ho base 56 i0 4 Tryd.underlying51 hi0 v n _ hs hown hx ?_
    exact h v w (by simpa using hown) (Below.refl _ _)
  | some ad =>
    refine wpList_append_own w hgd s x 51 ho base 56 i0 _ 4 48 Tryd.underlying51 hi0 hz0 hz1 hz2 rfl (by decide) v n (cR A) hs hown ad m c (cR R) hx (by rw [cR_length, hm]) (hL.2.2 ad rfl).2.2 (one_cR hL.1) (by unfold maxLen; omega) (by omega) hbase ?_
    intro v' w' h1 h2 h3
    exact h v' w' (by rw [cR_append]; exact h1) ((Below.refl _ _).grown h2 hbase (fun k hk => (hown.lt k hk).1))

def smL (nn : Nat → Nat) : Nat → Nat
  | 0 => 0
  | i + 1 => smL nn i + nn i
def ctL (RR : Nat → List (Mt × Value)) : Nat → List (Mt × Value)
  | 0 => []
  | i + 1 => ctL RR i ++ RR i

set_option maxRecDepth 100000 in
set_option maxHeartbeats 4000000 in
theorem concatP (g c : Nat) (ad : Nat → Option Addr) (nn cc : Nat → Nat) (RR : Nat → List (Mt × Value)) (w : World) (hc : ∀ i, i < 2 → w.cell? ⟨g, i, none⟩ = some (.slice (ad i) (nn i) (cc i))) (hg : g < w.heap.size) (hR : ∀ i, i < 2 → RuL w (ad i) (RR i) ∧ (RR i).length = nn i ∧ nn i ≤ 1000 ∧ (ad i = none → cc i = 0)) :
    Calls Tryd.prog 16 #[.slice (some ⟨g, 0, none⟩) 2 c] w fun e w' => ∃ v, e = .returned v ∧ w'.ownsRow w.heap.size 56 4 v (nn 0 + nn 1) (cR (RR 0 ++ RR 1)) ∧ Below w.heap.size w w' := by
  have HC := hidden hc
  have HR := hidden hR
  have hn0 := (hR 0 (by omega)).2.2.1
  have hn1 := (hR 1 (by omega)).2.2.1
  have HSM : Hid (∀ i, i ≤ 2 → smL nn i ≤ 1000 * i) := hidden (fun i hi => by
    rcases (by omega : i = 0 ∨ i = 1 ∨ i = 2) with rfl | rfl | rfl <;> simp [smL] <;> omega)
  clear hc hR
  go_enter Tryd.func16, Tryd.ntmps16
  go_wp2_with fail
  go_loopw [3, 5, 11] (fun v3 v5 v11 wx => wx = w ∧ ∃ i : Nat, v11 = .int .i64 (i : Int) ∧ i ≤ 2 ∧ v3 = .int .i64 (smL nn i : Int)) (fun _ _ v11 _ => 2 - (intOf v11).toNat)
  case atStart => exact ⟨rfl, 0, rfl, by omega, rfl⟩
  case round =>
    rename World => wx
    obtain ⟨rfl, i, rfl, hi, rfl⟩ := hrel
    have hsm := HSM.out i hi
    by_cases hlt : i < 2
    · have hltz : (i : Int) < 2 := by omega
      have ci := HC.out i hlt
      have hni := (HR.out i hlt).2.2.1
      have HNX : Hid (smL nn (i + 1) = smL nn i + nn i) := hidden rfl
      generalize smL nn i = S at *
      generalize nn i = N at *
      generalize ad i = A at *
      generalize cc i = C at *
      have hz1 : ¬ (S : Int) + (N : Int) < 0 := by omega
      go_wp2_with fail
      exact ⟨⟨by first | rfl | trivial, i + 1, by rw [Int.natCast_add]; rfl, by omega, by rw [HNX.out, Int.natCast_add]⟩, by simp [intOf]; omega⟩
    · have hltz : ¬ (i : Int) < 2 := by omega
      obtain rfl : i = 2 := by omega
      have hs2 : smL nn 2 = nn 0 + nn 1 := by simp [smL]
      rw [hs2]
      obtain ⟨T, hT⟩ : ∃ T, nn 0 + nn 1 = T := ⟨_, rfl⟩
      have HTT := hidden hT
      have hTb : T ≤ 2000 := by omega
      rw [hT]
      clear hs2 hT hsm
      go_wp2_with fail
      refine (growP T _ hTb).mono ?_
      rintro e w2 ⟨v0, rfl, o2, b2⟩
      have O2 := hidden o2
      have B2 := hidden b2
      clear o2 b2
      go_wp2_with fail
      go_loopw [6, 8, 27] (fun v6 v8 v27 wy => ∃ i : Nat, v27 = .int .i64 (i : Int) ∧ i ≤ 2 ∧ Hid (wy.ownsRow wx.heap.size 56 4 v6 (smL nn i) (cR (ctL RR i))) ∧ Hid (Below wx.heap.size wx wy)) (fun _ _ v27 _ => 2 - (intOf v27).toNat)
      case atStart => exact ⟨0, rfl, by omega, O2, B2⟩
      case round =>
        rename World => wy
        obtain ⟨i, rfl, hi, hO, hB⟩ := hrel
        have hsm := HSM.out i hi
        by_cases hlt : i < 2
        · have hltz : (i : Int) < 2 := by omega
          have ci : wy.cell? ⟨g, i, none⟩ = some (.slice (ad i) (nn i) (cc i)) := by rw [hB.out.cell (p := ⟨g, i, none⟩) hg]; exact HC.out i hlt
          have hni := (HR.out i hlt).2.2.1
          have hbs := hB.out.size
          have hsum : smL nn i + nn i ≤ 1000000 := by omega
          rename_i u6 _ _
          go_wp2_with (refine wpList_appR _ rfl (.tmp 31) (.tmp 32) rfl wx.heap.size _ (smL nn i) (ctL RR i) rfl hO.out (ad i) (nn i) (cc i) (RR i) rfl ((HR.out i hlt).1.later hB.out) (HR.out i hlt).2.1 (HR.out i hlt).2.2.2 hsum hbs ?_
                       intro v9 w9 o9 b9
                       have O9 : Hid (w9.ownsRow wx.heap.size 56 4 v9 (smL nn (i + 1)) (cR (ctL RR (i + 1)))) := hidden o9
                       have B9 := hidden (hB.out.trans b9)
                       clear o9 b9)
          exact ⟨⟨i + 1, by rw [Int.natCast_add]; rfl, by omega, O9, B9⟩, by simp [intOf]; omega⟩
        · have hltz : ¬ (i : Int) < 2 := by omega
          obtain rfl : i = 2 := by omega
          have O3 : Hid (wy.ownsRow wx.heap.size 56 4 _ (nn 0 + nn 1) (cR (RR 0 ++ RR 1))) := hidden (by have := hO.out; simpa [smL, ctL] using this)
          go_wp2_with fail
          go_ret
          exact ⟨_, rfl, O3.out, hB.out⟩

end Go.Proofs.YtanlgplgplncdaaDoor
