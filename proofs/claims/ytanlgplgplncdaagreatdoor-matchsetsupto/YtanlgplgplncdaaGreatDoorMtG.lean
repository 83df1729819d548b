import Derived.Test.YtanlgplgplncdaaGreatDoorMrH
import Derived.Lib.AppendZerosOnto
/-
  slices.Grow, slices.Concat of rules; And.
-/
namespace Go.Proofs.YtanlgplgplncdaaGreatDoor
open Go.RowKit
set_option linter.unusedVariables false
set_option linter.unusedSimpArgs false

theorem zeroC_size (z : Array Value) (k : Nat) (hz : z.size = 4) : (Builtin.zeroCells z k).size = k * 4 := by
  simp [Builtin.zeroCells, hz]
theorem grow_run (w : World) (k : Nat) (h0 : 0 < k) (hk : k ≤ 2000) (ty : TypeId) : ∃ c w', (Builtin.append_ #[63, 3] ty #[.slice none 0 0, .int .i64 (k : Int)]).run Tryz.prog w = .ok (.slice (some ⟨w.heap.size, 0, none⟩) k c) w' ∧ k ≤ c ∧ c ≤ maxLen ∧ w'.ownsRow w.heap.size 67 4 (.slice (some ⟨w.heap.size, 0, none⟩) 0 c) 0 [] ∧ Below w.heap.size w w' := by
  obtain ⟨i0, hi0, hz0, hz1, hz2⟩ := info_parts info56
  have hn : Builtin.nextslicecap (0 + k) 0 = k := by unfold Builtin.nextslicecap; rw [if_pos (by omega)]; omega
  have h := Lib.run_append_grow_zeros (P := Tryz.prog) w 63 3 ty 67 i0 _ .i64 .i64 Tryz.underlying63 Tryz.underlying3 hi0 hz0 none 0 0 [] (by rfl) k h0 (by omega) (by omega) (by omega) (by rw [hz2]; omega) (by rw [hn, hz2]; omega)
  rw [Nat.zero_add] at h
  have hge := grownCap_ge w k 0 67
  have hle := grownCap_le_maxLen w k 0 67 (by unfold maxLen; omega)
  have hcs : (([] : List Value).toArray ++ Builtin.zeroCells (Value.agg #[.string ⟨#[]⟩, .int .i64 0, .string ⟨#[]⟩, .nilFunc]).cells k ++ Builtin.zeroCells (Value.agg #[.string ⟨#[]⟩, .int .i64 0, .string ⟨#[]⟩, .nilFunc]).cells (grownCap w k 0 67 - k)).size = grownCap w k 0 67 * 4 := by
    rw [Array.size_append, Array.size_append, zeroC_size _ _ (by rfl), zeroC_size _ _ (by rfl)]
    simp
    omega
  generalize (([] : List Value).toArray ++ Builtin.zeroCells (Value.agg #[.string ⟨#[]⟩, .int .i64 0, .string ⟨#[]⟩, .nilFunc]).cells k ++ Builtin.zeroCells (Value.agg #[.string ⟨#[]⟩, .int .i64 0, .string ⟨#[]⟩, .nilFunc]).cells (grownCap w k 0 67 - k)) = cur at h hcs
  refine ⟨grownCap w k 0 67, w.drew.alloc (.cells cur 67), h, hge, hle, ⟨by simp, .inr ⟨w.heap.size, grownCap w k 0 67, cur, rfl, Nat.le_refl _, heap_alloc_new w.drew _, Nat.zero_le _, hle, hcs, by simp⟩⟩, ?_⟩
  exact ((Below.refl w.heap.size w).drew).alloc (Nat.le_refl _) _

theorem wpList_zeros (w : World) {ops : Array Oper} {rest : List Oper} {o : Oper} {a : Act} {Q : Exit → Act → World → Prop} (hgd : o.guard = none) (s x : Operand)
    (ho : o.op = .call { callee := .builtin .append, args := #[s, x], argTypes := #[63, 3] }) (k : Nat) (hs : a.eval s = .slice none 0 0) (hx : a.eval x = .int .i64 (k : Int)) (h0 : 0 < k) (hk : k ≤ 2000)
    (h : ∀ c w', k ≤ c → c ≤ 9223372036854775807 → w'.ownsRow w.heap.size 67 4 (.slice (some ⟨w.heap.size, 0, none⟩) 0 c) 0 [] → Below w.heap.size w w' → wpList Tryz.prog ops Q rest (a.put o.dst (.slice (some ⟨w.heap.size, 0, none⟩) k c)) w') : wpList Tryz.prog ops Q (o :: rest) a w := by
  refine wpList_plain hgd fun K hK => ?_
  obtain ⟨c, w2, hr, h1, h2, h3, h4⟩ := grow_run w k h0 hk o.type
  unfold maxLen at h2
  unfold Oper.wp
  simp [execOp, ho, resolve, invoke, builtin, hs, hx, hr, Result.andThen]
  exact hK _ _ (h c w2 h1 h2 h3 h4)

set_option maxRecDepth 100000 in
set_option maxHeartbeats 2000000 in
theorem growP (k : Nat) (w : World) (hk : k ≤ 2000) : Calls Tryz.prog 43 #[.slice none 0 0, .int .i64 (k : Int)] w fun e w' => ∃ v, e = .returned v ∧ w'.ownsRow w.heap.size 67 4 v 0 [] ∧ Below w.heap.size w w' := by
  by_cases h0 : k = 0
  · subst h0
    rw [show ((0 : Nat) : Int) = 0 from rfl]
    go_enter Tryz.func43, Tryz.ntmps43
    go_wp2
    go_ret
    exact ⟨_, rfl, World.ownsRow_nil _ _ _ _, Below.refl _ _⟩
  · have hkz : ¬ (k : Int) < 0 := by omega
    have hkz2 : 0 < (k : Int) := by omega
    have h0' : 0 < k := by omega
    go_enter Tryz.func43, Tryz.ntmps43
    go_wp2_with (refine wpList_zeros _ rfl (.tmp 20) (.tmp 21) rfl k rfl rfl h0' hk ?_
                 intro c w2 h1 h2 h3 h4
                 have H3 := hidden h3
                 have H4 := hidden h4
                 clear h3 h4)
    go_ret
    exact ⟨_, rfl, H3.out, H4.out⟩

/-- Rules as they lie. -/
def RuL (w : World) (ad : Option Addr) (R : List (Mt × Value)) : Prop := (∀ p ∈ R, p.2.oneCell' = true) ∧ (ad = none → R = []) ∧ ∀ x, ad = some x → x.block < w.heap.size ∧ x.spot = none ∧ ∀ j u, (cR R)[j]? = some u → w.cell? (x.add j) = some u
theorem RuL.later {w w' : World} {ad : Option Addr} {R : List (Mt × Value)} (h : RuL w ad R) (hb : Below w.heap.size w w') : RuL w' ad R :=
  ⟨h.1, h.2.1, fun x hx => ⟨Nat.lt_of_lt_of_le (h.2.2 x hx).1 hb.size, (h.2.2 x hx).2.1, fun j u hu => by
    have hc := (h.2.2 x hx).2.2 j u hu
    have hs := (h.2.2 x hx).2.1
    obtain ⟨b, off, sp⟩ := x
    simp only at hs
    subst hs
    rw [Addr.add_lit] at hc ⊢
    rw [hb.cell (p := ⟨b, off + j, none⟩) (h.2.2 _ hx).1]
    exact hc⟩⟩
theorem one_cR {R : List (Mt × Value)} (h : ∀ p ∈ R, p.2.oneCell' = true) : ∀ u ∈ cR R, u.oneCell' = true := by
  intro u hu
  obtain ⟨p, hp, hx⟩ := List.mem_flatMap.1 hu
  exact one_ruC (h p hp) u hx
theorem wpList_appR (w : World) {ops : Array Oper} {rest : List Oper} {o : Oper} {a : Act} {Q : Exit → Act → World → Prop} (hgd : o.guard = none) (s x : Operand)
    (ho : o.op = .call { callee := .builtin .append, args := #[s, x], argTypes := #[63, 63] }) (base : Nat) (v : Value) (n : Nat) (A : List (Mt × Value)) (hs : a.eval s = v) (hown : w.ownsRow base 67 4 v n (cR A))
    (ad : Option Addr) (m c : Nat) (R : List (Mt × Value)) (hx : a.eval x = .slice ad m c) (hL : RuL w ad R) (hm : R.length = m) (hc : ad = none → c = 0) (hb : n + m ≤ 1000000) (hbase : base ≤ w.heap.size)
    (h : ∀ v' w', w'.ownsRow base 67 4 v' (n + m) (cR (A ++ R)) → Below base w w' → wpList Tryz.prog ops Q rest (a.put o.dst v') w') : wpList Tryz.prog ops Q (o :: rest) a w := by
  obtain ⟨i0, hi0, hz0, hz1, hz2⟩ := info_parts info56
  cases ad with
  | none =>
    obtain rfl := hL.2.1 rfl
    obtain rfl := hc rfl
    obtain rfl : m = 0 := hm.symm
    refine wpList_append_own_none hgd s x 63 ho base 67 i0 4 Tryz.underlying63 hi0 v n _ hs hown hx ?_
    exact h v w (by simpa using hown) (Below.refl _ _)
  | some ad =>
    refine wpList_append_own w hgd s x 63 ho base 67 i0 _ 4 48 Tryz.underlying63 hi0 hz0 hz1 hz2 rfl (by decide) v n (cR A) hs hown ad m c (cR R) hx (by rw [cR_length, hm]) (hL.2.2 ad rfl).2.2 (one_cR hL.1) (by unfold maxLen; omega) (by omega) hbase ?_
    intro v' w' h1 h2 h3
    exact h v' w' (by rw [cR_append]; exact h1) ((Below.refl _ _).grown h2 hbase (fun k hk => (hown.lt k hk).1))

def smL (nn : Nat → Nat) : Nat → Nat
  | 0 => 0
  | i + 1 => smL nn i + nn i
def ctL (RR : Nat → List (Mt × Value)) : Nat → List (Mt × Value)
  | 0 => []
  | i + 1 => ctL RR i ++ RR i

set_option maxRecDepth 100000 in
set_option maxHeartbeats 4000000 in
theorem concatP (g c : Nat) (ad : Nat → Option Addr) (nn cc : Nat → Nat) (RR : Nat → List (Mt × Value)) (w : World) (hc : ∀ i, i < 2 → w.cell? ⟨g, i, none⟩ = some (.slice (ad i) (nn i) (cc i))) (hg : g < w.heap.size) (hR : ∀ i, i < 2 → RuL w (ad i) (RR i) ∧ (RR i).length = nn i ∧ nn i ≤ 1000 ∧ (ad i = none → cc i = 0)) :
    Calls Tryz.prog 23 #[.slice (some ⟨g, 0, none⟩) 2 c] w fun e w' => ∃ v, e = .returned v ∧ w'.ownsRow w.heap.size 67 4 v (nn 0 + nn 1) (cR (RR 0 ++ RR 1)) ∧ Below w.heap.size w w' := by
  have HC := hidden hc
  have HR := hidden hR
  have hn0 := (hR 0 (by omega)).2.2.1
  have hn1 := (hR 1 (by omega)).2.2.1
  have HSM : Hid (∀ i, i ≤ 2 → smL nn i ≤ 1000 * i) := hidden (fun i hi => by
    rcases (by omega : i = 0 ∨ i = 1 ∨ i = 2) with rfl | rfl | rfl <;> simp [smL] <;> omega)
  clear hc hR
  go_enter Tryz.func23, Tryz.ntmps23
  go_wp2_with fail
  go_loopw [3, 5, 11] (fun v3 v5 v11 wx => wx = w ∧ ∃ i : Nat, v11 = .int .i64 (i : Int) ∧ i ≤ 2 ∧ v3 = .int .i64 (smL nn i : Int)) (fun _ _ v11 _ => 2 - (intOf v11).toNat)
  case atStart => exact ⟨rfl, 0, rfl, by omega, rfl⟩
  case round =>
    rename World => wx
    obtain ⟨rfl, i, rfl, hi, rfl⟩ := hrel
    have hsm := HSM.out i hi
    by_cases hlt : i < 2
    · have hltz : (i : Int) < 2 := by omega
      have ci := HC.out i hlt
      have hni := (HR.out i hlt).2.2.1
      have HNX : Hid (smL nn (i + 1) = smL nn i + nn i) := hidden rfl
      generalize smL nn i = S at *
      generalize nn i = N at *
      generalize ad i = A at *
      generalize cc i = C at *
      have hz1 : ¬ (S : Int) + (N : Int) < 0 := by omega
      go_wp2_with fail
      exact ⟨⟨by first | rfl | trivial, i + 1, by rw [Int.natCast_add]; rfl, by omega, by rw [HNX.out, Int.natCast_add]⟩, by simp [intOf]; omega⟩
    · have hltz : ¬ (i : Int) < 2 := by omega
      obtain rfl : i = 2 := by omega
      have hs2 : smL nn 2 = nn 0 + nn 1 := by simp [smL]
      rw [hs2]
      obtain ⟨T, hT⟩ : ∃ T, nn 0 + nn 1 = T := ⟨_, rfl⟩
      have HTT := hidden hT
      have hTb : T ≤ 2000 := by omega
      rw [hT]
      clear hs2 hT hsm
      go_wp2_with fail
      refine (growP T _ hTb).mono ?_
      rintro e w2 ⟨v0, rfl, o2, b2⟩
      have O2 := hidden o2
      have B2 := hidden b2
      clear o2 b2
      go_wp2_with fail
      go_loopw [6, 8, 27] (fun v6 v8 v27 wy => ∃ i : Nat, v27 = .int .i64 (i : Int) ∧ i ≤ 2 ∧ Hid (wy.ownsRow wx.heap.size 67 4 v6 (smL nn i) (cR (ctL RR i))) ∧ Hid (Below wx.heap.size wx wy)) (fun _ _ v27 _ => 2 - (intOf v27).toNat)
      case atStart => exact ⟨0, rfl, by omega, O2, B2⟩
      case round =>
        rename World => wy
        obtain ⟨i, rfl, hi, hO, hB⟩ := hrel
        have hsm := HSM.out i hi
        by_cases hlt : i < 2
        · have hltz : (i : Int) < 2 := by omega
          have ci : wy.cell? ⟨g, i, none⟩ = some (.slice (ad i) (nn i) (cc i)) := by rw [hB.out.cell (p := ⟨g, i, none⟩) hg]; exact HC.out i hlt
          have hni := (HR.out i hlt).2.2.1
          have hbs := hB.out.size
          have hsum : smL nn i + nn i ≤ 1000000 := by omega
          rename_i u6 _ _
          go_wp2_with (refine wpList_appR _ rfl (.tmp 31) (.tmp 32) rfl wx.heap.size _ (smL nn i) (ctL RR i) rfl hO.out (ad i) (nn i) (cc i) (RR i) rfl ((HR.out i hlt).1.later hB.out) (HR.out i hlt).2.1 (HR.out i hlt).2.2.2 hsum hbs ?_
                       intro v9 w9 o9 b9
                       have O9 : Hid (w9.ownsRow wx.heap.size 67 4 v9 (smL nn (i + 1)) (cR (ctL RR (i + 1)))) := hidden o9
                       have B9 := hidden (hB.out.trans b9)
                       clear o9 b9)
          exact ⟨⟨i + 1, by rw [Int.natCast_add]; rfl, by omega, O9, B9⟩, by simp [intOf]; omega⟩
        · have hltz : ¬ (i : Int) < 2 := by omega
          obtain rfl : i = 2 := by omega
          have O3 : Hid (wy.ownsRow wx.heap.size 67 4 _ (nn 0 + nn 1) (cR (RR 0 ++ RR 1))) := hidden (by have := hO.out; simpa [smL, ctL] using this)
          go_wp2_with fail
          go_ret
          exact ⟨_, rfl, O3.out, hB.out⟩

end Go.Proofs.YtanlgplgplncdaaGreatDoor

/-
  And.
-/
namespace Go.Proofs.YtanlgplgplncdaaGreatDoor
open Go.RowKit
set_option linter.unusedVariables false
set_option linter.unusedSimpArgs false

theorem rul_of {F : Nat → Prop} {w : World} {ad : Option Addr} {c n : Nat} {R : List (Mt × Value)} (h : w.ownsRow 0 67 4 (.slice ad n c) R.length (cR R)) (hf : ∀ p ∈ R, Fv F w p.1.op p.1.t p.2) : RuL w ad R ∧ (ad = none → c = 0) := by
  refine ⟨⟨fun p hp => (hf p hp).one, fun e => ?_, fun x hx => ?_⟩, fun e => ?_⟩
  · rcases h.2 with ⟨_, h0⟩ | ⟨g, cap, cur, e2, _⟩
    · exact List.eq_nil_of_length_eq_zero h0
    · injection e2 with e2; rw [e] at e2; cases e2
  · rcases h.2 with ⟨e2, _⟩ | ⟨g, cap, cur, e2, _, hg, _⟩
    · injection e2 with e2; rw [hx] at e2; cases e2
    · injection e2 with e2
      rw [hx] at e2
      injection e2 with e2
      subst e2
      subst hx
      exact ⟨(Array.getElem?_eq_some_iff.1 hg).1, rfl, fun j u hu => h.cells rfl j u hu⟩
  · rcases h.2 with ⟨e2, _⟩ | ⟨g, cap, cur, e2, _⟩
    · injection e2
    · injection e2 with e2; rw [e] at e2; cases e2

theorem owns_low {w : World} {b b' : Nat} {e sz : Nat} {v : Value} {n : Nat} {xs : List Value} (h : w.ownsRow b e sz v n xs) (hb : b' ≤ b) : w.ownsRow b' e sz v n xs := by
  refine ⟨h.1, ?_⟩
  rcases h.2 with h0 | ⟨g, cap, cur, rfl, hg, r⟩
  · exact .inl h0
  · exact .inr ⟨g, cap, cur, rfl, by omega, r⟩

set_option maxRecDepth 100000 in
set_option maxHeartbeats 4000000 in
theorem andP (F G : Nat → Prop) (w : World) (s t : Nat) (l m : List Mt) (hS : StR F w s l) (hT : StR G w t m) (hl : l.length ≤ 500) (hm : m.length ≤ 500) :
    Calls Tryz.prog 8 #[.pointer (some ⟨s, 0, none⟩), .pointer (some ⟨t, 0, none⟩)] w fun e w' => ∃ u K, e = .returned (.pointer (some ⟨u, 0, none⟩)) ∧ StR K w' u (l ++ m) ∧ (∀ b, K b → F b ∨ G b ∨ w.heap.size ≤ b) ∧ Below w.heap.size w w' := by
  obtain ⟨v, R, h1, h2, h3, h4, h5, h6, h7⟩ := hS
  obtain ⟨v', R', k1, k2, k3, k4, k5, k6, k7⟩ := hT
  obtain ⟨ad, c, rfl, -⟩ := owns_formS h2
  obtain ⟨ad', c', rfl, -⟩ := owns_formS k2
  have c0 : w.cell? ⟨s, 0, none⟩ = some (.slice ad R.length c) := h1.cell 0
  have c1 : w.cell? ⟨t, 0, none⟩ = some (.slice ad' R'.length c') := k1.cell 0
  have hs : s < w.heap.size := h1.lt
  have ht : t < w.heap.size := k1.lt
  obtain ⟨r1, r2⟩ := rul_of h2 h4
  obtain ⟨r3, r4⟩ := rul_of k2 k4
  have hRl : R.length ≤ 500 := by rw [← List.length_map (f := Prod.fst), h3]; exact hl
  have hRl' : R'.length ≤ 500 := by rw [← List.length_map (f := Prod.fst), k3]; exact hm
  have CON : Hid (∀ wx, Below w.heap.size w wx → wx.heap.size = w.heap.size + 1 → wx.cell? ⟨w.heap.size, 0, none⟩ = some (.slice ad R.length c) → wx.cell? ⟨w.heap.size, 1, none⟩ = some (.slice ad' R'.length c') → Calls Tryz.prog 23 #[.slice (some ⟨w.heap.size, 0, none⟩) 2 2] wx fun e w' => ∃ v, e = .returned v ∧ w'.ownsRow wx.heap.size 67 4 v (R.length + R'.length) (cR (R ++ R')) ∧ Below wx.heap.size wx w') := hidden (fun wx hb hz e0 e1 => by
    have := concatP w.heap.size 2 (fun i => if i = 0 then ad else ad') (fun i => if i = 0 then R.length else R'.length) (fun i => if i = 0 then c else c') (fun i => if i = 0 then R else R') wx (fun i hi => by
      rcases (by omega : i = 0 ∨ i = 1) with rfl | rfl
      · exact e0
      · exact e1) (by omega) (fun i hi => by
      rcases (by omega : i = 0 ∨ i = 1) with rfl | rfl
      · exact ⟨r1.later hb, rfl, by show R.length ≤ _; omega, r2⟩
      · exact ⟨r3.later hb, rfl, by show R'.length ≤ _; omega, r4⟩)
    exact this)
  have FIN : Hid (∀ wx v u, Below w.heap.size w wx → wx.ownsRow w.heap.size 67 4 v (R.length + R'.length) (cR (R ++ R')) → Blk wx u 69 [v] → w.heap.size ≤ u → ∃ K, StR K wx u (l ++ m) ∧ (∀ b, K b → F b ∨ G b ∨ w.heap.size ≤ b)) := hidden (by
    intro wx v u hb ho hB hu
    have hlt : ∀ b, (F b ∨ G b ∨ b = u ∨ v.ownBlock = some b) → b < wx.heap.size := by
      rintro b (hh | hh | hh | hh)
      · exact Nat.lt_of_lt_of_le (h7 b hh) hb.size
      · exact Nat.lt_of_lt_of_le (k7 b hh) hb.size
      · rw [hh]; exact hB.lt
      · exact (ho.lt b hh).2
    refine ⟨fun b => F b ∨ G b ∨ b = u ∨ v.ownBlock = some b, ⟨v, R ++ R', hB, ⟨by rw [cR_length], ?_⟩, by rw [List.map_append, h3, k3], ?_, .inr (.inr (.inl rfl)), fun g hg => .inr (.inr (.inr hg)), hlt⟩, ?_⟩
    · rcases ho.2 with ⟨hh, h0⟩ | ⟨g, cap, cur, e, _, r⟩
      · exact .inl ⟨hh, by rw [List.length_append]; exact h0⟩
      · exact .inr ⟨g, cap, cur, by rw [List.length_append]; exact e, Nat.zero_le _, by rw [List.length_append]; exact r⟩
    · intro p hp
      have hcb := Chg.of_below (F := fun _ => False) hb
      rcases List.mem_append.1 hp with hp | hp
      · exact ((h4 p hp).keep hcb (fun _ _ e => e)).mono (fun _ hh => .inl hh) hlt
      · exact ((k4 p hp).keep hcb (fun _ _ e => e)).mono (fun _ hh => .inr (.inl hh)) hlt
    · rintro b (hh | hh | hh | hh)
      · exact .inl hh
      · exact .inr (.inl hh)
      · exact .inr (.inr (by omega))
      · exact .inr (.inr (ho.lt b hh).1))
  clear h1 h2 h3 h4 h5 h6 h7 k1 k2 k3 k4 k5 k6 k7 r1 r2 r3 r4 hl hm
  generalize R.length = n at *
  generalize R'.length = n' at *
  have hbn : Blk (w.alloc (.cells #[.slice ad n c, .slice ad' n' c'] 63)).drew w.heap.size 63 [.slice ad n c, .slice ad' n' c'] := (Blk.new w 63 _).drew
  have hbw : Below w.heap.size w (w.alloc (.cells #[.slice ad n c, .slice ad' n' c'] 63)).drew := ((Below.refl _ w).alloc (Nat.le_refl _) _).drew
  have hsz : (w.alloc (.cells #[.slice ad n c, .slice ad' n' c'] 63)).drew.heap.size = w.heap.size + 1 := by show (w.alloc _).heap.size = _; simp
  have CON2 := hidden (CON.out _ hbw hsz (hbn.cell 0) (hbn.cell 1))
  have HBW := hidden hbw
  have HSZ := hidden hsz
  clear hbn hbw hsz CON
  go_enter Tryz.func8, Tryz.ntmps8
  go_upto_region 1 with fail
  go_region_with (go_at_call 23; refine CON2.out.mono ?_; rintro e w3 ⟨v, rfl, o3, b3⟩; obtain ⟨ad3, c3, rfl, -⟩ := owns_formS o3; have O3 := hidden o3; have B3 := hidden b3; clear o3 b3)
  all_goals
    go_wp2
    go_ret
    have b3 := HBW.out.trans (B3.out.mono HBW.out.size)
    have b4 := b3.alloc b3.size (.cells #[.slice ad3 (n + n') c3] 69)
    have b34 : Below w3.heap.size w3 (w3.alloc (.cells #[.slice ad3 (n + n') c3] 69)) := (Below.refl _ _).alloc (Nat.le_refl _) _
    obtain ⟨K, hK, hKb⟩ := FIN.out _ _ w3.heap.size b4 (owns_low (owl O3.out b34) (by rw [HSZ.out]; omega)) (Blk.new w3 69 _) b3.size
    exact ⟨w3.heap.size, K, by first | rfl | simp, hK, hKb, b4⟩

end Go.Proofs.YtanlgplgplncdaaGreatDoor

/-
  Parse.
-/
namespace Go.Proofs.YtanlgplgplncdaaGreatDoor.L
open Go.RowKit
set_option linter.unusedVariables false
set_option linter.unusedSimpArgs false

/-- What Parse answers. -/
def PaM (s : ByteArray) (w : World) (e : Ending) (w' : World) : Prop :=
  Below w.heap.size w w' ∧ ((∃ l ad c, parseM (bts s) = .inr l ∧ e = .returned (.tuple #[.slice ad l.length c, .nilIface]) ∧ w'.ownsRow w.heap.size 58 3 (.slice ad l.length c) l.length (cM l) ∧ (∀ x ∈ l, OkM x) ∧ l.length ≤ 8) ∨
    (∃ k g, parseM (bts s) = .inl k ∧ e = .returned (.tuple #[.slice none 0 0, .iface 50 (.pointer (some ⟨g, 0, none⟩))]) ∧ Blk w' g 53 [.int .i64 ((k : Nat) : Int), .int .i64 90]))
theorem built71 (s : ByteArray) : Tryz.prog.built 82 [(0, .string s)] = some #[.string s, .int .i64 0] := by kernel_rfl
theorem info71n : (Tryz.prog.info? 82).map (fun i => (i.zero.map (·.cells.size), i.size)) = some (some 2, 2) := by kernel_rfl
theorem info73n : (Tryz.prog.info? 84).map (fun i => (i.zero.map (·.cells.size), i.size)) = some (some 3, 3) := by kernel_rfl

set_option maxRecDepth 100000 in
set_option maxHeartbeats 4000000 in
theorem parseMP (B : Nat) (s : ByteArray) (w : World) (hs : s.size ≤ 140737488355328) (hT : Tb B w) : Calls Tryz.prog 18 #[.string s] w (PaM s w) := by
  have HT := hidden hT
  have hBw := hT.size
  clear hT
  unfold PaM
  go_enter Tryz.func18, Tryz.ntmps18
  go_wp2_with (first
    | (refine wpList_build_to rfl 82 #[(0, .tmp 7)] rfl [(0, .string s)] #[.string s, .int .i64 0] rfl (built71 _) ?_)
    | (refine wpList_new_var rfl rfl 82 4 (.tmp 8) rfl rfl rfl rfl 2 info71n [.string s, .int .i64 0] rfl (by intro v hv; simp at hv; rcases hv with rfl | rfl <;> rfl) (by simp) rfl ?_; intro w1 B1 bl1 hz1; have HB1 := hidden B1; have BL1 := hidden bl1; clear B1 bl1 hz1))
  have HR1 : Hid (Rd w1 w.heap.size s 0) := hidden HB1.out
  have hs1 := BL1.out.size
  refine (setP B w.heap.size s w1 HR1.out hs (HT.out.later BL1.out) hBw).mono ?_
  rintro e w2 ⟨J, v, ok, a', rfl, hR, hO, hok, h8, hC, ha', hy, hn⟩
  obtain ⟨vad, vc, rfl, -⟩ := owns_formS hO
  have B2 : Hid (Below w.heap.size w w2) := hidden (BL1.out.trans (hC.below BL1.out.size (fun i hi => by have hi' : i = w.heap.size := hi; omega)))
  have HR2 := hidden hR
  have HO2 := hidden hO
  have HOK := hidden hok
  have H8 := hidden h8
  have HY := hidden hy
  have HN := hidden hn
  clear hR hO hok h8 hC hy hn HR1 HB1
  obtain ⟨l, bad⟩ := J
  simp only at HO2 HOK H8
  cases ok with
  | false =>
    have HP : Hid (parseM (bts s) = .inl a') := hidden (by unfold parseM; rw [HN.out rfl]; rfl)
    clear HY HN
    go_upto_region 4 with (refine wpList_new_var rfl rfl 84 5 (.tmp 11) rfl rfl rfl rfl 3 info73n [.slice vad l.length vc, .bool bad.isSome, .int .i64 ((bad.getD 0 : Nat) : Int)] rfl (by intro v hv; simp at hv; rcases hv with rfl | rfl | rfl <;> rfl) (by simp) rfl ?_; intro w3 B3 bl3 hz3; have BL3 := hidden bl3; clear B3 bl3 hz3)
    have HR3 : Hid (Rd w3 w.heap.size s a') := hidden (HR2.out.chg (Chg.of_below (F := fun _ => False) BL3.out) (fun e => e))
    have BW3 : Hid (Below w.heap.size w w3) := hidden (B2.out.trans (BL3.out.mono B2.out.size))
    have c1 : w3.cell? ⟨w.heap.size, 1, none⟩ = some (.int .i64 (a' : Int)) := HR3.out.cell 1
    have hlt : w.heap.size < w3.heap.size := Blk.lt HR3.out
    have HBX := hidden (BW3.out.alloc BW3.out.size (.cells #[.int .i64 (a' : Int), .int .i64 90] 53))
    have HBN : Hid (Blk (w3.alloc (.cells #[.int .i64 (a' : Int), .int .i64 90] 53)) w3.heap.size 53 [.int .i64 (a' : Int), .int .i64 90]) := hidden (Blk.new w3 53 _)
    go_region
    go_wp2
    go_ret2
    exact ⟨HBX.out.trans (below_drew _ _), .inr ⟨a', w3.heap.size, HP.out, rfl, HBN.out.drew⟩⟩
  | true =>
    cases bad with
    | some p =>
      have HP : Hid (parseM (bts s) = .inl p) := hidden (by unfold parseM; rw [HY.out rfl]; rfl)
      clear HY HN
      go_upto_region 6 with (refine wpList_new_var rfl rfl 84 5 (.tmp 11) rfl rfl rfl rfl 3 info73n [.slice vad l.length vc, .bool true, .int .i64 (p : Int)] rfl (by intro v hv; simp at hv; rcases hv with rfl | rfl | rfl <;> rfl) (by simp) rfl ?_; intro w3 B3 bl3 hz3; have BL3 := hidden bl3; have HB3 := hidden B3; clear B3 bl3 hz3; have d1 : w3.cell? ⟨w2.heap.size, 1, none⟩ = some (.bool true) := HB3.out.cell 1)
      have BW3 : Hid (Below w.heap.size w w3) := hidden (B2.out.trans (BL3.out.mono B2.out.size))
      have c1 : w3.cell? ⟨w2.heap.size, 2, none⟩ = some (.int .i64 (p : Int)) := HB3.out.cell 2
      have hlt : w2.heap.size < w3.heap.size := HB3.out.lt
      have HBX := hidden (BW3.out.alloc BW3.out.size (.cells #[.int .i64 (p : Int), .int .i64 90] 53))
      have HBN : Hid (Blk (w3.alloc (.cells #[.int .i64 (p : Int), .int .i64 90] 53)) w3.heap.size 53 [.int .i64 (p : Int), .int .i64 90]) := hidden (Blk.new w3 53 _)
      go_region
      go_wp2
      go_ret2
      exact ⟨HBX.out.trans (below_drew _ _), .inr ⟨p, w3.heap.size, HP.out, rfl, HBN.out.drew⟩⟩
    | none =>
      have HP : Hid (parseM (bts s) = .inr l) := hidden (by unfold parseM; rw [HY.out rfl]; rfl)
      clear HY HN
      go_upto_region 7 with (refine wpList_new_var rfl rfl 84 5 (.tmp 11) rfl rfl rfl rfl 3 info73n [.slice vad l.length vc, .bool false, .int .i64 0] rfl (by intro v hv; simp at hv; rcases hv with rfl | rfl | rfl <;> rfl) (by simp) rfl ?_; intro w3 B3 bl3 hz3; have BL3 := hidden bl3; have HB3 := hidden B3; clear B3 bl3 hz3; have d1 : w3.cell? ⟨w2.heap.size, 1, none⟩ = some (.bool false) := HB3.out.cell 1; have d0 : w3.cell? ⟨w2.heap.size, 0, none⟩ = some (.slice vad l.length vc) := HB3.out.cell 0)
      have BW3 : Hid (Below w.heap.size w w3) := hidden (B2.out.trans (BL3.out.mono B2.out.size))
      have HO3 : Hid (w3.ownsRow w.heap.size 58 3 (.slice vad l.length vc) l.length (cM l)) := hidden (owns_low (owl HO2.out BL3.out) hs1)
      go_wp2
      go_ret2
      exact ⟨BW3.out, .inl ⟨l, vad, vc, HP.out, rfl, HO3.out, HOK.out, H8.out⟩⟩

end Go.Proofs.YtanlgplgplncdaaGreatDoor.L
