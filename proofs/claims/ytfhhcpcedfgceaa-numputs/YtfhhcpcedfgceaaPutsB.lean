import Derived.Test.YtfhhcpcedfgceaaPutsN
import Derived.Test.YtfhhcpcedfgceaaBackR
import Derived.Test.YtfhhcpcedfgceaaGetsW
namespace Go.Proofs.Ytfhhcpcedfgceaa
open Go.RowKit
set_option linter.unusedVariables false

/-- The three calls. -/
def calls3 (i : Nat) : Bool := i == 6 || i == 12 || i == 21

theorem fill3 (a1 a2 a3 : Option Addr) (n1 n2 n3 c1 c2 c3 : Nat) : Instr.fill (fun i => some (i * 1, 1)) ((Array.range (3 * 1)).map ((Value.slice none 0 0).cells[· % (Value.slice none 0 0).cells.size]!)) [(0, .slice a1 n1 c1), (1, .slice a2 n2 c2), (2, .slice a3 n3 c3)] = some #[.slice a1 n1 c1, .slice a2 n2 c2, .slice a3 n3 c3] := by kernel_rfl

set_option maxRecDepth 100000 in
set_option maxHeartbeats 4000000 in
theorem region12 (ad : Option Addr) (len cap N : Nat) (m : Int) (ae : Option Addr) (len2 cap2 gx gy bx by' : Nat) (l s : List Int) (n B : Nat) (vl : Value) (xs : List Value) (w : World) (a0 : Act) (Q : Exit → Act → World → Prop)
    (hox : w.ownsRow bx 5 1 (.slice (some ⟨gx, 0, none⟩) (len + 8) (len + 8)) (len + 8) (cells8 (l ++ List.replicate 8 201))) (hoy : w.ownsRow by' 5 1 (.slice (some ⟨gy, 0, none⟩) (len2 + 8) (len2 + 8)) (len2 + 8) (cells8 (s ++ List.replicate 8 201)))
    (hll : l.length = len) (hsl : s.length = len2) (hbl : Byte l) (hbs : Byte s) (hvl : w.ownsRow B 22 1 vl n xs) (hn : n ≤ 100) (hB : B ≤ w.heap.size)
    (hb : len + len2 ≤ 1073741824) (hN : N ≤ 18446744073709551615) (hm0 : -9223372036854775808 ≤ m) (hm1 : m ≤ 9223372036854775807) (hsz : a0.tmps.size = 187)
    (s0 : a0.tmps.getD 0 undef = .slice ad len cap)
    (s1 : a0.tmps.getD 1 undef = .int .u64 (N : Int))
    (s2 : a0.tmps.getD 2 undef = .int .i64 m)
    (s3 : a0.tmps.getD 3 undef = .slice ae len2 cap2)
    (s11 : a0.tmps.getD 11 undef = .slice (some ⟨gx, 0, none⟩) (len + 8) (len + 8))
    (s12 : a0.tmps.getD 12 undef = .slice (some ⟨gy, 0, none⟩) (len2 + 8) (len2 + 8))
    (s13 : a0.tmps.getD 13 undef = vl)
    (hQ : ∀ (v62 v63 v64 v65 v66 v67 v68 v69 v70 v71 v72 v73 v74 v75 v76 v77 v78 v79 v80 v81 v82 v83 v84 v85 : Value) (g c : Nat) (u1 u2 u3 : Value) (w' : World), w'.ownsRow B 22 1 (.slice (some ⟨g, 0, none⟩) (n + 3) c) (n + 3) (xs ++ [u1, u2, u3]) → Trip w.heap.size w' u1 u2 u3 (len + grp N + 1) (len + grp (fold m) + 1) (len + grp len2 + 1 + len2) (l ++ enc N) (l ++ enc (fold m)) (l ++ enc len2 ++ s) → w.grownBy w' vl.ownBlock → Q .normal (((((((((((((((((((((((((a0.put (some 62) v62).put (some 63) v63).put (some 64) v64).put (some 65) v65).put (some 66) v66).put (some 67) v67).put (some 68) v68).put (some 69) v69).put (some 70) v70).put (some 71) v71).put (some 72) v72).put (some 73) v73).put (some 74) v74).put (some 75) v75).put (some 76) v76).put (some 77) v77).put (some 78) v78).put (some 79) v79).put (some 80) v80).put (some 81) v81).put (some 82) v82).put (some 83) v83).put (some 84) v84).put (some 85) v85).put (some 13) (.slice (some ⟨g, 0, none⟩) (n + 3) c)) w') :
    Code.wp Try.prog ((Try.f3.body.bind (findRegion 12)).getD .skip) Q a0 w := by
  conv => arg 2; whnf
  obtain ⟨i2, hi2, hy0, hy1, hy2⟩ := info_parts info22
  have hf := fold_le m hm0 hm1
  have hr : ∀ x, vl.ownBlock = some x → x < w.heap.size := fun x hx => (hvl.lt x hx).2
  have hax : ∀ {w1 : World}, w.grownBy w1 vl.ownBlock → Sl w1 (some ⟨gx, 0, none⟩) len l := by
    intro w1 hL
    have h1 := (sl_of_owns (kept' hox hL (fun x hx => owns_apart hox hvl (by decide) hx)) (lent_byte hbl)).take (N := len) (by omega)
    rw [take_lent l len hll] at h1
    exact h1
  have hay : ∀ {w1 : World}, w.grownBy w1 vl.ownBlock → Sl w1 (some ⟨gy, 0, none⟩) len2 s := by
    intro w1 hL
    have h1 := (sl_of_owns (kept' hoy hL (fun x hx => owns_apart hoy hvl (by decide) hx)) (lent_byte hbs)).take (N := len2) (by omega)
    rw [take_lent s len2 hsl] at h1
    exact h1
  refine wp_region_invC (fun u v => u.grownBy v vl.ownBlock) (StepG vl.ownBlock 23) (fun u => w.grownBy u none) 23 (TG [EntG.val _ (vl), EntG.val _ (.slice (some ⟨gx, 0, none⟩) (len + 8) (len + 8)), EntG.val _ (.slice ad len cap), EntG.val _ (.int .i64 (len : Int)), EntG.val _ (.slice (some ⟨gx, 0, none⟩) len (len + 8)), EntG.val _ (.int .u64 (N : Int)), EntG.row hr (len + grp N + 1) (l ++ enc N), EntG.val _ (.slice (some ⟨gx, 0, none⟩) (len + 8) (len + 8)), EntG.val _ (.slice ad len cap), EntG.val _ (.int .i64 (len : Int)), EntG.val _ (.slice (some ⟨gx, 0, none⟩) len (len + 8)), EntG.val _ (.int .i64 m), EntG.row hr (len + grp (fold m) + 1) (l ++ enc (fold m)), EntG.val _ (.slice (some ⟨gx, 0, none⟩) (len + 8) (len + 8)), EntG.val _ (.slice ad len cap), EntG.val _ (.int .i64 (len : Int)), EntG.val _ (.slice (some ⟨gx, 0, none⟩) len (len + 8)), EntG.val _ (.slice (some ⟨gy, 0, none⟩) (len2 + 8) (len2 + 8)), EntG.val _ (.slice ae len2 cap2), EntG.val _ (.int .i64 (len2 : Int)), EntG.val _ (.slice (some ⟨gy, 0, none⟩) len2 (len2 + 8)), EntG.row hr (len + grp len2 + 1 + len2) (l ++ enc len2 ++ s), EntG.three hr (len + grp N + 1) (len + grp (fold m) + 1) (len + grp len2 + 1 + len2) (l ++ enc N) (l ++ enc (fold m)) (l ++ enc len2 ++ s), EntG.all _ w.heap.size B n xs (len + grp N + 1) (len + grp (fold m) + 1) (len + grp len2 + 1 + len2) (l ++ enc N) (l ++ enc (fold m)) (l ++ enc len2 ++ s), EntG.all _ w.heap.size B n xs (len + grp N + 1) (len + grp (fold m) + 1) (len + grp len2 + 1 + len2) (l ++ enc N) (l ++ enc (fold m)) (l ++ enc len2 ++ s)]) calls3 (by kernel_rfl) (by kernel_rfl) (by kernel_rfl) (by rw [hsz]; kernel_rfl) StepG.refl grownG_trans StepG.sub ?hE (TG_stable _ ?hlate) (fun _ _ h => h.size) (grown_none (grown_of_below (Below.refl _ _).drew) _) (grown_of_below (Below.refl _ _).drew) ?hop ?hdone
  case hE =>
    intro j u v hj hs hu
    unfold StepG at hs
    rw [if_neg hj] at hs
    exact grownG_trans _ _ _ hu hs
  case hlate =>
    intro i oi hi hl
    have hlt : i < 25 := (Array.getElem?_eq_some_iff.1 hi).1
    rcases (show i = 0 ∨ i = 1 ∨ i = 2 ∨ i = 3 ∨ i = 4 ∨ i = 5 ∨ i = 6 ∨ i = 7 ∨ i = 8 ∨ i = 9 ∨ i = 10 ∨ i = 11 ∨ i = 12 ∨ i = 13 ∨ i = 14 ∨ i = 15 ∨ i = 16 ∨ i = 17 ∨ i = 18 ∨ i = 19 ∨ i = 20 ∨ i = 21 ∨ i = 22 ∨ i = 23 ∨ i = 24 by omega) with rfl | rfl | rfl | rfl | rfl | rfl | rfl | rfl | rfl | rfl | rfl | rfl | rfl | rfl | rfl | rfl | rfl | rfl | rfl | rfl | rfl | rfl | rfl | rfl | rfl
    all_goals first
      | (cases hl; done)
      | exact .inl rfl
      | (obtain rfl := Option.some.inj hi; exact .inr ⟨⟨23, .data⟩, by simp, rfl, rfl⟩)
  case hdone =>
    intro a w' hL hS hT
    obtain ⟨g, c, u1, u2, u3, hg1, hg2, hg3⟩ : ∃ g c u1 u2 u3, a.tmps.getD 13 undef = .slice (some ⟨g, 0, none⟩) (n + 3) c ∧ w'.ownsRow B 22 1 (a.tmps.getD 13 undef) (n + 3) (xs ++ [u1, u2, u3]) ∧ Trip w.heap.size w' u1 u2 u3 (len + grp N + 1) (len + grp (fold m) + 1) (len + grp len2 + 1 + len2) (l ++ enc N) (l ++ enc (fold m)) (l ++ enc len2 ++ s) := hT 24 _ rfl
    have he := same_puts hS
    rw [he]
    rw [hg1] at hg2
    have := hQ (a.tmps.getD 62 undef) (a.tmps.getD 63 undef) (a.tmps.getD 64 undef) (a.tmps.getD 65 undef) (a.tmps.getD 66 undef) (a.tmps.getD 67 undef) (a.tmps.getD 68 undef) (a.tmps.getD 69 undef) (a.tmps.getD 70 undef) (a.tmps.getD 71 undef) (a.tmps.getD 72 undef) (a.tmps.getD 73 undef) (a.tmps.getD 74 undef) (a.tmps.getD 75 undef) (a.tmps.getD 76 undef) (a.tmps.getD 77 undef) (a.tmps.getD 78 undef) (a.tmps.getD 79 undef) (a.tmps.getD 80 undef) (a.tmps.getD 81 undef) (a.tmps.getD 82 undef) (a.tmps.getD 83 undef) (a.tmps.getD 84 undef) (a.tmps.getD 85 undef) g c u1 u2 u3 w' hg2 hg3 hL
    rw [← hg1] at this
    exact this
  case hop =>
    intro i o hi
    have hlt : i < 25 := (Array.getElem?_eq_some_iff.1 hi).1
    rcases (show i = 0 ∨ i = 1 ∨ i = 2 ∨ i = 3 ∨ i = 4 ∨ i = 5 ∨ i = 6 ∨ i = 7 ∨ i = 8 ∨ i = 9 ∨ i = 10 ∨ i = 11 ∨ i = 12 ∨ i = 13 ∨ i = 14 ∨ i = 15 ∨ i = 16 ∨ i = 17 ∨ i = 18 ∨ i = 19 ∨ i = 20 ∨ i = 21 ∨ i = 22 ∨ i = 23 ∨ i = 24 by omega) with rfl | rfl | rfl | rfl | rfl | rfl | rfl | rfl | rfl | rfl | rfl | rfl | rfl | rfl | rfl | rfl | rfl | rfl | rfl | rfl | rfl | rfl | rfl | rfl | rfl
    · obtain rfl := Option.some.inj hi
      clear hi hlt
      intro a w1 hL hEy hU hS hD hX
      refine stepC_yes rfl ?_
      have e13 : a.tmps.getD 13 undef = vl := (hU 24 _ 13 rfl rfl ⟨⟨0, .phase⟩, by simp, rfl, rfl⟩).trans s13
      exact okC_value StepG.refl rfl vl (by simp [execOp, Act.eval, e13, go_sem]) rfl
    · obtain rfl := Option.some.inj hi
      clear hi hlt
      intro a w1 hL hEy hU hS hD hX
      have e11 : a.tmps.getD 11 undef = .slice (some ⟨gx, 0, none⟩) (len + 8) (len + 8) := (hS.slot 11 (by kernel_rfl)).trans s11
      refine stepC_yes rfl ?_
      exact okC_value StepG.refl rfl (.slice (some ⟨gx, 0, none⟩) (len + 8) (len + 8)) (by simp [execOp, Act.eval, e11, go_sem]) rfl
    · obtain rfl := Option.some.inj hi
      clear hi hlt
      intro a w1 hL hEy hU hS hD hX
      have e0 : a.tmps.getD 0 undef = .slice ad len cap := (hS.slot 0 (by kernel_rfl)).trans s0
      refine stepC_yes rfl ?_
      exact okC_value StepG.refl rfl (.slice ad len cap) (by simp [execOp, Act.eval, e0, go_sem]) rfl
    · obtain rfl := Option.some.inj hi
      clear hi hlt
      intro a w1 hL hEy hU hS hD hX
      have d2 : a.tmps.getD 64 undef = .slice ad len cap := hD ⟨2, .data⟩ (by simp) rfl _ rfl
      refine stepC_yes rfl ?_
      exact okC_value StepG.refl rfl (.int .i64 (len : Int)) (by simp [execOp, resolve, invoke, builtin, Act.eval, d2, go_sem]) rfl
    · obtain rfl := Option.some.inj hi
      clear hi hlt
      intro a w1 hL hEy hU hS hD hX
      have d1 : a.tmps.getD 63 undef = .slice (some ⟨gx, 0, none⟩) (len + 8) (len + 8) := hD ⟨1, .data⟩ (by simp) rfl _ rfl
      have d3 : a.tmps.getD 65 undef = .int .i64 (len : Int) := hD ⟨3, .data⟩ (by simp) rfl _ rfl
      refine stepC_yes rfl ?_
      have hsl := run_slice_to w1 gx 0 (len + 8) (len + 8) len (by omega) (by omega)
      exact okC_value StepG.refl rfl (.slice (some ⟨gx, 0, none⟩) len (len + 8)) (by simp [execOp, Act.eval, d1, d3, hsl, go_sem]) rfl
    · obtain rfl := Option.some.inj hi
      clear hi hlt
      intro a w1 hL hEy hU hS hD hX
      have e1 : a.tmps.getD 1 undef = .int .u64 (N : Int) := (hS.slot 1 (by kernel_rfl)).trans s1
      refine stepC_yes rfl ?_
      exact okC_value StepG.refl rfl (.int .u64 (N : Int)) (by simp [execOp, Act.eval, e1, go_sem]) rfl
    · obtain rfl := Option.some.inj hi
      clear hi hlt
      intro a w1 hL hEy hU hS hD hX
      have d4 : a.tmps.getD 66 undef = .slice (some ⟨gx, 0, none⟩) len (len + 8) := hD ⟨4, .data⟩ (by simp) rfl _ rfl
      have d5 : a.tmps.getD 67 undef = .int .u64 (N : Int) := hD ⟨5, .data⟩ (by simp) rfl _ rfl
      refine stepC_yes rfl ?_
      refine okC_call (f := 11) (args := #[.slice (some ⟨gx, 0, none⟩) len (len + 8), .int .u64 (N : Int)]) (by simp [execOp, resolve, Act.eval, d4, d5, go_sem]) ?_
      refine (putUint_out _ len (len + 8) N l w1 _ _ (hax hL) (by omega) hN rfl rfl).mono ?_
      rintro e w2 ⟨g2, c2, rfl, _, _, _, ho, hb2⟩
      exact ⟨_, rfl, StepG.of_below rfl hb2, ⟨_, _, rfl, owns_base ho hL.size⟩, fun _ x hx => ho.lt x hx⟩
    · obtain rfl := Option.some.inj hi
      clear hi hlt
      intro a w1 hL hEy hU hS hD hX
      have e11 : a.tmps.getD 11 undef = .slice (some ⟨gx, 0, none⟩) (len + 8) (len + 8) := (hS.slot 11 (by kernel_rfl)).trans s11
      refine stepC_yes rfl ?_
      exact okC_value StepG.refl rfl (.slice (some ⟨gx, 0, none⟩) (len + 8) (len + 8)) (by simp [execOp, Act.eval, e11, go_sem]) rfl
    · obtain rfl := Option.some.inj hi
      clear hi hlt
      intro a w1 hL hEy hU hS hD hX
      have e0 : a.tmps.getD 0 undef = .slice ad len cap := (hS.slot 0 (by kernel_rfl)).trans s0
      refine stepC_yes rfl ?_
      exact okC_value StepG.refl rfl (.slice ad len cap) (by simp [execOp, Act.eval, e0, go_sem]) rfl
    · obtain rfl := Option.some.inj hi
      clear hi hlt
      intro a w1 hL hEy hU hS hD hX
      have d8 : a.tmps.getD 70 undef = .slice ad len cap := hD ⟨8, .data⟩ (by simp) rfl _ rfl
      refine stepC_yes rfl ?_
      exact okC_value StepG.refl rfl (.int .i64 (len : Int)) (by simp [execOp, resolve, invoke, builtin, Act.eval, d8, go_sem]) rfl
    · obtain rfl := Option.some.inj hi
      clear hi hlt
      intro a w1 hL hEy hU hS hD hX
      have d7 : a.tmps.getD 69 undef = .slice (some ⟨gx, 0, none⟩) (len + 8) (len + 8) := hD ⟨7, .data⟩ (by simp) rfl _ rfl
      have d9 : a.tmps.getD 71 undef = .int .i64 (len : Int) := hD ⟨9, .data⟩ (by simp) rfl _ rfl
      refine stepC_yes rfl ?_
      have hsl := run_slice_to w1 gx 0 (len + 8) (len + 8) len (by omega) (by omega)
      exact okC_value StepG.refl rfl (.slice (some ⟨gx, 0, none⟩) len (len + 8)) (by simp [execOp, Act.eval, d7, d9, hsl, go_sem]) rfl
    · obtain rfl := Option.some.inj hi
      clear hi hlt
      intro a w1 hL hEy hU hS hD hX
      have e2 : a.tmps.getD 2 undef = .int .i64 m := (hS.slot 2 (by kernel_rfl)).trans s2
      refine stepC_yes rfl ?_
      exact okC_value StepG.refl rfl (.int .i64 m) (by simp [execOp, Act.eval, e2, go_sem]) rfl
    · obtain rfl := Option.some.inj hi
      clear hi hlt
      intro a w1 hL hEy hU hS hD hX
      have d10 : a.tmps.getD 72 undef = .slice (some ⟨gx, 0, none⟩) len (len + 8) := hD ⟨10, .data⟩ (by simp) rfl _ rfl
      have d11 : a.tmps.getD 73 undef = .int .i64 m := hD ⟨11, .data⟩ (by simp) rfl _ rfl
      refine stepC_yes rfl ?_
      refine okC_call (f := 12) (args := #[.slice (some ⟨gx, 0, none⟩) len (len + 8), .int .i64 m]) (by simp [execOp, resolve, Act.eval, d10, d11, go_sem]) ?_
      refine (putInt_out _ len (len + 8) m l w1 _ _ (hax hL) (by omega) hm0 hm1 rfl rfl).mono ?_
      rintro e w2 ⟨g2, c2, rfl, _, _, _, ho, hb2⟩
      exact ⟨_, rfl, StepG.of_below rfl hb2, ⟨_, _, rfl, owns_base ho hL.size⟩, fun _ x hx => ho.lt x hx⟩
    · obtain rfl := Option.some.inj hi
      clear hi hlt
      intro a w1 hL hEy hU hS hD hX
      have e11 : a.tmps.getD 11 undef = .slice (some ⟨gx, 0, none⟩) (len + 8) (len + 8) := (hS.slot 11 (by kernel_rfl)).trans s11
      refine stepC_yes rfl ?_
      exact okC_value StepG.refl rfl (.slice (some ⟨gx, 0, none⟩) (len + 8) (len + 8)) (by simp [execOp, Act.eval, e11, go_sem]) rfl
    · obtain rfl := Option.some.inj hi
      clear hi hlt
      intro a w1 hL hEy hU hS hD hX
      have e0 : a.tmps.getD 0 undef = .slice ad len cap := (hS.slot 0 (by kernel_rfl)).trans s0
      refine stepC_yes rfl ?_
      exact okC_value StepG.refl rfl (.slice ad len cap) (by simp [execOp, Act.eval, e0, go_sem]) rfl
    · obtain rfl := Option.some.inj hi
      clear hi hlt
      intro a w1 hL hEy hU hS hD hX
      have d14 : a.tmps.getD 76 undef = .slice ad len cap := hD ⟨14, .data⟩ (by simp) rfl _ rfl
      refine stepC_yes rfl ?_
      exact okC_value StepG.refl rfl (.int .i64 (len : Int)) (by simp [execOp, resolve, invoke, builtin, Act.eval, d14, go_sem]) rfl
    · obtain rfl := Option.some.inj hi
      clear hi hlt
      intro a w1 hL hEy hU hS hD hX
      have d13 : a.tmps.getD 75 undef = .slice (some ⟨gx, 0, none⟩) (len + 8) (len + 8) := hD ⟨13, .data⟩ (by simp) rfl _ rfl
      have d15 : a.tmps.getD 77 undef = .int .i64 (len : Int) := hD ⟨15, .data⟩ (by simp) rfl _ rfl
      refine stepC_yes rfl ?_
      have hsl := run_slice_to w1 gx 0 (len + 8) (len + 8) len (by omega) (by omega)
      exact okC_value StepG.refl rfl (.slice (some ⟨gx, 0, none⟩) len (len + 8)) (by simp [execOp, Act.eval, d13, d15, hsl, go_sem]) rfl
    · obtain rfl := Option.some.inj hi
      clear hi hlt
      intro a w1 hL hEy hU hS hD hX
      have e12 : a.tmps.getD 12 undef = .slice (some ⟨gy, 0, none⟩) (len2 + 8) (len2 + 8) := (hS.slot 12 (by kernel_rfl)).trans s12
      refine stepC_yes rfl ?_
      exact okC_value StepG.refl rfl (.slice (some ⟨gy, 0, none⟩) (len2 + 8) (len2 + 8)) (by simp [execOp, Act.eval, e12, go_sem]) rfl
    · obtain rfl := Option.some.inj hi
      clear hi hlt
      intro a w1 hL hEy hU hS hD hX
      have e3 : a.tmps.getD 3 undef = .slice ae len2 cap2 := (hS.slot 3 (by kernel_rfl)).trans s3
      refine stepC_yes rfl ?_
      exact okC_value StepG.refl rfl (.slice ae len2 cap2) (by simp [execOp, Act.eval, e3, go_sem]) rfl
    · obtain rfl := Option.some.inj hi
      clear hi hlt
      intro a w1 hL hEy hU hS hD hX
      have d18 : a.tmps.getD 80 undef = .slice ae len2 cap2 := hD ⟨18, .data⟩ (by simp) rfl _ rfl
      refine stepC_yes rfl ?_
      exact okC_value StepG.refl rfl (.int .i64 (len2 : Int)) (by simp [execOp, resolve, invoke, builtin, Act.eval, d18, go_sem]) rfl
    · obtain rfl := Option.some.inj hi
      clear hi hlt
      intro a w1 hL hEy hU hS hD hX
      have d17 : a.tmps.getD 79 undef = .slice (some ⟨gy, 0, none⟩) (len2 + 8) (len2 + 8) := hD ⟨17, .data⟩ (by simp) rfl _ rfl
      have d19 : a.tmps.getD 81 undef = .int .i64 (len2 : Int) := hD ⟨19, .data⟩ (by simp) rfl _ rfl
      refine stepC_yes rfl ?_
      have hsl := run_slice_to w1 gy 0 (len2 + 8) (len2 + 8) len2 (by omega) (by omega)
      exact okC_value StepG.refl rfl (.slice (some ⟨gy, 0, none⟩) len2 (len2 + 8)) (by simp [execOp, Act.eval, d17, d19, hsl, go_sem]) rfl
    · obtain rfl := Option.some.inj hi
      clear hi hlt
      intro a w1 hL hEy hU hS hD hX
      have d16 : a.tmps.getD 78 undef = .slice (some ⟨gx, 0, none⟩) len (len + 8) := hD ⟨16, .data⟩ (by simp) rfl _ rfl
      have d20 : a.tmps.getD 82 undef = .slice (some ⟨gy, 0, none⟩) len2 (len2 + 8) := hD ⟨20, .data⟩ (by simp) rfl _ rfl
      refine stepC_yes rfl ?_
      refine okC_call (f := 13) (args := #[.slice (some ⟨gx, 0, none⟩) len (len + 8), .slice (some ⟨gy, 0, none⟩) len2 (len2 + 8)]) (by simp [execOp, resolve, Act.eval, d16, d20, go_sem]) ?_
      refine (putBytes_out _ len (len + 8) l _ len2 (len2 + 8) s w1 _ _ (hax hL) (hay hL) (by simp) (by omega) rfl rfl).mono ?_
      rintro e w2 ⟨g2, c2, rfl, _, _, _, ho, hb2⟩
      exact ⟨_, rfl, StepG.of_below rfl hb2, ⟨_, _, rfl, owns_base ho hL.size⟩, fun _ x hx => ho.lt x hx⟩
    · obtain rfl := Option.some.inj hi
      clear hi hlt
      intro a w1 hL hEy hU hS hD hX
      obtain ⟨a6, c6, d6, l6⟩ : ∃ ad c, a.tmps.getD 68 undef = .slice ad (len + grp N + 1) c ∧ w1.ownsRow w.heap.size 5 1 (a.tmps.getD 68 undef) (len + grp N + 1) (cells8 (l ++ enc N)) := hD ⟨6, .data⟩ (by simp) rfl _ rfl
      obtain ⟨a12, c12, d12, l12⟩ : ∃ ad c, a.tmps.getD 74 undef = .slice ad (len + grp (fold m) + 1) c ∧ w1.ownsRow w.heap.size 5 1 (a.tmps.getD 74 undef) (len + grp (fold m) + 1) (cells8 (l ++ enc (fold m))) := hD ⟨12, .data⟩ (by simp) rfl _ rfl
      obtain ⟨a21, c21, d21, l21⟩ : ∃ ad c, a.tmps.getD 83 undef = .slice ad (len + grp len2 + 1 + len2) c ∧ w1.ownsRow w.heap.size 5 1 (a.tmps.getD 83 undef) (len + grp len2 + 1 + len2) (cells8 (l ++ enc len2 ++ s)) := hD ⟨21, .data⟩ (by simp) rfl _ rfl
      refine stepC_yes rfl ?_
      have x12 : Apart (a.tmps.getD 68 undef) (a.tmps.getD 74 undef) := hX ⟨6, .data⟩ (by simp) ⟨12, .data⟩ (by simp) rfl rfl (by decide) rfl rfl _ _ rfl rfl
      have x13 : Apart (a.tmps.getD 68 undef) (a.tmps.getD 83 undef) := hX ⟨6, .data⟩ (by simp) ⟨21, .data⟩ (by simp) rfl rfl (by decide) rfl rfl _ _ rfl rfl
      have x23 : Apart (a.tmps.getD 74 undef) (a.tmps.getD 83 undef) := hX ⟨12, .data⟩ (by simp) ⟨21, .data⟩ (by simp) rfl rfl (by decide) rfl rfl _ _ rfl rfl
      have hp : ((#[(0, Operand.tmp 68), (1, .tmp 74), (2, .tmp 83)] : Array (Nat × Operand)).map fun (i, x) => (i, a.eval x)).toList = [(0, .slice a6 (len + grp N + 1) c6), (1, .slice a12 (len + grp (fold m) + 1) c12), (2, .slice a21 (len + grp len2 + 1 + len2) c21)] := by
        rw [Array.toList_map]
        show [(0, a.tmps.getD 68 undef), (1, a.tmps.getD 74 undef), (2, a.tmps.getD 83 undef)] = _
        rw [d6, d12, d21]
      rw [d6] at x12 x13 l6
      rw [d12] at x12 x23 l12
      rw [d21] at x13 x23 l21
      refine wp_buildSlice 26 22 3 #[(0, .tmp 68), (1, .tmp 74), (2, .tmp 83)] rfl _ i2 (.slice none 0 0) Try.underlying26 hi2 hy0 (by rw [hy1]; omega) (by rw [hy1]; omega) (by rw [hy1, hp]; exact fill3 _ _ _ _ _ _ _ _ _) ?_
      exact ⟨_, rfl, StepG.of_below rfl ((Below.refl _ _).alloc (Nat.le_refl _) _), ⟨_, _, _, _, rfl, hL.size, heap_alloc_new w1 _, ⟨l6.alloc _, l12.alloc _, l21.alloc _, x12, x13, x23⟩⟩, fun h => by cases h⟩
    · obtain rfl := Option.some.inj hi
      clear hi hlt
      intro a w1 hL hEy hU hS hD hX
      have d0 : a.tmps.getD 62 undef = vl := hD ⟨0, .data⟩ (by simp) rfl _ rfl
      obtain ⟨g, u1, u2, u3, d22, hg2, hg3, htr⟩ : ∃ g u1 u2 u3, a.tmps.getD 84 undef = .slice (some ⟨g, 0, none⟩) 3 3 ∧ w.heap.size ≤ g ∧ w1.heap[g]? = some (.cells #[u1, u2, u3] 22 (0, 0)) ∧ Trip w.heap.size w1 u1 u2 u3 (len + grp N + 1) (len + grp (fold m) + 1) (len + grp len2 + 1 + len2) (l ++ enc N) (l ++ enc (fold m)) (l ++ enc len2 ++ s) := hD ⟨22, .data⟩ (by simp) rfl _ rfl
      refine stepC_yes rfl ?_
      have hv1 := kept' hvl (hEy rfl) (fun x hx e => by cases e)
      have ht1 := htr.o1
      have ht2 := htr.o2
      have ht3 := htr.o3
      obtain ⟨p1, q1, rfl⟩ := owns_form ht1
      obtain ⟨p2, q2, rfl⟩ := owns_form ht2
      obtain ⟨p3, q3, rfl⟩ := owns_form ht3
      refine wp_pushN w1 (.tmp 62) (.tmp 84) 26 rfl 22 i2 (.slice none 0 0) 24 Try.underlying26 hi2 hy0 hy1 hy2 rfl B vl n xs d0 hv1 ⟨g, 0, none⟩ 3 [.slice p1 (len + grp N + 1) q1, .slice p2 (len + grp (fold m) + 1) q2, .slice p3 (len + grp len2 + 1 + len2) q3] d22 rfl (by omega) ?_ ?_ (by unfold maxLen; omega) (by omega) (Nat.le_trans hB hL.size) ?_
      · intro j x hj
        rw [Addr.add_lit]
        simp only [World.cell?, hg3]
        match j, hj with
        | 0, hj => simpa using hj
        | 1, hj => simpa using hj
        | 2, hj => simpa using hj
      · intro x hx
        simp at hx
        rcases hx with rfl | rfl | rfl <;> rfl
      · intro g' c' w2 ho2 hp2
        have hgr : w1.grownBy w2 vl.ownBlock := by
          rcases hp2 with ⟨hv, hg⟩ | ⟨_, hg⟩
          · rw [hv]; exact hg
          · exact grown_none hg _
        exact ⟨_, rfl, (by unfold StepG; rw [if_pos rfl]; exact hgr), ⟨g', c', _, _, _, rfl, ho2, htr.grown hr hgr⟩, fun h => by cases h⟩
    · obtain rfl := Option.some.inj hi
      clear hi hlt
      intro a w1 hL hEy hU hS hD hX
      have d23 : ∃ g c u1 u2 u3, a.tmps.getD 85 undef = .slice (some ⟨g, 0, none⟩) (n + 3) c ∧ w1.ownsRow B 22 1 (a.tmps.getD 85 undef) (n + 3) (xs ++ [u1, u2, u3]) ∧ Trip w.heap.size w1 u1 u2 u3 (len + grp N + 1) (len + grp (fold m) + 1) (len + grp len2 + 1 + len2) (l ++ enc N) (l ++ enc (fold m)) (l ++ enc len2 ++ s) := hD ⟨23, .data⟩ (by simp) rfl _ rfl
      refine stepC_yes rfl ?_
      obtain ⟨g, c, u1, u2, u3, h1, h2, h3⟩ := d23
      rw [h1] at h2
      exact okC_value StepG.refl rfl (.slice (some ⟨g, 0, none⟩) (n + 3) c) (by simp [execOp, Act.eval, h1, go_sem]) ⟨g, c, u1, u2, u3, rfl, h2, h3⟩

end Go.Proofs.Ytfhhcpcedfgceaa
