import Derived.Test.YtfhhcpcedfgceaaShown
import Derived.Test.YtfhhcpcedfgceaaRowB
import Derived.Test.YtfhhcpcedfgceaaBackM
import Derived.Test.YtfhhcpcedfgceaaAny
namespace Go.Proofs.Ytfhhcpcedfgceaa
open Go.RowKit
set_option linter.unusedVariables false

/-- The region of that number. -/
def findRegion (n : Nat) : Code → Option Code
  | .region id ops b => if id = n then some (.region id ops b) else none
  | .seq a b => match findRegion n a with
    | some c => some c
    | none => findRegion n b
  | .block _ c => findRegion n c
  | .scope c => findRegion n c
  | .loop c => findRegion n c
  | .cond _ a b => match findRegion n a with
    | some c => some c
    | none => findRegion n b
  | _ => none

/-- Nothing that was there has turned. -/
def Lat (u v : World) : Prop := Below u.heap.size u v
/-- A row of bytes that a call has made. -/
def Res (w : World) (v : Value) (n : Nat) (L : List Int) : Prop := ∃ g c, v = .slice (some ⟨g, 0, none⟩) n c ∧ Sl w (some ⟨g, 0, none⟩) n L ∧ n ≤ c ∧ c ≤ 281474976710656
/-- What each operation leaves: a value, or a row. -/
def TT (tab : List (Value ⊕ (Nat × List Int))) (i : Nat) (v : Value) (w : World) : Prop :=
  match tab[i]? with
  | some (.inl c) => v = c
  | some (.inr p) => Res w v p.1 p.2
  | none => True
theorem TT_stable (tab : List (Value ⊕ (Nat × List Int))) : ∀ i v w w', TT tab i v w → Lat w w' → TT tab i v w' := by
  intro i v w w' h hb
  unfold TT at *
  split at h
  · exact h
  · obtain ⟨g, c, h1, h2, h3⟩ := h
    exact ⟨g, c, h1, h2.later hb, h3⟩
  · trivial
theorem later_refl (a : World) : Lat a a := Below.refl _ _
theorem later_trans (a b c : World) (h : Lat a b) (k : Lat b c) : Lat a c := Below.trans h (Below.mono k (Below.size h))

theorem under22 : Try.prog.underlying 22 = some (.slice (Try.prog.elem 22)) := by kernel_rfl
theorem size22 (w : World) : (sizeOf (Try.prog.elem 22)).run Try.prog w = .ok 1 w := by kernel_rfl
theorem run_slice_to (w : World) (b off len cap k : Nat) (hk : k ≤ cap) (hc : cap ≤ 9223372036854775807) :
    (Instr.sliceAt 22 (.slice (some ⟨b, off, none⟩) len cap) (Option.none) (some (.int .i64 (k : Int))) Option.none).run Try.prog w = .ok (.slice (some ⟨b, off, none⟩) k cap) w := by
  rw [run_sliceAt_slice w 22 _ _ _ _ under22, run_slice_h w 22 _ len cap under22 .i64 k (by omega) (by omega), size22]
  simp [Result.andThen, sliced, Addr.add_lit]

set_option maxRecDepth 100000 in
set_option maxHeartbeats 4000000 in
theorem region29_bad (b off len3 cap3 N K : Nat) (y : Int) (Bl : List Int) (w : World) (a0 : Act) (Q : Exit → Act → World → Prop)
    (hb : Sl w (some ⟨b, off, none⟩) len3 Bl) (hc3 : len3 ≤ cap3) (hd3 : cap3 ≤ 9223372036854775807) (hN : N ≤ 18446744073709551615) (hK0 : 1 ≤ K) (hK1 : K ≤ len3) (hl : len3 ≤ 536870912)
    (E1 : enc N = Bl.take K) (EY : fold y = N) (hy0 : -9223372036854775808 ≤ y) (hy1 : y ≤ 9223372036854775807) (hsz : a0.tmps.size = 281)
    (s3 : a0.tmps.getD 3 undef = .slice (some ⟨b, off, none⟩) len3 cap3)
    (s11 : a0.tmps.getD 11 undef = .int .u64 (N : Int))
    (s12 : a0.tmps.getD 12 undef = .int .i64 (K : Int))
    (s13 : a0.tmps.getD 13 undef = .int .i64 y)
    (s14 : a0.tmps.getD 14 undef = .int .i64 (K : Int))
    (s16 : a0.tmps.getD 16 undef = .int .i64 0)
    (hQ : ∀ a w', a.tmps.getD 8 undef = .bool true → a.defers = a0.defers → Below w.heap.size w w' → Q .normal a w') :
    Code.wp Try.prog ((Try.f5.body.bind (findRegion 29)).getD .skip) Q a0 w := by
  conv => arg 2; whnf
  refine wp_region_inv Lat (TT [.inl (.int .i64 (K : Int)), .inl (.bool false), .inl (.bool false), .inl (.int .u64 (N : Int)), .inr ((grp N + 1), (Bl.take K)), .inl (.string (strOfNums (Bl.take K))), .inl (.slice (some ⟨b, off, none⟩) len3 cap3), .inl (.int .i64 (K : Int)), .inl (.slice (some ⟨b, off, none⟩) K cap3), .inl (.string (strOfNums (Bl.take K))), .inl (.bool true), .inl (.bool true), .inl (.bool true), .inl (.int .i64 (K : Int)), .inl (.bool false), .inl (.bool false), .inl (.int .i64 y), .inr ((grp N + 1), (Bl.take K)), .inl (.string (strOfNums (Bl.take K))), .inl (.slice (some ⟨b, off, none⟩) len3 cap3), .inl (.int .i64 (K : Int)), .inl (.slice (some ⟨b, off, none⟩) K cap3), .inl (.string (strOfNums (Bl.take K))), .inl (.bool true), .inl (.bool true), .inl (.bool true), .inl (.bool true), .inl (.int .i64 0), .inl (.bool true), .inl (.bool true), .inl (undef), .inl (undef), .inl (undef), .inl (undef), .inl (undef), .inl (undef), .inl (undef), .inl (undef), .inl (.bool true), .inl (.bool true), .inl (.bool true)]) (by kernel_rfl) (by kernel_rfl) (by kernel_rfl) (by rw [hsz]; kernel_rfl) (by kernel_rfl) later_refl later_trans (TT_stable _) (Below.refl _ _).drew ?hop ?hdone
  case hdone =>
    intro a w' hL hS hT
    exact hQ a w' (hT 40 _ rfl) hS.defers hL
  case hop =>
    intro i o hi
    have hlt : i < 41 := (Array.getElem?_eq_some_iff.1 hi).1
    rcases (show i = 0 ∨ i = 1 ∨ i = 2 ∨ i = 3 ∨ i = 4 ∨ i = 5 ∨ i = 6 ∨ i = 7 ∨ i = 8 ∨ i = 9 ∨ i = 10 ∨ i = 11 ∨ i = 12 ∨ i = 13 ∨ i = 14 ∨ i = 15 ∨ i = 16 ∨ i = 17 ∨ i = 18 ∨ i = 19 ∨ i = 20 ∨ i = 21 ∨ i = 22 ∨ i = 23 ∨ i = 24 ∨ i = 25 ∨ i = 26 ∨ i = 27 ∨ i = 28 ∨ i = 29 ∨ i = 30 ∨ i = 31 ∨ i = 32 ∨ i = 33 ∨ i = 34 ∨ i = 35 ∨ i = 36 ∨ i = 37 ∨ i = 38 ∨ i = 39 ∨ i = 40 by omega) with rfl | rfl | rfl | rfl | rfl | rfl | rfl | rfl | rfl | rfl | rfl | rfl | rfl | rfl | rfl | rfl | rfl | rfl | rfl | rfl | rfl | rfl | rfl | rfl | rfl | rfl | rfl | rfl | rfl | rfl | rfl | rfl | rfl | rfl | rfl | rfl | rfl | rfl | rfl | rfl | rfl
    · obtain rfl := Option.some.inj hi
      clear hi hlt
      intro a w1 hL hS hD
      have e12 : a.tmps.getD 12 undef = .int .i64 (K : Int) := (hS.slot 12 (by kernel_rfl)).trans s12
      exact step_yes (rfl) (ok_value later_refl _ (by simp [execOp, Act.eval, e12, go_sem]) rfl)
    · obtain rfl := Option.some.inj hi
      clear hi hlt
      intro a w1 hL hS hD
      have d0 : a.tmps.getD 241 undef = .int .i64 (K : Int) := hD ⟨0, .data⟩ (by simp) rfl _ rfl
      have hKi : ((K : Int) == 0) = false := by simp; omega
      exact step_yes (rfl) (ok_value later_refl (.bool false) (by simp [execOp, Act.eval, d0, hKi, go_sem]) rfl)
    · obtain rfl := Option.some.inj hi
      clear hi hlt
      intro a w1 hL hS hD
      have d1 : a.tmps.getD 242 undef = .bool false := hD ⟨1, .data⟩ (by simp) rfl _ rfl
      exact step_yes (rfl) (ok_value later_refl _ (by simp [execOp, Act.eval, d1, go_sem]) rfl)
    · obtain rfl := Option.some.inj hi
      clear hi hlt
      intro a w1 hL hS hD
      have d2 : a.tmps.getD 243 undef = .bool false := hD ⟨2, .guard⟩ (by simp) rfl _ rfl
      have e11 : a.tmps.getD 11 undef = .int .u64 (N : Int) := (hS.slot 11 (by kernel_rfl)).trans s11
      exact step_yes (wanted_yes rfl rfl rfl d2) (ok_value later_refl _ (by simp [execOp, Act.eval, e11, go_sem]) rfl)
    · obtain rfl := Option.some.inj hi
      clear hi hlt
      intro a w1 hL hS hD
      have d3 : a.tmps.getD 244 undef = .int .u64 (N : Int) := hD ⟨3, .data⟩ (by simp) rfl _ rfl
      have d2 : a.tmps.getD 243 undef = .bool false := hD ⟨2, .chain⟩ (by simp) rfl _ rfl
      refine step_yes (wanted_yes rfl rfl rfl d2) (ok_call (f := 11) (args := #[.slice none 0 0, .int .u64 (N : Int)]) (by simp [execOp, resolve, Act.eval, d3, go_sem]) ?_)
      refine (putUint_out none 0 0 N [] w1 (grp N + 1) (Bl.take K) (Sl.nil _ _) (by omega) hN (by omega) (by rw [← E1]; rfl)).mono ?_
      rintro e w2 ⟨g2, c2, rfl, hs2, hc2, hd2, _, hb2⟩
      exact ⟨_, rfl, hb2, g2, c2, rfl, hs2, hc2, hd2⟩
    · obtain rfl := Option.some.inj hi
      clear hi hlt
      intro a w1 hL hS hD
      obtain ⟨g4, c4, d4, l4, _, _⟩ : Res w1 (a.tmps.getD 245 undef) (grp N + 1) (Bl.take K) := hD ⟨4, .data⟩ (by simp) rfl _ rfl
      have d2 : a.tmps.getD 243 undef = .bool false := hD ⟨2, .guard⟩ (by simp) rfl _ rfl
      exact step_yes (wanted_yes rfl rfl rfl d2) (ok_value later_refl _ (by simp [execOp, Act.eval, d4, conv l4, go_sem]) rfl)
    · obtain rfl := Option.some.inj hi
      clear hi hlt
      intro a w1 hL hS hD
      have d2 : a.tmps.getD 243 undef = .bool false := hD ⟨2, .guard⟩ (by simp) rfl _ rfl
      have e3 : a.tmps.getD 3 undef = .slice (some ⟨b, off, none⟩) len3 cap3 := (hS.slot 3 (by kernel_rfl)).trans s3
      exact step_yes (wanted_yes rfl rfl rfl d2) (ok_value later_refl _ (by simp [execOp, Act.eval, e3, go_sem]) rfl)
    · obtain rfl := Option.some.inj hi
      clear hi hlt
      intro a w1 hL hS hD
      have d2 : a.tmps.getD 243 undef = .bool false := hD ⟨2, .guard⟩ (by simp) rfl _ rfl
      have e12 : a.tmps.getD 12 undef = .int .i64 (K : Int) := (hS.slot 12 (by kernel_rfl)).trans s12
      exact step_yes (wanted_yes rfl rfl rfl d2) (ok_value later_refl _ (by simp [execOp, Act.eval, e12, go_sem]) rfl)
    · obtain rfl := Option.some.inj hi
      clear hi hlt
      intro a w1 hL hS hD
      have d6 : a.tmps.getD 247 undef = .slice (some ⟨b, off, none⟩) len3 cap3 := hD ⟨6, .data⟩ (by simp) rfl _ rfl
      have d7 : a.tmps.getD 248 undef = .int .i64 (K : Int) := hD ⟨7, .data⟩ (by simp) rfl _ rfl
      have d2 : a.tmps.getD 243 undef = .bool false := hD ⟨2, .guard⟩ (by simp) rfl _ rfl
      have hsl := run_slice_to w1 b off len3 cap3 K (by omega) hd3
      exact step_yes (wanted_yes rfl rfl rfl d2) (ok_value later_refl _ (by simp [execOp, Act.eval, d6, d7, hsl, go_sem]) rfl)
    · obtain rfl := Option.some.inj hi
      clear hi hlt
      intro a w1 hL hS hD
      have d8 : a.tmps.getD 249 undef = .slice (some ⟨b, off, none⟩) K cap3 := hD ⟨8, .data⟩ (by simp) rfl _ rfl
      have d2 : a.tmps.getD 243 undef = .bool false := hD ⟨2, .guard⟩ (by simp) rfl _ rfl
      exact step_yes (wanted_yes rfl rfl rfl d2) (ok_value later_refl _ (by simp [execOp, Act.eval, d8, conv ((hb.later hL).take hK1), go_sem]) rfl)
    · obtain rfl := Option.some.inj hi
      clear hi hlt
      intro a w1 hL hS hD
      have d5 : a.tmps.getD 246 undef = .string (strOfNums (Bl.take K)) := hD ⟨5, .data⟩ (by simp) rfl _ rfl
      have d9 : a.tmps.getD 250 undef = .string (strOfNums (Bl.take K)) := hD ⟨9, .data⟩ (by simp) rfl _ rfl
      have d2 : a.tmps.getD 243 undef = .bool false := hD ⟨2, .guard⟩ (by simp) rfl _ rfl
      have hKi : ((K : Int) == 0) = false := by simp; omega
      exact step_yes (wanted_yes rfl rfl rfl d2) (ok_value later_refl (.bool true) (by simp [execOp, Act.eval, d5, d9, go_sem]) rfl)
    · obtain rfl := Option.some.inj hi
      clear hi hlt
      intro a w1 hL hS hD
      have d2 : a.tmps.getD 243 undef = .bool false := hD ⟨2, .data⟩ (by simp) rfl _ rfl
      have d10 : a.tmps.getD 251 undef = .bool true := hD ⟨10, .data⟩ (by simp) rfl _ rfl
      exact step_yes (rfl) (ok_value later_refl _ (by simp [execOp, Act.eval, d2, d10, go_sem]) rfl)
    · obtain rfl := Option.some.inj hi
      clear hi hlt
      intro a w1 hL hS hD
      have d11 : a.tmps.getD 252 undef = .bool true := hD ⟨11, .data⟩ (by simp) rfl _ rfl
      exact step_yes (rfl) (ok_value later_refl _ (by simp [execOp, Act.eval, d11, go_sem]) rfl)
    · obtain rfl := Option.some.inj hi
      clear hi hlt
      intro a w1 hL hS hD
      have d12 : a.tmps.getD 253 undef = .bool true := hD ⟨12, .guard⟩ (by simp) rfl _ rfl
      have e14 : a.tmps.getD 14 undef = .int .i64 (K : Int) := (hS.slot 14 (by kernel_rfl)).trans s14
      exact step_yes (wanted_yes rfl rfl rfl d12) (ok_value later_refl _ (by simp [execOp, Act.eval, e14, go_sem]) rfl)
    · obtain rfl := Option.some.inj hi
      clear hi hlt
      intro a w1 hL hS hD
      have d13 : a.tmps.getD 254 undef = .int .i64 (K : Int) := hD ⟨13, .data⟩ (by simp) rfl _ rfl
      have d12 : a.tmps.getD 253 undef = .bool true := hD ⟨12, .guard⟩ (by simp) rfl _ rfl
      have hKi : ((K : Int) == 0) = false := by simp; omega
      exact step_yes (wanted_yes rfl rfl rfl d12) (ok_value later_refl (.bool false) (by simp [execOp, Act.eval, d13, hKi, go_sem]) rfl)
    · obtain rfl := Option.some.inj hi
      clear hi hlt
      intro a w1 hL hS hD
      have d14 : a.tmps.getD 255 undef = .bool false := hD ⟨14, .data⟩ (by simp) rfl _ rfl
      have d12 : a.tmps.getD 253 undef = .bool true := hD ⟨12, .chain⟩ (by simp) rfl _ rfl
      exact step_yes (wanted_yes rfl rfl rfl d12) (ok_value later_refl _ (by simp [execOp, Act.eval, d14, go_sem]) rfl)
    · obtain rfl := Option.some.inj hi
      clear hi hlt
      intro a w1 hL hS hD
      have d15 : a.tmps.getD 256 undef = .bool false := hD ⟨15, .guard⟩ (by simp) rfl _ rfl
      have e13 : a.tmps.getD 13 undef = .int .i64 y := (hS.slot 13 (by kernel_rfl)).trans s13
      exact step_yes (wanted_yes rfl rfl rfl d15) (ok_value later_refl _ (by simp [execOp, Act.eval, e13, go_sem]) rfl)
    · obtain rfl := Option.some.inj hi
      clear hi hlt
      intro a w1 hL hS hD
      have d16 : a.tmps.getD 257 undef = .int .i64 y := hD ⟨16, .data⟩ (by simp) rfl _ rfl
      have d15 : a.tmps.getD 256 undef = .bool false := hD ⟨15, .chain⟩ (by simp) rfl _ rfl
      refine step_yes (wanted_yes rfl rfl rfl d15) (ok_call (f := 12) (args := #[.slice none 0 0, .int .i64 y]) (by simp [execOp, resolve, Act.eval, d16, go_sem]) ?_)
      refine (putInt_out none 0 0 y [] w1 (grp N + 1) (Bl.take K) (Sl.nil _ _) (by omega) hy0 hy1 (by rw [EY]; omega) (by rw [EY, ← E1]; rfl)).mono ?_
      rintro e w2 ⟨g2, c2, rfl, hs2, hc2, hd2, _, hb2⟩
      exact ⟨_, rfl, hb2, g2, c2, rfl, hs2, hc2, hd2⟩
    · obtain rfl := Option.some.inj hi
      clear hi hlt
      intro a w1 hL hS hD
      obtain ⟨g17, c17, d17, l17, _, _⟩ : Res w1 (a.tmps.getD 258 undef) (grp N + 1) (Bl.take K) := hD ⟨17, .data⟩ (by simp) rfl _ rfl
      have d15 : a.tmps.getD 256 undef = .bool false := hD ⟨15, .guard⟩ (by simp) rfl _ rfl
      exact step_yes (wanted_yes rfl rfl rfl d15) (ok_value later_refl _ (by simp [execOp, Act.eval, d17, conv l17, go_sem]) rfl)
    · obtain rfl := Option.some.inj hi
      clear hi hlt
      intro a w1 hL hS hD
      have d15 : a.tmps.getD 256 undef = .bool false := hD ⟨15, .guard⟩ (by simp) rfl _ rfl
      have e3 : a.tmps.getD 3 undef = .slice (some ⟨b, off, none⟩) len3 cap3 := (hS.slot 3 (by kernel_rfl)).trans s3
      exact step_yes (wanted_yes rfl rfl rfl d15) (ok_value later_refl _ (by simp [execOp, Act.eval, e3, go_sem]) rfl)
    · obtain rfl := Option.some.inj hi
      clear hi hlt
      intro a w1 hL hS hD
      have d15 : a.tmps.getD 256 undef = .bool false := hD ⟨15, .guard⟩ (by simp) rfl _ rfl
      have e14 : a.tmps.getD 14 undef = .int .i64 (K : Int) := (hS.slot 14 (by kernel_rfl)).trans s14
      exact step_yes (wanted_yes rfl rfl rfl d15) (ok_value later_refl _ (by simp [execOp, Act.eval, e14, go_sem]) rfl)
    · obtain rfl := Option.some.inj hi
      clear hi hlt
      intro a w1 hL hS hD
      have d19 : a.tmps.getD 260 undef = .slice (some ⟨b, off, none⟩) len3 cap3 := hD ⟨19, .data⟩ (by simp) rfl _ rfl
      have d20 : a.tmps.getD 261 undef = .int .i64 (K : Int) := hD ⟨20, .data⟩ (by simp) rfl _ rfl
      have d15 : a.tmps.getD 256 undef = .bool false := hD ⟨15, .guard⟩ (by simp) rfl _ rfl
      have hsl := run_slice_to w1 b off len3 cap3 K (by omega) hd3
      exact step_yes (wanted_yes rfl rfl rfl d15) (ok_value later_refl _ (by simp [execOp, Act.eval, d19, d20, hsl, go_sem]) rfl)
    · obtain rfl := Option.some.inj hi
      clear hi hlt
      intro a w1 hL hS hD
      have d21 : a.tmps.getD 262 undef = .slice (some ⟨b, off, none⟩) K cap3 := hD ⟨21, .data⟩ (by simp) rfl _ rfl
      have d15 : a.tmps.getD 256 undef = .bool false := hD ⟨15, .guard⟩ (by simp) rfl _ rfl
      exact step_yes (wanted_yes rfl rfl rfl d15) (ok_value later_refl _ (by simp [execOp, Act.eval, d21, conv ((hb.later hL).take hK1), go_sem]) rfl)
    · obtain rfl := Option.some.inj hi
      clear hi hlt
      intro a w1 hL hS hD
      have d18 : a.tmps.getD 259 undef = .string (strOfNums (Bl.take K)) := hD ⟨18, .data⟩ (by simp) rfl _ rfl
      have d22 : a.tmps.getD 263 undef = .string (strOfNums (Bl.take K)) := hD ⟨22, .data⟩ (by simp) rfl _ rfl
      have d15 : a.tmps.getD 256 undef = .bool false := hD ⟨15, .guard⟩ (by simp) rfl _ rfl
      have hKi : ((K : Int) == 0) = false := by simp; omega
      exact step_yes (wanted_yes rfl rfl rfl d15) (ok_value later_refl (.bool true) (by simp [execOp, Act.eval, d18, d22, go_sem]) rfl)
    · obtain rfl := Option.some.inj hi
      clear hi hlt
      intro a w1 hL hS hD
      have d15 : a.tmps.getD 256 undef = .bool false := hD ⟨15, .data⟩ (by simp) rfl _ rfl
      have d23 : a.tmps.getD 264 undef = .bool true := hD ⟨23, .data⟩ (by simp) rfl _ rfl
      have d12 : a.tmps.getD 253 undef = .bool true := hD ⟨12, .guard⟩ (by simp) rfl _ rfl
      exact step_yes (wanted_yes rfl rfl rfl d12) (ok_value later_refl _ (by simp [execOp, Act.eval, d15, d23, go_sem]) rfl)
    · obtain rfl := Option.some.inj hi
      clear hi hlt
      intro a w1 hL hS hD
      have d12 : a.tmps.getD 253 undef = .bool true := hD ⟨12, .data⟩ (by simp) rfl _ rfl
      have d24 : a.tmps.getD 265 undef = .bool true := hD ⟨24, .data⟩ (by simp) rfl _ rfl
      exact step_yes (rfl) (ok_value later_refl _ (by simp [execOp, Act.eval, d12, d24, go_sem]) rfl)
    · obtain rfl := Option.some.inj hi
      clear hi hlt
      intro a w1 hL hS hD
      have d25 : a.tmps.getD 266 undef = .bool true := hD ⟨25, .data⟩ (by simp) rfl _ rfl
      exact step_yes (rfl) (ok_value later_refl _ (by simp [execOp, Act.eval, d25, go_sem]) rfl)
    · obtain rfl := Option.some.inj hi
      clear hi hlt
      intro a w1 hL hS hD
      have d26 : a.tmps.getD 267 undef = .bool true := hD ⟨26, .guard⟩ (by simp) rfl _ rfl
      have e16 : a.tmps.getD 16 undef = .int .i64 0 := (hS.slot 16 (by kernel_rfl)).trans s16
      exact step_yes (wanted_yes rfl rfl rfl d26) (ok_value later_refl _ (by simp [execOp, Act.eval, e16, go_sem]) rfl)
    · obtain rfl := Option.some.inj hi
      clear hi hlt
      intro a w1 hL hS hD
      have d27 : a.tmps.getD 268 undef = .int .i64 0 := hD ⟨27, .data⟩ (by simp) rfl _ rfl
      have d26 : a.tmps.getD 267 undef = .bool true := hD ⟨26, .guard⟩ (by simp) rfl _ rfl
      have hKi : ((K : Int) == 0) = false := by simp; omega
      exact step_yes (wanted_yes rfl rfl rfl d26) (ok_value later_refl (.bool true) (by simp [execOp, Act.eval, d27, go_sem]) rfl)
    · obtain rfl := Option.some.inj hi
      clear hi hlt
      intro a w1 hL hS hD
      have d28 : a.tmps.getD 269 undef = .bool true := hD ⟨28, .data⟩ (by simp) rfl _ rfl
      have d26 : a.tmps.getD 267 undef = .bool true := hD ⟨26, .chain⟩ (by simp) rfl _ rfl
      exact step_yes (wanted_yes rfl rfl rfl d26) (ok_value later_refl _ (by simp [execOp, Act.eval, d28, go_sem]) rfl)
    · obtain rfl := Option.some.inj hi
      clear hi hlt
      intro a w1 hL hS hD
      have d29 : a.tmps.getD 270 undef = .bool true := hD ⟨29, .guard⟩ (by simp) rfl _ rfl
      exact step_no (wanted_no rfl rfl rfl d29 rfl) rfl
    · obtain rfl := Option.some.inj hi
      clear hi hlt
      intro a w1 hL hS hD
      have d30 : a.tmps.getD 271 undef = undef := hD ⟨30, .data⟩ (by simp) rfl _ rfl
      have d29 : a.tmps.getD 270 undef = .bool true := hD ⟨29, .chain⟩ (by simp) rfl _ rfl
      exact step_no (wanted_no rfl rfl rfl d29 rfl) rfl
    · obtain rfl := Option.some.inj hi
      clear hi hlt
      intro a w1 hL hS hD
      have d31 : a.tmps.getD 272 undef = undef := hD ⟨31, .data⟩ (by simp) rfl _ rfl
      have d29 : a.tmps.getD 270 undef = .bool true := hD ⟨29, .guard⟩ (by simp) rfl _ rfl
      exact step_no (wanted_no rfl rfl rfl d29 rfl) rfl
    · obtain rfl := Option.some.inj hi
      clear hi hlt
      intro a w1 hL hS hD
      have d29 : a.tmps.getD 270 undef = .bool true := hD ⟨29, .guard⟩ (by simp) rfl _ rfl
      have e3 : a.tmps.getD 3 undef = .slice (some ⟨b, off, none⟩) len3 cap3 := (hS.slot 3 (by kernel_rfl)).trans s3
      exact step_no (wanted_no rfl rfl rfl d29 rfl) rfl
    · obtain rfl := Option.some.inj hi
      clear hi hlt
      intro a w1 hL hS hD
      have d29 : a.tmps.getD 270 undef = .bool true := hD ⟨29, .guard⟩ (by simp) rfl _ rfl
      have e16 : a.tmps.getD 16 undef = .int .i64 0 := (hS.slot 16 (by kernel_rfl)).trans s16
      exact step_no (wanted_no rfl rfl rfl d29 rfl) rfl
    · obtain rfl := Option.some.inj hi
      clear hi hlt
      intro a w1 hL hS hD
      have d33 : a.tmps.getD 274 undef = undef := hD ⟨33, .data⟩ (by simp) rfl _ rfl
      have d34 : a.tmps.getD 275 undef = undef := hD ⟨34, .data⟩ (by simp) rfl _ rfl
      have d29 : a.tmps.getD 270 undef = .bool true := hD ⟨29, .guard⟩ (by simp) rfl _ rfl
      exact step_no (wanted_no rfl rfl rfl d29 rfl) rfl
    · obtain rfl := Option.some.inj hi
      clear hi hlt
      intro a w1 hL hS hD
      have d35 : a.tmps.getD 276 undef = undef := hD ⟨35, .data⟩ (by simp) rfl _ rfl
      have d29 : a.tmps.getD 270 undef = .bool true := hD ⟨29, .guard⟩ (by simp) rfl _ rfl
      exact step_no (wanted_no rfl rfl rfl d29 rfl) rfl
    · obtain rfl := Option.some.inj hi
      clear hi hlt
      intro a w1 hL hS hD
      have d32 : a.tmps.getD 273 undef = undef := hD ⟨32, .data⟩ (by simp) rfl _ rfl
      have d36 : a.tmps.getD 277 undef = undef := hD ⟨36, .data⟩ (by simp) rfl _ rfl
      have d29 : a.tmps.getD 270 undef = .bool true := hD ⟨29, .guard⟩ (by simp) rfl _ rfl
      exact step_no (wanted_no rfl rfl rfl d29 rfl) rfl
    · obtain rfl := Option.some.inj hi
      clear hi hlt
      intro a w1 hL hS hD
      have d29 : a.tmps.getD 270 undef = .bool true := hD ⟨29, .data⟩ (by simp) rfl _ rfl
      have d37 : a.tmps.getD 278 undef = undef := hD ⟨37, .data⟩ (by simp) rfl _ rfl
      have d26 : a.tmps.getD 267 undef = .bool true := hD ⟨26, .guard⟩ (by simp) rfl _ rfl
      exact step_yes (wanted_yes rfl rfl rfl d26) (ok_value later_refl _ (by simp [execOp, Act.eval, d29, d37, go_sem]) rfl)
    · obtain rfl := Option.some.inj hi
      clear hi hlt
      intro a w1 hL hS hD
      have d26 : a.tmps.getD 267 undef = .bool true := hD ⟨26, .data⟩ (by simp) rfl _ rfl
      have d38 : a.tmps.getD 279 undef = .bool true := hD ⟨38, .data⟩ (by simp) rfl _ rfl
      exact step_yes (rfl) (ok_value later_refl _ (by simp [execOp, Act.eval, d26, d38, go_sem]) rfl)
    · obtain rfl := Option.some.inj hi
      clear hi hlt
      intro a w1 hL hS hD
      have d39 : a.tmps.getD 280 undef = .bool true := hD ⟨39, .data⟩ (by simp) rfl _ rfl
      exact step_yes (rfl) (ok_value later_refl _ (by simp [execOp, Act.eval, d39, go_sem]) rfl)

set_option maxRecDepth 100000 in
set_option maxHeartbeats 4000000 in
theorem region29_good (b off len3 cap3 N K : Nat) (g M : Nat) (y : Int) (Bl : List Int) (w : World) (a0 : Act) (Q : Exit → Act → World → Prop)
    (hb : Sl w (some ⟨b, off, none⟩) len3 Bl) (hc3 : len3 ≤ cap3) (hd3 : cap3 ≤ 9223372036854775807) (hN : N ≤ 18446744073709551615) (hK0 : 1 ≤ K) (hK1 : K ≤ len3) (hl : len3 ≤ 536870912)
    (E1 : enc N = Bl.take K) (EY : fold y = N) (hy0 : -9223372036854775808 ≤ y) (hy1 : y ≤ 9223372036854775807) (hsz : a0.tmps.size = 281)
    (hKM : K + N = M) (hKN : M ≤ len3) (hz : Sl w (some ⟨g, 0, none⟩) N ((Bl.drop K).take N))
    (s3 : a0.tmps.getD 3 undef = .slice (some ⟨b, off, none⟩) len3 cap3)
    (s11 : a0.tmps.getD 11 undef = .int .u64 (N : Int))
    (s12 : a0.tmps.getD 12 undef = .int .i64 (K : Int))
    (s13 : a0.tmps.getD 13 undef = .int .i64 y)
    (s14 : a0.tmps.getD 14 undef = .int .i64 (K : Int))
    (s15 : a0.tmps.getD 15 undef = .slice (some ⟨g, 0, none⟩) N N)
    (s16 : a0.tmps.getD 16 undef = .int .i64 (M : Int))
    (hQ : ∀ a w', a.tmps.getD 8 undef = .bool true → a.defers = a0.defers → Below w.heap.size w w' → Q .normal a w') :
    Code.wp Try.prog ((Try.f5.body.bind (findRegion 29)).getD .skip) Q a0 w := by
  conv => arg 2; whnf
  refine wp_region_inv Lat (TT [.inl (.int .i64 (K : Int)), .inl (.bool false), .inl (.bool false), .inl (.int .u64 (N : Int)), .inr ((grp N + 1), (Bl.take K)), .inl (.string (strOfNums (Bl.take K))), .inl (.slice (some ⟨b, off, none⟩) len3 cap3), .inl (.int .i64 (K : Int)), .inl (.slice (some ⟨b, off, none⟩) K cap3), .inl (.string (strOfNums (Bl.take K))), .inl (.bool true), .inl (.bool true), .inl (.bool true), .inl (.int .i64 (K : Int)), .inl (.bool false), .inl (.bool false), .inl (.int .i64 y), .inr ((grp N + 1), (Bl.take K)), .inl (.string (strOfNums (Bl.take K))), .inl (.slice (some ⟨b, off, none⟩) len3 cap3), .inl (.int .i64 (K : Int)), .inl (.slice (some ⟨b, off, none⟩) K cap3), .inl (.string (strOfNums (Bl.take K))), .inl (.bool true), .inl (.bool true), .inl (.bool true), .inl (.bool true), .inl (.int .i64 (M : Int)), .inl (.bool false), .inl (.bool false), .inl (.slice (some ⟨g, 0, none⟩) N N), .inr ((grp N + 1 + N), (Bl.take M)), .inl (.string (strOfNums (Bl.take M))), .inl (.slice (some ⟨b, off, none⟩) len3 cap3), .inl (.int .i64 (M : Int)), .inl (.slice (some ⟨b, off, none⟩) M cap3), .inl (.string (strOfNums (Bl.take M))), .inl (.bool true), .inl (.bool true), .inl (.bool true), .inl (.bool true)]) (by kernel_rfl) (by kernel_rfl) (by kernel_rfl) (by rw [hsz]; kernel_rfl) (by kernel_rfl) later_refl later_trans (TT_stable _) (Below.refl _ _).drew ?hop ?hdone
  case hdone =>
    intro a w' hL hS hT
    exact hQ a w' (hT 40 _ rfl) hS.defers hL
  case hop =>
    intro i o hi
    have hlt : i < 41 := (Array.getElem?_eq_some_iff.1 hi).1
    rcases (show i = 0 ∨ i = 1 ∨ i = 2 ∨ i = 3 ∨ i = 4 ∨ i = 5 ∨ i = 6 ∨ i = 7 ∨ i = 8 ∨ i = 9 ∨ i = 10 ∨ i = 11 ∨ i = 12 ∨ i = 13 ∨ i = 14 ∨ i = 15 ∨ i = 16 ∨ i = 17 ∨ i = 18 ∨ i = 19 ∨ i = 20 ∨ i = 21 ∨ i = 22 ∨ i = 23 ∨ i = 24 ∨ i = 25 ∨ i = 26 ∨ i = 27 ∨ i = 28 ∨ i = 29 ∨ i = 30 ∨ i = 31 ∨ i = 32 ∨ i = 33 ∨ i = 34 ∨ i = 35 ∨ i = 36 ∨ i = 37 ∨ i = 38 ∨ i = 39 ∨ i = 40 by omega) with rfl | rfl | rfl | rfl | rfl | rfl | rfl | rfl | rfl | rfl | rfl | rfl | rfl | rfl | rfl | rfl | rfl | rfl | rfl | rfl | rfl | rfl | rfl | rfl | rfl | rfl | rfl | rfl | rfl | rfl | rfl | rfl | rfl | rfl | rfl | rfl | rfl | rfl | rfl | rfl | rfl
    · obtain rfl := Option.some.inj hi
      clear hi hlt
      intro a w1 hL hS hD
      have e12 : a.tmps.getD 12 undef = .int .i64 (K : Int) := (hS.slot 12 (by kernel_rfl)).trans s12
      exact step_yes (rfl) (ok_value later_refl _ (by simp [execOp, Act.eval, e12, go_sem]) rfl)
    · obtain rfl := Option.some.inj hi
      clear hi hlt
      intro a w1 hL hS hD
      have d0 : a.tmps.getD 241 undef = .int .i64 (K : Int) := hD ⟨0, .data⟩ (by simp) rfl _ rfl
      have hKi : ((K : Int) == 0) = false := by simp; omega
      have hKj : ((M : Int) == 0) = false := by simp; omega
      exact step_yes (rfl) (ok_value later_refl (.bool false) (by simp [execOp, Act.eval, d0, hKi, go_sem]) rfl)
    · obtain rfl := Option.some.inj hi
      clear hi hlt
      intro a w1 hL hS hD
      have d1 : a.tmps.getD 242 undef = .bool false := hD ⟨1, .data⟩ (by simp) rfl _ rfl
      exact step_yes (rfl) (ok_value later_refl _ (by simp [execOp, Act.eval, d1, go_sem]) rfl)
    · obtain rfl := Option.some.inj hi
      clear hi hlt
      intro a w1 hL hS hD
      have d2 : a.tmps.getD 243 undef = .bool false := hD ⟨2, .guard⟩ (by simp) rfl _ rfl
      have e11 : a.tmps.getD 11 undef = .int .u64 (N : Int) := (hS.slot 11 (by kernel_rfl)).trans s11
      exact step_yes (wanted_yes rfl rfl rfl d2) (ok_value later_refl _ (by simp [execOp, Act.eval, e11, go_sem]) rfl)
    · obtain rfl := Option.some.inj hi
      clear hi hlt
      intro a w1 hL hS hD
      have d3 : a.tmps.getD 244 undef = .int .u64 (N : Int) := hD ⟨3, .data⟩ (by simp) rfl _ rfl
      have d2 : a.tmps.getD 243 undef = .bool false := hD ⟨2, .chain⟩ (by simp) rfl _ rfl
      refine step_yes (wanted_yes rfl rfl rfl d2) (ok_call (f := 11) (args := #[.slice none 0 0, .int .u64 (N : Int)]) (by simp [execOp, resolve, Act.eval, d3, go_sem]) ?_)
      refine (putUint_out none 0 0 N [] w1 (grp N + 1) (Bl.take K) (Sl.nil _ _) (by omega) hN (by omega) (by rw [← E1]; rfl)).mono ?_
      rintro e w2 ⟨g2, c2, rfl, hs2, hc2, hd2, _, hb2⟩
      exact ⟨_, rfl, hb2, g2, c2, rfl, hs2, hc2, hd2⟩
    · obtain rfl := Option.some.inj hi
      clear hi hlt
      intro a w1 hL hS hD
      obtain ⟨g4, c4, d4, l4, _, _⟩ : Res w1 (a.tmps.getD 245 undef) (grp N + 1) (Bl.take K) := hD ⟨4, .data⟩ (by simp) rfl _ rfl
      have d2 : a.tmps.getD 243 undef = .bool false := hD ⟨2, .guard⟩ (by simp) rfl _ rfl
      exact step_yes (wanted_yes rfl rfl rfl d2) (ok_value later_refl _ (by simp [execOp, Act.eval, d4, conv l4, go_sem]) rfl)
    · obtain rfl := Option.some.inj hi
      clear hi hlt
      intro a w1 hL hS hD
      have d2 : a.tmps.getD 243 undef = .bool false := hD ⟨2, .guard⟩ (by simp) rfl _ rfl
      have e3 : a.tmps.getD 3 undef = .slice (some ⟨b, off, none⟩) len3 cap3 := (hS.slot 3 (by kernel_rfl)).trans s3
      exact step_yes (wanted_yes rfl rfl rfl d2) (ok_value later_refl _ (by simp [execOp, Act.eval, e3, go_sem]) rfl)
    · obtain rfl := Option.some.inj hi
      clear hi hlt
      intro a w1 hL hS hD
      have d2 : a.tmps.getD 243 undef = .bool false := hD ⟨2, .guard⟩ (by simp) rfl _ rfl
      have e12 : a.tmps.getD 12 undef = .int .i64 (K : Int) := (hS.slot 12 (by kernel_rfl)).trans s12
      exact step_yes (wanted_yes rfl rfl rfl d2) (ok_value later_refl _ (by simp [execOp, Act.eval, e12, go_sem]) rfl)
    · obtain rfl := Option.some.inj hi
      clear hi hlt
      intro a w1 hL hS hD
      have d6 : a.tmps.getD 247 undef = .slice (some ⟨b, off, none⟩) len3 cap3 := hD ⟨6, .data⟩ (by simp) rfl _ rfl
      have d7 : a.tmps.getD 248 undef = .int .i64 (K : Int) := hD ⟨7, .data⟩ (by simp) rfl _ rfl
      have d2 : a.tmps.getD 243 undef = .bool false := hD ⟨2, .guard⟩ (by simp) rfl _ rfl
      have hsl := run_slice_to w1 b off len3 cap3 K (by omega) hd3
      exact step_yes (wanted_yes rfl rfl rfl d2) (ok_value later_refl _ (by simp [execOp, Act.eval, d6, d7, hsl, go_sem]) rfl)
    · obtain rfl := Option.some.inj hi
      clear hi hlt
      intro a w1 hL hS hD
      have d8 : a.tmps.getD 249 undef = .slice (some ⟨b, off, none⟩) K cap3 := hD ⟨8, .data⟩ (by simp) rfl _ rfl
      have d2 : a.tmps.getD 243 undef = .bool false := hD ⟨2, .guard⟩ (by simp) rfl _ rfl
      exact step_yes (wanted_yes rfl rfl rfl d2) (ok_value later_refl _ (by simp [execOp, Act.eval, d8, conv ((hb.later hL).take hK1), go_sem]) rfl)
    · obtain rfl := Option.some.inj hi
      clear hi hlt
      intro a w1 hL hS hD
      have d5 : a.tmps.getD 246 undef = .string (strOfNums (Bl.take K)) := hD ⟨5, .data⟩ (by simp) rfl _ rfl
      have d9 : a.tmps.getD 250 undef = .string (strOfNums (Bl.take K)) := hD ⟨9, .data⟩ (by simp) rfl _ rfl
      have d2 : a.tmps.getD 243 undef = .bool false := hD ⟨2, .guard⟩ (by simp) rfl _ rfl
      have hKi : ((K : Int) == 0) = false := by simp; omega
      have hKj : ((M : Int) == 0) = false := by simp; omega
      exact step_yes (wanted_yes rfl rfl rfl d2) (ok_value later_refl (.bool true) (by simp [execOp, Act.eval, d5, d9, go_sem]) rfl)
    · obtain rfl := Option.some.inj hi
      clear hi hlt
      intro a w1 hL hS hD
      have d2 : a.tmps.getD 243 undef = .bool false := hD ⟨2, .data⟩ (by simp) rfl _ rfl
      have d10 : a.tmps.getD 251 undef = .bool true := hD ⟨10, .data⟩ (by simp) rfl _ rfl
      exact step_yes (rfl) (ok_value later_refl _ (by simp [execOp, Act.eval, d2, d10, go_sem]) rfl)
    · obtain rfl := Option.some.inj hi
      clear hi hlt
      intro a w1 hL hS hD
      have d11 : a.tmps.getD 252 undef = .bool true := hD ⟨11, .data⟩ (by simp) rfl _ rfl
      exact step_yes (rfl) (ok_value later_refl _ (by simp [execOp, Act.eval, d11, go_sem]) rfl)
    · obtain rfl := Option.some.inj hi
      clear hi hlt
      intro a w1 hL hS hD
      have d12 : a.tmps.getD 253 undef = .bool true := hD ⟨12, .guard⟩ (by simp) rfl _ rfl
      have e14 : a.tmps.getD 14 undef = .int .i64 (K : Int) := (hS.slot 14 (by kernel_rfl)).trans s14
      exact step_yes (wanted_yes rfl rfl rfl d12) (ok_value later_refl _ (by simp [execOp, Act.eval, e14, go_sem]) rfl)
    · obtain rfl := Option.some.inj hi
      clear hi hlt
      intro a w1 hL hS hD
      have d13 : a.tmps.getD 254 undef = .int .i64 (K : Int) := hD ⟨13, .data⟩ (by simp) rfl _ rfl
      have d12 : a.tmps.getD 253 undef = .bool true := hD ⟨12, .guard⟩ (by simp) rfl _ rfl
      have hKi : ((K : Int) == 0) = false := by simp; omega
      have hKj : ((M : Int) == 0) = false := by simp; omega
      exact step_yes (wanted_yes rfl rfl rfl d12) (ok_value later_refl (.bool false) (by simp [execOp, Act.eval, d13, hKi, go_sem]) rfl)
    · obtain rfl := Option.some.inj hi
      clear hi hlt
      intro a w1 hL hS hD
      have d14 : a.tmps.getD 255 undef = .bool false := hD ⟨14, .data⟩ (by simp) rfl _ rfl
      have d12 : a.tmps.getD 253 undef = .bool true := hD ⟨12, .chain⟩ (by simp) rfl _ rfl
      exact step_yes (wanted_yes rfl rfl rfl d12) (ok_value later_refl _ (by simp [execOp, Act.eval, d14, go_sem]) rfl)
    · obtain rfl := Option.some.inj hi
      clear hi hlt
      intro a w1 hL hS hD
      have d15 : a.tmps.getD 256 undef = .bool false := hD ⟨15, .guard⟩ (by simp) rfl _ rfl
      have e13 : a.tmps.getD 13 undef = .int .i64 y := (hS.slot 13 (by kernel_rfl)).trans s13
      exact step_yes (wanted_yes rfl rfl rfl d15) (ok_value later_refl _ (by simp [execOp, Act.eval, e13, go_sem]) rfl)
    · obtain rfl := Option.some.inj hi
      clear hi hlt
      intro a w1 hL hS hD
      have d16 : a.tmps.getD 257 undef = .int .i64 y := hD ⟨16, .data⟩ (by simp) rfl _ rfl
      have d15 : a.tmps.getD 256 undef = .bool false := hD ⟨15, .chain⟩ (by simp) rfl _ rfl
      refine step_yes (wanted_yes rfl rfl rfl d15) (ok_call (f := 12) (args := #[.slice none 0 0, .int .i64 y]) (by simp [execOp, resolve, Act.eval, d16, go_sem]) ?_)
      refine (putInt_out none 0 0 y [] w1 (grp N + 1) (Bl.take K) (Sl.nil _ _) (by omega) hy0 hy1 (by rw [EY]; omega) (by rw [EY, ← E1]; rfl)).mono ?_
      rintro e w2 ⟨g2, c2, rfl, hs2, hc2, hd2, _, hb2⟩
      exact ⟨_, rfl, hb2, g2, c2, rfl, hs2, hc2, hd2⟩
    · obtain rfl := Option.some.inj hi
      clear hi hlt
      intro a w1 hL hS hD
      obtain ⟨g17, c17, d17, l17, _, _⟩ : Res w1 (a.tmps.getD 258 undef) (grp N + 1) (Bl.take K) := hD ⟨17, .data⟩ (by simp) rfl _ rfl
      have d15 : a.tmps.getD 256 undef = .bool false := hD ⟨15, .guard⟩ (by simp) rfl _ rfl
      exact step_yes (wanted_yes rfl rfl rfl d15) (ok_value later_refl _ (by simp [execOp, Act.eval, d17, conv l17, go_sem]) rfl)
    · obtain rfl := Option.some.inj hi
      clear hi hlt
      intro a w1 hL hS hD
      have d15 : a.tmps.getD 256 undef = .bool false := hD ⟨15, .guard⟩ (by simp) rfl _ rfl
      have e3 : a.tmps.getD 3 undef = .slice (some ⟨b, off, none⟩) len3 cap3 := (hS.slot 3 (by kernel_rfl)).trans s3
      exact step_yes (wanted_yes rfl rfl rfl d15) (ok_value later_refl _ (by simp [execOp, Act.eval, e3, go_sem]) rfl)
    · obtain rfl := Option.some.inj hi
      clear hi hlt
      intro a w1 hL hS hD
      have d15 : a.tmps.getD 256 undef = .bool false := hD ⟨15, .guard⟩ (by simp) rfl _ rfl
      have e14 : a.tmps.getD 14 undef = .int .i64 (K : Int) := (hS.slot 14 (by kernel_rfl)).trans s14
      exact step_yes (wanted_yes rfl rfl rfl d15) (ok_value later_refl _ (by simp [execOp, Act.eval, e14, go_sem]) rfl)
    · obtain rfl := Option.some.inj hi
      clear hi hlt
      intro a w1 hL hS hD
      have d19 : a.tmps.getD 260 undef = .slice (some ⟨b, off, none⟩) len3 cap3 := hD ⟨19, .data⟩ (by simp) rfl _ rfl
      have d20 : a.tmps.getD 261 undef = .int .i64 (K : Int) := hD ⟨20, .data⟩ (by simp) rfl _ rfl
      have d15 : a.tmps.getD 256 undef = .bool false := hD ⟨15, .guard⟩ (by simp) rfl _ rfl
      have hsl := run_slice_to w1 b off len3 cap3 K (by omega) hd3
      exact step_yes (wanted_yes rfl rfl rfl d15) (ok_value later_refl _ (by simp [execOp, Act.eval, d19, d20, hsl, go_sem]) rfl)
    · obtain rfl := Option.some.inj hi
      clear hi hlt
      intro a w1 hL hS hD
      have d21 : a.tmps.getD 262 undef = .slice (some ⟨b, off, none⟩) K cap3 := hD ⟨21, .data⟩ (by simp) rfl _ rfl
      have d15 : a.tmps.getD 256 undef = .bool false := hD ⟨15, .guard⟩ (by simp) rfl _ rfl
      exact step_yes (wanted_yes rfl rfl rfl d15) (ok_value later_refl _ (by simp [execOp, Act.eval, d21, conv ((hb.later hL).take hK1), go_sem]) rfl)
    · obtain rfl := Option.some.inj hi
      clear hi hlt
      intro a w1 hL hS hD
      have d18 : a.tmps.getD 259 undef = .string (strOfNums (Bl.take K)) := hD ⟨18, .data⟩ (by simp) rfl _ rfl
      have d22 : a.tmps.getD 263 undef = .string (strOfNums (Bl.take K)) := hD ⟨22, .data⟩ (by simp) rfl _ rfl
      have d15 : a.tmps.getD 256 undef = .bool false := hD ⟨15, .guard⟩ (by simp) rfl _ rfl
      have hKi : ((K : Int) == 0) = false := by simp; omega
      have hKj : ((M : Int) == 0) = false := by simp; omega
      exact step_yes (wanted_yes rfl rfl rfl d15) (ok_value later_refl (.bool true) (by simp [execOp, Act.eval, d18, d22, go_sem]) rfl)
    · obtain rfl := Option.some.inj hi
      clear hi hlt
      intro a w1 hL hS hD
      have d15 : a.tmps.getD 256 undef = .bool false := hD ⟨15, .data⟩ (by simp) rfl _ rfl
      have d23 : a.tmps.getD 264 undef = .bool true := hD ⟨23, .data⟩ (by simp) rfl _ rfl
      have d12 : a.tmps.getD 253 undef = .bool true := hD ⟨12, .guard⟩ (by simp) rfl _ rfl
      exact step_yes (wanted_yes rfl rfl rfl d12) (ok_value later_refl _ (by simp [execOp, Act.eval, d15, d23, go_sem]) rfl)
    · obtain rfl := Option.some.inj hi
      clear hi hlt
      intro a w1 hL hS hD
      have d12 : a.tmps.getD 253 undef = .bool true := hD ⟨12, .data⟩ (by simp) rfl _ rfl
      have d24 : a.tmps.getD 265 undef = .bool true := hD ⟨24, .data⟩ (by simp) rfl _ rfl
      exact step_yes (rfl) (ok_value later_refl _ (by simp [execOp, Act.eval, d12, d24, go_sem]) rfl)
    · obtain rfl := Option.some.inj hi
      clear hi hlt
      intro a w1 hL hS hD
      have d25 : a.tmps.getD 266 undef = .bool true := hD ⟨25, .data⟩ (by simp) rfl _ rfl
      exact step_yes (rfl) (ok_value later_refl _ (by simp [execOp, Act.eval, d25, go_sem]) rfl)
    · obtain rfl := Option.some.inj hi
      clear hi hlt
      intro a w1 hL hS hD
      have d26 : a.tmps.getD 267 undef = .bool true := hD ⟨26, .guard⟩ (by simp) rfl _ rfl
      have e16 : a.tmps.getD 16 undef = .int .i64 (M : Int) := (hS.slot 16 (by kernel_rfl)).trans s16
      exact step_yes (wanted_yes rfl rfl rfl d26) (ok_value later_refl _ (by simp [execOp, Act.eval, e16, go_sem]) rfl)
    · obtain rfl := Option.some.inj hi
      clear hi hlt
      intro a w1 hL hS hD
      have d27 : a.tmps.getD 268 undef = .int .i64 (M : Int) := hD ⟨27, .data⟩ (by simp) rfl _ rfl
      have d26 : a.tmps.getD 267 undef = .bool true := hD ⟨26, .guard⟩ (by simp) rfl _ rfl
      have hKi : ((K : Int) == 0) = false := by simp; omega
      have hKj : ((M : Int) == 0) = false := by simp; omega
      exact step_yes (wanted_yes rfl rfl rfl d26) (ok_value later_refl (.bool false) (by simp [execOp, Act.eval, d27, hKj, go_sem]) rfl)
    · obtain rfl := Option.some.inj hi
      clear hi hlt
      intro a w1 hL hS hD
      have d28 : a.tmps.getD 269 undef = .bool false := hD ⟨28, .data⟩ (by simp) rfl _ rfl
      have d26 : a.tmps.getD 267 undef = .bool true := hD ⟨26, .chain⟩ (by simp) rfl _ rfl
      exact step_yes (wanted_yes rfl rfl rfl d26) (ok_value later_refl _ (by simp [execOp, Act.eval, d28, go_sem]) rfl)
    · obtain rfl := Option.some.inj hi
      clear hi hlt
      intro a w1 hL hS hD
      have d29 : a.tmps.getD 270 undef = .bool false := hD ⟨29, .guard⟩ (by simp) rfl _ rfl
      have e15 : a.tmps.getD 15 undef = .slice (some ⟨g, 0, none⟩) N N := (hS.slot 15 (by kernel_rfl)).trans s15
      exact step_yes (wanted_yes rfl rfl rfl d29) (ok_value later_refl _ (by simp [execOp, Act.eval, e15, go_sem]) rfl)
    · obtain rfl := Option.some.inj hi
      clear hi hlt
      intro a w1 hL hS hD
      have d30 : a.tmps.getD 271 undef = .slice (some ⟨g, 0, none⟩) N N := hD ⟨30, .data⟩ (by simp) rfl _ rfl
      have d29 : a.tmps.getD 270 undef = .bool false := hD ⟨29, .chain⟩ (by simp) rfl _ rfl
      refine step_yes (wanted_yes rfl rfl rfl d29) (ok_call (f := 13) (args := #[.slice none 0 0, .slice (some ⟨g, 0, none⟩) N N]) (by simp [execOp, resolve, Act.eval, d30, go_sem]) ?_)
      refine (putBytes_out none 0 0 [] (some ⟨g, 0, none⟩) N N ((Bl.drop K).take N) w1 (grp N + 1 + N) (Bl.take M) (Sl.nil _ _) (hz.later hL) (by simp) (by omega) (by omega) (by rw [List.nil_append, E1, ← List.take_add, hKM])).mono ?_
      rintro e w2 ⟨g2, c2, rfl, hs2, hc2, hd2, _, hb2⟩
      exact ⟨_, rfl, hb2, g2, c2, rfl, hs2, hc2, hd2⟩
    · obtain rfl := Option.some.inj hi
      clear hi hlt
      intro a w1 hL hS hD
      obtain ⟨g31, c31, d31, l31, _, _⟩ : Res w1 (a.tmps.getD 272 undef) (grp N + 1 + N) (Bl.take M) := hD ⟨31, .data⟩ (by simp) rfl _ rfl
      have d29 : a.tmps.getD 270 undef = .bool false := hD ⟨29, .guard⟩ (by simp) rfl _ rfl
      exact step_yes (wanted_yes rfl rfl rfl d29) (ok_value later_refl _ (by simp [execOp, Act.eval, d31, conv l31, go_sem]) rfl)
    · obtain rfl := Option.some.inj hi
      clear hi hlt
      intro a w1 hL hS hD
      have d29 : a.tmps.getD 270 undef = .bool false := hD ⟨29, .guard⟩ (by simp) rfl _ rfl
      have e3 : a.tmps.getD 3 undef = .slice (some ⟨b, off, none⟩) len3 cap3 := (hS.slot 3 (by kernel_rfl)).trans s3
      exact step_yes (wanted_yes rfl rfl rfl d29) (ok_value later_refl _ (by simp [execOp, Act.eval, e3, go_sem]) rfl)
    · obtain rfl := Option.some.inj hi
      clear hi hlt
      intro a w1 hL hS hD
      have d29 : a.tmps.getD 270 undef = .bool false := hD ⟨29, .guard⟩ (by simp) rfl _ rfl
      have e16 : a.tmps.getD 16 undef = .int .i64 (M : Int) := (hS.slot 16 (by kernel_rfl)).trans s16
      exact step_yes (wanted_yes rfl rfl rfl d29) (ok_value later_refl _ (by simp [execOp, Act.eval, e16, go_sem]) rfl)
    · obtain rfl := Option.some.inj hi
      clear hi hlt
      intro a w1 hL hS hD
      have d33 : a.tmps.getD 274 undef = .slice (some ⟨b, off, none⟩) len3 cap3 := hD ⟨33, .data⟩ (by simp) rfl _ rfl
      have d34 : a.tmps.getD 275 undef = .int .i64 (M : Int) := hD ⟨34, .data⟩ (by simp) rfl _ rfl
      have d29 : a.tmps.getD 270 undef = .bool false := hD ⟨29, .guard⟩ (by simp) rfl _ rfl
      have hsl := run_slice_to w1 b off len3 cap3 M (by omega) hd3
      exact step_yes (wanted_yes rfl rfl rfl d29) (ok_value later_refl _ (by simp [execOp, Act.eval, d33, d34, hsl, go_sem]) rfl)
    · obtain rfl := Option.some.inj hi
      clear hi hlt
      intro a w1 hL hS hD
      have d35 : a.tmps.getD 276 undef = .slice (some ⟨b, off, none⟩) M cap3 := hD ⟨35, .data⟩ (by simp) rfl _ rfl
      have d29 : a.tmps.getD 270 undef = .bool false := hD ⟨29, .guard⟩ (by simp) rfl _ rfl
      exact step_yes (wanted_yes rfl rfl rfl d29) (ok_value later_refl _ (by simp [execOp, Act.eval, d35, conv ((hb.later hL).take hKN), go_sem]) rfl)
    · obtain rfl := Option.some.inj hi
      clear hi hlt
      intro a w1 hL hS hD
      have d32 : a.tmps.getD 273 undef = .string (strOfNums (Bl.take M)) := hD ⟨32, .data⟩ (by simp) rfl _ rfl
      have d36 : a.tmps.getD 277 undef = .string (strOfNums (Bl.take M)) := hD ⟨36, .data⟩ (by simp) rfl _ rfl
      have d29 : a.tmps.getD 270 undef = .bool false := hD ⟨29, .guard⟩ (by simp) rfl _ rfl
      have hKi : ((K : Int) == 0) = false := by simp; omega
      have hKj : ((M : Int) == 0) = false := by simp; omega
      exact step_yes (wanted_yes rfl rfl rfl d29) (ok_value later_refl (.bool true) (by simp [execOp, Act.eval, d32, d36, go_sem]) rfl)
    · obtain rfl := Option.some.inj hi
      clear hi hlt
      intro a w1 hL hS hD
      have d29 : a.tmps.getD 270 undef = .bool false := hD ⟨29, .data⟩ (by simp) rfl _ rfl
      have d37 : a.tmps.getD 278 undef = .bool true := hD ⟨37, .data⟩ (by simp) rfl _ rfl
      have d26 : a.tmps.getD 267 undef = .bool true := hD ⟨26, .guard⟩ (by simp) rfl _ rfl
      exact step_yes (wanted_yes rfl rfl rfl d26) (ok_value later_refl _ (by simp [execOp, Act.eval, d29, d37, go_sem]) rfl)
    · obtain rfl := Option.some.inj hi
      clear hi hlt
      intro a w1 hL hS hD
      have d26 : a.tmps.getD 267 undef = .bool true := hD ⟨26, .data⟩ (by simp) rfl _ rfl
      have d38 : a.tmps.getD 279 undef = .bool true := hD ⟨38, .data⟩ (by simp) rfl _ rfl
      exact step_yes (rfl) (ok_value later_refl _ (by simp [execOp, Act.eval, d26, d38, go_sem]) rfl)
    · obtain rfl := Option.some.inj hi
      clear hi hlt
      intro a w1 hL hS hD
      have d39 : a.tmps.getD 280 undef = .bool true := hD ⟨39, .data⟩ (by simp) rfl _ rfl
      exact step_yes (rfl) (ok_value later_refl _ (by simp [execOp, Act.eval, d39, go_sem]) rfl)

end Go.Proofs.Ytfhhcpcedfgceaa
