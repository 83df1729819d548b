import Derived.Test.YtfhhcpcedfgceaaPutsA
namespace Go.Proofs.Ytfhhcpcedfgceaa
open Go.RowKit
set_option linter.unusedVariables false

def EntL (B n : Nat) (L : List Int) : Ent Lat :=
  ⟨fun v w => ∃ ad c, v = .slice ad n c ∧ w.ownsRow B 5 1 v n (cells8 L), fun v w w' h hl => by
    obtain ⟨ad, c, h1, h2⟩ := h
    exact ⟨ad, c, h1, kept_later h2 hl⟩⟩

set_option maxRecDepth 100000 in
set_option maxHeartbeats 4000000 in
theorem region34 (ad : Option Addr) (len cap : Nat) (ae : Option Addr) (len2 cap2 gx gy : Nat) (p r : List Int) (w : World) (a0 : Act) (Q : Exit → Act → World → Prop)
    (hx : Sl w (some ⟨gx, 0, none⟩) len p) (hy : Sl w (some ⟨gy, 0, none⟩) len2 r) (hb : len + len2 ≤ 1073741824) (hsz : a0.tmps.size = 187)
    (s0 : a0.tmps.getD 0 undef = .slice ad len cap)
    (s3 : a0.tmps.getD 3 undef = .slice ae len2 cap2)
    (s11 : a0.tmps.getD 11 undef = .slice (some ⟨gx, 0, none⟩) (len + 8) (len + 8))
    (s12 : a0.tmps.getD 12 undef = .slice (some ⟨gy, 0, none⟩) (len2 + 8) (len2 + 8))
    (hQ : ∀ (v153 v154 v155 v156 v157 v158 v159 v160 v161 : Value) (az : Option Addr) (cz : Nat) (w' : World), w'.ownsRow w.heap.size 5 1 (.slice az (len + grp len2 + 1 + len2) cz) (len + grp len2 + 1 + len2) (cells8 (p ++ enc len2 ++ r)) → Below w.heap.size w w' → Q .normal ((((((((((a0.put (some 153) v153).put (some 154) v154).put (some 155) v155).put (some 156) v156).put (some 157) v157).put (some 158) v158).put (some 159) v159).put (some 160) v160).put (some 161) v161).put (some 24) (.slice az (len + grp len2 + 1 + len2) cz)) w') :
    Code.wp Try.prog ((Try.f3.body.bind (findRegion 34)).getD .skip) Q a0 w := by
  conv => arg 2; whnf
  refine wp_region_invB Lat (TE [Ent.val (.slice (some ⟨gx, 0, none⟩) (len + 8) (len + 8)), Ent.val (.slice ad len cap), Ent.val (.int .i64 (len : Int)), Ent.val (.slice (some ⟨gx, 0, none⟩) len (len + 8)), Ent.val (.slice (some ⟨gy, 0, none⟩) (len2 + 8) (len2 + 8)), Ent.val (.slice ae len2 cap2), Ent.val (.int .i64 (len2 : Int)), Ent.val (.slice (some ⟨gy, 0, none⟩) len2 (len2 + 8)), EntL w.heap.size (len + grp len2 + 1 + len2) (p ++ enc len2 ++ r), EntL w.heap.size (len + grp len2 + 1 + len2) (p ++ enc len2 ++ r)]) noS (by kernel_rfl) (by kernel_rfl) (by kernel_rfl) (by rw [hsz]; kernel_rfl) later_refl later_trans (TE_stable _) (fun _ _ h => Below.size h) (Below.refl _ _).drew ?hop ?hdone
  case hdone =>
    intro a w' hL hS hT
    obtain ⟨az, cz, hg1, hg2⟩ : ∃ az cz, a.tmps.getD 24 undef = .slice az (len + grp len2 + 1 + len2) cz ∧ w'.ownsRow w.heap.size 5 1 (a.tmps.getD 24 undef) (len + grp len2 + 1 + len2) (cells8 (p ++ enc len2 ++ r)) := hT 9 _ rfl
    have he := same_puts hS
    rw [he]
    rw [hg1] at hg2
    have := hQ (a.tmps.getD 153 undef) (a.tmps.getD 154 undef) (a.tmps.getD 155 undef) (a.tmps.getD 156 undef) (a.tmps.getD 157 undef) (a.tmps.getD 158 undef) (a.tmps.getD 159 undef) (a.tmps.getD 160 undef) (a.tmps.getD 161 undef) az cz w' hg2 hL
    rw [← hg1] at this
    exact this
  case hop =>
    intro i o hi
    have hlt : i < 10 := (Array.getElem?_eq_some_iff.1 hi).1
    rcases (show i = 0 ∨ i = 1 ∨ i = 2 ∨ i = 3 ∨ i = 4 ∨ i = 5 ∨ i = 6 ∨ i = 7 ∨ i = 8 ∨ i = 9 by omega) with rfl | rfl | rfl | rfl | rfl | rfl | rfl | rfl | rfl | rfl
    · obtain rfl := Option.some.inj hi
      clear hi hlt
      intro a w1 hL hS hD _
      have e11 : a.tmps.getD 11 undef = .slice (some ⟨gx, 0, none⟩) (len + 8) (len + 8) := (hS.slot 11 (by kernel_rfl)).trans s11
      refine stepB_yes rfl ?_
      exact okB_value later_refl rfl (.slice (some ⟨gx, 0, none⟩) (len + 8) (len + 8)) (by simp [execOp, Act.eval, e11, go_sem]) rfl
    · obtain rfl := Option.some.inj hi
      clear hi hlt
      intro a w1 hL hS hD _
      have e0 : a.tmps.getD 0 undef = .slice ad len cap := (hS.slot 0 (by kernel_rfl)).trans s0
      refine stepB_yes rfl ?_
      exact okB_value later_refl rfl (.slice ad len cap) (by simp [execOp, Act.eval, e0, go_sem]) rfl
    · obtain rfl := Option.some.inj hi
      clear hi hlt
      intro a w1 hL hS hD _
      have d1 : a.tmps.getD 154 undef = .slice ad len cap := hD ⟨1, .data⟩ (by simp) rfl _ rfl
      refine stepB_yes rfl ?_
      exact okB_value later_refl rfl (.int .i64 (len : Int)) (by simp [execOp, resolve, invoke, builtin, Act.eval, d1, go_sem]) rfl
    · obtain rfl := Option.some.inj hi
      clear hi hlt
      intro a w1 hL hS hD _
      have d0 : a.tmps.getD 153 undef = .slice (some ⟨gx, 0, none⟩) (len + 8) (len + 8) := hD ⟨0, .data⟩ (by simp) rfl _ rfl
      have d2 : a.tmps.getD 155 undef = .int .i64 (len : Int) := hD ⟨2, .data⟩ (by simp) rfl _ rfl
      refine stepB_yes rfl ?_
      have hsl := run_slice_to w1 gx 0 (len + 8) (len + 8) len (by omega) (by omega)
      exact okB_value later_refl rfl (.slice (some ⟨gx, 0, none⟩) len (len + 8)) (by simp [execOp, Act.eval, d0, d2, hsl, go_sem]) rfl
    · obtain rfl := Option.some.inj hi
      clear hi hlt
      intro a w1 hL hS hD _
      have e12 : a.tmps.getD 12 undef = .slice (some ⟨gy, 0, none⟩) (len2 + 8) (len2 + 8) := (hS.slot 12 (by kernel_rfl)).trans s12
      refine stepB_yes rfl ?_
      exact okB_value later_refl rfl (.slice (some ⟨gy, 0, none⟩) (len2 + 8) (len2 + 8)) (by simp [execOp, Act.eval, e12, go_sem]) rfl
    · obtain rfl := Option.some.inj hi
      clear hi hlt
      intro a w1 hL hS hD _
      have e3 : a.tmps.getD 3 undef = .slice ae len2 cap2 := (hS.slot 3 (by kernel_rfl)).trans s3
      refine stepB_yes rfl ?_
      exact okB_value later_refl rfl (.slice ae len2 cap2) (by simp [execOp, Act.eval, e3, go_sem]) rfl
    · obtain rfl := Option.some.inj hi
      clear hi hlt
      intro a w1 hL hS hD _
      have d5 : a.tmps.getD 158 undef = .slice ae len2 cap2 := hD ⟨5, .data⟩ (by simp) rfl _ rfl
      refine stepB_yes rfl ?_
      exact okB_value later_refl rfl (.int .i64 (len2 : Int)) (by simp [execOp, resolve, invoke, builtin, Act.eval, d5, go_sem]) rfl
    · obtain rfl := Option.some.inj hi
      clear hi hlt
      intro a w1 hL hS hD _
      have d4 : a.tmps.getD 157 undef = .slice (some ⟨gy, 0, none⟩) (len2 + 8) (len2 + 8) := hD ⟨4, .data⟩ (by simp) rfl _ rfl
      have d6 : a.tmps.getD 159 undef = .int .i64 (len2 : Int) := hD ⟨6, .data⟩ (by simp) rfl _ rfl
      refine stepB_yes rfl ?_
      have hsl := run_slice_to w1 gy 0 (len2 + 8) (len2 + 8) len2 (by omega) (by omega)
      exact okB_value later_refl rfl (.slice (some ⟨gy, 0, none⟩) len2 (len2 + 8)) (by simp [execOp, Act.eval, d4, d6, hsl, go_sem]) rfl
    · obtain rfl := Option.some.inj hi
      clear hi hlt
      intro a w1 hL hS hD _
      have d3 : a.tmps.getD 156 undef = .slice (some ⟨gx, 0, none⟩) len (len + 8) := hD ⟨3, .data⟩ (by simp) rfl _ rfl
      have d7 : a.tmps.getD 160 undef = .slice (some ⟨gy, 0, none⟩) len2 (len2 + 8) := hD ⟨7, .data⟩ (by simp) rfl _ rfl
      refine stepB_yes rfl ?_
      refine okB_call (f := 13) (args := #[.slice (some ⟨gx, 0, none⟩) len (len + 8), .slice (some ⟨gy, 0, none⟩) len2 (len2 + 8)]) (by simp [execOp, resolve, Act.eval, d3, d7, go_sem]) ?_
      refine (putBytes_out _ len (len + 8) p _ len2 (len2 + 8) r w1 _ _ (hx.later hL) (hy.later hL) (by simp) (by omega) rfl rfl).mono ?_
      rintro e w2 ⟨g2, c2, rfl, _, _, _, ho, hb2⟩
      exact ⟨_, rfl, hb2, ⟨_, _, rfl, owns_base ho (Below.size hL)⟩, fun h => by cases h⟩
    · obtain rfl := Option.some.inj hi
      clear hi hlt
      intro a w1 hL hS hD _
      obtain ⟨a8, c8, d8, l8⟩ : ∃ ad c, a.tmps.getD 161 undef = .slice ad (len + grp len2 + 1 + len2) c ∧ w1.ownsRow w.heap.size 5 1 (a.tmps.getD 161 undef) (len + grp len2 + 1 + len2) (cells8 (p ++ enc len2 ++ r)) := hD ⟨8, .data⟩ (by simp) rfl _ rfl
      rw [d8] at l8
      refine stepB_yes rfl ?_
      exact okB_value later_refl rfl (.slice a8 (len + grp len2 + 1 + len2) c8) (by simp [execOp, Act.eval, d8, go_sem]) ⟨_, _, rfl, l8⟩

set_option maxRecDepth 100000 in
set_option maxHeartbeats 4000000 in
theorem region35 (ad : Option Addr) (len cap : Nat) (ae : Option Addr) (len2 cap2 gx gy : Nat) (p r : List Int) (w : World) (a0 : Act) (Q : Exit → Act → World → Prop) (az : Option Addr) (cz bz : Nat) (hz : w.ownsRow bz 5 1 (.slice az (len + grp len2 + 1 + len2) cz) (len + grp len2 + 1 + len2) (cells8 (p ++ enc len2 ++ r)))
    (hx : Sl w (some ⟨gx, 0, none⟩) len p) (hy : Sl w (some ⟨gy, 0, none⟩) len2 r) (hb : len + len2 ≤ 1073741824) (hsz : a0.tmps.size = 187)
    (s0 : a0.tmps.getD 0 undef = .slice ad len cap)
    (s3 : a0.tmps.getD 3 undef = .slice ae len2 cap2)
    (s9 : a0.tmps.getD 9 undef = .bool true)
    (s11 : a0.tmps.getD 11 undef = .slice (some ⟨gx, 0, none⟩) (len + 8) (len + 8))
    (s12 : a0.tmps.getD 12 undef = .slice (some ⟨gy, 0, none⟩) (len2 + 8) (len2 + 8))
    (s19 : a0.tmps.getD 19 undef = .bool true)
    (s20 : a0.tmps.getD 20 undef = .bool true)
    (s21 : a0.tmps.getD 21 undef = .bool true)
    (s24 : a0.tmps.getD 24 undef = .slice az (len + grp len2 + 1 + len2) cz)
    (hQ : ∀ a w', a.tmps.getD 8 undef = .bool true → a.defers = a0.defers → Below w.heap.size w w' → Q .normal a w') :
    Code.wp Try.prog ((Try.f3.body.bind (findRegion 35)).getD .skip) Q a0 w := by
  conv => arg 2; whnf
  refine wp_region_invB Lat (TE [Ent.val (.bool true), Ent.val (.bool true), Ent.val (.bool true), Ent.val (.bool true), Ent.val (.bool true), Ent.val (.bool true), Ent.val (.bool true), Ent.val (.bool true), Ent.val (.bool true), Ent.val (.bool true), Ent.val (.bool true), Ent.val (.slice az (len + grp len2 + 1 + len2) cz), Ent.val (.string (strOfNums (p ++ enc len2 ++ r))), Ent.val (.slice (some ⟨gx, 0, none⟩) (len + 8) (len + 8)), Ent.val (.slice ad len cap), Ent.val (.int .i64 (len : Int)), Ent.val (.slice (some ⟨gx, 0, none⟩) len (len + 8)), Ent.val (.slice (some ⟨gy, 0, none⟩) (len2 + 8) (len2 + 8)), Ent.val (.slice ae len2 cap2), Ent.val (.int .i64 (len2 : Int)), Ent.val (.slice (some ⟨gy, 0, none⟩) len2 (len2 + 8)), EntL w.heap.size (len + grp len2 + 1 + len2) (p ++ enc len2 ++ r), Ent.val (.string (strOfNums (p ++ enc len2 ++ r))), Ent.val (.bool true), Ent.val (.bool true), Ent.val (.bool true)]) noS (by kernel_rfl) (by kernel_rfl) (by kernel_rfl) (by rw [hsz]; kernel_rfl) later_refl later_trans (TE_stable _) (fun _ _ h => Below.size h) (Below.refl _ _).drew ?hop ?hdone
  case hdone =>
    intro a w' hL hS hT
    exact hQ a w' (hT 25 _ rfl) hS.defers hL
  case hop =>
    intro i o hi
    have hlt : i < 26 := (Array.getElem?_eq_some_iff.1 hi).1
    rcases (show i = 0 ∨ i = 1 ∨ i = 2 ∨ i = 3 ∨ i = 4 ∨ i = 5 ∨ i = 6 ∨ i = 7 ∨ i = 8 ∨ i = 9 ∨ i = 10 ∨ i = 11 ∨ i = 12 ∨ i = 13 ∨ i = 14 ∨ i = 15 ∨ i = 16 ∨ i = 17 ∨ i = 18 ∨ i = 19 ∨ i = 20 ∨ i = 21 ∨ i = 22 ∨ i = 23 ∨ i = 24 ∨ i = 25 by omega) with rfl | rfl | rfl | rfl | rfl | rfl | rfl | rfl | rfl | rfl | rfl | rfl | rfl | rfl | rfl | rfl | rfl | rfl | rfl | rfl | rfl | rfl | rfl | rfl | rfl | rfl
    · obtain rfl := Option.some.inj hi
      clear hi hlt
      intro a w1 hL hS hD _
      have e9 : a.tmps.getD 9 undef = .bool true := (hS.slot 9 (by kernel_rfl)).trans s9
      refine stepB_yes rfl ?_
      exact okB_value later_refl rfl (.bool true) (by simp [execOp, Act.eval, e9, go_sem]) rfl
    · obtain rfl := Option.some.inj hi
      clear hi hlt
      intro a w1 hL hS hD _
      have d0 : a.tmps.getD 162 undef = .bool true := hD ⟨0, .data⟩ (by simp) rfl _ rfl
      refine stepB_yes rfl ?_
      exact okB_value later_refl rfl (.bool true) (by simp [execOp, Act.eval, d0, go_sem]) rfl
    · obtain rfl := Option.some.inj hi
      clear hi hlt
      intro a w1 hL hS hD _
      have d1 : a.tmps.getD 163 undef = .bool true := hD ⟨1, .guard⟩ (by simp) rfl _ rfl
      have e19 : a.tmps.getD 19 undef = .bool true := (hS.slot 19 (by kernel_rfl)).trans s19
      refine stepB_yes (wanted_yes rfl rfl rfl d1) ?_
      exact okB_value later_refl rfl (.bool true) (by simp [execOp, Act.eval, e19, go_sem]) rfl
    · obtain rfl := Option.some.inj hi
      clear hi hlt
      intro a w1 hL hS hD _
      have d1 : a.tmps.getD 163 undef = .bool true := hD ⟨1, .data⟩ (by simp) rfl _ rfl
      have d2 : a.tmps.getD 164 undef = .bool true := hD ⟨2, .data⟩ (by simp) rfl _ rfl
      refine stepB_yes rfl ?_
      exact okB_value later_refl rfl (.bool true) (by simp [execOp, Act.eval, d1, d2, go_sem]) rfl
    · obtain rfl := Option.some.inj hi
      clear hi hlt
      intro a w1 hL hS hD _
      have d3 : a.tmps.getD 165 undef = .bool true := hD ⟨3, .data⟩ (by simp) rfl _ rfl
      refine stepB_yes rfl ?_
      exact okB_value later_refl rfl (.bool true) (by simp [execOp, Act.eval, d3, go_sem]) rfl
    · obtain rfl := Option.some.inj hi
      clear hi hlt
      intro a w1 hL hS hD _
      have d4 : a.tmps.getD 166 undef = .bool true := hD ⟨4, .guard⟩ (by simp) rfl _ rfl
      have e20 : a.tmps.getD 20 undef = .bool true := (hS.slot 20 (by kernel_rfl)).trans s20
      refine stepB_yes (wanted_yes rfl rfl rfl d4) ?_
      exact okB_value later_refl rfl (.bool true) (by simp [execOp, Act.eval, e20, go_sem]) rfl
    · obtain rfl := Option.some.inj hi
      clear hi hlt
      intro a w1 hL hS hD _
      have d4 : a.tmps.getD 166 undef = .bool true := hD ⟨4, .data⟩ (by simp) rfl _ rfl
      have d5 : a.tmps.getD 167 undef = .bool true := hD ⟨5, .data⟩ (by simp) rfl _ rfl
      refine stepB_yes rfl ?_
      exact okB_value later_refl rfl (.bool true) (by simp [execOp, Act.eval, d4, d5, go_sem]) rfl
    · obtain rfl := Option.some.inj hi
      clear hi hlt
      intro a w1 hL hS hD _
      have d6 : a.tmps.getD 168 undef = .bool true := hD ⟨6, .data⟩ (by simp) rfl _ rfl
      refine stepB_yes rfl ?_
      exact okB_value later_refl rfl (.bool true) (by simp [execOp, Act.eval, d6, go_sem]) rfl
    · obtain rfl := Option.some.inj hi
      clear hi hlt
      intro a w1 hL hS hD _
      have d7 : a.tmps.getD 169 undef = .bool true := hD ⟨7, .guard⟩ (by simp) rfl _ rfl
      have e21 : a.tmps.getD 21 undef = .bool true := (hS.slot 21 (by kernel_rfl)).trans s21
      refine stepB_yes (wanted_yes rfl rfl rfl d7) ?_
      exact okB_value later_refl rfl (.bool true) (by simp [execOp, Act.eval, e21, go_sem]) rfl
    · obtain rfl := Option.some.inj hi
      clear hi hlt
      intro a w1 hL hS hD _
      have d7 : a.tmps.getD 169 undef = .bool true := hD ⟨7, .data⟩ (by simp) rfl _ rfl
      have d8 : a.tmps.getD 170 undef = .bool true := hD ⟨8, .data⟩ (by simp) rfl _ rfl
      refine stepB_yes rfl ?_
      exact okB_value later_refl rfl (.bool true) (by simp [execOp, Act.eval, d7, d8, go_sem]) rfl
    · obtain rfl := Option.some.inj hi
      clear hi hlt
      intro a w1 hL hS hD _
      have d9 : a.tmps.getD 171 undef = .bool true := hD ⟨9, .data⟩ (by simp) rfl _ rfl
      refine stepB_yes rfl ?_
      exact okB_value later_refl rfl (.bool true) (by simp [execOp, Act.eval, d9, go_sem]) rfl
    · obtain rfl := Option.some.inj hi
      clear hi hlt
      intro a w1 hL hS hD _
      have d10 : a.tmps.getD 172 undef = .bool true := hD ⟨10, .guard⟩ (by simp) rfl _ rfl
      have e24 : a.tmps.getD 24 undef = .slice az (len + grp len2 + 1 + len2) cz := (hS.slot 24 (by kernel_rfl)).trans s24
      refine stepB_yes (wanted_yes rfl rfl rfl d10) ?_
      exact okB_value later_refl rfl (.slice az (len + grp len2 + 1 + len2) cz) (by simp [execOp, Act.eval, e24, go_sem]) rfl
    · obtain rfl := Option.some.inj hi
      clear hi hlt
      intro a w1 hL hS hD _
      have d11 : a.tmps.getD 173 undef = .slice az (len + grp len2 + 1 + len2) cz := hD ⟨11, .data⟩ (by simp) rfl _ rfl
      have d10 : a.tmps.getD 172 undef = .bool true := hD ⟨10, .guard⟩ (by simp) rfl _ rfl
      refine stepB_yes (wanted_yes rfl rfl rfl d10) ?_
      have hbb : Byte (p ++ enc len2 ++ r) := (hx.byte.append (enc_byte len2 (by omega))).append hy.byte
      exact okB_value later_refl rfl (.string (strOfNums (p ++ enc len2 ++ r))) (by simp [execOp, Act.eval, d11, conv (sl_of_owns (kept_later hz hL) hbb), go_sem]) rfl
    · obtain rfl := Option.some.inj hi
      clear hi hlt
      intro a w1 hL hS hD _
      have d10 : a.tmps.getD 172 undef = .bool true := hD ⟨10, .guard⟩ (by simp) rfl _ rfl
      have e11 : a.tmps.getD 11 undef = .slice (some ⟨gx, 0, none⟩) (len + 8) (len + 8) := (hS.slot 11 (by kernel_rfl)).trans s11
      refine stepB_yes (wanted_yes rfl rfl rfl d10) ?_
      exact okB_value later_refl rfl (.slice (some ⟨gx, 0, none⟩) (len + 8) (len + 8)) (by simp [execOp, Act.eval, e11, go_sem]) rfl
    · obtain rfl := Option.some.inj hi
      clear hi hlt
      intro a w1 hL hS hD _
      have d10 : a.tmps.getD 172 undef = .bool true := hD ⟨10, .guard⟩ (by simp) rfl _ rfl
      have e0 : a.tmps.getD 0 undef = .slice ad len cap := (hS.slot 0 (by kernel_rfl)).trans s0
      refine stepB_yes (wanted_yes rfl rfl rfl d10) ?_
      exact okB_value later_refl rfl (.slice ad len cap) (by simp [execOp, Act.eval, e0, go_sem]) rfl
    · obtain rfl := Option.some.inj hi
      clear hi hlt
      intro a w1 hL hS hD _
      have d14 : a.tmps.getD 176 undef = .slice ad len cap := hD ⟨14, .data⟩ (by simp) rfl _ rfl
      have d10 : a.tmps.getD 172 undef = .bool true := hD ⟨10, .guard⟩ (by simp) rfl _ rfl
      refine stepB_yes (wanted_yes rfl rfl rfl d10) ?_
      exact okB_value later_refl rfl (.int .i64 (len : Int)) (by simp [execOp, resolve, invoke, builtin, Act.eval, d14, go_sem]) rfl
    · obtain rfl := Option.some.inj hi
      clear hi hlt
      intro a w1 hL hS hD _
      have d13 : a.tmps.getD 175 undef = .slice (some ⟨gx, 0, none⟩) (len + 8) (len + 8) := hD ⟨13, .data⟩ (by simp) rfl _ rfl
      have d15 : a.tmps.getD 177 undef = .int .i64 (len : Int) := hD ⟨15, .data⟩ (by simp) rfl _ rfl
      have d10 : a.tmps.getD 172 undef = .bool true := hD ⟨10, .guard⟩ (by simp) rfl _ rfl
      refine stepB_yes (wanted_yes rfl rfl rfl d10) ?_
      have hsl := run_slice_to w1 gx 0 (len + 8) (len + 8) len (by omega) (by omega)
      exact okB_value later_refl rfl (.slice (some ⟨gx, 0, none⟩) len (len + 8)) (by simp [execOp, Act.eval, d13, d15, hsl, go_sem]) rfl
    · obtain rfl := Option.some.inj hi
      clear hi hlt
      intro a w1 hL hS hD _
      have d10 : a.tmps.getD 172 undef = .bool true := hD ⟨10, .guard⟩ (by simp) rfl _ rfl
      have e12 : a.tmps.getD 12 undef = .slice (some ⟨gy, 0, none⟩) (len2 + 8) (len2 + 8) := (hS.slot 12 (by kernel_rfl)).trans s12
      refine stepB_yes (wanted_yes rfl rfl rfl d10) ?_
      exact okB_value later_refl rfl (.slice (some ⟨gy, 0, none⟩) (len2 + 8) (len2 + 8)) (by simp [execOp, Act.eval, e12, go_sem]) rfl
    · obtain rfl := Option.some.inj hi
      clear hi hlt
      intro a w1 hL hS hD _
      have d10 : a.tmps.getD 172 undef = .bool true := hD ⟨10, .guard⟩ (by simp) rfl _ rfl
      have e3 : a.tmps.getD 3 undef = .slice ae len2 cap2 := (hS.slot 3 (by kernel_rfl)).trans s3
      refine stepB_yes (wanted_yes rfl rfl rfl d10) ?_
      exact okB_value later_refl rfl (.slice ae len2 cap2) (by simp [execOp, Act.eval, e3, go_sem]) rfl
    · obtain rfl := Option.some.inj hi
      clear hi hlt
      intro a w1 hL hS hD _
      have d18 : a.tmps.getD 180 undef = .slice ae len2 cap2 := hD ⟨18, .data⟩ (by simp) rfl _ rfl
      have d10 : a.tmps.getD 172 undef = .bool true := hD ⟨10, .guard⟩ (by simp) rfl _ rfl
      refine stepB_yes (wanted_yes rfl rfl rfl d10) ?_
      exact okB_value later_refl rfl (.int .i64 (len2 : Int)) (by simp [execOp, resolve, invoke, builtin, Act.eval, d18, go_sem]) rfl
    · obtain rfl := Option.some.inj hi
      clear hi hlt
      intro a w1 hL hS hD _
      have d17 : a.tmps.getD 179 undef = .slice (some ⟨gy, 0, none⟩) (len2 + 8) (len2 + 8) := hD ⟨17, .data⟩ (by simp) rfl _ rfl
      have d19 : a.tmps.getD 181 undef = .int .i64 (len2 : Int) := hD ⟨19, .data⟩ (by simp) rfl _ rfl
      have d10 : a.tmps.getD 172 undef = .bool true := hD ⟨10, .guard⟩ (by simp) rfl _ rfl
      refine stepB_yes (wanted_yes rfl rfl rfl d10) ?_
      have hsl := run_slice_to w1 gy 0 (len2 + 8) (len2 + 8) len2 (by omega) (by omega)
      exact okB_value later_refl rfl (.slice (some ⟨gy, 0, none⟩) len2 (len2 + 8)) (by simp [execOp, Act.eval, d17, d19, hsl, go_sem]) rfl
    · obtain rfl := Option.some.inj hi
      clear hi hlt
      intro a w1 hL hS hD _
      have d16 : a.tmps.getD 178 undef = .slice (some ⟨gx, 0, none⟩) len (len + 8) := hD ⟨16, .data⟩ (by simp) rfl _ rfl
      have d20 : a.tmps.getD 182 undef = .slice (some ⟨gy, 0, none⟩) len2 (len2 + 8) := hD ⟨20, .data⟩ (by simp) rfl _ rfl
      have d10 : a.tmps.getD 172 undef = .bool true := hD ⟨10, .chain⟩ (by simp) rfl _ rfl
      refine stepB_yes (wanted_yes rfl rfl rfl d10) ?_
      refine okB_call (f := 10) (args := #[.slice (some ⟨gx, 0, none⟩) len (len + 8), .slice (some ⟨gy, 0, none⟩) len2 (len2 + 8)]) (by simp [execOp, resolve, Act.eval, d16, d20, go_sem]) ?_
      refine (refPutBytes_any _ len (len + 8) p _ len2 (len2 + 8) r w1 (hx.later hL) (hy.later hL) (by simp) (by simp) (by omega)).mono ?_
      rintro e w2 ⟨a2, c2, rfl, ho, hb2⟩
      exact ⟨_, rfl, hb2, ⟨_, _, rfl, owns_base ho (Below.size hL)⟩, fun h => by cases h⟩
    · obtain rfl := Option.some.inj hi
      clear hi hlt
      intro a w1 hL hS hD _
      obtain ⟨a21, c21, d21, l21⟩ : ∃ ad c, a.tmps.getD 183 undef = .slice ad (len + grp len2 + 1 + len2) c ∧ w1.ownsRow w.heap.size 5 1 (a.tmps.getD 183 undef) (len + grp len2 + 1 + len2) (cells8 (p ++ enc len2 ++ r)) := hD ⟨21, .data⟩ (by simp) rfl _ rfl
      rw [d21] at l21
      have d10 : a.tmps.getD 172 undef = .bool true := hD ⟨10, .guard⟩ (by simp) rfl _ rfl
      refine stepB_yes (wanted_yes rfl rfl rfl d10) ?_
      have hbb : Byte (p ++ enc len2 ++ r) := (hx.byte.append (enc_byte len2 (by omega))).append hy.byte
      exact okB_value later_refl rfl (.string (strOfNums (p ++ enc len2 ++ r))) (by simp [execOp, Act.eval, d21, conv (sl_of_owns l21 hbb), go_sem]) rfl
    · obtain rfl := Option.some.inj hi
      clear hi hlt
      intro a w1 hL hS hD _
      have d12 : a.tmps.getD 174 undef = .string (strOfNums (p ++ enc len2 ++ r)) := hD ⟨12, .data⟩ (by simp) rfl _ rfl
      have d22 : a.tmps.getD 184 undef = .string (strOfNums (p ++ enc len2 ++ r)) := hD ⟨22, .data⟩ (by simp) rfl _ rfl
      have d10 : a.tmps.getD 172 undef = .bool true := hD ⟨10, .guard⟩ (by simp) rfl _ rfl
      refine stepB_yes (wanted_yes rfl rfl rfl d10) ?_
      exact okB_value later_refl rfl (.bool true) (by simp [execOp, Act.eval, d12, d22, go_sem]) rfl
    · obtain rfl := Option.some.inj hi
      clear hi hlt
      intro a w1 hL hS hD _
      have d10 : a.tmps.getD 172 undef = .bool true := hD ⟨10, .data⟩ (by simp) rfl _ rfl
      have d23 : a.tmps.getD 185 undef = .bool true := hD ⟨23, .data⟩ (by simp) rfl _ rfl
      refine stepB_yes rfl ?_
      exact okB_value later_refl rfl (.bool true) (by simp [execOp, Act.eval, d10, d23, go_sem]) rfl
    · obtain rfl := Option.some.inj hi
      clear hi hlt
      intro a w1 hL hS hD _
      have d24 : a.tmps.getD 186 undef = .bool true := hD ⟨24, .data⟩ (by simp) rfl _ rfl
      refine stepB_yes rfl ?_
      exact okB_value later_refl rfl (.bool true) (by simp [execOp, Act.eval, d24, go_sem]) rfl

end Go.Proofs.Ytfhhcpcedfgceaa
