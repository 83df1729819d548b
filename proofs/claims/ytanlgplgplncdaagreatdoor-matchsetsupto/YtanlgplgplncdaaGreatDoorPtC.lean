import Derived.Test.YtanlgplgplncdaaGreatDoorPtB
import Derived.Test.YtanlgplgplncdaaGreatDoorAnyW
/-
  character: its region that draws its order.
-/
namespace Go.Proofs.YtanlgplgplncdaaGreatDoor
open Go Go.RowKit
set_option linter.unusedVariables false
set_option linter.unusedSimpArgs false

set_option maxRecDepth 100000 in
set_option maxHeartbeats 2000000 in
theorem char_r2 (r a9 c k : Nat) (s : ByteArray) (w : World) (a0 : Act) (Q : Exit → Act → World → Prop) (hsz : a0.tmps.size = 39)
    (s0 : a0.tmps.getD 0 undef = .pointer (some ⟨r, 0, none⟩))
    (hle : (a9 : Int) ≤ (s.size : Int)) (hle2 : a9 ≤ s.size)
    (c0 : ∀ w1, Lat w w1 → w1.cell? ⟨r, 0, none⟩ = some (.string s)) (c1 : ∀ w1, Lat w w1 → w1.cell? ⟨r, 1, none⟩ = some (.int .i64 (a9 : Int)))
    (hcall : ∀ w1, Lat w w1 → Calls Tryz.prog 99 #[.string (s.extract a9 s.size)] w1 fun e w' => e = .returned (.tuple #[.int .i32 (c : Int), .int .i64 (k : Int)]) ∧ Below w1.heap.size w1 w')
    (hQ : ∀ (v10 v11 v12 v13 v14 v15 v16 v17 v18 v19 v9 v20 v21 : Value) (w1 : World), Lat w w1 → Q .normal (((((((((((((((a0.put (some 10) v10).put (some 11) v11).put (some 12) v12).put (some 13) v13).put (some 14) v14).put (some 15) v15).put (some 16) v16).put (some 17) v17).put (some 18) v18).put (some 19) v19).put (some 9) v9).put (some 20) v20).put (some 21) v21).put (some 5) (.int .i32 (c : Int))).put (some 6) (.int .i64 (k : Int))) w1) :
    Code.wp Tryz.prog ((Tryz.f122.body.bind (findRegion 2)).getD .skip) Q a0 w := by
  conv => arg 2; whnf
  refine wp_region_inv Lat (TV [.pointer (some ⟨r, 0, none⟩), .pointer (some ⟨r, 0, none⟩), .pointer (some ⟨r, 0, none⟩), .string s, .pointer (some ⟨r, 0, none⟩), .pointer (some ⟨r, 0, none⟩), .pointer (some ⟨r, 1, none⟩), .int .i64 (a9 : Int), .string (s.extract a9 s.size), .tuple #[.int .i32 (c : Int), .int .i64 (k : Int)], .tuple #[.int .i32 (c : Int), .int .i64 (k : Int)], .int .i32 (c : Int), .int .i64 (k : Int), .int .i32 (c : Int), .int .i64 (k : Int)]) (by kernel_rfl) (by kernel_rfl) (by kernel_rfl) (by rw [hsz]; kernel_rfl) (by kernel_rfl) Lat.refl Lat.trans (TV.stable _) (Lat.draw w) ?hop ?hdone
  case hdone =>
    intro a w1 hL hS hT
    have k5 : a.tmps.getD 5 undef = .int .i32 (c : Int) := hT 13 _ rfl _ rfl
    have k6 : a.tmps.getD 6 undef = .int .i64 (k : Int) := hT 14 _ rfl _ rfl
    have he := same_puts hS
    have hQ2 := hQ (a.tmps.getD 10 undef) (a.tmps.getD 11 undef) (a.tmps.getD 12 undef) (a.tmps.getD 13 undef) (a.tmps.getD 14 undef) (a.tmps.getD 15 undef) (a.tmps.getD 16 undef) (a.tmps.getD 17 undef) (a.tmps.getD 18 undef) (a.tmps.getD 19 undef) (a.tmps.getD 9 undef) (a.tmps.getD 20 undef) (a.tmps.getD 21 undef) w1 hL
    rw [← k5, ← k6] at hQ2
    rw [he]
    exact hQ2
  case hop =>
    intro i o hi
    have hlt : i < 15 := (Array.getElem?_eq_some_iff.1 hi).1
    rcases (show i = 0 ∨ i = 1 ∨ i = 2 ∨ i = 3 ∨ i = 4 ∨ i = 5 ∨ i = 6 ∨ i = 7 ∨ i = 8 ∨ i = 9 ∨ i = 10 ∨ i = 11 ∨ i = 12 ∨ i = 13 ∨ i = 14 by omega) with rfl | rfl | rfl | rfl | rfl | rfl | rfl | rfl | rfl | rfl | rfl | rfl | rfl | rfl | rfl
    · obtain rfl := Option.some.inj hi
      clear hi hlt
      intro a w1 hL hS hD
      have e0 : a.tmps.getD 0 undef = .pointer (some ⟨r, 0, none⟩) := (hS.slot 0 (by kernel_rfl)).trans s0
      refine step_yes rfl ?_
      exact ok_value Lat.refl (.pointer (some ⟨r, 0, none⟩)) (by simp [execOp, Act.eval, e0, go_sem]) (TV.mk rfl)
    · obtain rfl := Option.some.inj hi
      clear hi hlt
      intro a w1 hL hS hD
      have d0 : a.tmps.getD 10 undef = .pointer (some ⟨r, 0, none⟩) := hD ⟨0, .data⟩ (by simp) rfl _ rfl _ rfl
      refine step_yes rfl ?_
      exact ok_value Lat.refl (.pointer (some ⟨r, 0, none⟩)) (by simp [execOp, Act.eval, d0, go_sem]) (TV.mk rfl)
    · obtain rfl := Option.some.inj hi
      clear hi hlt
      intro a w1 hL hS hD
      have d1 : a.tmps.getD 11 undef = .pointer (some ⟨r, 0, none⟩) := hD ⟨1, .data⟩ (by simp) rfl _ rfl _ rfl
      refine step_yes rfl ?_
      exact ok_value Lat.refl (.pointer (some ⟨r, 0, none⟩)) (by simp [execOp, Act.eval, d1, go_sem]) (TV.mk rfl)
    · obtain rfl := Option.some.inj hi
      clear hi hlt
      intro a w1 hL hS hD
      have d2 : a.tmps.getD 12 undef = .pointer (some ⟨r, 0, none⟩) := hD ⟨2, .data⟩ (by simp) rfl _ rfl _ rfl
      refine step_yes rfl ?_
      exact ok_value Lat.refl (.string s) (by simp [execOp, Act.eval, d2, c0 w1 hL, go_sem]) (TV.mk rfl)
    · obtain rfl := Option.some.inj hi
      clear hi hlt
      intro a w1 hL hS hD
      have e0 : a.tmps.getD 0 undef = .pointer (some ⟨r, 0, none⟩) := (hS.slot 0 (by kernel_rfl)).trans s0
      refine step_yes rfl ?_
      exact ok_value Lat.refl (.pointer (some ⟨r, 0, none⟩)) (by simp [execOp, Act.eval, e0, go_sem]) (TV.mk rfl)
    · obtain rfl := Option.some.inj hi
      clear hi hlt
      intro a w1 hL hS hD
      have d4 : a.tmps.getD 14 undef = .pointer (some ⟨r, 0, none⟩) := hD ⟨4, .data⟩ (by simp) rfl _ rfl _ rfl
      refine step_yes rfl ?_
      exact ok_value Lat.refl (.pointer (some ⟨r, 0, none⟩)) (by simp [execOp, Act.eval, d4, go_sem]) (TV.mk rfl)
    · obtain rfl := Option.some.inj hi
      clear hi hlt
      intro a w1 hL hS hD
      have d5 : a.tmps.getD 15 undef = .pointer (some ⟨r, 0, none⟩) := hD ⟨5, .data⟩ (by simp) rfl _ rfl _ rfl
      refine step_yes rfl ?_
      exact ok_value Lat.refl (.pointer (some ⟨r, 1, none⟩)) (by simp [execOp, Act.eval, d5, go_sem]) (TV.mk rfl)
    · obtain rfl := Option.some.inj hi
      clear hi hlt
      intro a w1 hL hS hD
      have d6 : a.tmps.getD 16 undef = .pointer (some ⟨r, 1, none⟩) := hD ⟨6, .data⟩ (by simp) rfl _ rfl _ rfl
      refine step_yes rfl ?_
      exact ok_value Lat.refl (.int .i64 (a9 : Int)) (by simp [execOp, Act.eval, d6, c1 w1 hL, go_sem]) (TV.mk rfl)
    · obtain rfl := Option.some.inj hi
      clear hi hlt
      intro a w1 hL hS hD
      have d3 : a.tmps.getD 13 undef = .string s := hD ⟨3, .data⟩ (by simp) rfl _ rfl _ rfl
      have d7 : a.tmps.getD 17 undef = .int .i64 (a9 : Int) := hD ⟨7, .data⟩ (by simp) rfl _ rfl _ rfl
      refine step_yes rfl ?_
      exact ok_value Lat.refl (.string (s.extract a9 s.size)) (by simp [execOp, Act.eval, d3, d7, hle, hle2, go_sem]) (TV.mk rfl)
    · obtain rfl := Option.some.inj hi
      clear hi hlt
      intro a w1 hL hS hD
      have d8 : a.tmps.getD 18 undef = .string (s.extract a9 s.size) := hD ⟨8, .data⟩ (by simp) rfl _ rfl _ rfl
      refine step_yes rfl ?_
      refine ok_call (f := 99) (args := #[.string (s.extract a9 s.size)]) (by simp [execOp, resolve, Act.eval, d8, go_sem]) ?_
      refine (hcall w1 hL).mono ?_
      rintro e w' ⟨rfl, hb⟩
      exact ⟨_, rfl, hb, TV.mk rfl⟩
    · obtain rfl := Option.some.inj hi
      clear hi hlt
      intro a w1 hL hS hD
      have d9 : a.tmps.getD 19 undef = .tuple #[.int .i32 (c : Int), .int .i64 (k : Int)] := hD ⟨9, .data⟩ (by simp) rfl _ rfl _ rfl
      refine step_yes rfl ?_
      exact ok_value Lat.refl (.tuple #[.int .i32 (c : Int), .int .i64 (k : Int)]) (by simp [execOp, Act.eval, d9, go_sem]) (TV.mk rfl)
    · obtain rfl := Option.some.inj hi
      clear hi hlt
      intro a w1 hL hS hD
      have d10 : a.tmps.getD 9 undef = .tuple #[.int .i32 (c : Int), .int .i64 (k : Int)] := hD ⟨10, .data⟩ (by simp) rfl _ rfl _ rfl
      refine step_yes rfl ?_
      exact ok_value Lat.refl (.int .i32 (c : Int)) (by simp [execOp, Act.eval, d10, go_sem]) (TV.mk rfl)
    · obtain rfl := Option.some.inj hi
      clear hi hlt
      intro a w1 hL hS hD
      have d10 : a.tmps.getD 9 undef = .tuple #[.int .i32 (c : Int), .int .i64 (k : Int)] := hD ⟨10, .data⟩ (by simp) rfl _ rfl _ rfl
      refine step_yes rfl ?_
      exact ok_value Lat.refl (.int .i64 (k : Int)) (by simp [execOp, Act.eval, d10, go_sem]) (TV.mk rfl)
    · obtain rfl := Option.some.inj hi
      clear hi hlt
      intro a w1 hL hS hD
      have d11 : a.tmps.getD 20 undef = .int .i32 (c : Int) := hD ⟨11, .data⟩ (by simp) rfl _ rfl _ rfl
      refine step_yes rfl ?_
      exact ok_value Lat.refl (.int .i32 (c : Int)) (by simp [execOp, Act.eval, d11, go_sem]) (TV.mk rfl)
    · obtain rfl := Option.some.inj hi
      clear hi hlt
      intro a w1 hL hS hD
      have d12 : a.tmps.getD 21 undef = .int .i64 (k : Int) := hD ⟨12, .data⟩ (by simp) rfl _ rfl _ rfl
      refine step_yes rfl ?_
      exact ok_value Lat.refl (.int .i64 (k : Int)) (by simp [execOp, Act.eval, d12, go_sem]) (TV.mk rfl)

end Go.Proofs.YtanlgplgplncdaaGreatDoor

/-
  The reader: take, character.
-/
namespace Go.Proofs.YtanlgplgplncdaaGreatDoor
open Go.RowKit
set_option linter.unusedVariables false
set_option linter.unusedSimpArgs false

/-- The reader: a text, where it stands, how deep. -/
def Rd (w : World) (r : Nat) (s : ByteArray) (a d : Nat) : Prop := Blk w r 154 [.string s, .int .i64 (a : Int), .int .i64 (d : Int)]
theorem Rd.set {w : World} {r : Nat} {s : ByteArray} {a d : Nat} (h : Rd w r s a d) (b : Nat) : Rd (w.setCell ⟨r, 1, none⟩ (.int .i64 (b : Int))) r s b d := Blk.set h 1 _
theorem Rd.drewN {w : World} {r : Nat} {s : ByteArray} {a d : Nat} (h : Rd w r s a d) (n : Nat) : Rd (w.drewN n) r s a d := Blk.drewN h n
theorem Rd.chg {F : Nat → Prop} {w w' : World} {r : Nat} {s : ByteArray} {a d : Nat} (h : Rd w r s a d) (hc : Chg F w w') (hF : ¬ F r) : Rd w' r s a d := hc.blk h hF
theorem byte_at (s : ByteArray) {i : Nat} (h : i < s.size) : ∃ x, s[i] = x ∧ (bts s)[i]? = some x := by
  refine ⟨s[i], rfl, ?_⟩
  have hl : i < (bts s).length := by rw [← size_bts]; exact h
  rw [List.getElem?_eq_getElem hl]
  rfl
def tkN (S : List UInt8) (a : Nat) (c : UInt8) : Nat := if S[a]? = some c then a + 1 else a

set_option maxRecDepth 100000 in
set_option maxHeartbeats 4000000 in
theorem takeP (r : Nat) (s : ByteArray) (a d : Nat) (c : UInt8) (w : World) (h : Rd w r s a d) (ha : a ≤ s.size) (hs : s.size ≤ 140737488355328) :
    Calls Tryz.prog 97 #[.pointer (some ⟨r, 0, none⟩), .int .u8 (c.toNat : Int)] w fun e w' => e = .returned (.bool (decide ((bts s)[a]? = some c))) ∧ Rd w' r s (tkN (bts s) a c) d ∧ Chg (fun i => i = r) w w' := by
  have c0 : w.cell? ⟨r, 0, none⟩ = some (.string s) := h.cell 0
  have c1 : w.cell? ⟨r, 1, none⟩ = some (.int .i64 (a : Int)) := h.cell 1
  have f1 := h.frozen 1
  have HH := hidden h
  clear h
  unfold tkN
  by_cases hlt : a < s.size
  · obtain ⟨x, hx, hx2⟩ := byte_at s hlt
    have hltz : (a : Int) < (s.size : Int) := by omega
    have hne : ((a : Int) == (s.size : Int)) = false := by simp; omega
    have hne2 : (a == s.size) = false := by simp; omega
    rw [hx2]
    by_cases hc : x = c
    · subst hc
      rw [if_pos rfl, decide_eq_true rfl]
      have k1 : ∀ n, (w.drewN n).cell? ⟨r, 1, none⟩ = some (.int .i64 (a : Int)) := fun n => c1
      have g1 : ∀ n, (w.drewN n).frozen? ⟨r, 1, none⟩ = false := fun n => f1
      have HR : Hid (∀ n, Rd ((w.drewN n).setCell ⟨r, 1, none⟩ (.int .i64 ((a : Int) + 1))) r s (a + 1) d) := hidden (fun n => by have := (HH.out.drewN n).set (a + 1); simpa using this)
      clear hx2
      go_enter Tryz.func97, Tryz.ntmps97
      go_wp2
      go_quiet (fail)
      have d1 := k1 nq
      have e1 := g1 nq
      clear k1 g1
      go_wp2
      go_ret
      exact ⟨rfl, HR.out _, (Chg.drewN (fun i => i = r) w _).trans (Chg.set ⟨r, 1, none⟩ _ _) (fun _ _ e => e)⟩
    · have hb : (((x.toNat : Nat) : Int) == ((c.toNat : Nat) : Int)) = false := by
        rw [beq_eq_false_iff_ne]
        intro e
        exact hc (UInt8.toNat_inj.1 (by omega))
      rw [if_neg (by simpa using hc), decide_eq_false (by simpa using hc)]
      clear hx2 hc
      go_enter Tryz.func97, Tryz.ntmps97
      go_wp2
      go_quiet (fail)
      go_wp2
      go_ret
      exact ⟨rfl, HH.out.drewN _, Chg.drewN (fun i => i = r) w _⟩
  · obtain rfl : a = s.size := by omega
    have hn : (bts s)[s.size]? = none := List.getElem?_eq_none (by rw [← size_bts]; exact Nat.le_refl _)
    rw [hn, if_neg (by simp), decide_eq_false (by simp)]
    clear hn
    go_enter Tryz.func97, Tryz.ntmps97
    go_wp2
    go_quiet (fail)
    go_wp2
    go_ret
    exact ⟨rfl, HH.out.drewN _, Chg.drewN (fun i => i = r) w _⟩

/-- What character answers. -/
def ChR (S : List UInt8) (a : Nat) (c b : Nat) (ok : Bool) : Prop := a ≤ b ∧ b ≤ S.length ∧ (ok = true → charF S a = .ok c b ∧ Vc c) ∧ (ok = false → charF S a = .bad b ∧ c = 0)
theorem char_pure (S : List UInt8) (a : Nat) (ha : a ≤ S.length) : a ≤ tkN S a 92 ∧ tkN S a 92 ≤ S.length ∧ (∀ r, fp (S.drop (tkN S a 92)) = some r → tkN S a 92 + r.2 ≤ S.length ∧ Vc r.1 ∧ 1 ≤ r.2 ∧ (isSg r.1 = decide (S[a]? = some 92) → ChR S a r.1 (tkN S a 92 + r.2) true) ∧ (isSg r.1 ≠ decide (S[a]? = some 92) → ChR S a 0 (tkN S a 92) false)) ∧ (fp (S.drop (tkN S a 92)) = none → ChR S a 0 (tkN S a 92) false) := by
  have hb : (if decide (S[a]? = some 92) = true then a + 1 else a) = tkN S a 92 := by unfold tkN; by_cases h : S[a]? = some 92 <;> simp [h]
  have hl : tkN S a 92 ≤ S.length := by
    unfold tkN
    split
    · rename_i h; exact (List.getElem?_eq_some_iff.1 h).1
    · exact ha
  have hg : a ≤ tkN S a 92 := by unfold tkN; split <;> omega
  have hcf : charF S a = match fp (S.drop (tkN S a 92)) with
      | none => .bad (tkN S a 92)
      | some (c, k) => if isSg c = decide (S[a]? = some 92) then .ok c (tkN S a 92 + k) else .bad (tkN S a 92) := by
    unfold charF
    simp only [hb]
    generalize fp (List.drop (tkN S a 92) S) = o
    cases o <;> rfl
  refine ⟨hg, hl, fun r hr => ?_, fun hr => ⟨hg, hl, (fun h => by cases h), fun _ => ⟨by rw [hcf, hr], rfl⟩⟩⟩
  obtain ⟨c, k⟩ := r
  have h1 := fp_len hr
  rw [List.length_drop] at h1
  have hv := (fp_some.1 hr).1
  rw [hr] at hcf
  simp only at hcf
  refine ⟨by show tkN S a 92 + k ≤ _; omega, hv, h1.1, fun hs => ⟨by show a ≤ tkN S a 92 + k; omega, by show tkN S a 92 + k ≤ _; omega, fun _ => ⟨by rw [hcf, if_pos hs], hv⟩, (fun h => by cases h)⟩, fun hs => ⟨hg, hl, (fun h => by cases h), fun _ => ⟨by rw [hcf, if_neg hs], rfl⟩⟩⟩

set_option maxRecDepth 100000 in
set_option maxHeartbeats 4000000 in
theorem characterP (r : Nat) (s : ByteArray) (a d : Nat) (w : World) (h : Rd w r s a d) (ha : a ≤ s.size) (hs : s.size ≤ 140737488355328) :
    Calls Tryz.prog 122 #[.pointer (some ⟨r, 0, none⟩)] w fun e w' => ∃ c b ok, e = .returned (.tuple #[.int .i32 ((c : Nat) : Int), .bool ok]) ∧ ChR (bts s) a c b ok ∧ Rd w' r s b d ∧ Chg (fun i => i = r) w w' := by
  have kT := takeP r s a d 92 w h ha hs
  have HH := hidden h
  obtain ⟨p1, p2, p3, p4⟩ := char_pure (bts s) a (by rw [← size_bts]; exact ha)
  obtain ⟨esc, hesc⟩ : ∃ esc, decide ((bts s)[a]? = some 92) = esc := ⟨_, rfl⟩
  obtain ⟨b, hb⟩ : ∃ b, tkN (bts s) a 92 = b := ⟨_, rfl⟩
  rw [hesc, hb] at kT p3
  rw [hb] at p1 p2 p4
  have hbs : b ≤ s.size := by rw [size_bts]; exact p2
  have hex : bts (s.extract b s.size) = (bts s).drop b := by
    rw [bts_extract, List.take_of_length_le]
    rw [List.length_drop, ← size_bts]; exact Nat.le_refl _
  have kF := fun w1 => firstPointP (s.extract b s.size) w1 (by rw [size_bts, hex, List.length_drop, ← size_bts]; omega)
  rw [hex] at kF
  clear hex hesc hb h
  have hbz : (b : Int) ≤ (s.size : Int) := by omega
  cases hf : fp ((bts s).drop b) with
  | none =>
    rw [hf] at kF
    have HR := hidden (p4 hf)
    clear p1 p2 p3 p4 hf
    go_enter Tryz.func122, Tryz.ntmps122
    go_upto_region 2 with (go_at_call 97; refine kT.mono ?_; rintro e w1 ⟨rfl, h1, hc1⟩; clear kT)
    refine char_r2 r b 0 0 s w1 _ _ ?z0 ?z1 hbz hbs (fun w2 hl => (hl.cell (p := ⟨r, 0, none⟩) h1.lt).trans (h1.cell 0)) (fun w2 hl => (hl.cell (p := ⟨r, 1, none⟩) h1.lt).trans (h1.cell 1)) (fun w2 _ => kF w2) ?_
    case z0 => rfl
    case z1 => rfl
    intros
    rename_i w2 hl2
    simp only [Act.put, List.setIfInBounds_toArray, List.set_cons_succ, List.set_cons_zero]
    have P2 := hidden (show Rd w2 r s b d from h1.later hl2)
    have C2 := hidden (hc1.trans (Chg.of_below (F := fun i => i = r) hl2) (fun _ _ e => e))
    clear h1 hc1 hl2 kF
    go_wp2
    go_ret2
    exact ⟨0, b, false, rfl, HR.out, P2.out, C2.out⟩
  | some q =>
    rw [hf] at kF
    obtain ⟨q1, q2, q3, q4, q5⟩ := p3 q hf
    obtain ⟨c, k⟩ := q
    simp only [Option.getD_some] at kF q1 q2 q3 q4 q5
    have hk0 : ((k : Int) == 0) = false := by simp; omega
    have kS := fun w1 => isSignP c w1
    have HQ1 := hidden q1
    clear p1 p2 p3 p4 hf
    by_cases hsg : isSg c = esc
    · have HR := hidden (q4 hsg)
      have hbk : b + k ≤ 140737488355328 := by rw [← size_bts] at q1; omega
      rw [hsg] at kS
      have hes : (esc == esc) = true := by simp
      clear q4 q5 hsg q1 q2
      go_enter Tryz.func122, Tryz.ntmps122
      go_upto_region 2 with (go_at_call 97; refine kT.mono ?_; rintro e w1 ⟨rfl, h1, hc1⟩; clear kT)
      refine char_r2 r b c k s w1 _ _ ?y0 ?y1 hbz hbs (fun w2 hl => (hl.cell (p := ⟨r, 0, none⟩) h1.lt).trans (h1.cell 0)) (fun w2 hl => (hl.cell (p := ⟨r, 1, none⟩) h1.lt).trans (h1.cell 1)) (fun w2 _ => kF w2) ?_
      case y0 => rfl
      case y1 => rfl
      intros
      rename_i w2 hl2
      simp only [Act.put, List.setIfInBounds_toArray, List.set_cons_succ, List.set_cons_zero]
      have P2 := hidden (show Rd w2 r s b d from h1.later hl2)
      have C2 := hidden (hc1.trans (Chg.of_below (F := fun i => i = r) hl2) (fun _ _ e => e))
      clear h1 hc1 hl2 kF
      have d1 : w2.cell? ⟨r, 1, none⟩ = some (.int .i64 (b : Int)) := P2.out.cell 1
      have f1 := P2.out.frozen 1
      have HR3 : Hid (Rd (w2.setCell ⟨r, 1, none⟩ (.int .i64 ((b : Int) + (k : Int)))) r s (b + k) d) := hidden (by have := P2.out.set (b + k); simpa using this)
      have k2 := kS w2
      clear kS
      go_wp2_with (go_at_call 125; refine k2.mono ?_; rintro e w3 ⟨rfl, hw3⟩; obtain rfl := hw3.symm; clear k2 hw3)
      go_ret2
      exact ⟨c, b + k, true, rfl, HR.out, HR3.out, C2.out.trans (Chg.set ⟨r, 1, none⟩ _ _) (fun _ _ e => e)⟩
    · have HR := hidden (q5 hsg)
      have hes : (isSg c == esc) = false := by simpa using hsg
      obtain ⟨sg, hsg'⟩ : ∃ sg, isSg c = sg := ⟨_, rfl⟩
      rw [hsg'] at kS hes
      clear q4 q5 hsg q1 q2 hsg'
      go_enter Tryz.func122, Tryz.ntmps122
      go_upto_region 2 with (go_at_call 97; refine kT.mono ?_; rintro e w1 ⟨rfl, h1, hc1⟩; clear kT)
      refine char_r2 r b c k s w1 _ _ ?x0 ?x1 hbz hbs (fun w2 hl => (hl.cell (p := ⟨r, 0, none⟩) h1.lt).trans (h1.cell 0)) (fun w2 hl => (hl.cell (p := ⟨r, 1, none⟩) h1.lt).trans (h1.cell 1)) (fun w2 _ => kF w2) ?_
      case x0 => rfl
      case x1 => rfl
      intros
      rename_i w2 hl2
      simp only [Act.put, List.setIfInBounds_toArray, List.set_cons_succ, List.set_cons_zero]
      have P2 := hidden (show Rd w2 r s b d from h1.later hl2)
      have C2 := hidden (hc1.trans (Chg.of_below (F := fun i => i = r) hl2) (fun _ _ e => e))
      clear h1 hc1 hl2 kF
      have k2 := kS w2
      clear kS
      go_wp2_with (go_at_call 125; refine k2.mono ?_; rintro e w3 ⟨rfl, hw3⟩; obtain rfl := hw3.symm; clear k2 hw3)
      go_ret2
      exact ⟨0, b, false, rfl, HR.out, P2.out, C2.out⟩

end Go.Proofs.YtanlgplgplncdaaGreatDoor
