import Derived.Test.YtndegcgcbhcokaaDoorQaT
import Derived.Test.YtndegcgcbhcokaaDoorPtQ
/-
  The document's reader: a character.
-/
namespace Go.Proofs.YtndegcgcbhcokaaDoor
open Go.RowKit
set_option linter.unusedVariables false
set_option linter.unusedSimpArgs false

/-- The reader stands at a place. -/
def At (X : Rx) (S : List UInt8) (i a : Nat) : Prop := Rn S a (X.rl.drop i) (X.al.drop i)
theorem At.al {X : Rx} {S : List UInt8} {i a : Nat} (h : At X S i a) : X.al[i]? = some a := by
  have := h.len.2.1
  rw [List.getElem?_drop] at this
  simpa using this
theorem At.lt {X : Rx} {S : List UInt8} {i a : Nat} (h : At X S i a) : i < X.al.length := (List.getElem?_eq_some_iff.1 h.al).1
theorem At.pk {X : Rx} {S : List UInt8} {i a : Nat} (h : At X S i a) : pk X i (-1) = hd (X.rl.drop i) := by
  unfold Go.Proofs.YtndegcgcbhcokaaDoor.pk hd
  rw [if_neg (by omega), List.head?_drop]
theorem At.pk_eq {X : Rx} {S : List UInt8} {i a : Nat} (h : At X S i a) (x : UInt8) (hx : x.toNat < 128) : Go.Proofs.YtndegcgcbhcokaaDoor.pk X i (-1) = (x.toNat : Int) ↔ S[a]? = some x := by
  rw [h.pk]; exact Rn.hd_eq h x hx
theorem At.next {X : Rx} {S : List UInt8} {i a : Nat} (h : At X S i a) (x : UInt8) (hx : x.toNat < 128) (e : S[a]? = some x) : At X S (i + 1) (a + 1) := by
  have := Rn.next h x hx e
  rw [List.drop_drop, List.drop_drop] at this
  exact this
theorem At.fp {X : Rx} {S : List UInt8} {i a : Nat} (h : At X S i a) : (∃ c k, Go.Proofs.YtndegcgcbhcokaaDoor.fp (S.drop a) = some (c, k) ∧ Go.Proofs.YtndegcgcbhcokaaDoor.pk X i (-1) = (c : Int) ∧ Vc c ∧ At X S (i + 1) (a + k)) ∨ (Go.Proofs.YtndegcgcbhcokaaDoor.fp (S.drop a) = none ∧ (Go.Proofs.YtndegcgcbhcokaaDoor.pk X i (-1) = -1 ∨ Go.Proofs.YtndegcgcbhcokaaDoor.pk X i (-1) = -2)) := by
  rw [h.pk]
  rcases Rn.fp h with ⟨c, k, h1, h2, h3, h4⟩ | h1
  · rw [List.drop_drop, List.drop_drop] at h4
    exact .inl ⟨c, k, h1, h2, h3, h4⟩
  · exact .inr h1

/-- What character leaves. -/
def CharP (X : Rx) (S : List UInt8) (i d g : Nat) (w : World) (R : Pr Nat) (e : Ending) (w' : World) : Prop :=
  Chg (fun b => b = g) w w' ∧ ((∃ c b j, R = .ok c b ∧ e = .returned (.int .i32 (c : Int)) ∧ Rr w' g X j d (-1) ∧ At X S j b ∧ Vc c ∧ i < j) ∨ (∃ k j : Nat, R = .bad k ∧ e = .returned (.int .i32 0) ∧ Rr w' g X j d (k : Int) ∧ j < X.al.length))

theorem Chg.bel {F : Nat → Prop} {a b c : World} (h : Chg F a b) (hb : Below b.heap.size b c) : Chg F a c := h.trans (Chg.of_below (F := fun _ => False) hb) (fun _ _ h => h.elim)
theorem Chg.put {g : Nat} {a b : World} (h : Chg (fun x => x = g) a b) (k : Nat) (v : Value) : Chg (fun x => x = g) a (b.setCell ⟨g, k, none⟩ v) := h.trans (Chg.set ⟨g, k, none⟩ v b) (fun _ _ h => h)
theorem Chg.seq {F : Nat → Prop} {a b c : World} (h : Chg F a b) (k : Chg F b c) : Chg F a c := h.trans k (fun _ _ h => h)

set_option maxRecDepth 100000 in
set_option maxHeartbeats 8000000 in
theorem charR {g : Nat} {X : Rx} {S : List UInt8} {i d a : Nat} (w : World) (h : Rr w g X i d (-1)) (hA : At X S i a) :
    Calls Tryd.prog 65 #[.pointer (some ⟨g, 0, none⟩)] w (CharP X S i d g w (charF S a)) := by
  have hi := h.sz.2.2.1
  have hal := hA.lt
  have hal2 := h.sz.2.1
  have HA := hidden hA
  have HH := hidden h
  obtain ⟨R, hR⟩ : ∃ R, charF S a = R := ⟨_, rfl⟩
  rw [hR]
  have HR := hidden hR
  clear hR
  have HPL : Hid (∀ wx j b, Rr wx g X j d (-1) → At X S j b → Calls Tryd.prog 17 #[.pointer (some ⟨g, 0, none⟩)] wx fun e w' => e = .returned (.int .i64 (b : Int)) ∧ Below wx.heap.size wx w') := hidden (fun wx j b hx hj => placeR b wx hx hj.al)
  have HFA : Hid (∀ wx j (b : Nat), Rr wx g X j d (-1) → Calls Tryd.prog 16 #[.pointer (some ⟨g, 0, none⟩), .int .i64 (b : Int)] wx fun e w' => e = .returned (.tuple #[]) ∧ Rr w' g X j d (b : Int) ∧ Chg (fun b => b = g) wx w') := hidden (fun wx j b hx => failR (b : Int) wx hx)
  by_cases hesc : S[a]? = some 92
  · have hpk : pk X i (-1) = 92 := (hA.pk_eq 92 (by decide)).2 hesc
    have k1 := peekR w h 92 hpk
    have hA2 := hA.next 92 (by decide) hesc
    have HS2 : Hid (∀ wx, Below w.heap.size w wx → Rr (wx.setCell ⟨g, 2, none⟩ (.int .i64 ((i : Int) + 1))) g X (i + 1) d (-1)) := hidden (fun wx hb => (HH.out.later hb).setI (i + 1) (by omega))
    have HC2 : Hid (∀ wx, Below w.heap.size w wx → wx.cell? ⟨g, 2, none⟩ = some (.int .i64 (i : Int)) ∧ wx.frozen? ⟨g, 2, none⟩ = false) := hidden (fun wx hb => ⟨(HH.out.later hb).blk.cell 2, (HH.out.later hb).blk.frozen 2⟩)
    have HA2 := hidden hA2
    have hal3 := hA2.lt
    rcases hA2.fp with ⟨c, k, h1, h2, h3, h4⟩ | ⟨h1, h2⟩
    · have HRR : Hid (R = if isSg c = true then .ok c (a + 1 + k) else .bad (a + 1)) := hidden (by rw [← HR.out]; unfold charF; simp only [hesc, decide_true, if_true]; rw [h1])
      have HK2 : Hid (∀ wx, Rr wx g X (i + 1) d (-1) → Calls Tryd.prog 30 #[.pointer (some ⟨g, 0, none⟩)] wx fun e w' => e = .returned (.int .i32 (c : Int)) ∧ Below wx.heap.size wx w') := hidden (fun wx hx => peekR wx hx c h2)
      have HSG := hidden (fun wx => signR (c : Int) wx (isSg c) (sgZ_nat c))
      have HV := hidden h3
      have H4 := hidden h4
      have hal4 := h4.lt
      have hcz : c ≤ 1114111 := by unfold Vc at h3; omega
      clear h h1 h2 h3 h4 hA2 hpk hA
      cases hsg : isSg c with
      | true =>
        have HE : Hid (R = .ok c (a + 1 + k)) := hidden (by rw [HRR.out, hsg]; rfl)
        rw [hsg] at HSG
        clear hsg HRR
        go_enter Tryd.func65, Tryd.ntmps65
        go_wp2_with (first
          | (go_at_call 30; refine k1.mono ?_; rintro e w1 ⟨rfl, g1⟩; have C1 := hidden ((Chg.of_below (F := fun x => x = g) g1).put 2 (.int .i64 ((i : Int) + 1))); obtain ⟨c2, f2⟩ := HC2.out _ g1; have R2 := hidden (HS2.out _ g1); have k2 := HK2.out _ R2.out; clear k1 g1)
          | (go_at_call 30; refine k2.mono ?_; rintro e w2 ⟨rfl, g2⟩; have R3 := hidden (R2.out.later g2); have C2 := hidden (C1.out.bel g2); have k3 := HSG.out w2; clear k2 g2 c2 f2)
          | (go_at_call 66; refine k3.mono ?_; rintro e w3 ⟨rfl, g3⟩; have R4 := hidden (R3.out.later g3); have C3 := hidden (C2.out.bel g3); have c2 : w3.cell? ⟨g, 2, none⟩ = some (.int .i64 ((i + 1 : Nat) : Int)) := R4.out.blk.cell 2; have f2 := R4.out.blk.frozen 2; clear k3 g3))
        go_ret
        exact ⟨C3.out.put 2 _, .inl ⟨c, a + 1 + k, i + 1 + 1, HE.out, rfl, R4.out.setI (i + 1 + 1) (by omega), H4.out, HV.out, by omega⟩⟩
      | false =>
        have HE : Hid (R = .bad (a + 1)) := hidden (by rw [HRR.out, hsg]; rfl)
        rw [hsg] at HSG
        clear hsg HRR
        go_enter Tryd.func65, Tryd.ntmps65
        go_wp2_with (first
          | (go_at_call 30; refine k1.mono ?_; rintro e w1 ⟨rfl, g1⟩; have C1 := hidden ((Chg.of_below (F := fun x => x = g) g1).put 2 (.int .i64 ((i : Int) + 1))); obtain ⟨c2, f2⟩ := HC2.out _ g1; have R2 := hidden (HS2.out _ g1); have k2 := HK2.out _ R2.out; clear k1 g1)
          | (go_at_call 30; refine k2.mono ?_; rintro e w2 ⟨rfl, g2⟩; have R3 := hidden (R2.out.later g2); have C2 := hidden (C1.out.bel g2); have k3 := HSG.out w2; clear k2 g2 c2 f2)
          | (go_at_call 66; refine k3.mono ?_; rintro e w3 ⟨rfl, g3⟩; have R4 := hidden (R3.out.later g3); have C3 := hidden (C2.out.bel g3); have k4 := HPL.out w3 (i + 1) (a + 1) R4.out HA2.out; clear k3 g3)
          | (go_at_call 17; refine k4.mono ?_; rintro e w4 ⟨rfl, g4⟩; have R5 := hidden (R4.out.later g4); have C4 := hidden (C3.out.bel g4); have k5 := HFA.out w4 (i + 1) (a + 1) R5.out; clear k4 g4)
          | (go_at_call 16; refine k5.mono ?_; rintro e w5 ⟨rfl, g5, d5⟩; have R6 := hidden g5; have C5 := hidden (C4.out.seq d5); clear k5 g5 d5))
        go_ret
        exact ⟨C5.out, .inr ⟨a + 1, i + 1, HE.out, rfl, R6.out, hal3⟩⟩
    · obtain ⟨c, hc⟩ : ∃ c, pk X (i + 1) (-1) = c := ⟨_, rfl⟩
      rw [hc] at h2
      have HE : Hid (R = .bad (a + 1)) := hidden (by rw [← HR.out]; unfold charF; simp only [hesc, decide_true, if_true]; rw [h1])
      have HK2 : Hid (∀ wx, Rr wx g X (i + 1) d (-1) → Calls Tryd.prog 30 #[.pointer (some ⟨g, 0, none⟩)] wx fun e w' => e = .returned (.int .i32 c) ∧ Below wx.heap.size wx w') := hidden (fun wx hx => peekR wx hx c hc)
      have HSG := hidden (fun wx => signR c wx false (sgZ_neg h2))
      clear h h1 h2 hc hA2 hpk hA
      go_enter Tryd.func65, Tryd.ntmps65
      go_wp2_with (first
        | (go_at_call 30; refine k1.mono ?_; rintro e w1 ⟨rfl, g1⟩; have C1 := hidden ((Chg.of_below (F := fun x => x = g) g1).put 2 (.int .i64 ((i : Int) + 1))); obtain ⟨c2, f2⟩ := HC2.out _ g1; have R2 := hidden (HS2.out _ g1); have k2 := HK2.out _ R2.out; clear k1 g1)
        | (go_at_call 30; refine k2.mono ?_; rintro e w2 ⟨rfl, g2⟩; have R3 := hidden (R2.out.later g2); have C2 := hidden (C1.out.bel g2); have k3 := HSG.out w2; clear k2 g2 c2 f2)
        | (go_at_call 66; refine k3.mono ?_; rintro e w3 ⟨rfl, g3⟩; have R4 := hidden (R3.out.later g3); have C3 := hidden (C2.out.bel g3); have k4 := HPL.out w3 (i + 1) (a + 1) R4.out HA2.out; clear k3 g3)
        | (go_at_call 17; refine k4.mono ?_; rintro e w4 ⟨rfl, g4⟩; have R5 := hidden (R4.out.later g4); have C4 := hidden (C3.out.bel g4); have k5 := HFA.out w4 (i + 1) (a + 1) R5.out; clear k4 g4)
        | (go_at_call 16; refine k5.mono ?_; rintro e w5 ⟨rfl, g5, d5⟩; have R6 := hidden g5; have C5 := hidden (C4.out.seq d5); clear k5 g5 d5))
      go_ret
      exact ⟨C5.out, .inr ⟨a + 1, i + 1, HE.out, rfl, R6.out, hal3⟩⟩
  · have hpk : ¬ pk X i (-1) = 92 := fun e => hesc ((hA.pk_eq 92 (by decide)).1 e)
    rcases hA.fp with ⟨c, k, h1, h2, h3, h4⟩ | ⟨h1, h2⟩
    · have HRR : Hid (R = if isSg c = false then .ok c (a + k) else .bad a) := hidden (by rw [← HR.out]; unfold charF; simp only [hesc, decide_false, Bool.false_eq_true, if_false]; rw [h1])
      have k1 := peekR w h c h2
      have HSG := hidden (fun wx => signR (c : Int) wx (isSg c) (sgZ_nat c))
      have HV := hidden h3
      have H4 := hidden h4
      have hal4 := h4.lt
      have hcz : c ≤ 1114111 := by unfold Vc at h3; omega
      have hc92 : ¬ (c : Int) = 92 := by rw [h2] at hpk; exact hpk
      have hc0 : ¬ (c : Int) < 0 := by omega
      clear h h1 h2 h3 h4 hpk hA
      cases hsg : isSg c with
      | false =>
        have HE : Hid (R = .ok c (a + k)) := hidden (by rw [HRR.out, hsg]; rfl)
        rw [hsg] at HSG
        clear hsg HRR
        go_enter Tryd.func65, Tryd.ntmps65
        go_wp2_with (first
          | (go_at_call 30; refine k1.mono ?_; rintro e w1 ⟨rfl, g1⟩; have C1 := hidden (Chg.of_below (F := fun x => x = g) g1); have R2 := hidden (HH.out.later g1); have k3 := HSG.out w1; clear k1 g1)
          | (go_at_call 66; refine k3.mono ?_; rintro e w3 ⟨rfl, g3⟩; have R4 := hidden (R2.out.later g3); have C3 := hidden (C1.out.bel g3); have c2 : w3.cell? ⟨g, 2, none⟩ = some (.int .i64 (i : Int)) := R4.out.blk.cell 2; have f2 := R4.out.blk.frozen 2; clear k3 g3))
        go_ret
        exact ⟨C3.out.put 2 _, .inl ⟨c, a + k, i + 1, HE.out, rfl, R4.out.setI (i + 1) (by omega), H4.out, HV.out, by omega⟩⟩
      | true =>
        have HE : Hid (R = .bad a) := hidden (by rw [HRR.out, hsg]; rfl)
        rw [hsg] at HSG
        clear hsg HRR
        go_enter Tryd.func65, Tryd.ntmps65
        go_wp2_with (first
          | (go_at_call 30; refine k1.mono ?_; rintro e w1 ⟨rfl, g1⟩; have C1 := hidden (Chg.of_below (F := fun x => x = g) g1); have R2 := hidden (HH.out.later g1); have k3 := HSG.out w1; clear k1 g1)
          | (go_at_call 66; refine k3.mono ?_; rintro e w3 ⟨rfl, g3⟩; have R4 := hidden (R2.out.later g3); have C3 := hidden (C1.out.bel g3); have k4 := HPL.out w3 i a R4.out HA.out; clear k3 g3)
          | (go_at_call 17; refine k4.mono ?_; rintro e w4 ⟨rfl, g4⟩; have R5 := hidden (R4.out.later g4); have C4 := hidden (C3.out.bel g4); have k5 := HFA.out w4 i a R5.out; clear k4 g4)
          | (go_at_call 16; refine k5.mono ?_; rintro e w5 ⟨rfl, g5, d5⟩; have R6 := hidden g5; have C5 := hidden (C4.out.seq d5); clear k5 g5 d5))
        go_ret
        exact ⟨C5.out, .inr ⟨a, i, HE.out, rfl, R6.out, hal⟩⟩
    · obtain ⟨c, hc⟩ : ∃ c, pk X i (-1) = c := ⟨_, rfl⟩
      rw [hc] at h2 hpk
      have HE : Hid (R = .bad a) := hidden (by rw [← HR.out]; unfold charF; simp only [hesc, decide_false, Bool.false_eq_true, if_false]; rw [h1])
      have k1 := peekR w h c hc
      have HSG := hidden (fun wx => signR c wx false (sgZ_neg h2))
      have hc0 : c < 0 := by omega
      clear h h1 h2 hc hA
      go_enter Tryd.func65, Tryd.ntmps65
      go_wp2_with (first
        | (go_at_call 30; refine k1.mono ?_; rintro e w1 ⟨rfl, g1⟩; have C1 := hidden (Chg.of_below (F := fun x => x = g) g1); have R2 := hidden (HH.out.later g1); have k3 := HSG.out w1; clear k1 g1)
        | (go_at_call 66; refine k3.mono ?_; rintro e w3 ⟨rfl, g3⟩; have R4 := hidden (R2.out.later g3); have C3 := hidden (C1.out.bel g3); have k4 := HPL.out w3 i a R4.out HA.out; clear k3 g3)
        | (go_at_call 17; refine k4.mono ?_; rintro e w4 ⟨rfl, g4⟩; have R5 := hidden (R4.out.later g4); have C4 := hidden (C3.out.bel g4); have k5 := HFA.out w4 i a R5.out; clear k4 g4)
        | (go_at_call 16; refine k5.mono ?_; rintro e w5 ⟨rfl, g5, d5⟩; have R6 := hidden g5; have C5 := hidden (C4.out.seq d5); clear k5 g5 d5))
      go_ret
      exact ⟨C5.out, .inr ⟨a, i, HE.out, rfl, R6.out, hal⟩⟩

end Go.Proofs.YtndegcgcbhcokaaDoor

/-
  The document's nodes in memory: their blocks lie in F.
-/
namespace Go.Proofs.YtndegcgcbhcokaaDoor
open Go.RowKit
set_option linter.unusedVariables false
set_option linter.unusedSimpArgs false

/-- A node's six cells. -/
def nV (K : Nat) (A : Nat) (N : Bool) (G : Nat) (r s : Value) : List Value := [.int .i64 (K : Int), .int .i32 (A : Int), .bool N, .int .u8 (G : Int), r, s]
def sN : Value := .slice none 0 0
/-- Cells from a place on. -/
def Cs (w : World) (b off : Nat) (u : List Value) : Prop := ∀ (j : Nat) (x : Value), u[j]? = some x → w.cell? ⟨b, off + j, none⟩ = some x
theorem Cs.keep {G : Nat → Prop} {w w' : World} {b off : Nat} {u : List Value} (h : Cs w b off u) (hc : Chg G w w') (hb : ¬ G b) : Cs w' b off u := fun j x hx => by
  have := h j x hx
  rw [World.cell?_of_block (hc.block b (cell_lt this) hb)]
  exact this
/-- A class's ranges as they were read; tidied they are l. -/
def RgV (F : Nat → Prop) (w : World) (neg : Bool) (l : Sn) (v : List Value) : Prop := ∃ ad c raw, v = nV 3 0 neg 0 (.slice ad raw.length c) sN ∧ Ss w ad raw ∧ (∀ y, raw ≠ [] → ad = some y → F y.block) ∧ raw.foldl withS [] = l ∧ (∀ o ∈ raw, o.1 ≤ o.2 ∧ Vc o.1 ∧ Vc o.2) ∧ raw ≠ [] ∧ raw.length ≤ 1000
theorem RgV.keep {F G : Nat → Prop} {w w' : World} {v : List Value} {neg : Bool} {l : Sn} (h : RgV F w neg l v) (hc : Chg G w w') (hd : ∀ b, F b → ¬ G b) : RgV F w' neg l v := by
  obtain ⟨ad, c, raw, e, hs, hf, hr⟩ := h
  refine ⟨ad, c, raw, e, ⟨hs.sz, fun h0 => ?_⟩, hf, hr⟩
  obtain ⟨b, off, e1, hlt, hcell⟩ := hs.at' h0
  have hbk := hc.block b hlt (hd b (hf _ h0 e1))
  refine ⟨b, off, e1, Nat.lt_of_lt_of_le hlt hc.size, fun k x hx => ?_⟩
  rw [show w'.cell? ⟨b, off + k * 2, none⟩ = w.cell? ⟨b, off + k * 2, none⟩ from World.cell?_of_block hbk, show w'.cell? ⟨b, off + k * 2 + 1, none⟩ = w.cell? ⟨b, off + k * 2 + 1, none⟩ from World.cell?_of_block hbk]
  exact hcell k x hx
theorem RgV.mono {F G : Nat → Prop} {w : World} {v : List Value} {neg : Bool} {l : Sn} (h : RgV F w neg l v) (hFG : ∀ b, F b → G b) : RgV G w neg l v := by
  obtain ⟨ad, c, raw, e, hs, hf, hr⟩ := h
  exact ⟨ad, c, raw, e, hs, fun y h0 e => hFG _ (hf y h0 e), hr⟩

mutual
/-- A part, as a node. -/
def NdV (F : Nat → Prop) (w : World) : Pt → List Value → Prop
  | .chr c, v => v = nV 1 c false 0 sN sN ∧ Vc c
  | .any, v => v = nV 2 0 false 0 sN sN
  | .cls neg l, v => RgV F w neg l v
  | .grp l, v => ∃ b off c ad c2 b2 off2, v = nV 4 0 false 0 sN (.slice (some ⟨b, off, none⟩) 1 c) ∧ F b ∧ Cs w b off (nV 7 0 false 0 sN (.slice ad l.length c2)) ∧ (l ≠ [] → ad = some ⟨b2, off2, none⟩ ∧ F b2) ∧ RwsV F w l b2 off2
  | .rep a s, v => ∃ b off c u, v = nV 5 0 false s sN (.slice (some ⟨b, off, none⟩) 1 c) ∧ F b ∧ Cs w b off u ∧ NdV F w a u
/-- Items from a place on. -/
def NdsV (F : Nat → Prop) (w : World) : List Pt → Nat → Nat → Prop
  | [], _, _ => True
  | p :: t, b, off => (∃ u, Cs w b off u ∧ NdV F w p u) ∧ NdsV F w t b (off + 6)
/-- Rows from a place on. -/
def RwsV (F : Nat → Prop) (w : World) : List (List Pt) → Nat → Nat → Prop
  | [], _, _ => True
  | r :: t, b, off => (∃ ad c b' off', Cs w b off (nV 6 0 false 0 sN (.slice ad r.length c)) ∧ (r ≠ [] → ad = some ⟨b', off', none⟩ ∧ F b') ∧ NdsV F w r b' off') ∧ RwsV F w t b (off + 6)
end
/-- A row, as a node; rows, as a node. -/
def RwV (F : Nat → Prop) (w : World) (r : List Pt) (v : List Value) : Prop := ∃ ad c b off, v = nV 6 0 false 0 sN (.slice ad r.length c) ∧ (r ≠ [] → ad = some ⟨b, off, none⟩ ∧ F b) ∧ NdsV F w r b off
def AnV (F : Nat → Prop) (w : World) (l : List (List Pt)) (v : List Value) : Prop := ∃ ad c b off, v = nV 7 0 false 0 sN (.slice ad l.length c) ∧ (l ≠ [] → ad = some ⟨b, off, none⟩ ∧ F b) ∧ RwsV F w l b off

mutual
theorem NdV.keep {F G : Nat → Prop} {w w' : World} (hc : Chg G w w') (hd : ∀ b, F b → ¬ G b) : ∀ (p : Pt) (v : List Value), NdV F w p v → NdV F w' p v
  | .chr c, v, h => by simp only [NdV] at h ⊢; exact h
  | .any, v, h => by simp only [NdV] at h ⊢; exact h
  | .cls neg l, v, h => by simp only [NdV] at h ⊢; exact h.keep hc hd
  | .grp l, v, h => by
    simp only [NdV] at h ⊢
    obtain ⟨b, off, c, ad, c2, b2, off2, e, h1, h2, h3, h4⟩ := h
    exact ⟨b, off, c, ad, c2, b2, off2, e, h1, h2.keep hc (hd b h1), h3, RwsV.keep hc hd l b2 off2 (fun h0 => (h3 h0).2) h4⟩
  | .rep a s, v, h => by
    simp only [NdV] at h ⊢
    obtain ⟨b, off, c, u, e, h1, h2, h3⟩ := h
    exact ⟨b, off, c, u, e, h1, h2.keep hc (hd b h1), NdV.keep hc hd a u h3⟩
theorem NdsV.keep {F G : Nat → Prop} {w w' : World} (hc : Chg G w w') (hd : ∀ b, F b → ¬ G b) : ∀ (l : List Pt) (b off : Nat), (l ≠ [] → F b) → NdsV F w l b off → NdsV F w' l b off
  | [], b, off, _, h => by simp only [NdsV]
  | p :: t, b, off, hF, h => by
    simp only [NdsV] at h ⊢
    obtain ⟨⟨v, h1, h2⟩, h3⟩ := h
    have hFb := hF (by simp)
    exact ⟨⟨v, h1.keep hc (hd b hFb), NdV.keep hc hd p v h2⟩, NdsV.keep hc hd t b (off + 6) (fun _ => hFb) h3⟩
theorem RwsV.keep {F G : Nat → Prop} {w w' : World} (hc : Chg G w w') (hd : ∀ b, F b → ¬ G b) : ∀ (l : List (List Pt)) (b off : Nat), (l ≠ [] → F b) → RwsV F w l b off → RwsV F w' l b off
  | [], b, off, _, h => by simp only [RwsV]
  | r :: t, b, off, hF, h => by
    simp only [RwsV] at h ⊢
    obtain ⟨⟨ad, c, b', off', h1, h2, h3⟩, h4⟩ := h
    have hFb := hF (by simp)
    exact ⟨⟨ad, c, b', off', h1.keep hc (hd b hFb), h2, NdsV.keep hc hd r b' off' (fun h0 => (h2 h0).2) h3⟩, RwsV.keep hc hd t b (off + 6) (fun _ => hFb) h4⟩
end
mutual
theorem NdV.mono {F G : Nat → Prop} {w : World} (hFG : ∀ b, F b → G b) : ∀ (p : Pt) (v : List Value), NdV F w p v → NdV G w p v
  | .chr c, v, h => by simp only [NdV] at h ⊢; exact h
  | .any, v, h => by simp only [NdV] at h ⊢; exact h
  | .cls neg l, v, h => by simp only [NdV] at h ⊢; exact h.mono hFG
  | .grp l, v, h => by
    simp only [NdV] at h ⊢
    obtain ⟨b, off, c, ad, c2, b2, off2, e, h1, h2, h3, h4⟩ := h
    exact ⟨b, off, c, ad, c2, b2, off2, e, hFG _ h1, h2, fun h0 => ⟨(h3 h0).1, hFG _ (h3 h0).2⟩, RwsV.mono hFG l b2 off2 h4⟩
  | .rep a s, v, h => by
    simp only [NdV] at h ⊢
    obtain ⟨b, off, c, u, e, h1, h2, h3⟩ := h
    exact ⟨b, off, c, u, e, hFG _ h1, h2, NdV.mono hFG a u h3⟩
theorem NdsV.mono {F G : Nat → Prop} {w : World} (hFG : ∀ b, F b → G b) : ∀ (l : List Pt) (b off : Nat), NdsV F w l b off → NdsV G w l b off
  | [], b, off, h => by simp only [NdsV]
  | p :: t, b, off, h => by
    simp only [NdsV] at h ⊢
    obtain ⟨⟨v, h1, h2⟩, h3⟩ := h
    exact ⟨⟨v, h1, NdV.mono hFG p v h2⟩, NdsV.mono hFG t b (off + 6) h3⟩
theorem RwsV.mono {F G : Nat → Prop} {w : World} (hFG : ∀ b, F b → G b) : ∀ (l : List (List Pt)) (b off : Nat), RwsV F w l b off → RwsV G w l b off
  | [], b, off, h => by simp only [RwsV]
  | r :: t, b, off, h => by
    simp only [RwsV] at h ⊢
    obtain ⟨⟨ad, c, b', off', h1, h2, h3⟩, h4⟩ := h
    exact ⟨⟨ad, c, b', off', h1, fun h0 => ⟨(h2 h0).1, hFG _ (h2 h0).2⟩, NdsV.mono hFG r b' off' h3⟩, RwsV.mono hFG t b (off + 6) h4⟩
end
theorem RwV.keep {F G : Nat → Prop} {w w' : World} {r : List Pt} {v : List Value} (h : RwV F w r v) (hc : Chg G w w') (hd : ∀ b, F b → ¬ G b) : RwV F w' r v := by
  obtain ⟨ad, c, b, off, e, h1, h2⟩ := h
  exact ⟨ad, c, b, off, e, h1, NdsV.keep hc hd r b off (fun h0 => (h1 h0).2) h2⟩
theorem RwV.mono {F G : Nat → Prop} {w : World} {r : List Pt} {v : List Value} (h : RwV F w r v) (hFG : ∀ b, F b → G b) : RwV G w r v := by
  obtain ⟨ad, c, b, off, e, h1, h2⟩ := h
  exact ⟨ad, c, b, off, e, fun h0 => ⟨(h1 h0).1, hFG _ (h1 h0).2⟩, NdsV.mono hFG r b off h2⟩
theorem AnV.keep {F G : Nat → Prop} {w w' : World} {l : List (List Pt)} {v : List Value} (h : AnV F w l v) (hc : Chg G w w') (hd : ∀ b, F b → ¬ G b) : AnV F w' l v := by
  obtain ⟨ad, c, b, off, e, h1, h2⟩ := h
  exact ⟨ad, c, b, off, e, h1, RwsV.keep hc hd l b off (fun h0 => (h1 h0).2) h2⟩
theorem AnV.mono {F G : Nat → Prop} {w : World} {l : List (List Pt)} {v : List Value} (h : AnV F w l v) (hFG : ∀ b, F b → G b) : AnV G w l v := by
  obtain ⟨ad, c, b, off, e, h1, h2⟩ := h
  exact ⟨ad, c, b, off, e, fun h0 => ⟨(h1 h0).1, hFG _ (h1 h0).2⟩, RwsV.mono hFG l b off h2⟩

/-- A node's shape, whatever it means. -/
def Sh (u : List Value) : Prop := ∃ K A N G ad n c ad2 n2 c2, u = nV K A N G (.slice ad n c) (.slice ad2 n2 c2)
theorem Sh.one {u : List Value} (h : Sh u) : u.length = 6 ∧ ∀ v ∈ u, v.oneCell' = true := by
  obtain ⟨K, A, N, G, ad, n, c, ad2, n2, c2, rfl⟩ := h
  refine ⟨rfl, fun v hv => ?_⟩
  simp [nV] at hv
  rcases hv with rfl | rfl | rfl | rfl | rfl | rfl <;> rfl
theorem NdV.sh {F : Nat → Prop} {w : World} : ∀ {p : Pt} {v : List Value}, NdV F w p v → Sh v
  | .chr c, v, h => by simp only [NdV] at h; exact ⟨1, c, false, 0, none, 0, 0, none, 0, 0, h.1⟩
  | .any, v, h => by simp only [NdV] at h; exact ⟨2, 0, false, 0, none, 0, 0, none, 0, 0, h⟩
  | .cls neg l, v, h => by simp only [NdV] at h; obtain ⟨ad, c, raw, e, _⟩ := h; exact ⟨3, 0, neg, 0, ad, raw.length, c, none, 0, 0, e⟩
  | .grp l, v, h => by simp only [NdV] at h; obtain ⟨b, off, c, ad, c2, b2, off2, e, _⟩ := h; exact ⟨4, 0, false, 0, none, 0, 0, _, 1, c, e⟩
  | .rep a s, v, h => by simp only [NdV] at h; obtain ⟨b, off, c, u, e, _⟩ := h; exact ⟨5, 0, false, s, none, 0, 0, _, 1, c, e⟩
theorem RwV.sh {F : Nat → Prop} {w : World} {r : List Pt} {v : List Value} (h : RwV F w r v) : Sh v := by
  obtain ⟨ad, c, b, off, e, _⟩ := h; exact ⟨6, 0, false, 0, none, 0, 0, ad, _, c, e⟩
theorem AnV.sh {F : Nat → Prop} {w : World} {l : List (List Pt)} {v : List Value} (h : AnV F w l v) : Sh v := by
  obtain ⟨ad, c, b, off, e, _⟩ := h; exact ⟨7, 0, false, 0, none, 0, 0, ad, _, c, e⟩

theorem info70n : (Tryd.prog.info? 70).map (fun i => (i.zero, i.size, i.bytes)) = some (some (.agg (nV 0 0 false 0 sN sN).toArray), 6, 64) := by kernel_rfl

/-- A node's blocks, of a list that grows: pieces of six cells. -/
def cN (us : List (List Value)) : List Value := us.flatten
theorem cN_get : ∀ (us : List (List Value)), (∀ u ∈ us, u.length = 6) → ∀ (i : Nat) (u : List Value), us[i]? = some u → ∀ (j : Nat) (x : Value), u[j]? = some x → (cN us)[i * 6 + j]? = some x
  | [], _, i, u, h, j, x, hx => by simp at h
  | v :: t, hl, 0, u, h, j, x, hx => by
    simp at h
    subst h
    have hj := (List.getElem?_eq_some_iff.1 hx).1
    simp only [cN, List.flatten_cons, Nat.zero_mul, Nat.zero_add]
    rw [List.getElem?_append_left hj]
    exact hx
  | v :: t, hl, i + 1, u, h, j, x, hx => by
    have h6 := hl v (by simp)
    simp only [cN, List.flatten_cons]
    rw [List.getElem?_append_right (by omega), h6, show (i + 1) * 6 + j - 6 = i * 6 + j by omega]
    exact cN_get t (fun u hu => hl u (by simp [hu])) i u (by simpa using h) j x hx
theorem nds_of {F : Nat → Prop} {w : World} {b : Nat} : ∀ (l : List Pt) (us : List (List Value)) (off : Nat), l.length = us.length → (∀ (i : Nat) (u : List Value), us[i]? = some u → Cs w b (off + i * 6) u) → (∀ (i : Nat) (p : Pt) (u : List Value), l[i]? = some p → us[i]? = some u → NdV F w p u) → NdsV F w l b off
  | [], us, off, _, _, _ => by simp only [NdsV]
  | p :: t, [], off, h, _, _ => by simp at h
  | p :: t, u :: us, off, h, h1, h2 => by
    simp only [NdsV]
    refine ⟨⟨u, by simpa using h1 0 u rfl, h2 0 p u rfl rfl⟩, nds_of t us (off + 6) (by simpa using h) (fun i u hu => ?_) (fun i p u hp hu => h2 (i + 1) p u (by simpa using hp) (by simpa using hu))⟩
    have := h1 (i + 1) u (by simpa using hu)
    rw [show off + 6 + i * 6 = off + (i + 1) * 6 by omega]
    exact this
theorem rws_of {F : Nat → Prop} {w : World} {b : Nat} : ∀ (l : List (List Pt)) (us : List (List Value)) (off : Nat), l.length = us.length → (∀ (i : Nat) (u : List Value), us[i]? = some u → Cs w b (off + i * 6) u) → (∀ (i : Nat) (p : List Pt) (u : List Value), l[i]? = some p → us[i]? = some u → RwV F w p u) → RwsV F w l b off
  | [], us, off, _, _, _ => by simp only [RwsV]
  | p :: t, [], off, h, _, _ => by simp at h
  | p :: t, u :: us, off, h, h1, h2 => by
    simp only [RwsV]
    obtain ⟨ad, c, b', off', e, k1, k2⟩ := h2 0 p u rfl rfl
    subst e
    refine ⟨⟨ad, c, b', off', by simpa using h1 0 _ rfl, k1, k2⟩, rws_of t us (off + 6) (by simpa using h) (fun i u hu => ?_) (fun i p u hp hu => h2 (i + 1) p u (by simpa using hp) (by simpa using hu))⟩
    have := h1 (i + 1) u (by simpa using hu)
    rw [show off + 6 + i * 6 = off + (i + 1) * 6 by omega]
    exact this

end Go.Proofs.YtndegcgcbhcokaaDoor

/-
  A node behind a row of nodes (six cells); a result that is a node.
-/
namespace Go.Proofs.YtndegcgcbhcokaaDoor
open Go.RowKit
set_option linter.unusedVariables false
set_option linter.unusedSimpArgs false

theorem run_push6 {P : Program} (w : World) (t ty e : TypeId) (i : TypeInfo) (z : Value) (bytes : Nat) (ht : P.underlying t = some (.slice e)) (hi : P.info? e = some i) (hz : i.zero = some z)
    (hsize : i.size = 6) (hby : i.bytes = bytes) (hzs : z.cells.size = 6) (base : Nat) (v : Value) (n : Nat) (xs : List Value) (hown : w.ownsRow base e 6 v n xs)
    (ad : Addr) (news : List Value) (hl : news.length = 6) (hnews : ∀ j u, news[j]? = some u → w.cell? (ad.add j) = some u) (hone : ∀ x ∈ news, x.oneCell' = true) (h63 : n + 1 ≤ maxLen) (hbytes : (n + 1) * bytes ≤ 140737488355328) (hbase : base ≤ w.heap.size) :
    ∃ g' c' w', (Builtin.append_ #[t, t] ty #[v, .slice (some ad) 1 1]).run P w = .ok (.slice (some ⟨g', 0, none⟩) (n + 1) c') w' ∧
      w'.ownsRow base e 6 (.slice (some ⟨g', 0, none⟩) (n + 1) c') (n + 1) (xs ++ news) ∧ Pushed w w' v g' := by
  rcases hown.2 with ⟨rfl, rfl⟩ | ⟨g, cap, cur, rfl, hbg, hg, hnc, hcm, hcs, htake⟩
  · have hxs : xs = [] := List.eq_nil_of_length_eq_zero (by simpa using hown.1)
    subst hxs
    obtain ⟨v', w', hr, ho, hgr, hiff⟩ := run_append_own (P := P) w w.heap.size t ty e i z 6 bytes ht hi hz hsize hby hzs (by omega) (.slice none 0 0) 0 [] (World.ownsRow_nil _ _ _ _) ad 1 1 news (by omega) hnews hone h63 hbytes (Nat.le_refl _)
    rcases ho.2 with ⟨_, h0⟩ | ⟨g', c', cur', rfl, hb', hh, hrest⟩
    · omega
    · exact ⟨g', c', w', by simpa using hr, ⟨by simp [hl], .inr ⟨g', c', cur', rfl, by omega, hh, by simpa using hrest⟩⟩, .inr ⟨hb', by simpa [Value.ownBlock] using hgr⟩⟩
  · by_cases hroom : n + 1 ≤ cap
    · obtain ⟨w', hr, ho, hgr⟩ := run_append_fits (P := P) w base t ty e i 6 ht hi hsize g n cap xs hown ad 1 1 news (by omega) hnews hone hroom
      exact ⟨g, cap, w', hr, ho, .inl ⟨rfl, hgr⟩⟩
    · obtain ⟨v', w', hr, ho, hgr⟩ := run_append_arg_grows (P := P) w t ty e i z 6 bytes ht hi hz hsize hby hzs (by omega) ⟨g, 0, none⟩ n cap xs hown.1 (hown.cells rfl) ad 1 1 news (by omega) hnews (by omega) h63 hbytes
      rcases ho.2 with ⟨_, h0⟩ | ⟨g', c', cur', rfl, hb', hh, hrest⟩
      · omega
      · exact ⟨g', c', w', hr, ⟨by simp [hown.1, hl]; omega, .inr ⟨g', c', cur', rfl, by omega, hh, hrest⟩⟩, .inr ⟨hb', hgr⟩⟩
theorem wp_push6 {P : Program} (w : World) {o : Oper} {a : Act} {K : Act → World → Prop} {Q : Exit → Act → World → Prop} (s x : Operand) (t : TypeId)
    (ho : o.op = .call { callee := .builtin .append, args := #[s, x], argTypes := #[t, t] }) (e : TypeId) (i : TypeInfo) (z : Value) (bytes : Nat) (ht : P.underlying t = some (.slice e)) (hi : P.info? e = some i) (hz : i.zero = some z)
    (hsize : i.size = 6) (hby : i.bytes = bytes) (hzs : z.cells.size = 6) (base : Nat) (v : Value) (n : Nat) (xs : List Value) (hs : a.eval s = v) (hown : w.ownsRow base e 6 v n xs)
    (ad : Addr) (news : List Value) (hx : a.eval x = .slice (some ad) 1 1) (hl : news.length = 6) (hnews : ∀ j u, news[j]? = some u → w.cell? (ad.add j) = some u) (hone : ∀ x ∈ news, x.oneCell' = true) (h63 : n + 1 ≤ maxLen) (hbytes : (n + 1) * bytes ≤ 140737488355328) (hbase : base ≤ w.heap.size)
    (h : ∀ g' c' w', w'.ownsRow base e 6 (.slice (some ⟨g', 0, none⟩) (n + 1) c') (n + 1) (xs ++ news) → Pushed w w' v g' → K (a.put o.dst (.slice (some ⟨g', 0, none⟩) (n + 1) c')) w') : o.wp P a w K Q := by
  obtain ⟨g', c', w', hr, h2, h3⟩ := run_push6 (P := P) w t o.type e i z bytes ht hi hz hsize hby hzs base v n xs hown ad news hl hnews hone h63 hbytes hbase
  unfold Oper.wp
  simp [execOp, ho, resolve, invoke, builtin, hs, hx, hr, Result.andThen]
  exact h g' c' w' h2 h3
theorem wpList_push6 {P : Program} (w : World) {ops : Array Oper} {rest : List Oper} {o : Oper} {a : Act} {Q : Exit → Act → World → Prop} (hgd : o.guard = none) (s x : Operand) (t : TypeId)
    (ho : o.op = .call { callee := .builtin .append, args := #[s, x], argTypes := #[t, t] }) (e : TypeId) (i : TypeInfo) (z : Value) (bytes : Nat) (ht : P.underlying t = some (.slice e)) (hi : P.info? e = some i) (hz : i.zero = some z)
    (hsize : i.size = 6) (hby : i.bytes = bytes) (hzs : z.cells.size = 6) (base : Nat) (v : Value) (n : Nat) (xs : List Value) (hs : a.eval s = v) (hown : w.ownsRow base e 6 v n xs)
    (ad : Addr) (news : List Value) (hx : a.eval x = .slice (some ad) 1 1) (hl : news.length = 6) (hnews : ∀ j u, news[j]? = some u → w.cell? (ad.add j) = some u) (hone : ∀ x ∈ news, x.oneCell' = true) (h63 : n + 1 ≤ maxLen) (hbytes : (n + 1) * bytes ≤ 140737488355328) (hbase : base ≤ w.heap.size)
    (h : ∀ g' c' w', w'.ownsRow base e 6 (.slice (some ⟨g', 0, none⟩) (n + 1) c') (n + 1) (xs ++ news) → Pushed w w' v g' → wpList P ops Q rest (a.put o.dst (.slice (some ⟨g', 0, none⟩) (n + 1) c')) w') : wpList P ops Q (o :: rest) a w :=
  wpList_plain hgd fun _ hK => wp_push6 w s x t ho e i z bytes ht hi hz hsize hby hzs base v n xs hs hown ad news hx hl hnews hone h63 hbytes hbase fun g' c' w' h2 h3 => hK _ _ (h g' c' w' h2 h3)
theorem step_push6 {P : Program} (w : World) {ops : Array Oper} {o : Oper} {a : Act} {K : Act → World → Prop} {Q : Exit → Act → World → Prop} {E : Prop} (hgd : o.guard = none) (s x : Operand) (t : TypeId)
    (ho : o.op = .call { callee := .builtin .append, args := #[s, x], argTypes := #[t, t] }) (e : TypeId) (i : TypeInfo) (z : Value) (bytes : Nat) (ht : P.underlying t = some (.slice e)) (hi : P.info? e = some i) (hz : i.zero = some z)
    (hsize : i.size = 6) (hby : i.bytes = bytes) (hzs : z.cells.size = 6) (base : Nat) (v : Value) (n : Nat) (xs : List Value) (hs : a.eval s = v) (hown : w.ownsRow base e 6 v n xs)
    (ad : Addr) (news : List Value) (hx : a.eval x = .slice (some ad) 1 1) (hl : news.length = 6) (hnews : ∀ j u, news[j]? = some u → w.cell? (ad.add j) = some u) (hone : ∀ x ∈ news, x.oneCell' = true) (h63 : n + 1 ≤ maxLen) (hbytes : (n + 1) * bytes ≤ 140737488355328) (hbase : base ≤ w.heap.size)
    (h : ∀ g' c' w', w'.ownsRow base e 6 (.slice (some ⟨g', 0, none⟩) (n + 1) c') (n + 1) (xs ++ news) → Pushed w w' v g' → K (a.put o.dst (.slice (some ⟨g', 0, none⟩) (n + 1) c')) w') :
    if Region.wanted o (yielded ops a.tmps) = true then Oper.wp P o a w K Q else E := by
  have hw : Region.wanted o (yielded ops a.tmps) = true := by simp [Region.wanted, hgd]
  rw [if_pos hw]
  exact wp_push6 w s x t ho e i z bytes ht hi hz hsize hby hzs base v n xs hs hown ad news hx hl hnews hone h63 hbytes hbase h


theorem res_node {f : Func} (hr : f.results = #[.cell 2 70]) (tmps : Array Value) (w : World) (g : Nat) (u : List Value) (hu : Sh u) (hp : tmps.getD 2 undef = .pointer (some ⟨g, 0, none⟩)) (h : Blk w g 70 u) :
    (results f tmps).run Tryd.prog w = .ok (.agg u.toArray) w := by
  obtain ⟨K, A, N, G, ad, n, c, ad2, n2, c2, rfl⟩ := hu
  have h0 : w.cell? ⟨g, 0, none⟩ = some (.int .i64 (K : Int)) := h.cell 0
  have h1 : w.cell? ⟨g, 1, none⟩ = some (.int .i32 (A : Int)) := h.cell 1
  have h2 : w.cell? ⟨g, 2, none⟩ = some (.bool N) := h.cell 2
  have h3 : w.cell? ⟨g, 3, none⟩ = some (.int .u8 (G : Int)) := h.cell 3
  have h4 : w.cell? ⟨g, 4, none⟩ = some (.slice ad n c) := h.cell 4
  have h5 : w.cell? ⟨g, 5, none⟩ = some (.slice ad2 n2 c2) := h.cell 5
  have hp' : tmps[2]?.getD undef = .pointer (some ⟨g, 0, none⟩) := by simpa using hp
  simp [results, hr, hp', asAddr, loadVar, h0, h1, h2, h3, h4, h5, go_sem, nV]
theorem res_node2 {f : Func} (hr : f.results = #[.cell 2 70, .tmp 3]) (tmps : Array Value) (w : World) (g : Nat) (u : List Value) (hu : Sh u) (b : Bool) (hp : tmps.getD 2 undef = .pointer (some ⟨g, 0, none⟩)) (hb : tmps.getD 3 undef = .bool b) (h : Blk w g 70 u) :
    (results f tmps).run Tryd.prog w = .ok (.tuple #[.agg u.toArray, .bool b]) w := by
  obtain ⟨K, A, N, G, ad, n, c, ad2, n2, c2, rfl⟩ := hu
  have h0 : w.cell? ⟨g, 0, none⟩ = some (.int .i64 (K : Int)) := h.cell 0
  have h1 : w.cell? ⟨g, 1, none⟩ = some (.int .i32 (A : Int)) := h.cell 1
  have h2 : w.cell? ⟨g, 2, none⟩ = some (.bool N) := h.cell 2
  have h3 : w.cell? ⟨g, 3, none⟩ = some (.int .u8 (G : Int)) := h.cell 3
  have h4 : w.cell? ⟨g, 4, none⟩ = some (.slice ad n c) := h.cell 4
  have h5 : w.cell? ⟨g, 5, none⟩ = some (.slice ad2 n2 c2) := h.cell 5
  have hp' : tmps[2]?.getD undef = .pointer (some ⟨g, 0, none⟩) := by simpa using hp
  have hb' : tmps[3]?.getD undef = .bool b := by simpa using hb
  simp [results, hr, hp', hb', asAddr, loadVar, h0, h1, h2, h3, h4, h5, go_sem, nV]
theorem res64 : Tryd.f64.results = #[.cell 2 70] := by kernel_rfl
theorem res29 : Tryd.f29.results = #[.cell 2 70] := by kernel_rfl
theorem res15 : Tryd.f15.results = #[.cell 2 70] := by kernel_rfl
theorem res48 : Tryd.f48.results = #[.cell 2 70, .tmp 3] := by kernel_rfl

end Go.Proofs.YtndegcgcbhcokaaDoor
