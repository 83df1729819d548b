/-
  parses: one Parse beside the document's.
-/
import Derived.Test.YtpdffdoogobhfaaDoorReQ
import Derived.Test.YtpdffdoogobhfaaDoorLwO
namespace Go.Proofs.YtpdffdoogobhfaaDoor
open Go.RowKit
set_option linter.unusedVariables false
set_option linter.unusedSimpArgs false

/-- What a text says: labels, a place, a number. -/
def pls (s : ByteArray) : List Lb := match parseL (bts s) with | .inl _ => [] | .inr l => l
def pat (s : ByteArray) : Int := match parseL (bts s) with | .inl p => (p : Int) | .inr _ => 0
def per (s : ByteArray) : Int := match parseL (bts s) with | .inl _ => 70 | .inr _ => 0
theorem pls_len (s : ByteArray) : (pls s).length ≤ 8 := by
  unfold pls
  split
  · simp
  · rename_i l h
    exact ((right_iff l).1 (parse_right h)).2.1

/-- An error as it is held: none, or a fault in a block. -/
def FaE (B : Nat) (w : World) (err : Value) (p k : Int) : Prop :=
  (err = .nilIface ∧ p = 0 ∧ k = 0) ∨ (∃ g, err = .iface 64 (.pointer (some ⟨g, 0, none⟩)) ∧ B ≤ g ∧ Blk w g 67 [.int .i64 p, .int .i64 70] ∧ k = 70)
theorem FaE.later {B : Nat} {w w' : World} {err : Value} {p k : Int} (h : FaE B w err p k) (hb : Below w.heap.size w w') : FaE B w' err p k := by
  rcases h with h | ⟨g, h1, h2, h3, h4⟩
  · exact Or.inl h
  · exact Or.inr ⟨g, h1, h2, h3.later hb, h4⟩
theorem FaE.chg {F : Nat → Prop} {B : Nat} {w w' : World} {err : Value} {p k : Int} (h : FaE B w err p k) (hc : Chg F w w') (hF : ∀ g, F g → Tg w g 35) : FaE B w' err p k := by
  rcases h with h | ⟨g, h1, h2, h3, h4⟩
  · exact Or.inl h
  · exact Or.inr ⟨g, h1, h2, hc.blk h3 (fun e => absurd ((hF g e).one h3.tg) (by decide)), h4⟩
theorem FaE.fault {B : Nat} {w : World} {err : Value} {p k : Int} (h : FaE B w err p k) : Calls Tryd.prog 23 #[err] w fun e w' => e = .returned (.tuple #[.int .i64 p, .int .i64 k, .bool true]) ∧ Below w.heap.size w w' := by
  rcases h with ⟨rfl, rfl, rfl⟩ | ⟨g, rfl, h2, h3, rfl⟩
  · exact faultN w
  · exact faultF g p w h3

theorem par25 (B0 : Nat) (s : ByteArray) (w : World) (hs : s.size ≤ 140737488355328) (hT : Tb B0 w) :
    Calls Tryd.prog 25 #[.string s] w fun e w' => ∃ ad c err, e = .returned (.tuple #[.slice ad (pls s).length c, err]) ∧ w'.ownsRow w.heap.size 35 2 (.slice ad (pls s).length c) (pls s).length (cL (pls s)) ∧ Szs (pls s) ∧ FaE w.heap.size w' err (pat s) (per s) ∧ Below w.heap.size w w' := by
  refine (parseP B0 s w hs hT).mono ?_
  rintro e w' ⟨v, err, rfl, h, hb⟩
  rcases h with ⟨p, g, h1, h2, rfl, rfl, h5, h6⟩ | ⟨l, h1, rfl, h3, h4⟩
  · have e1 : pls s = [] := by rw [pls, h1]
    have e2 : pat s = (p : Int) := by rw [pat, h1]
    have e3 : per s = 70 := by rw [per, h1]
    rw [e1, e2, e3]
    exact ⟨none, 0, _, rfl, World.ownsRow_nil _ _ _ _, (fun x hx => by cases hx), Or.inr ⟨g, rfl, h5, h6, rfl⟩, hb⟩
  · have e1 : pls s = l := by rw [pls, h1]
    have e2 : pat s = 0 := by rw [pat, h1]
    have e3 : per s = 0 := by rw [per, h1]
    rw [e1, e2, e3]
    obtain ⟨ad, c, rfl, _⟩ := owns_formL h3
    exact ⟨ad, c, _, rfl, h3, h4, Or.inl ⟨rfl, rfl, rfl⟩, hb⟩
theorem par24 (s : ByteArray) (w : World) (hs : s.size ≤ 140737488355328) :
    Calls Tryd.prog 24 #[.string s] w fun e w' => ∃ ad c, e = .returned (.tuple #[.slice ad (pls s).length c, .int .i64 (pat s), .int .i64 (per s)]) ∧ w'.ownsRow w.heap.size 35 2 (.slice ad (pls s).length c) (pls s).length (cL (pls s)) ∧ Below w.heap.size w w' := by
  refine (rparseP s w hs).mono ?_
  rintro e w' ⟨v, p, k, rfl, h, hb⟩
  rcases h with ⟨q, h1, rfl, rfl, rfl⟩ | ⟨l, h1, rfl, rfl, h3, h4⟩
  · have e1 : pls s = [] := by rw [pls, h1]
    have e2 : pat s = (q : Int) := by rw [pat, h1]
    have e3 : per s = 70 := by rw [per, h1]
    rw [e1, e2, e3]
    exact ⟨none, 0, rfl, World.ownsRow_nil _ _ _ _, hb⟩
  · have e1 : pls s = l := by rw [pls, h1]
    have e2 : pat s = 0 := by rw [pat, h1]
    have e3 : per s = 0 := by rw [per, h1]
    rw [e1, e2, e3]
    obtain ⟨ad, c, rfl, _⟩ := owns_formL h3
    exact ⟨ad, c, rfl, h3, hb⟩

set_option maxRecDepth 100000 in
set_option maxHeartbeats 8000000 in
theorem parsesP (B0 : Nat) (s : ByteArray) (w : World) (hs : s.size ≤ 140737488355328) (hT : Tb B0 w) :
    Calls Tryd.prog 22 #[.string s] w fun e w' => ∃ ad c err, e = .returned (.tuple #[.slice ad (pls s).length c, err, .bool true]) ∧ w'.ownsRow w.heap.size 35 2 (.slice ad (pls s).length c) (pls s).length (cL (pls s)) ∧ Szs (pls s) ∧ FaE w.heap.size w' err (pat s) (per s) ∧ Below w.heap.size w w' := by
  have k1 := par25 B0 s w hs hT
  have k2 := fun w1 => par24 s w1 hs
  obtain ⟨L, hL⟩ : ∃ L, pls s = L := ⟨_, rfl⟩
  obtain ⟨P, hP⟩ : ∃ P, pat s = P := ⟨_, rfl⟩
  obtain ⟨E, hE⟩ : ∃ E, per s = E := ⟨_, rfl⟩
  have h8 := pls_len s
  rw [hL, hP, hE] at k1 ⊢
  rw [hL, hP, hE] at k2
  rw [hL] at h8
  have K2 := hidden k2
  obtain ⟨n, hn⟩ : ∃ n, L.length = n := ⟨_, rfl⟩
  have HN : Hid (L.length = n) := hidden hn
  rw [hn] at k1 K2 h8 ⊢
  clear hL hP hE k2 hn hT
  go_enter Tryd.func22, Tryd.ntmps22
  go_wp2_with (go_at_call 25; refine k1.mono ?_; rintro e w1 ⟨a1, c1, err, rfl, ho1, hz1, hf1, hb1⟩; clear k1)
  have HO1 := hidden ho1
  have HZ := hidden hz1
  have HF := hidden hf1
  have HB1 := hidden hb1
  clear ho1 hz1 hf1 hb1
  have k3 := K2.out w1
  go_wp2_with (go_at_call 24; refine k3.mono ?_; rintro e w2 ⟨a2, c2, rfl, ho2, hb2⟩; clear k3)
  replace HO1 := hidden (owl HO1.out hb2)
  replace HF := hidden (HF.out.later hb2)
  replace HB1 := hidden (HB1.out.trans (hb2.mono HB1.out.size))
  have HO2 := hidden ho2
  clear ho2 hb2 K2
  have k4 := HF.out.fault
  go_wp2_with (go_at_call 23; refine k4.mono ?_; rintro e w3 ⟨rfl, hb3⟩; clear k4)
  replace HO1 := hidden (owl HO1.out hb3)
  replace HO2 := hidden (owl HO2.out hb3)
  replace HF := hidden (HF.out.later hb3)
  replace HB1 := hidden (HB1.out.trans (hb3.mono HB1.out.size))
  clear hb3
  have k5 := sameK (l := L) (a1 := a1) (a2 := a2) (c1 := c1) (c2 := c2) HZ.out (by rw [HN.out]; exact h8) (by rw [HN.out]; exact HO1.out) (by rw [HN.out]; exact HO2.out)
  rw [HN.out] at k5
  go_wp2_with (go_at_call 12; refine k5.mono ?_; rintro e w4 ⟨rfl, hb4⟩; clear k5)
  replace HO1 := hidden (owl HO1.out hb4)
  replace HF := hidden (HF.out.later hb4)
  replace HB1 := hidden (HB1.out.trans (hb4.mono HB1.out.size))
  clear hb4
  go_ret3
  exact ⟨_, _, _, rfl, HO1.out, HZ.out, HF.out, HB1.out⟩

end Go.Proofs.YtpdffdoogobhfaaDoor
