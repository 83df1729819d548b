import Derived.Test.YtgmdpbahcbhfjaaGreatDoorJPwB
import Derived.Test.YtgmdpbahcbhfjaaGreatDoorJSoI
set_option linter.unusedSimpArgs false
set_option linter.unusedVariables false
set_option maxHeartbeats 40000000
set_option maxRecDepth 100000
/-
  Package post: Walk.
-/
namespace Go.Proofs.YtgmdpbahcbhfjaaGreatDoor.J
open Go Go.RowKit

def lss (xs : List Lst) : List (List Nat) := xs.map (fun x : Lst => x.2.2.2)
/-- What Walk tells of these lists. -/
def wantF (ls : List (List Nat)) : List (Nat × Nat) := if ∀ l ∈ ls, Ris l then walkF ls else []
theorem lss_joined (xs : List Lst) : joined xs = (lss xs).flatten := by
  unfold joined lss
  rw [List.flatMap_def]
theorem lss_get {xs : List Lst} {i : Nat} {x : Lst} (h : xs[i]? = some x) : (lss xs)[i]? = some x.2.2.2 := by simp [lss, h]
theorem lss_mem {xs : List Lst} {i : Nat} {x : Lst} (h : xs[i]? = some x) : x.2.2.2 ∈ lss xs := List.mem_map_of_mem (List.mem_of_getElem? h)
theorem lss_len (xs : List Lst) : (lss xs).length = xs.length := by simp [lss]
theorem ris_next {ls : List (List Nat)} {i : Nat} {l : List Nat} (h : ls[i]? = some l) (k : ∀ m ∈ ls.take i, Ris m) (hl : Ris l) : ∀ m ∈ ls.take (i + 1), Ris m := by
  intro m hm
  rw [List.take_add_one, h] at hm
  rcases List.mem_append.1 hm with hm | hm
  · exact k m hm
  · simp at hm
    rw [hm]
    exact hl
theorem ar_wrd {w : World} {ad : Option Addr} {xs : List Lst} (h : Lsw w ad xs) : Wrd (joined xs) := by
  intro n hn
  unfold joined at hn
  obtain ⟨x, hx, hn⟩ := List.mem_flatMap.1 hn
  obtain ⟨i, hi⟩ := List.mem_iff_getElem?.1 hx
  exact (h i x hi).2.sw.bd n hn

/-- A walk that came out: the function value, its box, its list. -/
def WalkV (w0 : World) (w : World) (bx : Nat) (am : Option Addr) (m cm : Nat) (L : List Nat) : Prop :=
  Blk w bx 107 [.slice am m cm] ∧ w0.heap.size ≤ bx ∧ w.ownsRow w0.heap.size 114 1 (.slice am m cm) m (cells32 L) ∧ Wrd L

set_option maxRecDepth 100000 in
set_option maxHeartbeats 8000000 in
theorem walkP (w : World) (ad : Option Addr) (n c : Nat) (xs : List Lst) (h : Lsw w ad xs) (hn : xs.length = n) (hn9 : n ≤ 1000) (hsum : lensum xs ≤ 1000000) (hnc : n ≤ c) (hc9 : c ≤ 9223372036854775807) :
    Calls Tryz.prog 89 #[.slice ad n c] w fun e w' => ∃ bx am m cm L, e = .returned (.func (.func 133) #[] #[.pointer (some ⟨bx, 0, none⟩)]) ∧ WalkV w w' bx am m cm L ∧ m ≤ 1000000 ∧ runsF L = wantF (lss xs) ∧ Below w.heap.size w w' := by
  have HL := hidden h
  have HN := hidden hn
  have HS := hidden hsum
  clear h hn hsum
  go_enter Tryz.func89, Tryz.ntmps89
  go_wp2_with fail
  go_loopw [8] (fun s8 wx => ∃ (i : Nat), s8 = .int .i64 (i : Int) ∧ i ≤ n ∧ Hid (∀ l ∈ (lss xs).take i, Ris l) ∧ Hid (Below w.heap.size w wx)) (fun s8 _ => n - (intOf s8).toNat)
  case atStart => exact ⟨0, rfl, by omega, hidden (by simp), hidden (Below.refl _ _)⟩
  case round =>
    rename World => wr
    obtain ⟨i, rfl, hin, hR, hB⟩ := hrel
    by_cases hlt : i < n
    · have hltz : (i : Int) < (n : Int) := by omega
      obtain ⟨x, hx⟩ : ∃ x, xs[i]? = some x := ⟨xs[i]'(by rw [HN.out]; exact hlt), by simp⟩
      obtain ⟨⟨b, off, rfl, _, hc⟩, hA⟩ := (HL.out.below hB.out) i x hx
      have HX := hidden hx
      have HA := hidden hA
      have hx9 : x.2.1 ≤ 1000000 := by
        have h1 := lensum_next hx
        have h2 := lensum_le xs (i + 1)
        have h3 := HS.out
        omega
      clear hx hA
      go_wp2_with fail
      refine (risesP wr x.1 x.2.1 x.2.2.1 x.2.2.2 HA.out.sw (by omega)).mono ?_
      rintro e w1 ⟨rfl, b1⟩
      have B1 := hidden (bt hB.out (Nat.le_refl _) b1)
      clear b1
      by_cases hr : Ris x.2.2.2
      · have HR := hidden hr
        simp only [hr, decide_true]
        clear hr
        go_wp2_with fail
        refine ⟨⟨i + 1, by first | rfl | simp, by omega, hidden (ris_next (lss_get HX.out) hR.out HR.out), B1⟩, ?_⟩
        simp [intOf]
        omega
      · have HR := hidden hr
        simp only [hr, decide_false]
        clear hr
        go_wp2_with fail
        refine (runsP w1 none 0 0).mono ?_
        rintro e w2 ⟨rfl, h2, b2⟩
        have H2 := hidden h2
        have B2 := hidden (bt B1.out (Nat.le_refl _) b2)
        clear h2 b2
        go_wp2_with fail
        go_ret
        refine ⟨_, none, 0, 0, [], rfl, ⟨H2.out, B1.out.size, World.ownsRow_nil _ _ _ _, Wrd.nil⟩, by omega, ?_, B2.out⟩
        rw [wantF, if_neg (fun hh => HR.out (hh _ (lss_mem HX.out)))]
        rfl
    · have hltz : ¬ (i : Int) < (n : Int) := by omega
      have hRA : ∀ l ∈ lss xs, Ris l := by
        have h4 := hR.out
        rw [List.take_of_length_le (by rw [lss_len, HN.out]; omega)] at h4
        exact h4
      have HRA := hidden hRA
      clear hRA hR
      go_wp2_with fail
      refine (concatP wr ad n c xs (HL.out.below hB.out) HN.out hn9 HS.out hnc hc9).mono ?_
      rintro e w1 ⟨a1, c1, rfl, o1, b1⟩
      obtain ⟨K, hK⟩ : ∃ K, lensum xs = K := ⟨_, rfl⟩
      have hK9 := HS.out
      rw [hK] at o1 hK9 ⊢
      have O1 := hidden o1
      have B1 := hidden (bt hB.out (Nat.le_refl _) b1)
      have HG := hidden b1.size
      clear o1 b1
      go_wp2_with fail
      refine (sortP w1 wr.heap.size a1 K c1 (joined xs) O1.out (by omega)).mono ?_
      rintro e w2 ⟨rfl, L, o2, hp2, hs2, hb2⟩
      have O2 := hidden (owns_base o2 hB.out.size)
      have P2 := hidden (And.intro hp2 hs2)
      have B2 := hidden (B1.out.trans ((hb2 HG.out).mono hB.out.size))
      clear o2 hp2 hs2 hb2
      go_wp2_with fail
      refine (runsP w2 a1 K c1).mono ?_
      rintro e w3 ⟨rfl, h3, b3⟩
      have H3 := hidden h3
      have B3 := hidden b3
      clear h3 b3
      go_wp2_with fail
      go_ret
      refine ⟨_, a1, K, c1, L, rfl, ⟨H3.out, B2.out.size, owns_later O2.out B3.out, ?_⟩, by omega, ?_, bt B2.out (Nat.le_refl _) B3.out⟩
      · intro x hx
        exact ar_wrd HL.out x (P2.out.1.mem_iff.1 hx)
      · rw [wantF, if_pos HRA.out]
        exact walk_runs _ HRA.out L (by rw [← lss_joined]; exact P2.out.1) P2.out.2
end Go.Proofs.YtgmdpbahcbhfjaaGreatDoor.J
