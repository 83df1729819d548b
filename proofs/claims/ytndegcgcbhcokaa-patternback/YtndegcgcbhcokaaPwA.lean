/-
  PatternBack: two lists of the same texts; the answers of Parse and Words that it wants.
-/
import Derived.Test.YtndegcgcbhcokaaPvD
import Derived.BigQuiet
namespace Go.Proofs.Ytndegcgcbhcokaa
open Go.RowKit
set_option linter.unusedVariables false
set_option linter.unusedSimpArgs false

theorem Wr.later {F : Nat → Prop} {w w' : World} {ad : Option Addr} {l : Wl} (h : Wr F w ad l) (hb : Below w.heap.size w w') : Wr F w' ad l :=
  h.keep (Chg.of_below (F := fun _ => False) hb) (fun _ _ h => h)
theorem Wr.nil (F : Nat → Prop) (w : World) (ad : Option Addr) : Wr F w ad [] := fun h => absurd rfl h

set_option maxRecDepth 100000 in
set_option maxHeartbeats 8000000 in
theorem sameP {F G : Nat → Prop} (w : World) (ad bd : Option Addr) (n c d : Nat) (l : Wl) (ha : Wr F w ad l) (hb : Wr G w bd l) (hn : l.length = n) (hle : n ≤ 1000) :
    Calls Try.prog 10 #[.slice ad n c, .slice bd n d] w fun e w' => e = .returned (.bool true) ∧ Below w.heap.size w w' := by
  have HA := hidden ha
  have HB := hidden hb
  have HN := hidden hn
  clear ha hb hn
  go_enter Try.func10, Try.ntmps10
  go_wp2_with fail
  go_loopw [5] (fun s5 wx => ∃ i : Nat, s5 = .int .i64 (i : Int) ∧ i ≤ n ∧ Hid (Below w.heap.size w wx)) (fun s5 _ => n - (intOf s5).toNat)
  case atStart => exact ⟨0, rfl, by omega, hidden (Below.refl _ _)⟩
  case round =>
    rename World => wr
    obtain ⟨i, rfl, hi, hbel⟩ := hrel
    by_cases hlt : i < n
    · have hltz : (i : Int) < (n : Int) := by omega
      have hll : i < l.length := by have := HN.out; omega
      have hne : l ≠ [] := fun e => by rw [e] at hll; simp at hll
      obtain ⟨b1, o1, rfl, _, hc1⟩ := (HA.out.later hbel.out) hne
      obtain ⟨b2, o2, rfl, _, hc2⟩ := (HB.out.later hbel.out) hne
      obtain ⟨x, hx⟩ : ∃ x, l[i]? = some x := ⟨_, List.getElem?_eq_getElem hll⟩
      have k1 := hc1 i x hx
      have k2 := hc2 i x hx
      clear hc1 hc2 hx hll hne
      go_wp2_with fail
      go_quiet (fail)
      go_wp2
      refine ⟨⟨i + 1, by first | rfl | simp, by omega, hidden (below_drewN hbel.out _)⟩, ?_⟩
      simp [intOf]
      omega
    · have hltz : ¬ (i : Int) < (n : Int) := by omega
      go_wp2
      go_ret
      exact ⟨rfl, hbel.out⟩

theorem parse_badC {s : ByteArray} {k : Nat} (h : prs (bts s) = .bad k) (w : World) : Calls Try.prog 6 #[.string s] w fun e w' => ∃ g, e = .returned (.tuple #[.pointer none, .iface 39 (.pointer (some ⟨g, 0, none⟩))]) ∧ Blk w' g 41 [.int .i64 (k : Int), .int .i64 80] ∧ Below w.heap.size w w' ∧ k ≤ s.size := by
  refine (parseP s w).mono ?_
  rintro e w' ⟨hb, ⟨p, F, l', ⟨b', h1⟩, rfl, h2, _⟩ | ⟨k', g, h1, rfl, h2, h3⟩⟩
  · rw [h] at h1; cases h1
  · rw [h] at h1
    injection h1 with h1
    subst h1
    exact ⟨g, rfl, h2, hb, h3⟩
/-- Words, both ways in one: lr are the words, ok whether they are told. -/
theorem words_any2 {F : Nat → Prop} {w : World} {p : Nat} {l : List (List Pt)} {lr : Wl} {ok : Bool} (hP : PaR F w p l) (h : (ok = true ∧ rowsW l [] = some lr) ∨ (ok = false ∧ rowsW l [] = none ∧ lr = [])) :
    Calls Try.prog 9 #[.pointer (some ⟨p, 0, none⟩)] w fun e w' => ∃ a' c', e = .returned (.tuple #[.slice a' lr.length c', .bool ok]) ∧ Wr (fun _ => True) w' a' lr ∧ lr.length ≤ 16 ∧ Below w.heap.size w w' := by
  refine (wordsTP F w p l hP).mono ?_
  rintro e w' ⟨a', m', c', ok', rfl, hc, hm, h2⟩
  have hb := hc.below (Nat.le_refl _) (fun i e => by cases e)
  rcases h with ⟨rfl, h⟩ | ⟨rfl, h, rfl⟩
  · rcases h2 with ⟨rfl, lr', h1, h2, h3, _⟩ | ⟨rfl, h1, _⟩
    · rw [h] at h1
      injection h1 with h1
      subst h1
      subst h2
      exact ⟨a', c', rfl, (wr_owns h3).mono (fun _ _ => trivial), hm, hb⟩
    · rw [h] at h1; cases h1
  · rcases h2 with ⟨rfl, lr', h1, _⟩ | ⟨rfl, h1, h4⟩
    · rw [h] at h1; cases h1
    · rw [h4]
      exact ⟨a', c', rfl, Wr.nil _ _ _, by simp, hb⟩

end Go.Proofs.Ytndegcgcbhcokaa
