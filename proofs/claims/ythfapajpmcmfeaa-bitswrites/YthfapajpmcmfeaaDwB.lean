import Derived.Test.YthfapajpmcmfeaaDwA
namespace Go.Proofs.Ythfapajpmcmfeaa
open Go.RowKit
set_option linter.unusedVariables false

theorem DR.cut {w : World} {q : Nat} {rb : Option Nat} {L : List Bool} {ad : Option Addr} {n c r : Nat} (h : DR w q rb L (.slice ad n c)) (hr : r ≤ L.length) (hn : L.length = n) :
    DR ((w.setCell ⟨q, 0, none⟩ (.slice ad r c)).drew) q rb (L.take r) (.slice ad r c) ∧ Chg (fpt q rb) w ((w.setCell ⟨q, 0, none⟩ (.slice ad r c)).drew) := by
  have hl : (L.take r).length = r := by rw [List.length_take]; omega
  have hO : w.ownsRow 0 4 1 (.slice ad r c) r ((L.take r).map Value.bool) := by
    have h3 := h.row
    refine ⟨by simp; omega, ?_⟩
    rcases h3.2 with ⟨h0, h1⟩ | ⟨g, cap, cur, h0, a1, a2, a3, a4, a5, a6⟩
    · simp only [Value.slice.injEq] at h0
      obtain ⟨rfl, rfl, rfl⟩ := h0
      obtain rfl : r = 0 := by omega
      exact .inl ⟨rfl, rfl⟩
    · simp only [Value.slice.injEq] at h0
      obtain ⟨rfl, e, rfl⟩ := h0
      refine .inr ⟨g, c, cur, rfl, a1, a2, by omega, a4, a5, ?_⟩
      have : cur.toList.take (r * 1) = (cur.toList.take (L.length * 1)).take r := by
        rw [List.take_take, show min r (L.length * 1) = r * 1 by omega]
      rw [this, a6, List.map_take]
  have hown : (Value.slice ad r c).ownBlock = rb := by
    rw [← h.own]
    cases ad <;> rfl
  have hB : Blk (w.setCell ⟨q, 0, none⟩ (.slice ad r c)) q 56 [.slice ad r c] := h.blk.set 0 _
  have hO2 : (w.setCell ⟨q, 0, none⟩ (.slice ad r c)).ownsRow 0 4 1 (.slice ad r c) (L.take r).length ((L.take r).map Value.bool) := by
    rw [hl]
    exact ownsRow_setCell_other hO (by rw [hown]; exact h.ne) _
  exact ⟨⟨h.ne, hown, hB, hO2⟩, ((Chg.set ⟨q, 0, none⟩ _ w).mono (G := fpt q rb) (fun i _ hi => .inl hi)).trans (Chg.drew (fun _ => False) _) (fun _ _ h => h.elim)⟩

set_option maxHeartbeats 2000000 in
theorem cutR_any (q : Nat) (rb : Option Nat) (L : List Bool) (k : Int) (w : World) (h : DS w q rb L) (hL : L.length ≤ 1099511627840) :
    Calls Try.prog 22 #[.pointer (some ⟨q, 0, none⟩), .int .i64 k] w fun e w' => e = .returned (.tuple #[]) ∧ DS w' q rb (L.take k.toNat) ∧ Chg (fpt q rb) w w' := by
  obtain ⟨v, hD⟩ := h
  obtain ⟨ad, c, rfl⟩ := owns_form hD.row
  obtain ⟨n, hn⟩ : ∃ n, L.length = n := ⟨_, rfl⟩
  have hcap := owns_cap hD.row
  rw [hn] at hcap
  have hnc : n ≤ c := hcap.2.1
  have hcm : c ≤ 9223372036854775807 := by have := hcap.2.2.1; unfold maxLen at this; omega
  rw [hn] at hD hL
  have c0 : w.cell? ⟨q, 0, none⟩ = some (.slice ad n c) := hD.blk.cell 0
  have f0 := hD.blk.frozen 0
  have HD := hidden hD
  have HN := hidden hn
  clear hD hn hcap
  go_enter Try.func22, Try.ntmps22
  by_cases h1 : k < 0
  · obtain ⟨d1, d2⟩ := HD.out.cut (r := 0) (Nat.zero_le _) HN.out
    have HE : Hid (L.take k.toNat = L.take 0) := by
      show L.take k.toNat = L.take 0
      rw [show k.toNat = 0 by omega]
    have H1 := hidden d1
    have H2 := hidden d2
    clear d1 d2
    go_wp2_with fail
    go_region
    go_end0
    rw [HE.out]
    exact ⟨rfl, ⟨_, H1.out⟩, H2.out⟩
  · by_cases h2 : (n : Int) < k
    · obtain ⟨d1, d2⟩ := HD.out.cut (r := n) (by rw [HN.out]; omega) HN.out
      have HE : Hid (L.take k.toNat = L.take n) := by
        show L.take k.toNat = L.take n
        rw [List.take_of_length_le (by rw [HN.out]; omega), List.take_of_length_le (by rw [HN.out]; omega)]
      have H1 := hidden d1
      have H2 := hidden d2
      clear d1 d2
      go_wp2_with fail
      go_region
      go_end0
      rw [HE.out]
      exact ⟨rfl, ⟨_, H1.out⟩, H2.out⟩
    · obtain ⟨d1, d2⟩ := HD.out.cut (r := k.toNat) (by rw [HN.out]; omega) HN.out
      have HE : Hid ((if 0 < k then k else 0).toNat = k.toNat) := by
        show (if 0 < k then k else 0).toNat = k.toNat
        split <;> omega
      have H1 := hidden d1
      have H2 := hidden d2
      clear d1 d2
      go_wp2_with fail
      go_region
      rw [HE.out]
      go_end0
      exact ⟨rfl, ⟨_, H1.out⟩, H2.out⟩

end Go.Proofs.Ythfapajpmcmfeaa
