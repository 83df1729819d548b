/-
  PoolShares: what was seen.
-/
import Derived.Test.YtjlpkgepiajapaaDoorPlR
namespace Go.Proofs.YtjlpkgepiajapaaDoor
open Go.RowKit
set_option linter.unusedVariables false
set_option linter.unusedSimpArgs false

def WB (W : Nat → Int) : Prop := ∀ i, 0 ≤ W i ∧ W i ≤ 255
theorem WB.up {W : Nat → Int} (h : WB W) (i : Nat) (b : Int) (h0 : 0 ≤ b) (h1 : b ≤ 255) : WB (upW W i b) := by
  intro j
  unfold upW
  split
  · exact ⟨h0, h1⟩
  · exact h j
def snL (n : Nat) (S : Nat → Bool) : List Value := (List.range n).map fun i => Value.bool (S i)
def upB (S : Nat → Bool) (i : Nat) : Nat → Bool := fun j => if j = i then true else S j
theorem snL_set (n : Nat) (S : Nat → Bool) (i : Nat) : (snL n S).set i (.bool true) = snL n (upB S i) := by
  apply List.ext_getElem?
  intro j
  unfold snL upB
  rw [List.getElem?_set]
  by_cases hj : j < n
  · by_cases e : i = j
    · subst e; simp [hj]
    · simp [hj, e, show ¬ j = i from fun h => e h.symm]
  · by_cases e : i = j
    · subst e; simp [hj]
    · simp [hj, e]
structure SN (w wx : World) (sb n : Nat) (S : Nat → Bool) : Prop where
  blk : Blk wx sb 4 (snL n S)
  lo : w.heap.size ≤ sb
section
variable {w wx wy : World} {p hb ob wb n sb : Nat} {st : Sx} {V : Nat → Value} {H : Nat → List Int} {W : Nat → Int} {S : Nat → Bool}
theorem SN.later (h : SN w wx sb n S) (b : Below wx.heap.size wx wy) : SN w wy sb n S := ⟨h.blk.later b, h.lo⟩
theorem SN.cell (h : SN w wx sb n S) {i : Nat} (hi : i < n) {b : Bool} (hb : S i = b) : wx.cell? ⟨sb, i, none⟩ = some (.bool b) := by
  rw [h.blk.cell]
  simp [snL, hi, hb]
theorem SN.mark (h : SN w wx sb n S) (hI : SI w wx p hb ob wb n st V H W) (i : Nat) : SN w (wx.setCell ⟨sb, i, none⟩ (.bool true)) sb n (upB S i) ∧ SI w (wx.setCell ⟨sb, i, none⟩ (.bool true)) p hb ob wb n st V H W := by
  have k := Chg.set ⟨sb, i, none⟩ (.bool true) wx
  refine ⟨⟨by rw [← snL_set]; exact h.blk.set i _, h.lo⟩, (hI.sj.chg k ?_ (hI.hv.chg k ?_)).si hI.iv⟩
  · rintro j (e : j = sb)
    subst e
    exact ⟨h.lo, fun _ => ⟨4, h.blk.tg, by decide, by decide⟩⟩
  · rintro j t ht hc (e : j = sb)
    subst e
    have := h.blk.tg.one ht
    subst this
    simp at hc
theorem SN.new (hI : SI w wx p hb ob wb n st V H W) : SN w (wx.alloc (.cells (madeCells #[.bool false] n) 4)) wx.heap.size n (fun _ => false) ∧ SI w (wx.alloc (.cells (madeCells #[.bool false] n) 4)) p hb ob wb n st V H W := by
  have e : madeCells #[Value.bool false] n = (snL n (fun _ => false)).toArray := by
    rw [← Array.toList_inj, toList_madeCells_one]
    apply List.ext_getElem?
    intro j
    unfold snL
    by_cases h : j < n <;> simp [h]
  rw [e]
  exact ⟨⟨Blk.new wx 4 _, hI.bel.size⟩, hI.later ((Below.refl _ _).alloc (Nat.le_refl _) _)⟩
/-- What was seen ahead of an owner's j-th slot. -/
def Sn (H : Nat → List Int) (S : Nat → Bool) (k j : Nat) : Prop := ∀ i, S i = true → (∃ a, a < k ∧ (i : Int) ∈ H a) ∨ (i : Int) ∈ (H k).take j
theorem Sn.new (H : Nat → List Int) : Sn H (fun _ => false) 0 0 := fun i h => by cases h
theorem Sn.next {k : Nat} (h : Sn H S k (H k).length) : Sn H S (k + 1) 0 := fun i hi => by
  rcases h i hi with ⟨a, h1, h2⟩ | h1
  · exact .inl ⟨a, by omega, h2⟩
  · exact .inl ⟨k, by omega, List.mem_of_mem_take h1⟩
theorem Sn.mark {k j i : Nat} (h : Sn H S k j) (hx : (H k)[j]? = some (i : Int)) : Sn H (upB S i) k (j + 1) := fun z hz => by
  unfold upB at hz
  have hj : j < (H k).length := (List.getElem?_eq_some_iff.1 hx).1
  have e : (H k).take (j + 1) = (H k).take j ++ [(i : Int)] := by
    rw [List.take_add_one, hx]; rfl
  split at hz
  · rename_i e2
    subst e2
    rw [e]
    exact .inr (by simp)
  · rcases h z hz with h1 | h1
    · exact .inl h1
    · rw [e]; exact .inr (List.mem_append_left _ h1)
theorem Sn.not {k j i : Nat} (h : Sn H S k j) (hi : Iv st n H W) (hk : k < 3) (hx : (H k)[j]? = some (i : Int)) : S i = false := by
  cases e : S i with
  | false => rfl
  | true =>
    exfalso
    rcases h i e with ⟨a, h1, h2⟩ | h1
    · obtain ⟨i1, e1, _, s1⟩ := hi.at (show a < 3 by omega) h2
      obtain ⟨i2, e2, _, s2⟩ := hi.at hk (List.mem_of_getElem? hx)
      have : i1 = i2 := by omega
      rw [this, s2] at s1
      have := Own_inj hk (by omega) (Prod.mk.inj (Option.some.inj s1)).1
      omega
    · obtain ⟨z, hz⟩ := List.getElem?_of_mem h1
      have hzj : z < j := by have := (List.getElem?_eq_some_iff.1 hz).1; simp at this; omega
      rw [List.getElem?_take_of_lt hzj] at hz
      have hn := hi.nodup hk
      have l1 := (List.getElem?_eq_some_iff.1 hz)
      have l2 := (List.getElem?_eq_some_iff.1 hx)
      obtain ⟨l1, l1'⟩ := l1
      obtain ⟨l2, l2'⟩ := l2
      have := (List.nodup_iff_pairwise_ne.1 hn)
      have hp := List.pairwise_iff_getElem.1 this z j l1 l2 hzj
      exact hp (by rw [l1', l2'])
theorem Sb.at2 {ga : Nat} {b c : Int} (h : Sb wx ga 2 (bts (strOfNums [b, c]))) (h0 : 0 ≤ b ∧ b ≤ 255) (h1 : 0 ≤ c ∧ c ≤ 255) : wx.cell? ⟨ga, 0, none⟩ = some (.int .u8 b) ∧ wx.cell? ⟨ga, 1, none⟩ = some (.int .u8 c) := by
  have e : bts (strOfNums [b, c]) = [b, c] := by
    unfold bts strOfNums
    simp [h0, h1]
    omega
  rw [e] at h
  have k := h.1.cells
  have k0 := k 0 (.int .u8 b) rfl
  have k1 := k 1 (.int .u8 c) rfl
  rw [Addr.add_lit] at k0 k1
  exact ⟨k0, k1⟩
theorem slotsL (o : ByteArray) (base p n : Nat) (st : Sx) (w : World) (h : PB base w p n st) : Calls Tryd.prog 17 #[.pointer (some ⟨p, 0, none⟩), .string o] w fun e w' => ∃ ad c, e = .returned (.slice ad (setL st n o).length c) ∧ Lat w w' := by
  refine (slotsB o base p n st w h).mono fun e w' ⟨v, h1, h2, _, h4⟩ => ?_
  obtain ⟨ad, c, hv⟩ := owns_form h2
  rw [slL_len] at hv
  exact ⟨ad, c, by rw [h1, hv], h4⟩
end

end Go.Proofs.YtjlpkgepiajapaaDoor
