import Derived.Test.YtfieglepljmmkaaRefUn
import Derived.Test.YtfieglepljmmkaaRefHex
import Derived.Test.YtfieglepljmmkaaShown
import Derived.Test.YtfieglepljmmkaaStill
import Derived.Test.YtfieglepljmmkaaPush
namespace Go.Proofs.Ytfieglepljmmkaa
open Go.RowKit
set_option linter.unusedVariables false

theorem numsB_str (l : List Int) (h : Byte l) : numsB (strOfNums l) = l := by
  unfold numsB strOfNums
  simp only [List.map_map]
  apply List.ext_getElem (by simp)
  intro i h1 h2
  have hb := h l[i] (List.getElem_mem h2)
  simp
  omega
theorem str_size (l : List Int) : (strOfNums l).size = l.length := by
  show (strOfNums l).data.size = _
  simp [strOfNums]
/-- What Unhex tells. -/
def udig (s : ByteArray) : List Int := if okL (numsB s) then unL (numsB s) else []
theorem udig_byte (s : ByteArray) : Byte (udig s) := by
  unfold udig
  split
  · exact unL_byte _
  · intro n hn
    simp at hn
theorem udig_len (s : ByteArray) : (udig s).length ≤ s.size / 2 := by
  unfold udig
  split
  · rw [unL_len, numsB_len]
    exact Nat.le_refl _
  · simp
theorem owns_blk {w : World} {b g n : Nat} {l : List Int} (h : Blk w g 5 (cells8 l)) (hn : l.length = n) (hb : b ≤ g) (hm : n ≤ maxLen) : w.ownsRow b 5 1 (.slice (some ⟨g, 0, none⟩) n n) n (cells8 l) := by
  refine ⟨by rw [cells8_length]; omega, .inr ⟨g, n, (cells8 l).toArray, rfl, hb, h, Nat.le_refl _, hm, by simp [cells8_length, hn], ?_⟩⟩
  rw [List.take_of_length_le (by simp [cells8_length, hn])]
theorem unhex_q (s : ByteArray) (w : World) (hb : s.size ≤ 140737488355328) : Calls Try.prog 21 #[.string s] w fun e w' => ∃ a c, e = .returned (.tuple #[.slice a (udig s).length c, .bool (okL (numsB s))]) ∧ w'.ownsRow w.heap.size 5 1 (.slice a (udig s).length c) (udig s).length (cells8 (udig s)) ∧ Below w.heap.size w w' := by
  refine (unhex_any s w hb).mono ?_
  intro e w' h
  unfold UnP at h
  obtain ⟨he, hbl, hB⟩ := h
  by_cases hok : okL (numsB s) = true
  · have hu : udig s = unL (numsB s) := by unfold udig; rw [if_pos hok]
    have hl : (unL (numsB s)).length = s.size / 2 := by rw [unL_len, numsB_len]
    rw [hok] at he ⊢
    rw [hu]
    refine ⟨some ⟨w.heap.size, 0, none⟩, s.size / 2, ?_, ?_, hbl⟩
    · rw [he, hl]
      rfl
    · rw [hl]
      exact owns_blk (hB hok) hl (Nat.le_refl _) (by unfold maxLen; omega)
  · have hf : okL (numsB s) = false := by simpa using hok
    have hu : udig s = [] := by unfold udig; rw [hf]; rfl
    rw [hf] at he ⊢
    rw [hu]
    exact ⟨none, 0, he, World.ownsRow_nil _ _ _ _, hbl⟩
theorem refUnhex_q (s : ByteArray) (w : World) (hb : s.size ≤ 140737488355328) : Calls Try.prog 22 #[.string s] w fun e w' => ∃ a c, e = .returned (.tuple #[.slice a (udig s).length c, .bool (okL (numsB s))]) ∧ Sl w' a (udig s).length (udig s) ∧ (∀ x, a = some x → 0 < (udig s).length → w.heap.size ≤ x.block) ∧ Below w.heap.size w w' := by
  refine (refUnhex_any s w hb).mono ?_
  intro e w' h
  rcases h with ⟨hf, he, hbl⟩ | ⟨hok, a, c, he, hs, hnw, hbl⟩
  · have hu : udig s = [] := by unfold udig; rw [hf]; rfl
    rw [hf, hu]
    exact ⟨none, 0, he, Sl.nil _ _, (fun x hx => by cases hx), hbl⟩
  · have hu : udig s = unL (numsB s) := by unfold udig; rw [if_pos hok]
    have hl : (unL (numsB s)).length = s.size / 2 := by rw [unL_len, numsB_len]
    rw [hok, hu, hl]
    exact ⟨a, c, he, hs, hnw, hbl⟩
theorem udig_hex (l : List Int) (h : Byte l) : udig (strOfNums (hexL l)) = l ∧ okL (numsB (strOfNums (hexL l))) = true := by
  have e := numsB_str (hexL l) (hexL_byte l h)
  have ok : okL (numsB (strOfNums (hexL l))) = true := by rw [e]; exact okL_hexL l h
  refine ⟨?_, ok⟩
  unfold udig
  rw [if_pos ok, e, unL_hexL l h]
/-- Lies apart from a block. -/
def Ap (a : Option Addr) (k g : Nat) : Prop := ∀ x, a = some x → 0 < k → x.block ≠ g
theorem Ap.of_lt {w : World} {a : Option Addr} {k g : Nat} {l : List Int} (h : Sl w a k l) (hg : w.heap.size ≤ g) : Ap a k g := fun x hx hp => by
  have := h.lt x hx hp
  omega
theorem sl_grow {w w' : World} {a : Option Addr} {k g : Nat} {l : List Int} (h : Sl w a k l) (hg : w.grownBy w' (some g)) (ha : Ap a k g) : Sl w' a k l := by
  refine ⟨h.len, h.byte, fun j hj => ?_⟩
  obtain ⟨x, hx, hc⟩ := h.cell j hj
  refine ⟨x, hx, ?_⟩
  have hlt := h.lt x hx (by omega)
  rw [← hc]
  exact World.cell?_of_block (by rw [add_block]; exact hg.block x.block hlt (by simpa using ha x hx (by omega)))
theorem sl_none {w w' : World} {a : Option Addr} {k : Nat} {l : List Int} (h : Sl w a k l) (hg : w.grownBy w' none) : Sl w' a k l :=
  h.later ⟨hg.os, hg.tape, hg.output, hg.size, fun i hi => hg.block i hi (by simp)⟩
theorem owns_mono {w : World} {base base' : Nat} {e : TypeId} {size : Nat} {v : Value} {n : Nat} {xs : List Value} (h : w.ownsRow base e size v n xs) (hb : base' ≤ base) : w.ownsRow base' e size v n xs := by
  refine ⟨h.1, ?_⟩
  rcases h.2 with h | ⟨g, cap, cur, h1, h2, h3⟩
  · exact .inl h
  · exact .inr ⟨g, cap, cur, h1, Nat.le_trans hb h2, h3⟩
theorem sl_pushed {w w' : World} {a : Option Addr} {k g2 : Nat} {l : List Int} {v : Value} (h : Sl w a k l) (hp : Pushed w w' v g2) (ha : ∀ g, v.ownBlock = some g → Ap a k g) : Sl w' a k l := by
  rcases hp with ⟨h1, h2⟩ | ⟨_, h2⟩
  · exact sl_grow h h2 (ha _ h1)
  · exact sl_none h h2
theorem below_pushed {w w1 w2 : World} {B g2 : Nat} {v : Value} (h : Below B w w1) (hp : Pushed w1 w2 v g2) (hv : ∀ g, v.ownBlock = some g → B ≤ g) (hB : B ≤ w1.heap.size) : Below B w w2 := by
  rcases hp with ⟨h1, h2⟩ | ⟨_, h2⟩
  · exact h.grown h2 hB (fun k e => by obtain rfl := Option.some.inj e; exact hv _ h1)
  · exact h.grown h2 hB (fun k e => by cases e)
theorem fill_set (n i : Nat) (D : List Int) (h : i < D.length) : (cells8 (List.replicate i 201 ++ D.drop i)).set i (.int .u8 201) = cells8 (List.replicate (i + 1) 201 ++ D.drop (i + 1)) := by
  unfold cells8
  rw [← List.map_set]
  congr 1
  rw [List.set_append, if_neg (by simp), List.length_replicate, Nat.sub_self, List.drop_eq_getElem_cons h, List.set_cons_zero, List.replicate_succ']
  simp

end Go.Proofs.Ytfieglepljmmkaa
