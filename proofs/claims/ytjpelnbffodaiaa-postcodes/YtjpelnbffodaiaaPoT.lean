/-
  owned: what it leaves of the rest.
-/
import Derived.Test.YtjpelnbffodaiaaPoS
namespace Go.Proofs.Ytjpelnbffodaiaa
open Go.RowKit
set_option linter.unusedVariables false
set_option linter.unusedSimpArgs false

theorem grown_more {w w1 w2 : World} {R r : Option Nat} (h : w.grownBy w1 R) (k : w1.grownBy w2 r) (hr : ∀ g, r = some g → R = some g ∨ w.heap.size ≤ g) : w.grownBy w2 R :=
  ⟨k.os.trans h.os, k.tape.trans h.tape, k.output.trans h.output, Nat.le_trans h.size k.size, fun i hi hR => (k.block i (Nat.lt_of_lt_of_le hi h.size) (fun e => by
    rcases hr i e.symm with e1 | e1
    · exact hR e1.symm
    · omega)).trans (h.block i hi hR)⟩
theorem grown_set {w : World} {g i : Nat} {u : Value} : w.grownBy (w.setCell ⟨g, i, none⟩ u) (some g) :=
  ⟨rfl, rfl, rfl, by simp [World.setCell], fun k _ hk => heap_setCell_other w ⟨g, i, none⟩ k u (fun e => hk (by simp [e]))⟩
theorem owns_grown {w w' : World} {base : Nat} {e : TypeId} {v : Value} {n : Nat} {xs : List Value} {r : Option Nat} (h : w.ownsRow base e 1 v n xs) (hg : w.grownBy w' r) (hr : ∀ g, v.ownBlock = some g → r ≠ some g) : w'.ownsRow base e 1 v n xs := by
  refine ⟨h.1, ?_⟩
  rcases h.2 with h1 | ⟨g, c, cur, h1, h2, h3, h4⟩
  · exact .inl h1
  · refine .inr ⟨g, c, cur, h1, h2, (hg.block g (Array.getElem?_eq_some_iff.1 h3).1 (fun e => hr g (by rw [h1]; rfl) e.symm)).trans h3, h4⟩

theorem wpList_pushG (w : World) {ops : Array Oper} {rest : List Oper} {o : Oper} {a : Act} {Q : Exit → Act → World → Prop} (hgd : o.guard = none) (s x : Operand)
    (ho : o.op = .call { callee := .builtin .append, args := #[s, x], argTypes := #[22, 22] }) (v : Value) (n : Nat) (xs : List Nat) (hs : a.eval s = v) (w0 : World) (hown : w0.ownsRow 0 23 1 v n (cells32 xs)) (p : Nat) (pz : Int) (hp : pz = (p : Int))
    (hw : w = w0.alloc (.cells #[.int .u32 pz] 23)) (hx : a.eval x = .slice (some ⟨w0.heap.size, 0, none⟩) 1 1) (hn : n ≤ 1000000000)
    (h : ∀ g' c' w', w'.ownsRow 0 23 1 (.slice (some ⟨g', 0, none⟩) (n + 1) c') (n + 1) (cells32 (xs ++ [p])) → w0.grownBy w' v.ownBlock → (v.ownBlock = some g' ∨ w0.heap.size ≤ g') → wpList Try.prog ops Q rest (a.put o.dst (.slice (some ⟨g', 0, none⟩) (n + 1) c')) w') : wpList Try.prog ops Q (o :: rest) a w := by
  subst hp hw
  obtain ⟨i, hi, hz, hsize, hby⟩ := info_parts info23
  have hal : (w0.alloc (.cells #[.int .u32 (p : Int)] 23)).ownsRow 0 23 1 v n (cells32 xs) := hown.alloc _
  refine wpList_push _ hgd s x 22 ho 23 i _ 4 Try.underlying22 hi hz hsize hby rfl 0 v n (cells32 xs) hs hal ⟨w0.heap.size, 0, none⟩ (.int .u32 (p : Int)) hx (by rw [World.cell?_alloc_mark]; rfl) rfl (by unfold maxLen; omega) (by omega) (by omega) ?_
  intro g' c' w' ho' hp'
  have hb0 : w0.grownBy (w0.alloc (.cells #[.int .u32 (p : Int)] 23)) v.ownBlock := World.grownBy_alloc w0 _ _
  rcases hp' with ⟨hv, hg⟩ | ⟨hs', hg⟩
  · exact h g' c' w' (by rw [cells32_append]; exact ho') (grown_more hb0 hg (fun g e => .inl (by rw [hv, e]))) (.inl hv)
  · exact h g' c' w' (by rw [cells32_append]; exact ho') (grown_more hb0 hg (fun g e => by cases e)) (.inr (by simp at hs'; omega))

set_option maxRecDepth 100000 in
set_option maxHeartbeats 4000000 in
theorem ownedG (w : World) (ad : Option Addr) (n c : Nat) (l : List Nat) (B : Nat) (ho0 : w.ownsRow B 23 1 (.slice ad n c) n (cells32 l)) (hn : n ≤ 1000000) :
    Calls Try.prog 23 #[.slice ad n c] w fun e w' => e = .returned (.tuple #[]) ∧ w.grownBy w' (Value.slice ad n c).ownBlock := by
  have HO := hidden (owns_base ho0 (Nat.zero_le B))
  clear ho0
  go_enter Try.func23, Try.ntmps23
  go_wp2_with fail
  go_loopw [2] (fun s2 wr => ∃ (i : Nat) (l' : List Nat), s2 = .int .i64 (i : Int) ∧ i ≤ n ∧ Hid (wr.ownsRow 0 23 1 (.slice ad n c) n (cells32 l')) ∧ Hid (w.grownBy wr (Value.slice ad n c).ownBlock)) (fun s2 _ => n - (intOf s2).toNat)
  case atStart => exact ⟨0, l, rfl, by omega, HO, hidden (World.grownBy.refl _ _)⟩
  case round =>
    rename World => wr
    obtain ⟨i, l', rfl, hi, hown, hbel⟩ := hrel
    by_cases hlt : i < n
    · have hltz : (i : Int) < (n : Int) := by omega
      obtain ⟨g, rfl, hg⟩ := owns_at hown.out (by omega)
      have hcl := hown.out.cellAt i (by omega)
      have hfr : wr.frozen? ⟨g, i, none⟩ = false := own_fr hown.out
      obtain ⟨x, hx⟩ : ∃ x, (cells32 l')[i]? = some x := by
        have := own_len hown.out
        exact ⟨_, List.getElem?_eq_getElem (by rw [cells32_length]; omega)⟩
      rw [hx] at hcl
      clear hx
      go_wp2
      have hs := (hown.out.stored i (.int .u32 7)).1
      have e7 : (Value.int IntKind.u32 7) = .int .u32 ((7 : Nat) : Int) := rfl
      rw [e7, set32] at hs
      refine ⟨⟨i + 1, l'.set i 7, by first | rfl | simp, by omega, hidden hs, hidden (grown_more hbel.out grown_set (fun g' e => .inl e))⟩, ?_⟩
      simp [intOf]
      omega
    · have hltz : ¬ (i : Int) < (n : Int) := by omega
      go_wp2_with fail
      go_loopw [0, 3] (fun s0 s3 wq => ∃ (a' : Option Addr) (j c' : Nat) (m : List Nat), s0 = .slice a' (n + j) c' ∧ s3 = .int .i64 (j : Int) ∧ j ≤ 9 ∧ Hid (wq.ownsRow 0 23 1 (.slice a' (n + j) c') (n + j) (cells32 m)) ∧ Hid (w.grownBy wq (Value.slice ad n c).ownBlock) ∧ Hid (∀ g, (Value.slice a' (n + j) c').ownBlock = some g → (Value.slice ad n c).ownBlock = some g ∨ w.heap.size ≤ g)) (fun _ s3 _ => 9 - (intOf s3).toNat)
      case atStart => exact ⟨ad, 0, c, l', rfl, rfl, by omega, hown, hbel, hidden (fun g e => .inl e)⟩
      case round =>
        rename World => wq
        obtain ⟨a', j, c', m, rfl, rfl, hj, ho', hb', hr'⟩ := hrel
        by_cases hj9 : j < 9
        · have hjz : (j : Int) < 9 := by omega
          go_wp2_with (refine wpList_pushG _ rfl (.tmp 17) (.tmp 18) rfl (.slice a' (n + j) c') (n + j) m rfl wq ho'.out 7 7 rfl rfl rfl (by omega) ?_; intro g8 c8 w8 o8 b8 r8)
          refine ⟨⟨_, j + 1, c8, _, rfl, by first | rfl | simp, by omega, hidden o8, hidden (grown_more hb'.out b8 hr'.out), hidden (fun g e => ?_)⟩, ?_⟩
          · have e' : g8 = g := by simpa [Value.ownBlock] using e
            subst e'
            rcases r8 with h | h
            · exact hr'.out _ h
            · exact .inr (Nat.le_trans hb'.out.size h)
          · simp [intOf]
            omega
        · have hjz : ¬ (j : Int) < 9 := by omega
          go_wp2
          go_end0
          exact ⟨rfl, hb'.out⟩

end Go.Proofs.Ytjpelnbffodaiaa
