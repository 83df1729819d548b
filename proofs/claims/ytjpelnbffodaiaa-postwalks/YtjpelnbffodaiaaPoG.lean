/-
  The law's own helpers: same, short, lent, still, owned.
-/
import Derived.Test.YtjpelnbffodaiaaPoF
namespace Go.Proofs.Ytjpelnbffodaiaa
open Go.RowKit
set_option linter.unusedVariables false
set_option linter.unusedSimpArgs false

theorem ext_getD {a b : List Nat} (hl : a.length = b.length) (h : ∀ j, j < a.length → a.getD j 0 = b.getD j 0) : a = b := by
  apply List.ext_getElem hl
  intro j h1 h2
  have := h j h1
  simpa [List.getD, h1, h2] using this

set_option maxRecDepth 100000 in
set_option maxHeartbeats 4000000 in
theorem sameP (w : World) (a1 a2 : Option Addr) (n1 c1 n2 c2 : Nat) (A B : List Nat) (h1 : Sw w a1 n1 A) (h2 : Sw w a2 n2 B) (hn1 : n1 ≤ 1000000000) (hn2 : n2 ≤ 1000000000) :
    Calls Try.prog 17 #[.slice a1 n1 c1, .slice a2 n2 c2] w fun e w' => e = .returned (.bool (decide (A = B))) ∧ Below w.heap.size w w' := by
  have H1 := hidden h1
  have H2 := hidden h2
  have l1 := h1.len
  have l2 := h2.len
  clear h1 h2
  go_enter Try.func17, Try.ntmps17
  by_cases hnn : n1 = n2
  · subst hnn
    go_wp2_with fail
    go_loopw [5] (fun s5 wx => ∃ i : Nat, s5 = .int .i64 (i : Int) ∧ i ≤ n1 ∧ Hid (∀ j, j < i → A.getD j 0 = B.getD j 0) ∧ Hid (Below w.heap.size w wx)) (fun s5 _ => n1 - (intOf s5).toNat)
    case atStart => exact ⟨0, rfl, by omega, hidden (fun j hj => by omega), hidden (Below.refl _ _)⟩
    case round =>
      rename World => wr
      obtain ⟨i, rfl, hi, hE, hbel⟩ := hrel
      by_cases hlt : i < n1
      · have hltz : (i : Int) < (n1 : Int) := by omega
        obtain ⟨b, o, rfl, _, hc⟩ := (H1.out.later hbel.out).at (by omega)
        obtain ⟨b', o', rfl, _, hc'⟩ := (H2.out.later hbel.out).at (by omega)
        have k1 := hc i hlt
        have k2 := hc' i hlt
        obtain ⟨x, hx⟩ : ∃ x, A.getD i 0 = x := ⟨_, rfl⟩
        obtain ⟨y, hy⟩ : ∃ y, B.getD i 0 = y := ⟨_, rfl⟩
        rw [hx] at k1
        rw [hy] at k2
        have HX := hidden hx
        have HY := hidden hy
        clear hc hc' hx hy
        by_cases hxy : x = y
        · subst hxy
          go_wp2_with fail
          go_quiet (fail)
          go_wp2
          refine ⟨⟨i + 1, by first | rfl | simp, by omega, hidden (fun j hj => ?_), hidden (below_drewN hbel.out _)⟩, ?_⟩
          · by_cases e : j = i
            · subst e; rw [HX.out, HY.out]
            · exact hE.out j (by omega)
          · simp [intOf]
            omega
        · have hz : ¬ (x : Int) = (y : Int) := by omega
          go_wp2_with fail
          go_quiet (fail)
          go_wp2
          go_ret
          refine ⟨?_, below_drewN hbel.out _⟩
          have : A ≠ B := fun e => hxy (by rw [← HX.out, ← HY.out, e])
          simp [this]
      · have hltz : ¬ (i : Int) < (n1 : Int) := by omega
        go_wp2
        go_ret
        refine ⟨?_, hbel.out⟩
        have : A = B := ext_getD (by omega) (fun j hj => hE.out j (by omega))
        simp [this]
  · have hz : ¬ (n1 : Int) = (n2 : Int) := by omega
    go_wp2
    go_ret
    have : A ≠ B := fun e => hnn (by rw [← l1, ← l2, e])
    exact ⟨by simp [this], Below.refl _ _⟩

theorem shortP (w : World) (ad : Option Addr) (n c : Nat) (hc : n ≤ c) (hm : c ≤ maxLen) :
    Calls Try.prog 8 #[.slice ad n c] w fun e w' => e = .returned (.slice ad (min n 400) c) ∧ w' = w := by
  unfold maxLen at hm
  go_enter Try.func8, Try.ntmps8
  by_cases h : 400 < n
  · have hz : (n : Int) > 400 := by omega
    go_wp2
    go_ret
    rw [show min n 400 = 400 by omega]
    simp
  · have hz : ¬ (n : Int) > 400 := by omega
    go_wp2
    go_ret
    rw [show min n 400 = n by omega]
    simp

theorem owns_at {w : World} {base : Nat} {e : TypeId} {ad : Option Addr} {n c : Nat} {xs : List Value} (h : w.ownsRow base e 1 (.slice ad n c) n xs) (hp : 0 < n) : ∃ g, ad = some ⟨g, 0, none⟩ ∧ base ≤ g := by
  rcases h.2 with ⟨_, h0⟩ | ⟨g, c', cur, hv, h2, _⟩
  · omega
  · simp only [Value.slice.injEq] at hv
    exact ⟨g, hv.1, h2⟩

/-- A list with something behind it. -/
def tri : List Nat := [4294967295, 4294967295, 4294967295]
theorem tri_wrd : Wrd tri := by intro n hn; simp [tri] at hn; omega
structure Lt (w : World) (g n c : Nat) (l : List Nat) : Prop where
  all : Sw w (some ⟨g, 0, none⟩) (n + 3) (l ++ tri)
  len : l.length = n
  le : n + 3 ≤ c
  cm : c ≤ maxLen
theorem Lt.later {w w' : World} {g n c : Nat} {l : List Nat} (h : Lt w g n c l) (hb : Below w.heap.size w w') : Lt w' g n c l := ⟨h.all.later hb, h.len, h.le, h.cm⟩
theorem Lt.lt {w : World} {g n c : Nat} {l : List Nat} (h : Lt w g n c l) : g < w.heap.size := h.all.lt _ rfl (by omega)
theorem Lt.ar {w : World} {g n c : Nat} {l : List Nat} (h : Lt w g n c l) : Ar w (some ⟨g, 0, none⟩) n c l := by
  have h1 := h.all.take (N := n) (by omega)
  rw [← h.len, List.take_left, h.len] at h1
  exact ⟨h1, fun e => absurd e (by simp), by have := h.le; omega, h.cm⟩

set_option maxRecDepth 100000 in
theorem lentP (w : World) (ad : Option Addr) (n c : Nat) (l : List Nat) (h : Ar w ad n c l) (hn : n ≤ 1000000) :
    Calls Try.prog 9 #[.slice ad n c] w fun e w' => ∃ g c', e = .returned (.slice (some ⟨g, 0, none⟩) n c') ∧ w.heap.size ≤ g ∧ Lt w' g n c' l ∧ Below w.heap.size w w' := by
  have H := hidden h
  have hl := h.sw.len
  have hwd := h.sw.bd
  clear h
  go_enter Try.func9, Try.ntmps9
  go_wp2_with (first
    | (refine wpList_appW _ rfl (.tmp 4) (.tmp 5) rfl w.heap.size (.slice none 0 0) 0 [] rfl (World.ownsRow_nil _ _ _ _) ad n c l rfl H.out.sw H.out.no (by omega) (Nat.le_refl _) ?_; intro a1 c1 w1 o1 b1; rw [Nat.zero_add, List.nil_append] at o1; have O1 := hidden o1; have B1 := hidden b1; clear o1 b1)
    | (refine wpList_appW _ rfl (.tmp 7) (.tmp 8) rfl w.heap.size (.slice a1 n c1) n l rfl (O1.out.alloc _) _ 3 3 tri rfl (sw_lit w1 tri tri_wrd 23 (0, 0) 3 rfl _ rfl _ rfl) (fun e => absurd e (by simp)) (by omega) (by have := B1.out.size; simp; omega) ?_; intro a2 c2 w2 o2 b2; obtain ⟨g, rfl, hg⟩ := owns_at o2 (by omega); obtain ⟨_, hc1, hc2, _⟩ := owns_cap o2; have hcm := hc2; unfold maxLen at hcm; have O2 := hidden o2; have B2 := hidden ((B1.out.alloc B1.out.size _).trans b2); clear o2 b2))
  go_ret
  refine ⟨g, c2, by simp, hg, ⟨sw_of_owns O2.out (hwd.append tri_wrd), hl, hc1, hc2⟩, B2.out⟩

set_option maxRecDepth 100000 in
set_option maxHeartbeats 4000000 in
theorem stillP (w : World) (g n c : Nat) (l : List Nat) (h : Lt w g n c l) (a2 : Option Addr) (c2 : Nat) (h2 : Sw w a2 n l) (hn : n ≤ 1000000) :
    Calls Try.prog 24 #[.slice (some ⟨g, 0, none⟩) n c, .slice a2 n c2] w fun e w' => e = .returned (.bool true) ∧ Below w.heap.size w w' := by
  have H := hidden h
  have H2 := hidden h2
  have hc := h.le
  have hcm := h.cm
  unfold maxLen at hcm
  clear h h2
  go_enter Try.func24, Try.ntmps24
  go_wp2_with fail
  refine (sameP w _ a2 n c n c2 l l H.out.ar.sw H2.out (by omega) (by omega)).mono ?_
  rintro e w1 ⟨rfl, hb1⟩
  simp only [decide_true]
  have HB1 := hidden hb1
  clear hb1
  go_wp2_with fail
  have hb2 : Below w1.heap.size w1 (w1.alloc (.cells #[.int .u32 4294967295, .int .u32 4294967295, .int .u32 4294967295] 23)) := (Below.refl _ _).alloc (Nat.le_refl _) _
  have hd := ((H.out.all.later HB1.out).later hb2).drop (K := n) (by omega)
  rw [List.drop_append_of_le_length (by rw [H.out.len]; exact Nat.le_refl _), List.drop_eq_nil_of_le (by rw [H.out.len]; exact Nat.le_refl _), List.nil_append, show n + 3 - n = 3 by omega, Nat.zero_add] at hd
  refine (sameP _ _ _ 3 _ 3 _ tri tri hd (sw_lit w1 tri tri_wrd 23 (0, 0) 3 rfl _ rfl _ rfl) (by omega) (by omega)).mono ?_
  rintro e w3 ⟨rfl, hb3⟩
  simp only [decide_true]
  go_wp2
  go_ret
  exact ⟨rfl, HB1.out.trans ((hb2.mono HB1.out.size).trans (hb3.mono (Nat.le_trans HB1.out.size hb2.size)))⟩

end Go.Proofs.Ytjpelnbffodaiaa
