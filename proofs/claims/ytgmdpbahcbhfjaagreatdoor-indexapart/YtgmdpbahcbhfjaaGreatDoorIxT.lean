import Derived.Test.YtgmdpbahcbhfjaaGreatDoorIxN
import Derived.Test.YtgmdpbahcbhfjaaGreatDoorIxQ
import Derived.OwnWalk
set_option linter.unusedSimpArgs false
set_option linter.unusedVariables false
set_option maxHeartbeats 40000000
set_option maxRecDepth 100000
/-
  Package index: Add.
-/
namespace Go.Proofs.YtgmdpbahcbhfjaaGreatDoor.X
open Go.RowKit

theorem idx_get : ∀ {S : List (List L.Lb)} (hn : S.Nodup) {n : Nat} {l : List L.Lb}, S[n]? = some l → S.idxOf l = n
  | [], _, n, l, h => by simp at h
  | x :: r, hn, 0, l, h => by
    simp at h
    subst h
    simp
  | x :: r, hn, n + 1, l, h => by
    rw [List.nodup_cons] at hn
    simp only [List.getElem?_cons_succ] at h
    have hne : ¬ x = l := fun e => hn.1 (by rw [e]; exact List.mem_of_getElem? h)
    have hb : (x == l) = false := by simpa using hne
    have := idx_get hn.2 h
    rw [List.idxOf_cons, hb]
    simp [this]
theorem idx_not {S : List (List L.Lb)} {l : List L.Lb} (h : ¬ l ∈ S) : S.idxOf l = S.length := List.idxOf_eq_length h
/-- What Add leaves. -/
def addR (R : Rr) (t : ByteArray) (l : List L.Lb) : Rr := if L.right l = true ∧ ¬ l ∈ R t then radd R t l else R
def addI (S : List (List L.Lb)) (l : List L.Lb) : Int := if L.right l = true then (S.idxOf l : Int) else 0
def addB (S : List (List L.Lb)) (l : List L.Lb) : Bool := L.right l && !decide (l ∈ S)
set_option maxRecDepth 100000 in
set_option maxHeartbeats 4000000 in
theorem addP {w : World} {c : Col} {j x eb rb B : Nat} {R : Rr} (h : Ix w c j x eb rb R) (hT : L.Tb B w) (t : ByteArray) (ht : t.size ≤ maxLen) (ad : Option Addr) (cp : Nat) (l : List L.Lb) (hL : L.Ls w ad l) (hno : ad = none → l = [] ∧ cp = 0) (hlen : l.length ≤ 1000000) (hN : (R t).length < 1000) (hap : ¬ l = [] → ∀ a, ad = some a → ∀ q, ¬ c a.block = some (j, q)) :
    Calls Tryz.prog 16 #[.pointer (some ⟨x, 0, none⟩), .string t, .slice ad l.length cp] w fun e w' => e = .returned (.tuple #[.int .i64 (addI (R t) l), .bool (addB (R t) l), .int .i64 (L.errL (L.right l))]) ∧ ∃ c', Ix w' c' j x eb rb (addR R t l) ∧ Acc w c j w' c' := by
  have HR := hidden (L.rightP B ad cp l w hL (by omega) hT)
  have HAC : Hid (∀ w', Below w.heap.size w w' → Ix w' c j x eb rb R ∧ Acc w c j w' c) := hidden (fun w' hb => ⟨h.later hb, ⟨fun _ _ => rfl, Chg.of_below hb⟩⟩)
  by_cases hr : L.right l = true
  · have HF : Hid (∀ w1, Below w.heap.size w w1 → Calls Tryz.prog 21 #[.pointer (some ⟨x, 0, none⟩), .string t, .slice ad l.length cp] w1 fun e w' => (∃ i b, FdR (R t) l i b ∧ e = .returned (.tuple #[.int .i64 i, .bool b])) ∧ Below w1.heap.size w1 w') := hidden (fun w1 hb => findP (h.later hb) (hT.later hb) t ad cp l (hL.later hb) hno hlen)
    have HO := h.ok.one t
    by_cases hm : l ∈ R t
    · obtain ⟨n0, hn0⟩ := List.getElem?_of_mem hm
      have hi0 : addI (R t) l = (n0 : Int) := by unfold addI; rw [if_pos hr, idx_get HO hn0]
      have hb0 : addB (R t) l = false := by unfold addB; simp [hm]
      have hr0 : addR R t l = R := by unfold addR; rw [if_neg (fun e => e.2 hm)]
      rw [hr] at HR ⊢
      rw [hi0, hb0, hr0]
      have HF2 : Hid (∀ w1, Below w.heap.size w w1 → Calls Tryz.prog 21 #[.pointer (some ⟨x, 0, none⟩), .string t, .slice ad l.length cp] w1 fun e w' => e = .returned (.tuple #[.int .i64 (n0 : Int), .bool true]) ∧ Below w1.heap.size w1 w') := hidden (fun w1 hb => (HF.out w1 hb).mono (by
        rintro e w' ⟨⟨i, b, hfd, rfl⟩, hb2⟩
        rcases hfd with ⟨rfl, n, rfl, hn⟩ | ⟨_, _, hn⟩
        · rw [← idx_get HO hn0, idx_get HO hn]
          exact ⟨rfl, hb2⟩
        · exact absurd hm hn))
      unfold L.errL at HR ⊢
      simp only [cond_true] at HR ⊢
      clear h hT hL hno hN hap hr hm hn0 HF HO hi0 hb0 hr0 ht
      generalize l.length = n at *
      go_enter Tryz.func16, Tryz.ntmps16
      go_wp2_with (first
        | (go_at_call 20; refine HR.out.mono ?_; rintro e w1 ⟨rfl, b1⟩; have B1 := hidden b1; clear b1)
        | (go_at_call 21; refine (HF2.out _ B1.out).mono ?_; rintro e w2 ⟨rfl, b2⟩; have B2 := hidden (B1.out.trans (b2.mono B1.out.size)); clear b2))
      go_ret3
      exact ⟨by rfl, c, HAC.out _ B2.out⟩
    · have hi0 : addI (R t) l = ((R t).length : Int) := by unfold addI; rw [if_pos hr, idx_not hm]
      have hb0 : addB (R t) l = true := by unfold addB; simp [hm, hr]
      have hr0 : addR R t l = radd R t l := by unfold addR; rw [if_pos ⟨hr, hm⟩]
      have HP : Hid (∀ w1, Below w.heap.size w w1 → Calls Tryz.prog 48 #[.pointer (some ⟨x, 0, none⟩), .string t, .slice ad l.length cp] w1 fun e w' => e = .returned (.int .i64 ((R t).length : Int)) ∧ ∃ c', Ix w' c' j x eb rb (radd R t l) ∧ Acc w c j w' c') := hidden (fun w1 hb => by
        refine (putP (h.later hb) t ht ad cp l (hL.later hb) hno hr hm hN (hap (fun e => by have := (right_fits hr).2.1; rw [e] at this; simp at this))).mono ?_
        rintro e w' ⟨rfl, c', h1, h2⟩
        have h3 := (HAC.out w1 hb).2
        exact ⟨rfl, c', h1, h3.step (F := fun i => ∃ q, c i = some (j, q)) (fun i hi => h2.1 i hi) h2.2 (fun i hi hf => hf)⟩)
      rw [hr] at HR ⊢
      rw [hi0, hb0, hr0]
      have HF2 : Hid (∀ w1, Below w.heap.size w w1 → Calls Tryz.prog 21 #[.pointer (some ⟨x, 0, none⟩), .string t, .slice ad l.length cp] w1 fun e w' => e = .returned (.tuple #[.int .i64 0, .bool false]) ∧ Below w1.heap.size w1 w') := hidden (fun w1 hb => (HF.out w1 hb).mono (by
        rintro e w' ⟨⟨i, b, hfd, rfl⟩, hb2⟩
        rcases hfd with ⟨rfl, n, rfl, hn⟩ | ⟨rfl, rfl, hn⟩
        · exact absurd (List.mem_of_getElem? hn) hm
        · exact ⟨rfl, hb2⟩))
      unfold L.errL at HR ⊢
      simp only [cond_true] at HR ⊢
      clear h hT hL hno hN hap hr hm HF HO hi0 hb0 hr0 ht
      generalize l.length = n at *
      generalize (R t).length = N at *
      go_enter Tryz.func16, Tryz.ntmps16
      go_wp2_with (first
        | (go_at_call 20; refine HR.out.mono ?_; rintro e w1 ⟨rfl, b1⟩; have B1 := hidden b1; clear b1)
        | (go_at_call 21; refine (HF2.out _ B1.out).mono ?_; rintro e w2 ⟨rfl, b2⟩; have B2 := hidden (B1.out.trans (b2.mono B1.out.size)); clear b2)
        | (go_at_call 48; refine (HP.out _ B2.out).mono ?_; rintro e w3 ⟨rfl, h3⟩; have H3 := hidden h3; clear h3))
      go_ret3
      exact ⟨by rfl, H3.out⟩
  · have hr' : L.right l = false := by simpa using hr
    have hi0 : addI (R t) l = 0 := by unfold addI; rw [if_neg hr]
    have hb0 : addB (R t) l = false := by unfold addB; simp [hr']
    have hr0 : addR R t l = R := by unfold addR; rw [if_neg (fun e => hr e.1)]
    rw [hr'] at HR ⊢
    rw [hi0, hb0, hr0]
    unfold L.errL at HR ⊢
    simp only [cond_false] at HR ⊢
    clear h hT hL hno hN hap hr hi0 hb0 hr0 hr' ht
    generalize l.length = n at *
    go_enter Tryz.func16, Tryz.ntmps16
    go_wp2_with (first
      | (go_at_call 20; refine HR.out.mono ?_; rintro e w1 ⟨rfl, b1⟩; have B1 := hidden b1; clear b1))
    go_ret3
    exact ⟨by rfl, c, HAC.out _ B1.out⟩
end Go.Proofs.YtgmdpbahcbhfjaaGreatDoor.X
