/-
  SeriesKeeps: a store as the statement sees it.
-/
import Derived.Test.YtlppibigceeimaaDoorSfC
namespace Go.Proofs.YtlppibigceeimaaDoor
open Go.RowKit
set_option linter.unusedVariables false
set_option linter.unusedSimpArgs false

/-- How many chunks some samples have. -/
def gn (A : List Sm) : Nat := (gO (gF A)).length
theorem gn_mono {A : List Sm} (h : ∀ x ∈ A, OkS x) (m : List Sm) : gn A ≤ gn (A ++ m) := by
  unfold gn
  rw [gO_behind, List.length_append]
  by_cases h0 : (gF A).2 = []
  · have : gO (gF A) = [] := (gO_nil (okG h)).2 h0
    rw [this]
    simp
  · rw [gO_last h0, List.length_append]
    have : gO (gB A m) ≠ [] := by
      intro e
      have hb := gO_behind A m
      rw [e, List.append_nil] at hb
      have hfl := gF_flat (A ++ m)
      rw [hb] at hfl
      have h9 := gF_flat A
      rw [gO_flat] at h9
      have h8 := congrArg List.length hfl
      have h7 := congrArg List.length h9
      rw [List.length_append] at h8 h7
      have := List.length_pos_iff.2 h0
      omega
    have := List.length_pos_iff.2 this
    simp only [List.length_cons, List.length_nil]
    omega
theorem ris_snoc {l : List Sm} {x : Sm} : Ris (l ++ [x]) ↔ Ris l ∧ (l = [] ∨ (l.getLast?.getD z0).t < x.t) := by
  unfold Ris
  rw [List.pairwise_append]
  constructor
  · rintro ⟨h1, _, h3⟩
    refine ⟨h1, ?_⟩
    rcases List.eq_nil_or_concat l with rfl | ⟨l', y, rfl⟩
    · exact .inl rfl
    · right
      rw [List.concat_eq_append] at *
      have := h3 y (by simp) x (by simp)
      unfold LtT at this
      simpa using this
  · rintro ⟨h1, h2⟩
    refine ⟨h1, by simp, fun a ha b hb => ?_⟩
    simp at hb
    subst hb
    rcases h2 with rfl | h2
    · simp at ha
    · rcases List.eq_nil_or_concat l with rfl | ⟨l', y, rfl⟩
      · simp at ha
      · rw [List.concat_eq_append] at *
        simp only [List.getLast?_append, List.getLast?_singleton, Option.some_or, Option.getD_some] at h2
        rcases List.mem_append.1 ha with ha | ha
        · have := (List.pairwise_append.1 h1).2.2 a ha y (by simp)
          unfold LtT at *
          omega
        · simp at ha; subst ha; exact h2
/-- A store as the statement sees it: of "a" these samples, of "b" one, and nothing else. -/
structure KS (F : Nat → Prop) (w : World) (S p n : Nat) (st : K.Sx) (Z : ByteArray → List En) (A : List Sm) : Prop where
  q : SQ F w S p n st Z
  a : (enL (Z oA) 3).2 = A
  b : (enL (Z oB) 3).2 = [⟨1, 1⟩]
  key : ∀ e ∈ Z oA, e.1 = 3
  tk : (K.tkL st n).length = 1 + gn A
theorem KS.later {F : Nat → Prop} {w w' : World} {S p n : Nat} {st : K.Sx} {Z : ByteArray → List En} {A : List Sm} (h : KS F w S p n st Z A) (hb : Below w.heap.size w w') : KS F w' S p n st Z A := ⟨h.q.later hb, h.a, h.b, h.key, h.tk⟩
theorem KS.chg {F H : Nat → Prop} {w w' : World} {S p n : Nat} {st : K.Sx} {Z : ByteArray → List En} {A : List Sm} (h : KS F w S p n st Z A) (hc : Chg H w w') (hH : ∀ i, H i → ∀ t, Tg w i t → t = 3 ∨ t = 33) (hF : ∀ i, F i → ¬ H i) : KS F w' S p n st Z A := by
  refine ⟨h.q.chg hc (fun e => ?_) (fun e => ?_) hF, h.a, h.b, h.key, h.tk⟩
  · rcases hH S e 58 h.q.blk.1 with e | e <;> cases e
  · rcases hH p e 55 h.q.blk.2 with e | e <;> cases e
theorem KS.ok {F : Nat → Prop} {w : World} {S p n : Nat} {st : K.Sx} {Z : ByteArray → List En} {A : List Sm} (h : KS F w S p n st Z A) : Ris A ∧ (∀ x ∈ A, OkS x) ∧ (enL (Z oA) 3).1.length = gn A ∧ hadL (enL (Z oA) 3).1 + (gF A).1.length = gn A := by
  have hen := h.q.sz.en oA 3
  rw [h.a] at hen
  refine ⟨hen.2.1, hen.2.2.1, hen.1.1, ?_⟩
  have h1 := hen.1.1
  unfold gn hadL
  by_cases h0 : A = []
  · rw [hen.2.2.2.2 h0, h0]
    rfl
  · have h2 : (gF A).2 ≠ [] := fun e => h0 ((gF_nil hen.2.2.1).1 e)
    have h3 : (enL (Z oA) 3).1 ≠ [] := fun e => h0 (hen.2.2.2.1 e)
    have h4 := List.length_pos_iff.2 h3
    rw [gO_last h2]
    simp
    omega
theorem KS.need {F : Nat → Prop} {w : World} {S p n : Nat} {st : K.Sx} {Z : ByteArray → List En} {A : List Sm} (h : KS F w S p n st Z A) (m : List Sm) : needN (enL (Z oA) 3).1 A m = (gn (A ++ m) : Int) - (gn A : Int) := by
  obtain ⟨_, _, _, h4⟩ := h.ok
  unfold needN gn
  unfold gn at h4
  rw [gO_behind, List.length_append]
  omega
theorem KS.slots {F : Nat → Prop} {w : World} {S p n : Nat} {st : K.Sx} {Z : ByteArray → List En} {A : List Sm} (h : KS F w S p n st Z A) : ((Z oA).flatMap slF).length = gn A := by
  have h1 := (perm_en 3 (h.q.sz.key oA)).length_eq
  have h2 : rmE (Z oA) 3 = [] := by
    unfold rmE
    rw [List.filter_eq_nil_iff]
    intro e he
    simp [h.key e he]
  rw [h1, h2, List.flatMap_nil, List.append_nil]
  exact h.ok.2.2.1
theorem KS.kept {F : Nat → Prop} {w w' : World} {S p n : Nat} {st : K.Sx} {Z : ByteArray → List En} {A m : List Sm} (h : KS F w S p n st Z A) (hm : m ≠ []) (hk : KpP F w S p n st Z oA 3 m (gO (gB A m)).length w') : ∃ F' st' Z', KS F' w' S p n st' Z' (A ++ m) ∧ Chg F w w' ∧ K.Nw w F F' := by
  obtain ⟨F', st', news, q1, q2, q3, q4, q5⟩ := hk
  rw [h.a] at q1
  refine ⟨F', st', _, ⟨q1, by rw [enL_set], ?_, ?_, ?_⟩, q2, q3⟩
  · rw [enL_off _ _ _ _ (by decide)]
    exact h.b
  · intro e he
    unfold setZ at he
    rw [if_pos rfl] at he
    rcases List.mem_cons.1 he with rfl | he
    · rfl
    · exact h.key e (mem_rmE.1 he).1
  · rw [q4, h.tk]
    have h4 := h.ok.2.2.2
    have h5 := gn_mono h.ok.2.1 m
    unfold gn at *
    rw [gO_behind, List.length_append] at *
    omega
/-- What Append of "a" does. -/
theorem ks_app (F : Nat → Prop) (S p n : Nat) (st : K.Sx) (Z : ByteArray → List En) (A : List Sm) (ad : Option Addr) (N c : Nat) (l : List Sm) (w : World) (h : KS F w S p n st Z A) (hG : Gv w) (hlo : 2 ≤ w.heap.size) (hF2 : ∀ i, F i → 2 ≤ i) (hL : Ss w ad l) (hN : l.length = N) (hN9 : N ≤ 100000) (hl : l ≠ []) :
    Calls Tryd.prog 8 #[.pointer (some ⟨S, 0, none⟩), .string oA, .int .i64 3, .slice ad N c] w fun e w' =>
      (¬ Ris (A ++ l) ∧ e = .returned (.int .i64 140) ∧ Below w.heap.size w w') ∨ (Ris (A ++ l) ∧ n < 1 + gn (A ++ l) ∧ e = .returned (.int .i64 110) ∧ Below w.heap.size w w') ∨
      (Ris (A ++ l) ∧ 1 + gn (A ++ l) ≤ n ∧ e = .returned (.int .i64 0) ∧ ∃ F' st' Z', KS F' w' S p n st' Z' (A ++ l) ∧ Chg F w w' ∧ K.Nw w F F') := by
  have hA := h.a
  have hnd := h.need l
  have htl := K.tkL_len st n
  have htk := h.tk
  refine (sappendP oA 3 F S p n st Z ad N c l w h.q hG hlo hF2 hL hN hN9).mono ?_
  unfold ApP
  rw [hA, hnd, htk]
  rw [htk] at htl
  rintro e w' (⟨b, ⟨h1, _⟩ | ⟨_, h1, h2⟩ | ⟨_, _, h1, _⟩ | ⟨_, h1, _, h2, h3⟩⟩ | ⟨_, h1, _, h2, h3, h4⟩)
  · omega
  · exact .inl ⟨h1, h2, b⟩
  · exact absurd h1 hl
  · exact .inr (.inl ⟨h1, by omega, h3, b⟩)
  · exact .inr (.inr ⟨h1, by omega, h3, h.kept hl h4⟩)
theorem ks_need (F : Nat → Prop) (S p n : Nat) (st : K.Sx) (Z : ByteArray → List En) (A : List Sm) (ad : Option Addr) (N c : Nat) (l : List Sm) (w : World) (h : KS F w S p n st Z A) (hG : Gv w) (hlo : 2 ≤ w.heap.size) (hL : Ss w ad l) (hN : l.length = N) (hN9 : N ≤ 100000) :
    Calls Tryd.prog 10 #[.pointer (some ⟨S, 0, none⟩), .string oA, .int .i64 3, .slice ad N c] w fun e w' => Below w.heap.size w w' ∧ ((¬ Ris (A ++ l) ∧ e = .returned (.tuple #[.int .i64 0, .int .i64 140])) ∨ (Ris (A ++ l) ∧ e = .returned (.tuple #[.int .i64 ((gn (A ++ l) : Int) - (gn A : Int)), .int .i64 0]))) := by
  have hA := h.a
  have hnd := h.need l
  refine (needsP oA 3 F S p n st Z ad N c l w h.q hG hlo hL hN hN9).mono ?_
  rw [hA]
  rintro e w' ⟨b, ⟨h1, _⟩ | ⟨_, h1, h2⟩ | ⟨_, h1, h2⟩⟩
  · omega
  · exact ⟨b, .inl ⟨h1, h2⟩⟩
  · rw [hnd] at h2
    exact ⟨b, .inr ⟨h1, h2⟩⟩
theorem ks_left (F : Nat → Prop) (S p n : Nat) (st : K.Sx) (Z : ByteArray → List En) (A : List Sm) (w : World) (h : KS F w S p n st Z A) :
    Calls Tryd.prog 11 #[.pointer (some ⟨p, 0, none⟩)] w fun e w' => e = .returned (.int .i64 ((n : Int) - 1 - (gn A : Int))) ∧ Below w.heap.size w w' := by
  obtain ⟨G, g1, _⟩ := h.q.pool
  have htl := K.tkL_len st n
  refine (K.leftX G p n st w g1).mono ?_
  rintro e w' ⟨rfl, b⟩
  refine ⟨?_, b⟩
  rw [h.tk] at htl ⊢
  congr 2
  omega
theorem KS.le {F : Nat → Prop} {w : World} {S p n : Nat} {st : K.Sx} {Z : ByteArray → List En} {A : List Sm} (h : KS F w S p n st Z A) : 1 + gn A ≤ n := by
  have htl := K.tkL_len st n
  rw [h.tk] at htl
  exact htl
theorem rng_all {A : List Sm} (h : ∀ x ∈ A, OkS x) : rng (-9223372036854775808) 9223372036854775807 A = A := by
  unfold rng
  rw [List.filter_eq_self]
  intro x hx
  have := (h x hx).t
  unfold I64 at this
  simp
  omega

end Go.Proofs.YtlppibigceeimaaDoor
