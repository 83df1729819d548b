/-
  The document's Parse, purely: it goes as the machine goes.
-/
import Derived.Test.YtpdffdoogobhfaaDoorReO
import Derived.Test.YtpdffdoogobhfaaDoorReN
import Derived.Test.YtpdffdoogobhfaaDoorPaG
namespace Go.Proofs.YtpdffdoogobhfaaDoor
open Go.RowKit
set_option linter.unusedVariables false
set_option linter.unusedSimpArgs false

/-- The labels so far, and the first wrong one's place, as the document holds them. -/
def Jp (J : Jd) (l : List Lb) (pl : Int) : Prop := (pl = -1 ∧ J = ⟨l, none⟩) ∨ (∃ p : Nat, pl = (p : Int) ∧ J.bad = some p)
def plN (b : Bool) (pl : Int) (a : Nat) : Int := if b = true ∧ pl < 0 then (a : Int) else pl
def lN (l : List Lb) (x : Lb) : List Lb := if l.length < 8 then l ++ [x] else l
def plE (l : List Lb) (pl : Int) (a : Nat) : Int := if l = [] ∧ pl < 0 then (a : Int) else pl

theorem fits65 (n : ByteArray) (acc : List UInt8) : (⟨n, oft (acc.take 65)⟩ : Lb).fits = (⟨n, oft acc⟩ : Lb).fits := by
  by_cases h : acc.length ≤ 65
  · rw [List.take_of_length_le h]
  · simp only [Lb.fits, bts_oft, isVal, List.length_take]
    rw [show decide (min 65 acc.length ≤ 64) = false from decide_eq_false (by omega), show decide (acc.length ≤ 64) = false from decide_eq_false (by omega)]
    simp
theorem fits_small {x : Lb} (h : x.fits = true) : (bts x.v).length ≤ 64 := by
  simp only [Lb.fits, isVal, Bool.and_eq_true, decide_eq_true_eq] at h
  omega
theorem wrong65 (l : List Lb) (n : ByteArray) (acc : List UInt8) : wrongL l ⟨n, oft (acc.take 65)⟩ = wrongL l ⟨n, oft acc⟩ := by
  unfold wrongL
  rw [fits65]
theorem lN_len {l : List Lb} (h : l.length ≤ 8) (x : Lb) : (lN l x).length ≤ 8 ∧ lN l x ≠ [] := by
  unfold lN
  split
  · simp; omega
  · rename_i h2
    refine ⟨h, fun e => h2 ?_⟩
    rw [e]
    decide
theorem jp_add {J : Jd} {l : List Lb} {pl : Int} (h : Jp J l pl) (h8 : l.length ≤ 8) (nm acc : List UInt8) (a : Nat) :
    Jp (J.add ⟨oft nm, oft acc⟩ a) (lN l ⟨oft nm, oft (acc.take 65)⟩) (plN (wrongL l ⟨oft nm, oft (acc.take 65)⟩) pl a) := by
  rcases h with ⟨rfl, rfl⟩ | ⟨p, rfl, hb⟩
  · rw [wrong65]
    cases hw : wrongL l ⟨oft nm, oft acc⟩ with
    | true =>
      right
      exact ⟨a, by rw [plN, if_pos ⟨rfl, by omega⟩], by simp [Jd.add, hw]⟩
    | false =>
      left
      refine ⟨by rw [plN, if_neg (by simp)], ?_⟩
      have hf : l.length ≠ 8 ∧ (⟨oft nm, oft acc⟩ : Lb).fits = true := by
        simp only [wrongL, Bool.or_eq_false_iff, decide_eq_false_iff_not, Bool.not_eq_false'] at hw
        exact ⟨hw.1.1, hw.2⟩
      have hs := fits_small hf.2
      simp only [bts_oft] at hs
      rw [lN, if_pos (by omega), List.take_of_length_le (by omega)]
      simp [Jd.add, hw]
  · right
    refine ⟨p, by rw [plN, if_neg (by omega)], ?_⟩
    simp [Jd.add, hb]

theorem skZ_le {S : List UInt8} {a : Nat} (h : a ≤ S.length) (z : Int) : skZ S a z ≤ S.length := by
  unfold skZ; split
  · exact sk_le h
  · exact h
theorem skZ_ge (S : List UInt8) (a : Nat) (z : Int) : a ≤ skZ S a z := by
  unfold skZ; split
  · exact sk_ge S a
  · exact Nat.le_refl _
theorem pk_lt {S : List UInt8} {a : Nat} {z : Int} {c : UInt8} (h : pk S a z = some c) : a < S.length ∧ z < 0 ∧ S[a]? = some c := by
  unfold pk at h
  split at h
  · exact ⟨(List.getElem?_eq_some_iff.1 h).1, by assumption, h⟩
  · cases h
theorem tkA_le {S : List UInt8} {a : Nat} (h : a ≤ S.length) (z : Int) (c : UInt8) : tkA S a z c ≤ S.length := by
  unfold tkA; split
  · rename_i hp; have := (pk_lt hp).1; omega
  · exact h
theorem wn_le {S : List UInt8} {a : Nat} (h : a ≤ S.length) (z : Int) (f : Bool) : a + wnZ S a z f ≤ S.length := by
  unfold wnZ; split
  · have := wsz_le f (S.drop a); rw [List.length_drop] at this; omega
  · omega
theorem pk_neg {S : List UInt8} {a : Nat} : pk S a (-1) = S[a]? := by rw [pk, if_pos (by omega)]

/-- One label, as the document reads it. -/
def It (S : List UInt8) (a : Nat) (nm : List UInt8) (v : ByteArray) (a6 : Nat) (z : Int) : Prop :=
  a ≤ a6 ∧ a6 ≤ S.length ∧ ((∃ k : Nat, z = (k : Int) ∧ ∀ J, run (S.drop a) a (.s2 J) = .fault k) ∨
    (z = -1 ∧ a < a6 ∧ S[a6]? ≠ some 32 ∧ ∃ acc : List UInt8, v = oft (acc.take 65) ∧ ∀ J, run (S.drop a) a (.s2 J) = run (S.drop a6) a6 (.s5 (J.add ⟨oft nm, oft acc⟩ a))))

theorem sk_here {S : List UInt8} {a : Nat} (h : S[a]? ≠ some 32) : sk S a = a := sk_stop h

theorem iter_pure {S : List UInt8} {a : Nat} (ha : a ≤ S.length) (h32 : S[a]? ≠ some 32) {n a2 a3 a4 a5 : Nat} {z1 z3 z5 : Int} {v : ByteArray}
    (hn : wnZ S a (-1) true = n) (hz1 : wdZ n a (-1) = z1) (h2 : skZ S (a + n) z1 = a2) (h3 : tkA S a2 z1 61 = a3) (hz3 : tkZ S a2 z1 61 = z3) (h4 : skZ S a3 z3 = a4) (hq : Qe S a4 z3 v a5 z5) :
    It S a ((S.drop a).take n) v (skZ S a5 z5) z5 := by
  have hwn : n = wsz true (S.drop a) := by rw [← hn, wnZ, if_pos (by omega)]
  have hnl := wn_le ha (-1) true
  rw [hn] at hnl
  have hl2 := skZ_le hnl z1
  rw [h2] at hl2
  have hl3 := tkA_le hl2 z1 61
  rw [h3] at hl3
  have hg2 := skZ_ge S (a + n) z1
  rw [h2] at hg2
  have hg3 : a2 ≤ a3 := by rw [← h3]; unfold tkA; split <;> omega
  have hg4 := skZ_ge S a3 z3
  rw [h4] at hg4
  obtain ⟨q1, q2, q3, q4, q5⟩ := hq
  refine ⟨by have := skZ_ge S a5 z5; omega, skZ_le q2 z5, ?_⟩
  have hW := fun J => run_wordL h32 J
  have hwl : wordL S a = (S.drop a).take n := by rw [wordL, ← hwn]
  have hwa : wordAt S a = a + n := by rw [wordAt, ← hwn]
  rw [hwl, hwa] at hW
  by_cases h0 : n = 0
  · -- no word
    subst h0
    left
    have e1 : z1 = (a : Int) := by rw [← hz1, wdZ, if_pos rfl, failZ, if_pos (by omega)]
    have e2 : a2 = a := by rw [← h2, skZ, if_neg (by omega), Nat.add_zero]
    have hp : pk S a2 z1 ≠ some 61 := by rw [pk, if_neg (by omega)]; simp
    have e3 : z3 = (a : Int) := by rw [← hz3, tkZ, if_neg hp, failZ, if_neg (by omega), e1]
    obtain ⟨_, e5⟩ := q4 (by omega)
    exact ⟨a, by rw [e5, e3], fun J => (hW J).1 (by simp)⟩
  · have e1 : z1 = -1 := by rw [← hz1, wdZ, if_neg h0]
    have hne : (S.drop a).take n ≠ [] := by
      intro e
      have := congrArg List.length e
      rw [List.length_take, List.length_drop, List.length_nil] at this
      omega
    have hR1 := fun J => (hW J).2 hne
    subst e1
    have e2 : a2 = sk S (a + n) := by rw [← h2, skZ, if_pos (by omega)]
    have hb3 : ∀ J p nm, Bl (.s3 J p nm) := fun J p nm i => by simp [step]
    have hb4 : ∀ J p nm, Bl (.s4 J p nm) := fun J p nm i => by simp [step]
    have hb5 : ∀ J, Bl (.s5 J) := fun J i => by simp [step]
    by_cases hp : pk S a2 (-1) = some 61
    · have e3 : a3 = a2 + 1 := by rw [← h3, tkA, if_pos hp]
      have ez : z3 = -1 := by rw [← hz3, tkZ, if_pos hp]
      subst ez
      have h61 : S[sk S (a + n)]? = some 61 := by rw [← e2]; exact (pk_lt hp).2.2
      have hR2 : ∀ J, run (S.drop a) a (.s2 J) = run (S.drop a4) a4 (.s4 J a ((S.drop a).take n)) := fun J => by
        rw [hR1 J, run_sk (hb3 _ _ _), drop_at h61, run_some (st' := .s4 J a ((S.drop a).take n)) (by simp [step]), ← e2, ← e3, run_sk (hb4 _ _ _), ← h4, skZ, if_pos (by omega)]
      rcases q5 (by omega) with ⟨ez, acc, hv, hr⟩ | ⟨ez, hr⟩
      · right
        subst ez
        refine ⟨rfl, ?_, ?_, acc, hv, fun J => ?_⟩
        · have := skZ_ge S a5 (-1); omega
        · rw [skZ, if_pos (by omega)]; exact sk_next S a5
        · rw [hR2 J, hr, run_sk (hb5 _), skZ, if_pos (by omega)]
      · left
        exact ⟨a5, ez, fun J => by rw [hR2 J, hr]⟩
    · left
      have ez : z3 = (a2 : Int) := by rw [← hz3, tkZ, if_neg hp, failZ, if_pos (by omega)]
      obtain ⟨_, e5⟩ := q4 (by omega)
      refine ⟨a2, by rw [e5, ez], fun J => ?_⟩
      have hno : S[sk S (a + n)]? ≠ some 61 := by rw [← e2]; rw [pk_neg] at hp; exact hp
      rw [hR1 J, run_take_no (c := 61) (hb3 _ _ _) (decide_eq_false hno) (fun i x h1 h2 => by simp [step, h1, h2]) (fun i => rfl), tkAt_no (decide_eq_false hno), ← e2]

/-- What is held ahead of a round. -/
def En (S : List UInt8) (a : Nat) (l : List Lb) (pl : Int) : Prop :=
  (S[a]? = some 125 → ∃ J, Jp J l (plE l pl a) ∧ run S 0 .s0 = run (S.drop (a + 1)) (a + 1) (.s6 J)) ∧ (S[a]? ≠ some 125 → run S 0 .s0 = .fault a)
def LI (S : List UInt8) (a : Nat) (z : Int) (m : Bool) (l : List Lb) (pl : Int) : Prop :=
  (∃ k : Nat, z = (k : Int) ∧ run S 0 .s0 = .fault k) ∨
  (z = -1 ∧ ((m = true ∧ S[a]? ≠ some 32 ∧ ∃ J, Jp J l pl ∧ run S 0 .s0 = run (S.drop a) a (.s2 J)) ∨ (m = false ∧ En S a l pl)))

theorem start_pure {S : List UInt8} {a0 a1 a2 : Nat} {z1 : Int} (h0 : skZ S 0 (-1) = a0) (h1 : tkA S a0 (-1) 123 = a1) (hz : tkZ S a0 (-1) 123 = z1) (h2 : skZ S a1 z1 = a2) :
    LI S a2 z1 (!decide (pk S a2 z1 = some 125)) [] (-1) := by
  have e0 : a0 = sk S 0 := by rw [← h0, skZ, if_pos (by omega)]
  have hb0 : Bl .s0 := fun i => by simp [step]
  have hb1 : Bl .s1 := fun i => by simp [step]
  by_cases hp : pk S a0 (-1) = some 123
  · have e1 : a1 = a0 + 1 := by rw [← h1, tkA, if_pos hp]
    have ez : z1 = -1 := by rw [← hz, tkZ, if_pos hp]
    subst ez
    have h123 : S[sk S 0]? = some 123 := by rw [← e0]; exact (pk_lt hp).2.2
    have hR : run S 0 .s0 = run (S.drop a1) a1 .s1 := by
      have := run_sk hb0 S 0
      rw [List.drop_zero] at this
      rw [this, drop_at h123, run_some (st' := .s1) (by simp [step]), ← e0, ← e1]
    have e2 : a2 = sk S a1 := by rw [← h2, skZ, if_pos (by omega)]
    right
    refine ⟨rfl, ?_⟩
    rw [pk_neg]
    by_cases h125 : S[a2]? = some 125
    · right
      refine ⟨by rw [decide_eq_true h125]; rfl, fun _ => ⟨⟨[], some a2⟩, Or.inr ⟨a2, by rw [plE, if_pos ⟨rfl, by omega⟩], rfl⟩, ?_⟩, fun h => absurd h125 h⟩
      rw [hR, run_sk hb1, ← e2, drop_at h125, run_some (st' := .s6 ⟨[], some a2⟩) (by simp [step])]
    · left
      refine ⟨by rw [decide_eq_false h125]; rfl, by rw [e2]; exact sk_next S a1, ⟨[], none⟩, Or.inl ⟨rfl, rfl⟩, ?_⟩
      rw [hR, run_s1_no (decide_eq_false (by rw [← e2]; exact h125)), ← e2]
  · left
    refine ⟨a0, by rw [← hz, tkZ, if_neg hp, failZ, if_pos (by omega)], ?_⟩
    rw [pk_neg] at hp
    have hno : S[sk S 0]? ≠ some 123 := by rw [← e0]; exact hp
    have := run_take_no (S := S) (a := 0) (c := 123) hb0 (decide_eq_false hno) (fun i x h1 h2 => by simp [step, h1, h2]) (fun i => rfl)
    rw [List.drop_zero, tkAt_no (decide_eq_false hno), ← e0] at this
    exact this

/-- Behind a round. -/
theorem next_no {S : List UInt8} {a a6 : Nat} {z : Int} {nm : List UInt8} {v : ByteArray} {l : List Lb} {pl : Int} {J : Jd} (hJ : Jp J l pl) (h8 : l.length ≤ 8) (hr : run S 0 .s0 = run (S.drop a) a (.s2 J)) (h : It S a nm v a6 z) (hp : pk S a6 z ≠ some 44) :
    LI S a6 z false (lN l ⟨oft nm, v⟩) (plN (wrongL l ⟨oft nm, v⟩) pl a) := by
  obtain ⟨_, _, h | ⟨rfl, hlt, h32, acc, rfl, hR⟩⟩ := h
  · obtain ⟨k, e, hk⟩ := h
    exact Or.inl ⟨k, e, by rw [hr, hk]⟩
  · refine Or.inr ⟨rfl, Or.inr ⟨rfl, fun h125 => ⟨J.add ⟨oft nm, oft acc⟩ a, ?_, ?_⟩, fun h125 => ?_⟩⟩
    · rw [plE, if_neg (fun e => (lN_len h8 _).2 e.1)]
      exact jp_add hJ h8 nm acc a
    · rw [hr, hR, drop_at h125, run_some (st' := .s6 (J.add ⟨oft nm, oft acc⟩ a)) (by simp [step])]
    · rw [hr, hR]
      rw [pk_neg] at hp
      cases hx : S[a6]? with
      | none => rw [List.drop_of_length_le (List.getElem?_eq_none_iff.1 hx)]; rfl
      | some c =>
        have h1 : c ≠ 32 := fun e => h32 (by rw [hx, e])
        have h3 : c ≠ 125 := fun e => h125 (by rw [hx, e])
        have h4 : c ≠ 44 := fun e => hp (by rw [hx, e])
        rw [drop_at hx, run_none (by simp [step, h1, h3, h4])]
theorem next_yes {S : List UInt8} {a a6 : Nat} {z : Int} {nm : List UInt8} {v : ByteArray} {l : List Lb} {pl : Int} {J : Jd} (hJ : Jp J l pl) (h8 : l.length ≤ 8) (hr : run S 0 .s0 = run (S.drop a) a (.s2 J)) (h : It S a nm v a6 z) (hp : pk S a6 z = some 44) :
    z = -1 ∧ a < a6 ∧ LI S (skZ S (a6 + 1) (-1)) (-1) true (lN l ⟨oft nm, v⟩) (plN (wrongL l ⟨oft nm, v⟩) pl a) := by
  obtain ⟨_, _, h | ⟨rfl, hlt, h32, acc, rfl, hR⟩⟩ := h
  · obtain ⟨k, e, hk⟩ := h
    have := (pk_lt hp).2.1
    omega
  · have h44 := (pk_lt hp).2.2
    refine ⟨rfl, hlt, Or.inr ⟨rfl, Or.inl ⟨rfl, ?_, J.add ⟨oft nm, oft acc⟩ a, jp_add hJ h8 nm acc a, ?_⟩⟩⟩
    · rw [skZ, if_pos (by omega)]; exact sk_next S _
    · rw [hr, hR, drop_at h44, run_some (st' := .s2 (J.add ⟨oft nm, oft acc⟩ a)) (by simp [step]), run_sk (fun i => by simp [step]), skZ, if_pos (by omega)]

/-- What is told in the end. -/
theorem end_fault {S : List UInt8} {k : Nat} (h : run S 0 .s0 = .fault k) : parseL S = .inl k := by rw [parseL, h]; rfl
theorem end_more {S : List UInt8} {a : Nat} {J : Jd} (h : run S 0 .s0 = run (S.drop a) a (.s6 J)) (hlt : sk S a < S.length) : parseL S = .inl (sk S a) := by
  rw [run_s6_end, if_neg (by omega), if_neg (by omega)] at h
  exact end_fault h
theorem end_done {S : List UInt8} {a : Nat} {J : Jd} {l : List Lb} {pl : Int} (h : run S 0 .s0 = run (S.drop a) a (.s6 J)) (hlt : ¬ sk S a < S.length) (hJ : Jp J l pl) :
    (0 ≤ pl → parseL S = .inl pl.toNat) ∧ (pl < 0 → parseL S = .inr (srt l) ∧ sortOk l = true) := by
  have hd : run S 0 .s0 = .done J := by
    rw [run_s6_end] at h
    split at h
    · exact h
    · rw [if_pos (by omega)] at h; exact h
  rcases hJ with ⟨rfl, rfl⟩ | ⟨p, rfl, hb⟩
  · refine ⟨fun h => by omega, fun _ => ⟨by rw [parseL, hd]; rfl, ?_⟩⟩
    obtain ⟨hg, hn⟩ := run_gd S 0 .s0 _ trivial hd
    have hne : l ≠ [] := by
      rcases hn with h | h
      · exact h
      · exact absurd rfl h
    have := Gd.right hg hne
    rw [sortOk, this, decide_eq_true hg.1]; rfl
  · exact ⟨fun _ => by rw [parseL, hd]; simp [Rs.told, hb], fun h => by omega⟩

end Go.Proofs.YtpdffdoogobhfaaDoor
