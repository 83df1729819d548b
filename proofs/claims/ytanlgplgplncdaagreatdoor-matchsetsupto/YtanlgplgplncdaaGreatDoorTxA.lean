import Derived.Test.YtanlgplgplncdaaGreatDoorMrF
import Derived.Test.YtanlgplgplncdaaGreatDoorLbS
import Derived.Test.YtanlgplgplncdaaGreatDoorLbW
import Derived.BigQuiet
/-
  The document's Parse of matchers, purely: it goes as the machine goes.
-/
namespace Go.Proofs.YtanlgplgplncdaaGreatDoor.L
open Go.RowKit
set_option linter.unusedVariables false
set_option linter.unusedSimpArgs false

def failZ (a : Nat) (z : Int) : Int := if z < 0 then (a : Int) else z
/-- What stands here. -/
def pk (S : List UInt8) (a : Nat) (z : Int) : Option UInt8 := if z < 0 then S[a]? else none
def pkC (o : Option UInt8) : Nat := match o with | none => 0 | some x => x.toNat
/-- Where blanks end; a fault stops all. -/
def skZ (S : List UInt8) (a : Nat) (z : Int) : Nat := if z < 0 then sk S a else a
def tkA (S : List UInt8) (a : Nat) (z : Int) (c : UInt8) : Nat := if pk S a z = some c then a + 1 else a
def tkZ (S : List UInt8) (a : Nat) (z : Int) (c : UInt8) : Int := if pk S a z = some c then z else failZ a z
def wnZ (S : List UInt8) (a : Nat) (z : Int) (f : Bool) : Nat := if z < 0 then wsz f (S.drop a) else 0
/-- The fault's place behind a word of so many bytes. -/
def wdZ (n a : Nat) (z : Int) : Int := if n = 0 then failZ a z else z
theorem wnZ_none {S : List UInt8} {a : Nat} {z : Int} {f : Bool} (h : pk S a z = none) : wnZ S a z f = 0 := by
  unfold pk at h
  unfold wnZ
  split at h
  · rename_i hz
    rw [if_pos hz, List.drop_of_length_le (List.getElem?_eq_none_iff.1 h)]; rfl
  · rename_i hz
    rw [if_neg hz]
theorem wnZ_some {S : List UInt8} {a : Nat} {z : Int} {f : Bool} {x : UInt8} (h : pk S a z = some x) : wnZ S a z f = if lead f x then wnZ S (a + 1) z false + 1 else 0 := by
  unfold pk at h
  unfold wnZ
  split at h
  · rename_i hz
    obtain ⟨hl, rfl⟩ := List.getElem?_eq_some_iff.1 h
    rw [if_pos hz, if_pos hz, List.drop_eq_getElem_cons hl, wsz]
  · cases h
theorem skZ_le {S : List UInt8} {a : Nat} (h : a ≤ S.length) (z : Int) : skZ S a z ≤ S.length := by
  unfold skZ; split
  · exact sk_le h
  · exact h
theorem skZ_ge (S : List UInt8) (a : Nat) (z : Int) : a ≤ skZ S a z := by
  unfold skZ; split
  · exact sk_ge S a
  · exact Nat.le_refl _
theorem pk_lt {S : List UInt8} {a : Nat} {z : Int} {c : UInt8} (h : pk S a z = some c) : a < S.length ∧ z < 0 ∧ S[a]? = some c := by
  unfold pk at h
  split at h
  · exact ⟨(List.getElem?_eq_some_iff.1 h).1, by assumption, h⟩
  · cases h
theorem tkA_le {S : List UInt8} {a : Nat} (h : a ≤ S.length) (z : Int) (c : UInt8) : tkA S a z c ≤ S.length := by
  unfold tkA; split
  · rename_i hp; have := (pk_lt hp).1; omega
  · exact h
theorem wsz_leM : ∀ (f : Bool) (l : List UInt8), wsz f l ≤ l.length
  | f, [] => by simp [wsz]
  | f, c :: t => by
    unfold wsz
    split
    · have := wsz_leM false t; simp; omega
    · simp
theorem wn_le {S : List UInt8} {a : Nat} (h : a ≤ S.length) (z : Int) (f : Bool) : a + wnZ S a z f ≤ S.length := by
  unfold wnZ; split
  · have := wsz_leM f (S.drop a); rw [List.length_drop] at this; omega
  · omega
theorem pk_neg {S : List UInt8} {a : Nat} : pk S a (-1) = S[a]? := by rw [pk, if_pos (by omega)]

/-! ### ops -/
/-- What an op is read as. -/
def OpE (S : List UInt8) (a : Nat) (z : Int) (o : Int) (a' : Nat) (z' : Int) : Prop :=
  a ≤ a' ∧ a' ≤ S.length ∧ (0 ≤ o ∧ o ≤ 4) ∧ (0 ≤ z → a' = a ∧ z' = z) ∧ (z < 0 → (z' = z ∧ ∀ J p nm, runM (S.drop a) a (.s3 J p nm) = runM (S.drop a') a' (.s4 J p nm o)) ∨ (z' = (a' : Int) ∧ ∀ J p nm, runM (S.drop a) a (.s3 J p nm) = .fault a'))
theorem get_lt {S : List UInt8} {a : Nat} {c : UInt8} (h : S[a]? = some c) : a < S.length := (List.getElem?_eq_some_iff.1 h).1
theorem op_ba {S : List UInt8} {a : Nat} (h : S[a]? = some 33) {o : Int} {d : UInt8} (h2 : S[a + 1]? = some d) (hd : (d = 61 ∧ o = 2) ∨ (d = 126 ∧ o = 4)) {z : Int} (hz : z < 0) : OpE S a z o (a + 1 + 1) z := by
  have := get_lt h2
  refine ⟨by omega, by omega, by rcases hd with ⟨_, rfl⟩ | ⟨_, rfl⟩ <;> omega, fun h => by omega, fun _ => Or.inl ⟨rfl, fun J p nm => ?_⟩⟩
  rw [drop_at h, runM_some (st' := .ba J p nm) (by simp [stepM]), drop_at h2]
  rcases hd with ⟨rfl, rfl⟩ | ⟨rfl, rfl⟩
  · rw [runM_some (st' := .s4 J p nm 2) (by simp [stepM])]
  · rw [runM_some (st' := .s4 J p nm 4) (by simp [stepM])]
theorem op_ba_no {S : List UInt8} {a : Nat} (h : S[a]? = some 33) (h1 : S[a + 1]? ≠ some 61) (h2 : S[a + 1]? ≠ some 126) {z : Int} (hz : z < 0) : OpE S a z 0 (a + 1) (failZ (a + 1) z) := by
  have := get_lt h
  refine ⟨by omega, by omega, by omega, fun h => by omega, fun _ => Or.inr ⟨by rw [failZ, if_pos hz], fun J p nm => ?_⟩⟩
  rw [drop_at h, runM_some (st' := .ba J p nm) (by simp [stepM])]
  refine run_none_of (fun x hx => ?_) (fun _ => rfl)
  have n1 : x ≠ 61 := fun e => h1 (by rw [hx, e])
  have n2 : x ≠ 126 := fun e => h2 (by rw [hx, e])
  simp [stepM, n1, n2]
theorem op_like {S : List UInt8} {a : Nat} (h : S[a]? = some 61) (h2 : S[a + 1]? = some 126) {z : Int} (hz : z < 0) : OpE S a z 3 (a + 1 + 1) z := by
  have := get_lt h2
  refine ⟨by omega, by omega, by omega, fun h => by omega, fun _ => Or.inl ⟨rfl, fun J p nm => ?_⟩⟩
  rw [drop_at h, runM_some (st' := .eq J p nm) (by simp [stepM]), drop_at h2, runM_some (st' := .s4 J p nm 3) (by simp [stepM])]
theorem op_is {S : List UInt8} {a : Nat} (h : S[a]? = some 61) (h2 : S[a + 1]? ≠ some 126) {z : Int} (hz : z < 0) : OpE S a z 1 (a + 1) z := by
  have := get_lt h
  refine ⟨by omega, by omega, by omega, fun h => by omega, fun _ => Or.inl ⟨rfl, fun J p nm => ?_⟩⟩
  rw [drop_at h, runM_some (st' := .eq J p nm) (by simp [stepM]), eq_s4 (decide_eq_false h2)]
theorem op_no {S : List UInt8} {a : Nat} (ha : a ≤ S.length) (h32 : S[a]? ≠ some 32) (h1 : S[a]? ≠ some 33) (h2 : S[a]? ≠ some 61) {z : Int} (hz : z < 0) : OpE S a z 1 a (failZ a z) := by
  refine ⟨by omega, by omega, by omega, fun h => by omega, fun _ => Or.inr ⟨by rw [failZ, if_pos hz], fun J p nm => ?_⟩⟩
  refine run_none_of (fun x hx => ?_) (fun _ => rfl)
  have n0 : x ≠ 32 := fun e => h32 (by rw [hx, e])
  have n1 : x ≠ 33 := fun e => h1 (by rw [hx, e])
  have n2 : x ≠ 61 := fun e => h2 (by rw [hx, e])
  simp [stepM, n0, n1, n2]
theorem op_fault {S : List UInt8} {a : Nat} (ha : a ≤ S.length) {z : Int} (hz : 0 ≤ z) : OpE S a z 1 a z := ⟨by omega, by omega, by omega, fun h => ⟨rfl, rfl⟩, fun h => by omega⟩

/-! ### quotes -/
/-- What a quote is read as. -/
def Qe (S : List UInt8) (a : Nat) (z : Int) (v : ByteArray) (a' : Nat) (z' : Int) : Prop :=
  a ≤ a' ∧ a' ≤ S.length ∧ v.size ≤ 200 ∧ (0 ≤ z → a' = a ∧ z' = z) ∧ (z < 0 → (z' = z ∧ ∃ acc : List UInt8, v = oft (acc.take 200) ∧ ∀ J p nm o, runM (S.drop a) a (.s4 J p nm o) = runM (S.drop a') a' (.s5 (J.add ⟨oft nm, o, oft acc⟩ p))) ∨ (z' = (a' : Int) ∧ ∀ J p nm o, runM (S.drop a) a (.s4 J p nm o) = .fault a'))

/-! ### one matcher -/
def It (S : List UInt8) (a : Nat) (nm : List UInt8) (o : Int) (v : ByteArray) (a6 : Nat) (z : Int) : Prop :=
  a ≤ a6 ∧ a6 ≤ S.length ∧ ((∃ k : Nat, z = (k : Int) ∧ ∀ J, runM (S.drop a) a (.s2 J) = .fault k) ∨
    (z = -1 ∧ a < a6 ∧ S[a6]? ≠ some 32 ∧ ∃ acc : List UInt8, v = oft (acc.take 200) ∧ ∀ J, runM (S.drop a) a (.s2 J) = runM (S.drop a6) a6 (.s5 (J.add ⟨oft nm, o, oft acc⟩ a))))

theorem iter_pure {S : List UInt8} {a : Nat} (ha : a ≤ S.length) (h32 : S[a]? ≠ some 32) {n a2 a3 a4 a5 : Nat} {z1 z3 z5 o : Int} {v : ByteArray}
    (hn : wnZ S a (-1) true = n) (hz1 : wdZ n a (-1) = z1) (h2 : skZ S (a + n) z1 = a2) (ho : OpE S a2 z1 o a3 z3) (h4 : skZ S a3 z3 = a4) (hq : Qe S a4 z3 v a5 z5) :
    It S a ((S.drop a).take n) o v (skZ S a5 z5) z5 := by
  have hwn : n = wsz true (S.drop a) := by rw [← hn, wnZ, if_pos (by omega)]
  have hg2 := skZ_ge S (a + n) z1
  rw [h2] at hg2
  have hg4 := skZ_ge S a3 z3
  rw [h4] at hg4
  obtain ⟨o1, o2, o3, o4, o5⟩ := ho
  obtain ⟨q1, q2, q3, q4, q5⟩ := hq
  refine ⟨by have := skZ_ge S a5 z5; omega, skZ_le q2 z5, ?_⟩
  by_cases h0 : n = 0
  · subst h0
    left
    have e1 : z1 = (a : Int) := by rw [← hz1, wdZ, if_pos rfl, failZ, if_pos (by omega)]
    obtain ⟨-, e3⟩ := o4 (by omega)
    obtain ⟨-, e5⟩ := q4 (by omega)
    exact ⟨a, by rw [e5, e3, e1], fun J => run_noword hwn.symm h32 J⟩
  · have e1 : z1 = -1 := by rw [← hz1, wdZ, if_neg h0]
    subst e1
    have e2 : a2 = sk S (a + n) := by rw [← h2, skZ, if_pos (by omega)]
    have hR1 : ∀ J, runM (S.drop a) a (.s2 J) = runM (S.drop a2) a2 (.s3 J a ((S.drop a).take n)) := fun J => by
      rw [run_word (by omega) J, wAt, ← hwn, run_sk (bl3 _ _ _), ← e2]
    rcases o5 (by omega) with ⟨ez, hr⟩ | ⟨ez, hr⟩
    · subst ez
      have e4 : a4 = sk S a3 := by rw [← h4, skZ, if_pos (by omega)]
      have hR2 : ∀ J, runM (S.drop a) a (.s2 J) = runM (S.drop a4) a4 (.s4 J a ((S.drop a).take n) o) := fun J => by
        rw [hR1 J, hr, run_sk (bl4 _ _ _ _), ← e4]
      rcases q5 (by omega) with ⟨ez, acc, hv, hr2⟩ | ⟨ez, hr2⟩
      · right
        subst ez
        refine ⟨rfl, ?_, ?_, acc, hv, fun J => ?_⟩
        · have := skZ_ge S a5 (-1); omega
        · rw [skZ, if_pos (by omega)]; exact sk_next S a5
        · rw [hR2 J, hr2, run_sk (bl5 _), skZ, if_pos (by omega)]
      · left
        exact ⟨a5, ez, fun J => by rw [hR2 J, hr2]⟩
    · left
      obtain ⟨-, e5⟩ := q4 (by omega)
      exact ⟨a3, by rw [e5, ez], fun J => by rw [hR1 J, hr]⟩

/-! ### the matchers so far -/
/-- The matchers so far, and the first wrong one's place, as the document holds them. -/
def Jp (J : Jm) (l : List Mt) (pl : Int) : Prop := (pl = -1 ∧ J = ⟨l, none⟩) ∨ (∃ p : Nat, pl = (p : Int) ∧ J.bad = some p)
def plN (b : Bool) (pl : Int) (a : Nat) : Int := if b = true ∧ pl < 0 then (a : Int) else pl
def lN (l : List Mt) (x : Mt) : List Mt := if l.length < 8 then l ++ [x] else l
theorem may200 (n : ByteArray) (o : Int) (acc : List UInt8) : Mt.may ⟨n, o, oft (acc.take 200)⟩ = Mt.may ⟨n, o, oft acc⟩ := by
  by_cases h : acc.length ≤ 200
  · rw [List.take_of_length_le h]
  · have k : ∀ b : List UInt8, 200 ≤ b.length → Mt.may ⟨n, o, oft b⟩ = false := fun b hb => by
      cases hm : Mt.may ⟨n, o, oft b⟩ with
      | false => rfl
      | true =>
        unfold Mt.may at hm
        rw [Bool.and_eq_true] at hm
        have := txt_short hm.1
        rw [bts_oftM] at this
        omega
    rw [k acc (by omega), k _ (by rw [List.length_take]; omega)]
theorem may_short {n : ByteArray} {o : Int} {acc : List UInt8} (h : Mt.may ⟨n, o, oft acc⟩ = true) : acc.length ≤ 64 := by
  unfold Mt.may at h
  rw [Bool.and_eq_true] at h
  have := txt_short h.1
  rw [bts_oftM] at this
  exact this
theorem wrong200 (l : List Mt) (n : ByteArray) (o : Int) (acc : List UInt8) : wrongM l ⟨n, o, oft (acc.take 200)⟩ = wrongM l ⟨n, o, oft acc⟩ := by
  unfold wrongM
  rw [may200]
theorem lN_len {l : List Mt} (h : l.length ≤ 8) (x : Mt) : (lN l x).length ≤ 8 := by
  unfold lN
  split
  · simp; omega
  · exact h
theorem jp_add {J : Jm} {l : List Mt} {pl : Int} (h : Jp J l pl) (h8 : l.length ≤ 8) (nm acc : List UInt8) (o : Int) (a : Nat) :
    Jp (J.add ⟨oft nm, o, oft acc⟩ a) (lN l ⟨oft nm, o, oft (acc.take 200)⟩) (plN (wrongM l ⟨oft nm, o, oft (acc.take 200)⟩) pl a) := by
  rcases h with ⟨rfl, rfl⟩ | ⟨p, rfl, hb⟩
  · rw [wrong200]
    cases hw : wrongM l ⟨oft nm, o, oft acc⟩ with
    | true =>
      right
      exact ⟨a, by rw [plN, if_pos ⟨rfl, by omega⟩], by simp [Jm.add, hw]⟩
    | false =>
      left
      refine ⟨by rw [plN, if_neg (by simp)], ?_⟩
      have hf : l.length ≠ 8 ∧ Mt.may ⟨oft nm, o, oft acc⟩ = true := by
        simp only [wrongM, Bool.or_eq_false_iff, decide_eq_false_iff_not, Bool.not_eq_false'] at hw
        exact ⟨hw.2, hw.1⟩
      have hs := may_short hf.2
      rw [lN, if_pos (by omega), List.take_of_length_le (by omega)]
      simp [Jm.add, hw]
  · right
    refine ⟨p, by rw [plN, if_neg (by omega)], ?_⟩
    simp [Jm.add, hb]

/-- What is held ahead of a round. -/
def En (S : List UInt8) (a : Nat) (l : List Mt) (pl : Int) : Prop :=
  (S[a]? = some 125 → ∃ J, Jp J l pl ∧ runM S 0 .s0 = runM (S.drop (a + 1)) (a + 1) (.s6 J)) ∧ (S[a]? ≠ some 125 → runM S 0 .s0 = .fault a)
def LI (S : List UInt8) (a : Nat) (z : Int) (m : Bool) (l : List Mt) (pl : Int) : Prop :=
  (∃ k : Nat, z = (k : Int) ∧ runM S 0 .s0 = .fault k) ∨
  (z = -1 ∧ ((m = true ∧ S[a]? ≠ some 32 ∧ ∃ J, Jp J l pl ∧ runM S 0 .s0 = runM (S.drop a) a (.s2 J)) ∨ (m = false ∧ En S a l pl)))

theorem start_pure {S : List UInt8} {a0 a1 a2 : Nat} {z1 : Int} (h0 : skZ S 0 (-1) = a0) (h1 : tkA S a0 (-1) 123 = a1) (hz : tkZ S a0 (-1) 123 = z1) (h2 : skZ S a1 z1 = a2) :
    LI S a2 z1 (!decide (pk S a2 z1 = some 125)) [] (-1) := by
  have e0 : a0 = sk S 0 := by rw [← h0, skZ, if_pos (by omega)]
  by_cases hp : pk S a0 (-1) = some 123
  · have e1 : a1 = a0 + 1 := by rw [← h1, tkA, if_pos hp]
    have ez : z1 = -1 := by rw [← hz, tkZ, if_pos hp]
    subst ez
    have h123 : S[sk S 0]? = some 123 := by rw [← e0]; exact (pk_lt hp).2.2
    have hR : runM S 0 .s0 = runM (S.drop a1) a1 .s1 := by
      have := run_sk bl0 S 0
      rw [List.drop_zero] at this
      rw [this, drop_at h123, runM_some (st' := .s1) (by simp [stepM]), ← e0, ← e1]
    have e2 : a2 = sk S a1 := by rw [← h2, skZ, if_pos (by omega)]
    right
    refine ⟨rfl, ?_⟩
    rw [pk_neg]
    by_cases h125 : S[a2]? = some 125
    · right
      refine ⟨by rw [decide_eq_true h125]; rfl, fun _ => ⟨⟨[], none⟩, Or.inl ⟨rfl, rfl⟩, ?_⟩, fun h => absurd h125 h⟩
      rw [hR, run_sk bl1, ← e2, drop_at h125, runM_some (st' := .s6 ⟨[], none⟩) (by simp [stepM])]
    · left
      refine ⟨by rw [decide_eq_false h125]; rfl, by rw [e2]; exact sk_next S a1, ⟨[], none⟩, Or.inl ⟨rfl, rfl⟩, ?_⟩
      rw [hR, run_sk bl1, ← e2, s1_s2 (decide_eq_false h125) (by rw [e2]; exact sk_next S a1)]
  · left
    refine ⟨a0, by rw [← hz, tkZ, if_neg hp, failZ, if_pos (by omega)], ?_⟩
    rw [pk_neg] at hp
    have hno : S[sk S 0]? ≠ some 123 := by rw [← e0]; exact hp
    have := run_take_no (S := S) (a := 0) (c := 123) bl0 (decide_eq_false hno) (fun i x h1 h2 => by simp [stepM, h1, h2]) (fun i => rfl)
    rw [List.drop_zero, tkAt, show tk S 0 123 = false from decide_eq_false hno, if_neg (by simp), ← e0] at this
    exact this

/-- Behind a round. -/
theorem next_no {S : List UInt8} {a a6 : Nat} {z o : Int} {nm : List UInt8} {v : ByteArray} {l : List Mt} {pl : Int} {J : Jm} (hJ : Jp J l pl) (h8 : l.length ≤ 8) (hr : runM S 0 .s0 = runM (S.drop a) a (.s2 J)) (h : It S a nm o v a6 z) (hp : pk S a6 z ≠ some 44) :
    LI S a6 z false (lN l ⟨oft nm, o, v⟩) (plN (wrongM l ⟨oft nm, o, v⟩) pl a) := by
  obtain ⟨_, _, h | ⟨rfl, hlt, h32, acc, rfl, hR⟩⟩ := h
  · obtain ⟨k, e, hk⟩ := h
    exact Or.inl ⟨k, e, by rw [hr, hk]⟩
  · refine Or.inr ⟨rfl, Or.inr ⟨rfl, fun h125 => ⟨J.add ⟨oft nm, o, oft acc⟩ a, jp_add hJ h8 nm acc o a, ?_⟩, fun h125 => ?_⟩⟩
    · rw [hr, hR, drop_at h125, runM_some (st' := .s6 (J.add ⟨oft nm, o, oft acc⟩ a)) (by simp [stepM])]
    · rw [hr, hR]
      rw [pk_neg] at hp
      refine run_none_of (fun c hx => ?_) (fun _ => rfl)
      have h1 : c ≠ 32 := fun e => h32 (by rw [hx, e])
      have h3 : c ≠ 125 := fun e => h125 (by rw [hx, e])
      have h4 : c ≠ 44 := fun e => hp (by rw [hx, e])
      simp [stepM, h1, h3, h4]
theorem next_yes {S : List UInt8} {a a6 : Nat} {z o : Int} {nm : List UInt8} {v : ByteArray} {l : List Mt} {pl : Int} {J : Jm} (hJ : Jp J l pl) (h8 : l.length ≤ 8) (hr : runM S 0 .s0 = runM (S.drop a) a (.s2 J)) (h : It S a nm o v a6 z) (hp : pk S a6 z = some 44) :
    z = -1 ∧ a < a6 ∧ LI S (skZ S (a6 + 1) (-1)) (-1) true (lN l ⟨oft nm, o, v⟩) (plN (wrongM l ⟨oft nm, o, v⟩) pl a) := by
  obtain ⟨_, _, h | ⟨rfl, hlt, h32, acc, rfl, hR⟩⟩ := h
  · obtain ⟨k, e, hk⟩ := h
    have := (pk_lt hp).2.1
    omega
  · have h44 := (pk_lt hp).2.2
    refine ⟨rfl, hlt, Or.inr ⟨rfl, Or.inl ⟨rfl, ?_, J.add ⟨oft nm, o, oft acc⟩ a, jp_add hJ h8 nm acc o a, ?_⟩⟩⟩
    · rw [skZ, if_pos (by omega)]; exact sk_next S _
    · rw [hr, hR, drop_at h44, runM_some (st' := .s2 (J.add ⟨oft nm, o, oft acc⟩ a)) (by simp [stepM]), run_sk (bl2 _), skZ, if_pos (by omega)]

/-- What is told in the end. -/
theorem end_fault {S : List UInt8} {k : Nat} (h : runM S 0 .s0 = .fault k) : parseM S = .inl k := by rw [parseM, h]; rfl
theorem end_more {S : List UInt8} {a : Nat} {J : Jm} (ha : a ≤ S.length) (h : runM S 0 .s0 = runM (S.drop a) a (.s6 J)) (hlt : sk S a < S.length) : parseM S = .inl (sk S a) := by
  rw [run_s6 S a ha, if_neg (by omega)] at h
  exact end_fault h
theorem end_done {S : List UInt8} {a : Nat} {J : Jm} {l : List Mt} {pl : Int} (ha : a ≤ S.length) (h : runM S 0 .s0 = runM (S.drop a) a (.s6 J)) (hlt : ¬ sk S a < S.length) (hJ : Jp J l pl) :
    (0 ≤ pl → parseM S = .inl pl.toNat) ∧ (pl < 0 → parseM S = .inr l) := by
  have hd : runM S 0 .s0 = .done J := by
    rw [run_s6 S a ha, if_pos (by have := sk_le (S := S) ha; omega)] at h
    exact h
  rcases hJ with ⟨rfl, rfl⟩ | ⟨p, rfl, hb⟩
  · exact ⟨fun h => by omega, fun _ => by rw [parseM, hd]; rfl⟩
  · exact ⟨fun _ => by rw [parseM, hd]; simp [Rm.told, hb], fun h => by omega⟩

end Go.Proofs.YtanlgplgplncdaaGreatDoor.L

/-
  The document's own: letter, IsName, Get, texts.
-/
namespace Go.Proofs.YtanlgplgplncdaaGreatDoor.L
open Go.RowKit
set_option linter.unusedVariables false
set_option linter.unusedSimpArgs false

set_option maxRecDepth 100000 in
set_option maxHeartbeats 4000000 in
theorem rletterP (x : UInt8) (f : Bool) (w : World) : Calls Tryz.prog 69 #[.int .u8 (x.toNat : Int), .bool f] w fun e w' => e = .returned (.bool (lead f x)) ∧ w' = w := by
  unfold lead lett digi
  generalize x.toNat = k
  cases f
  all_goals
    by_cases h1 : 97 ≤ k <;> by_cases h2 : k ≤ 122 <;> by_cases h3 : 65 ≤ k <;> by_cases h4 : k ≤ 90 <;> by_cases h5 : k = 95 <;> by_cases h6 : 48 ≤ k <;> by_cases h7 : k ≤ 57 <;> first
    | (exfalso; omega)
    | (have z1 : (97 : Int) ≤ (k : Int) ↔ 97 ≤ k := by omega
       have z2 : (k : Int) ≤ 122 ↔ k ≤ 122 := by omega
       have z3 : (65 : Int) ≤ (k : Int) ↔ 65 ≤ k := by omega
       have z4 : (k : Int) ≤ 90 ↔ k ≤ 90 := by omega
       have z6 : ((k : Int) == 95) = decide (k = 95) := by rw [Bool.eq_iff_iff]; simp; omega
       have z7 : (48 : Int) ≤ (k : Int) ↔ 48 ≤ k := by omega
       have z8 : (k : Int) ≤ 57 ↔ k ≤ 57 := by omega
       go_enter Tryz.func69, Tryz.ntmps69
       go_wp2
       go_ret
       simp [h1, h2, h3, h4, h5, h6, h7, z6])

set_option maxRecDepth 100000 in
set_option maxHeartbeats 4000000 in
theorem risNameP (s : ByteArray) (w : World) (hs : s.size ≤ 9223372036854775807) : Calls Tryz.prog 55 #[.string s] w fun e w' => e = .returned (.bool (isName (bts s))) ∧ w' = w := by
  obtain ⟨R, hR⟩ : ∃ R, isName (bts s) = R := ⟨_, rfl⟩
  have HR := hidden hR
  rw [hR]
  clear hR
  go_enter Tryz.func55, Tryz.ntmps55
  go_wp2
  go_loopw [3] (fun s0 wx => ∃ i : Nat, s0 = .int .i64 (i : Int) ∧ i ≤ s.size ∧ Hid (i + wsz (i == 0) ((bts s).drop i) = wsz true (bts s)) ∧ wx = w) (fun s0 _ => s.size - (intOf s0).toNat)
  case atStart => exact ⟨0, rfl, by omega, hidden (by simp), rfl⟩
  case round =>
    obtain ⟨i, rfl, hi, hrel, rfl⟩ := hrel
    by_cases hlt : i < s.size
    · have hltz : (i : Int) < (s.size : Int) := by omega
      obtain ⟨x, hx, hx2, hdr⟩ := byte_at s hlt
      have z0 : ((i : Int) == 0) = (i == 0) := by rw [Bool.eq_iff_iff]; simp
      have k := fun w => rletterP x (i == 0) w
      have hA : Hid (i + (if lead (i == 0) x then wsz false ((bts s).drop (i + 1)) + 1 else 0) = wsz true (bts s)) := hidden (by have := hrel.out; rw [hdr, wsz] at this; exact this)
      clear hx2 hdr hrel
      cases hl : lead (i == 0) x with
      | true =>
        rw [hl] at hA k
        have hA2 : Hid (i + 1 + wsz (i + 1 == 0) ((bts s).drop (i + 1)) = wsz true (bts s)) := hidden (by have := hA.out; simp at this; simp; omega)
        clear hA hl
        go_wp2_with (go_at_call 69; refine (k _).mono ?_; rintro e w' ⟨rfl, hw'⟩; obtain rfl := hw'.symm)
        refine ⟨⟨i + 1, by first | rfl | simp, by omega, hA2, by first | rfl | trivial⟩, ?_⟩
        simp [intOf]
        omega
      | false =>
        rw [hl] at hA k
        have hA2 : Hid (R = false) := hidden (by
          have := hA.out
          simp at this
          rw [← HR.out, isName, decide_eq_false (p := wsz true (bts s) = (bts s).length) (by rw [← this, ← size_bts]; omega)]
          simp)
        clear hA hl
        go_wp2_with (go_at_call 69; refine (k _).mono ?_; rintro e w' ⟨rfl, hw'⟩; obtain rfl := hw'.symm)
        go_ret
        exact ⟨by rw [hA2.out]; rfl, rfl⟩
    · have hltz : ¬ (i : Int) < (s.size : Int) := by omega
      have hA2 : Hid (R = (decide (bts s ≠ []) && decide (s.size ≤ 32))) := hidden (by
        have := hrel.out
        rw [List.drop_of_length_le (by rw [← size_bts]; omega), wsz] at this
        have hi' : i = s.size := by omega
        rw [← HR.out, isName, decide_eq_true (p := wsz true (bts s) = (bts s).length) (by rw [← this, ← size_bts]; omega), ← size_bts]
        cases decide (s.size ≤ 32) <;> simp)
      have e0 := empty_bts s
      cases h3 : decide (bts s = []) with
      | true =>
        rw [h3] at e0
        have h3' := of_decide_eq_true h3
        clear hrel h3
        go_wp2
        go_ret
        exact ⟨by rw [hA2.out]; simp [h3', e0], rfl⟩
      | false =>
        rw [h3] at e0
        have h3' := of_decide_eq_false h3
        by_cases h4 : s.size ≤ 32
        · have z4 : (s.size : Int) ≤ 32 := by omega
          clear hrel h3
          go_wp2
          go_ret
          exact ⟨by rw [hA2.out]; simp [h3', e0, h4], rfl⟩
        · have z4 : ¬ (s.size : Int) ≤ 32 := by omega
          clear hrel h3
          go_wp2
          go_ret
          exact ⟨by rw [hA2.out]; simp [h3', e0, h4], rfl⟩

set_option maxHeartbeats 2000000 in
theorem rgetP (ad : Option Addr) (c : Nat) (l : List Lb) (nm : ByteArray) (w : World) (hL : Ls w ad l) (hlen : l.length ≤ 9223372036854775807) :
    Calls Tryz.prog 44 #[.slice ad l.length c, .string nm] w fun e w' => ∃ r, e = .returned (.string r) ∧ bts r = getL l (bts nm) ∧ Below w.heap.size w w' := by
  obtain ⟨n, hn⟩ : ∃ n, l.length = n := ⟨_, rfl⟩
  rw [hn] at hlen ⊢
  obtain ⟨R, hR⟩ : ∃ R, getL l (bts nm) = R := ⟨_, rfl⟩
  have HR := hidden hR
  have HL := hidden hL
  have HN := hidden hn
  rw [hR]
  clear hR hL hn
  go_enter Tryz.func44, Tryz.ntmps44
  go_wp2
  go_loopw [5] (fun s0 wx => ∃ i : Nat, s0 = .int .i64 (i : Int) ∧ i ≤ n ∧ Hid (getL (l.drop i) (bts nm) = R) ∧ Hid (Below w.heap.size w wx)) (fun s0 _ => n - (intOf s0).toNat)
  case atStart => exact ⟨0, rfl, by omega, hidden (by simpa using HR.out), hidden (Below.refl _ _)⟩
  case round =>
    rename World => wr
    obtain ⟨i, rfl, hi, hrel, hbel⟩ := hrel
    by_cases hlt : i < n
    · have hltz : (i : Int) < (n : Int) := by omega
      obtain ⟨b, off, x, rfl, hb, hx, hx', c0, c1, z0, z1⟩ := (HL.out.later hbel.out).get (i := i) (by rw [HN.out]; exact hlt)
      have hdrop : Hid (l.drop i = x :: l.drop (i + 1)) := by rw [← hx']; exact List.drop_eq_getElem_cons _
      clear hx hx'
      by_cases he : bts x.n = bts nm
      · have hq : (x.n.toList == nm.toList) = true := by rw [toList_bts, toList_bts, he]; simp
        have hR2 : Hid (bts x.v = R) := by have := hrel.out; rw [hdrop.out, getL, if_pos he] at this; exact this
        clear he hrel hdrop
        go_wp2
        go_ret
        exact ⟨_, rfl, hR2.out, hbel.out⟩
      · have hq : (x.n.toList == nm.toList) = false := by rw [toList_bts, toList_bts]; simpa using he
        have hR2 : Hid (getL (l.drop (i + 1)) (bts nm) = R) := by have := hrel.out; rw [hdrop.out, getL, if_neg he] at this; exact this
        clear he hrel hdrop
        go_wp2
        refine ⟨⟨i + 1, by first | rfl | simp, by omega, hR2, hbel⟩, ?_⟩
        simp [intOf]
        omega
    · have hltz : ¬ (i : Int) < (n : Int) := by omega
      go_wp2
      go_ret
      refine ⟨_, rfl, ?_, hbel.out⟩
      have := hrel.out
      rw [List.drop_of_length_le (by rw [HN.out]; omega)] at this
      rw [← this]; rfl

end Go.Proofs.YtanlgplgplncdaaGreatDoor.L

/-
  The document's reader of matchers: fail, peek, blanks, take, letter.
-/
namespace Go.Proofs.YtanlgplgplncdaaGreatDoor.L
open Go.RowKit
set_option linter.unusedVariables false
set_option linter.unusedSimpArgs false

/-- The document's reader: a text, where it stands, the fault's place (below 0: none). -/
def Re (w : World) (r : Nat) (s : ByteArray) (a : Nat) (z : Int) : Prop := Blk w r 89 [.string s, .int .i64 (a : Int), .int .i64 z]
theorem Re.drewN {w : World} {r : Nat} {s : ByteArray} {a : Nat} {z : Int} (h : Re w r s a z) (n : Nat) : Re (w.drewN n) r s a z := Blk.drewN h n
theorem Re.chg {F : Nat → Prop} {w w' : World} {r : Nat} {s : ByteArray} {a : Nat} {z : Int} (h : Re w r s a z) (hc : Chg F w w') (hF : ¬ F r) : Re w' r s a z := hc.blk h hF
theorem Re.later {w w' : World} {r : Nat} {s : ByteArray} {a : Nat} {z : Int} (h : Re w r s a z) (hb : Below w.heap.size w w') : Re w' r s a z := Blk.later h hb
theorem Re.set {w : World} {r : Nat} {s : ByteArray} {a : Nat} {z : Int} (h : Re w r s a z) (b : Nat) : Re (w.setCell ⟨r, 1, none⟩ (.int .i64 (b : Int))) r s b z := Blk.set h 1 _
theorem Re.at' {w : World} {r : Nat} {s : ByteArray} {a : Nat} {z : Int} (h : Re w r s a z) : rdAt r w = a := by
  have c1 : w.cell? ⟨r, 1, none⟩ = some (.int .i64 (a : Int)) := h.cell 1
  simp [rdAt, c1, intOf]
theorem byte_atM (s : ByteArray) {a : Nat} (h : a < s.size) : ∃ x : UInt8, s[a] = x ∧ (bts s)[a]? = some x := ⟨_, rfl, at_bts h rfl⟩

set_option maxHeartbeats 2000000 in
theorem rfailP (r : Nat) (s : ByteArray) (a : Nat) (z : Int) (w : World) (h : Re w r s a z) : Calls Tryz.prog 39 #[.pointer (some ⟨r, 0, none⟩)] w fun e w' => e = .returned (.tuple #[]) ∧ Re w' r s a (failZ a z) ∧ Chg (fun i => i = r) w w' := by
  have c1 : w.cell? ⟨r, 1, none⟩ = some (.int .i64 (a : Int)) := h.cell 1
  have c2 : w.cell? ⟨r, 2, none⟩ = some (.int .i64 z) := h.cell 2
  have f2 := h.frozen 2
  have HR := hidden h
  clear h
  unfold failZ
  by_cases hz : z < 0
  · rw [if_pos hz]
    go_enter Tryz.func39, Tryz.ntmps39
    go_wp2
    go_end0
    exact ⟨rfl, Blk.set HR.out 2 _, Chg.set ⟨r, 2, none⟩ _ w⟩
  · rw [if_neg hz]
    go_enter Tryz.func39, Tryz.ntmps39
    go_wp2
    go_end0
    exact ⟨rfl, HR.out, Chg.refl _ _⟩

set_option maxRecDepth 100000 in
set_option maxHeartbeats 4000000 in
theorem rpeekP (r : Nat) (s : ByteArray) (a : Nat) (z : Int) (w : World) (h : Re w r s a z) (hs : s.size ≤ 140737488355328) :
    Calls Tryz.prog 34 #[.pointer (some ⟨r, 0, none⟩)] w fun e w' => e = .returned (.int .u8 (pkC (pk (bts s) a z) : Int)) ∧ ∃ n, w' = w.drewN n := by
  have c0 : w.cell? ⟨r, 0, none⟩ = some (.string s) := h.cell 0
  have c1 : w.cell? ⟨r, 1, none⟩ = some (.int .i64 (a : Int)) := h.cell 1
  have c2 : w.cell? ⟨r, 2, none⟩ = some (.int .i64 z) := h.cell 2
  clear h
  by_cases hz : z < 0
  · have hz0 : ¬ (0 : Int) ≤ z := by omega
    have hz1 : decide ((0 : Int) ≤ z) = false := decide_eq_false hz0
    by_cases hlt : a < s.size
    · have hltz : (a : Int) < (s.size : Int) := by omega
      have g1 : ¬ (s.size : Int) ≤ (a : Int) := by omega
      have g2 : decide ((s.size : Int) ≤ (a : Int)) = false := decide_eq_false g1
      have g3 : decide (s.size ≤ a) = false := decide_eq_false (by omega)
      obtain ⟨x, hx, hx2⟩ := byte_atM s hlt
      have e : pk (bts s) a z = some x := by rw [pk, if_pos hz, hx2]
      rw [e]
      have k0 : ∀ n, (w.drewN n).cell? ⟨r, 0, none⟩ = some (.string s) := fun n => c0
      have k1 : ∀ n, (w.drewN n).cell? ⟨r, 1, none⟩ = some (.int .i64 (a : Int)) := fun n => c1
      clear e hx2
      go_enter Tryz.func34, Tryz.ntmps34
      go_wp2
      go_quiet (fail)
      have d0 := k0 nq
      have d1 := k1 nq
      clear k0 k1
      generalize hw : w.drewN nq = wq at *
      have HW := hidden hw
      clear hw
      go_wp2
      go_quiet (fail)
      go_wp2
      go_ret
      exact ⟨rfl, by rw [← HW.out]; exact ⟨_, World.drewN_drewN _ _ _⟩⟩
    · have g1 : (s.size : Int) ≤ (a : Int) := by omega
      have e : pk (bts s) a z = none := by rw [pk, if_pos hz, List.getElem?_eq_none (by rw [← size_bts]; omega)]
      rw [e]
      clear e
      go_enter Tryz.func34, Tryz.ntmps34
      go_wp2
      go_quiet (fail)
      go_wp2
      go_ret
      exact ⟨rfl, _, rfl⟩
  · have hz0 : (0 : Int) ≤ z := by omega
    have e : pk (bts s) a z = none := by rw [pk, if_neg hz]
    rw [e]
    clear e
    go_enter Tryz.func34, Tryz.ntmps34
    go_wp2
    go_quiet (fail)
    go_wp2
    go_ret
    exact ⟨rfl, _, rfl⟩

/-- What stands here, held against a byte other than 0. -/
theorem pkC_beq (o : Option UInt8) (k : Nat) (h0 : 0 < k) (hk : k < 256) : (((pkC o : Nat) : Int) == (k : Int)) = decide (o = some (UInt8.ofNat k)) := by
  cases o with
  | none =>
    rw [decide_eq_false (by simp)]
    simp [pkC]
    omega
  | some x =>
    show (((x.toNat : Nat) : Int) == (k : Int)) = _
    rw [beq8 x k hk]
    by_cases h : x = UInt8.ofNat k
    · rw [decide_eq_true h, decide_eq_true (by rw [h])]
    · rw [decide_eq_false h, decide_eq_false (fun e => h (Option.some.inj e))]
theorem pkC_range (o : Option UInt8) : pkC o < 256 := by
  cases o with
  | none => decide
  | some x => exact x.toNat_lt

set_option maxRecDepth 100000 in
set_option maxHeartbeats 4000000 in
theorem rblanksP (r : Nat) (s : ByteArray) (a : Nat) (z : Int) (w : World) (h : Re w r s a z) (ha : a ≤ s.size) (hs : s.size ≤ 140737488355328) :
    Calls Tryz.prog 32 #[.pointer (some ⟨r, 0, none⟩)] w fun e w' => e = .returned (.tuple #[]) ∧ Re w' r s (skZ (bts s) a z) z ∧ Chg (fun i => i = r) w w' := by
  obtain ⟨R, hR⟩ : ∃ R, skZ (bts s) a z = R := ⟨_, rfl⟩
  have HR := hidden hR
  have HH := hidden h
  rw [hR]
  clear hR h
  go_enter Tryz.func32, Tryz.ntmps32
  go_wp2
  go_loopw [] (fun wx => ∃ i : Nat, i ≤ s.size ∧ Hid (skZ (bts s) i z = R) ∧ Hid (Re wx r s i z) ∧ Hid (Chg (fun i => i = r) w wx)) (fun wx => s.size - rdAt r wx)
  case atStart => exact ⟨a, ha, HR, HH, hidden (Chg.refl _ _)⟩
  case round =>
    rename World => wr
    obtain ⟨i, hi, hrel, hrd, hch⟩ := hrel
    have kP := rpeekP r s i z wr hrd.out hs
    have hb := pkC_beq (pk (bts s) i z) 32 (by omega) (by omega)
    have c1 : ∀ n, (wr.drewN n).cell? ⟨r, 1, none⟩ = some (.int .i64 (i : Int)) := fun n => hrd.out.cell 1
    have f1 : ∀ n, (wr.drewN n).frozen? ⟨r, 1, none⟩ = false := fun n => hrd.out.frozen 1
    by_cases hp : pk (bts s) i z = some 32
    · rw [decide_eq_true (by rw [hp]; rfl)] at hb
      obtain ⟨q1, q2, q3⟩ := pk_lt hp
      have hlt : i < s.size := by rw [size_bts]; exact q1
      have hR1 : Hid (skZ (bts s) (i + 1) z = R) := hidden (by rw [← hrel.out, skZ, if_pos q2, skZ, if_pos q2, sk_step q3])
      have hb2 : (((pkC (pk (bts s) i z) : Nat) : Int) == 32) = true := hb
      generalize ((pkC (pk (bts s) i z) : Nat) : Int) = X at *
      clear hp q1 q3 hb
      go_wp2_with (go_at_call 34; refine kP.mono ?_; rintro e w1 ⟨rfl, n, rfl⟩; have d1 := c1 n; have g1 := f1 n; clear kP c1 f1)
      have hr2 : Re ((wr.drewN n).setCell ⟨r, 1, none⟩ (.int .i64 ((i : Int) + 1))) r s (i + 1) z := by have := (hrd.out.drewN n).set (i + 1); simpa using this
      refine ⟨⟨i + 1, by omega, hR1, hr2, hidden (by have := chg_step (b := i + 1) (n := n) hch.out; simpa using this)⟩, ?_⟩
      rw [hr2.at', hrd.out.at']
      omega
    · rw [decide_eq_false (show ¬ pk (bts s) i z = some (UInt8.ofNat 32) from hp)] at hb
      have hR1 : Hid (i = R) := hidden (by
        rw [← hrel.out, skZ]
        split
        · rename_i hz
          rw [pk, if_pos hz] at hp
          exact (sk_stop hp).symm
        · rfl)
      have hb2 : (((pkC (pk (bts s) i z) : Nat) : Int) == 32) = false := hb
      generalize ((pkC (pk (bts s) i z) : Nat) : Int) = X at *
      clear hp hb c1 f1
      go_wp2_with (go_at_call 34; refine kP.mono ?_; rintro e w1 ⟨rfl, n, rfl⟩; clear kP)
      go_end0
      exact ⟨rfl, by rw [← hR1.out]; exact hrd.out.drewN _, hch.out.trans (Chg.drewN (fun i => i = r) wr _) (fun _ _ e => e)⟩

set_option maxRecDepth 100000 in
set_option maxHeartbeats 4000000 in
theorem rtakeP (r : Nat) (s : ByteArray) (a : Nat) (z : Int) (c : UInt8) (w : World) (h : Re w r s a z) (ha : a ≤ s.size) (hs : s.size ≤ 140737488355328) (hc0 : 0 < c.toNat) :
    Calls Tryz.prog 33 #[.pointer (some ⟨r, 0, none⟩), .int .u8 (c.toNat : Int)] w fun e w' => e = .returned (.tuple #[]) ∧ Re w' r s (tkA (bts s) a z c) (tkZ (bts s) a z c) ∧ Chg (fun i => i = r) w w' := by
  have kP := rpeekP r s a z w h hs
  have hb := pkC_beq (pk (bts s) a z) c.toNat hc0 c.toNat_lt
  rw [show UInt8.ofNat c.toNat = c by simp] at hb
  have HH := hidden h
  clear h
  unfold tkA tkZ
  by_cases hp : pk (bts s) a z = some c
  · rw [decide_eq_true hp] at hb
    rw [if_pos hp, if_pos hp]
    have hlt : a < s.size := by have := (pk_lt hp).1; rw [← size_bts] at this; exact this
    have c1 : ∀ n, (w.drewN n).cell? ⟨r, 1, none⟩ = some (.int .i64 (a : Int)) := fun n => HH.out.cell 1
    have f1 : ∀ n, (w.drewN n).frozen? ⟨r, 1, none⟩ = false := fun n => HH.out.frozen 1
    have HR : Hid (∀ n, Re ((w.drewN n).setCell ⟨r, 1, none⟩ (.int .i64 ((a : Int) + 1))) r s (a + 1) z) := hidden (fun n => by have := (HH.out.drewN n).set (a + 1); simpa using this)
    generalize ((pkC (pk (bts s) a z) : Nat) : Int) = X at *
    generalize ((c.toNat : Nat) : Int) = C at *
    have hne2 : (X != C) = false := by simp only [bne, hb, Bool.not_true]
    clear hp
    go_enter Tryz.func33, Tryz.ntmps33
    go_wp2_with (go_at_call 34; refine kP.mono ?_; rintro e w1 ⟨rfl, n, rfl⟩; have d1 := c1 n; have g1 := f1 n; clear kP c1 f1)
    go_end0
    exact ⟨rfl, HR.out n, (Chg.drewN (fun i => i = r) w n).trans (Chg.set ⟨r, 1, none⟩ _ _) (fun _ _ e => e)⟩
  · rw [decide_eq_false hp] at hb
    rw [if_neg hp, if_neg hp]
    generalize ((pkC (pk (bts s) a z) : Nat) : Int) = X at *
    generalize ((c.toNat : Nat) : Int) = C at *
    have hne2 : (X != C) = true := by simp only [bne, hb, Bool.not_false]
    have kF : ∀ n, Calls Tryz.prog 39 #[.pointer (some ⟨r, 0, none⟩)] (w.drewN n) fun e w' => e = .returned (.tuple #[]) ∧ Re w' r s a (failZ a z) ∧ Chg (fun i => i = r) (w.drewN n) w' := fun n => rfailP r s a z _ (HH.out.drewN n)
    clear hp
    go_enter Tryz.func33, Tryz.ntmps33
    go_wp2_with (first
      | (go_at_call 34; refine kP.mono ?_; rintro e w1 ⟨rfl, n, rfl⟩; have kG := kF n; clear kP kF)
      | (go_at_call 39; refine kG.mono ?_; rintro e w2 ⟨rfl, h2, hc2⟩; have H2 := hidden h2; have HC2 := hidden hc2; clear kG h2 hc2))
    refine bodyPost_ret (results_none rfl _ _ _) rfl ?_
    exact ⟨rfl, H2.out, (Chg.drewN (fun i => i = r) w _).trans HC2.out (fun _ _ e => e)⟩

end Go.Proofs.YtanlgplgplncdaaGreatDoor.L
