/-
  A log whose power falls.
-/
import Derived.Test.YtnfjhdedcnbdbaaWsN
namespace Go.Proofs.Ytnfjhdedcnbdbaa
open Go.RowKit
set_option linter.unusedVariables false
set_option linter.unusedSimpArgs false

/-- A file of which all lasts. -/
def wh (b : List Int) : Fl := ⟨b, b.length⟩
theorem lose_wh (b : List Int) (k : Int) : (wh b).lose k = wh b := by
  unfold wh Fl.lose
  simp
theorem loseAll_two (live : Nat) (a b : Fl) (k : Int) : loseAll (two live a b) [k, k] = two live (a.lose k) (b.lose k) := by
  unfold two
  split <;> simp [loseAll]
theorem loseAll_wh (live : Nat) (a b : List Int) (K : List Int) : loseAll (two live (wh a) (wh b)) K = two live (wh a) (wh b) := by
  unfold two
  split <;> simp [loseAll, lose_wh]
/-- A log with a fuse. -/
def LF (falls live : Nat) (h : Hd) (st : List Int) (recs : List (List Int)) (fu : Option (Nat × List Int)) : St := ⟨two live (wh (laid h st recs)) (wh []), true, falls, fu⟩
theorem LF_none (falls live : Nat) (h : Hd) (st : List Int) (recs : List (List Int)) : LF falls live h st recs none = LS falls live h st recs := rfl
/-- Two files, all of which lasts: a log with something torn behind it, beside nothing, or an elder one. -/
structure Cr (S : St) (falls live : Nat) (h : Hd) (st : List Int) (recs : List (List Int)) (x y : List Int) : Prop where
  f : S.falls = falls
  L : S.L = two live (wh (laid h st recs ++ x)) (wh y)
  x : frames x = []
  y : headAt y = none ∨ ∃ b, headAt y = some b ∧ b.1.g < h.g
theorem Cr.fail {S : St} {falls live : Nat} {h : Hd} {st : List Int} {recs : List (List Int)} {x y : List Int} (c : Cr S falls live h st recs x y) (K : List Int) : Cr (S.fail K) (falls + 1) live h st recs x y :=
  ⟨by show S.falls + 1 = _; rw [c.f], by show loseAll S.L K = _; rw [c.L, loseAll_wh], c.x, c.y⟩
theorem Cr.restart {S : St} {falls live : Nat} {h : Hd} {st : List Int} {recs : List (List Int)} {x y : List Int} (c : Cr S falls live h st recs x y) : Cr S.restart falls live h st recs x y := ⟨c.f, c.L, c.x, c.y⟩
theorem Cr.fuse {S : St} {falls live : Nat} {h : Hd} {st : List Int} {recs : List (List Int)} {x y : List Int} (c : Cr S falls live h st recs x y) (o : Int) (K : List Int) : Cr (S.setFuse o K).2 falls live h st recs x y := by
  unfold St.setFuse
  split
  · exact c
  · split
    · exact c
    · exact ⟨c.f, c.L, c.x, c.y⟩
theorem LF.cr (falls live : Nat) (h : Hd) (st : List Int) (recs : List (List Int)) (fu : Option (Nat × List Int)) : Cr (LF falls live h st recs fu) falls live h st recs [] [] := ⟨rfl, by rw [List.append_nil]; rfl, frames_nil, .inl headAt_nil⟩
theorem trunc_f {S : St} {f n : Nat} {x : Fl} (hon : S.on = true) (hx : S.L[f]? = some x) (hn : n ≤ x.b.length) : S.truncate f n = (if S.op.1 ≠ 0 then S.op else (0, { S.op.2 with L := S.op.2.L.set f ⟨x.b.take n, min x.n n⟩ })) := by
  unfold St.truncate
  rw [refuse_zero hon (at_lt hx), if_neg (by simp), Int.toNat_natCast, hx]
  simp only
  rw [if_neg (by omega)]
  rfl
theorem op_cases (S : St) : (S.op.1 = 0 ∧ S.op.2.L = S.L ∧ S.op.2.on = S.on ∧ S.op.2.falls = S.falls ∧ (S.fuse = none → S.op.2.fuse = none)) ∨ (S.op.1 = 40 ∧ ∃ K, S.op.2 = S.fail K ∧ S.fuse ≠ none) := by
  unfold St.op
  cases hf : S.fuse with
  | none => exact .inl ⟨rfl, rfl, rfl, rfl, fun _ => hf⟩
  | some q =>
    obtain ⟨o, K⟩ := q
    cases o with
    | zero => exact .inr ⟨rfl, K, rfl, by simp⟩
    | succ o => exact .inl ⟨rfl, rfl, rfl, rfl, fun h => by cases h⟩
theorem Cr.cutLive {S : St} {falls live : Nat} {h : Hd} {st : List Int} {recs : List (List Int)} {x y : List Int} (c : Cr S falls live h st recs x y) (hl : live ≤ 1) (hon : S.on = true) :
    ((S.cutLive live (laid h st recs).length).1 = 0 ∧ (S.cutLive live (laid h st recs).length).2.on = true ∧ (S.fuse = none → (S.cutLive live (laid h st recs).length).2.fuse = none) ∧ Cr (S.cutLive live (laid h st recs).length).2 falls live h st recs [] y) ∨
    ((S.cutLive live (laid h st recs).length).1 = 40 ∧ S.fuse ≠ none ∧ Cr (S.cutLive live (laid h st recs).length).2 (falls + 1) live h st recs x y) := by
  have h1 : S.L[live]? = some (wh (laid h st recs ++ x)) := by rw [c.L]; exact two_live hl _ _
  have hs := size_at h1
  unfold St.cutLive
  rw [hs]
  by_cases hx : x = []
  · subst hx
    rw [if_neg (by simp [wh])]
    exact .inl ⟨rfl, hon, fun h => h, c⟩
  · have hp : 0 < x.length := List.length_pos_iff.2 hx
    rw [if_pos (by simp [wh]; omega), trunc_f hon h1 (by simp [wh])]
    rcases op_cases S with ⟨e1, e2, e3, e4, e5⟩ | ⟨e1, K, e2, e3⟩
    · rw [if_neg (by rw [e1]; simp)]
      refine .inl ⟨rfl, by show S.op.2.on = true; rw [e3, hon], fun hn => e5 hn, ⟨by show S.op.2.falls = _; rw [e4, c.f], ?_, frames_nil, c.y⟩⟩
      show S.op.2.L.set live _ = _
      rw [e2, c.L, two_set hl]
      congr 1
      simp [wh]
    · rw [if_pos (by rw [e1]; simp)]
      exact .inr ⟨e1, e3, by rw [e2]; exact c.fail K⟩
theorem Cr.cutOther {S : St} {falls live : Nat} {h : Hd} {st : List Int} {recs : List (List Int)} {x y : List Int} (c : Cr S falls live h st recs x y) (hl : live ≤ 1) (hon : S.on = true) :
    ((S.cutOther live).1 = 0 ∧ (S.cutOther live).2.on = true ∧ (S.fuse = none → (S.cutOther live).2.fuse = none) ∧ Cr (S.cutOther live).2 falls live h st recs x []) ∨
    ((S.cutOther live).1 = 40 ∧ S.fuse ≠ none ∧ Cr (S.cutOther live).2 (falls + 1) live h st recs x y) := by
  have h1 : S.L[1 - live]? = some (wh y) := by rw [c.L]; exact two_other hl _ _
  have hs := size_at h1
  unfold St.cutOther
  rw [one_sub hl, hs]
  by_cases hx : y = []
  · subst hx
    rw [if_neg (by simp [wh])]
    exact .inl ⟨rfl, hon, fun h => h, c⟩
  · have hp : 0 < y.length := List.length_pos_iff.2 hx
    have ht := trunc_f (S := S) (f := 1 - live) (n := 0) hon h1 (Nat.zero_le _)
    rw [if_pos (by simp [wh]; omega)]
    have ht' : S.truncate ((1 - live : Nat) : Int) 0 = _ := ht
    rw [ht']
    rcases op_cases S with ⟨e1, e2, e3, e4, e5⟩ | ⟨e1, K, e2, e3⟩
    · rw [if_neg (by rw [e1]; simp)]
      refine .inl ⟨rfl, by show S.op.2.on = true; rw [e3, hon], fun hn => e5 hn, ⟨by show S.op.2.falls = _; rw [e4, c.f], ?_, c.x, .inl headAt_nil⟩⟩
      show S.op.2.L.set (1 - live) _ = _
      rw [e2, c.L, two_seto hl]
      congr 1
      simp [wh]
    · rw [if_pos (by rw [e1]; simp)]
      exact .inr ⟨e1, e3, by rw [e2]; exact c.fail K⟩
theorem Cr.found {S : St} {falls live : Nat} {h : Hd} {st : List Int} {recs : List (List Int)} {x y : List Int} (c : Cr S falls live h st recs x y) (hl : live ≤ 1) (hon : S.on = true) (k : Lgok h st recs) : S.find = .ok ⟨live, h, st, recs, (laid h st recs).length⟩ := by
  have h1 : S.L[live]? = some (wh (laid h st recs ++ x)) := by rw [c.L]; exact two_live hl _ _
  have h2 : S.L[1 - live]? = some (wh y) := by rw [c.L]; exact two_other hl _ _
  exact find_log hon (by rw [c.L]; exact two_len _ _ _) hl k (by rw [file_at h1]; rfl) c.x (by rw [file_at h2]; exact c.y)
/-- Open of a log that has fallen: the power stays. -/
theorem Cr.opens {S : St} {falls live : Nat} {h : Hd} {st : List Int} {recs : List (List Int)} {x y : List Int} (c : Cr S falls live h st recs x y) (hl : live ≤ 1) (hon : S.on = true) (hfu : S.fuse = none) (k : Lgok h st recs) : S.opens = (.ok ⟨live, h, st, recs, (laid h st recs).length⟩, LS falls live h st recs) := by
  have hc : S.cutRest live (laid h st recs).length = (0, LS falls live h st recs) := by
    unfold St.cutRest
    rcases c.cutLive hl hon with ⟨e1, e2, e3, e4⟩ | ⟨_, e, _⟩
    · rw [if_neg (by rw [e1]; simp)]
      rcases e4.cutOther hl e2 with ⟨f1, f2, f3, f4⟩ | ⟨_, e, _⟩
      · have f3 := f3 (e3 hfu)
        generalize (S.cutLive live (laid h st recs).length).2.cutOther live = q at *
        obtain ⟨q1, ⟨ql, qo, qf, qu⟩⟩ := q
        have g1 := f4.f
        have g2 := f4.L
        simp only at f1 f2 f3 g1 g2
        rw [List.append_nil] at g2
        rw [f1, f2, f3, g1, g2]
        rfl
      · exact absurd (e3 hfu) e
    · exact absurd hfu e
  unfold St.opens
  rw [c.found hl hon k]
  simp only
  rw [hc, if_neg (by simp)]
/-- Open of a log: the power may fall in it. -/
theorem Cr.opensF {S : St} {falls live : Nat} {h : Hd} {st : List Int} {recs : List (List Int)} {x y : List Int} (c : Cr S falls live h st recs x y) (hl : live ≤ 1) (hon : S.on = true) (k : Lgok h st recs) : ∃ f x' y', f ≤ falls + 1 ∧ Cr S.opens.2 f live h st recs x' y' := by
  have hc : ∃ f x' y', f ≤ falls + 1 ∧ Cr (S.cutRest live (laid h st recs).length).2 f live h st recs x' y' := by
    unfold St.cutRest
    rcases c.cutLive hl hon with ⟨e1, e2, e3, e4⟩ | ⟨e1, e, e4⟩
    · rw [if_neg (by rw [e1]; simp)]
      rcases e4.cutOther hl e2 with ⟨f1, f2, f3, f4⟩ | ⟨f1, e, f4⟩
      · exact ⟨_, _, _, by omega, f4⟩
      · exact ⟨_, _, _, Nat.le_refl _, f4⟩
    · rw [if_pos (by rw [e1]; simp)]
      exact ⟨_, _, _, Nat.le_refl _, e4⟩
  unfold St.opens
  rw [c.found hl hon k]
  simp only
  split <;> exact hc

/-- A frame that was laid and lost a part. -/
theorem lose_tail (a b : List Int) (k : Int) : (⟨a ++ b, a.length⟩ : Fl).lose k = wh (a ++ b.take k.toNat) := by
  unfold Fl.lose wh
  have e : (a ++ b).take (a.length + min k.toNat b.length) = a ++ b.take (min k.toNat b.length) := by
    rw [List.take_append, List.take_of_length_le (by omega), Nat.add_sub_cancel_left]
  simp only [List.length_append, Nat.add_sub_cancel_left]
  rw [e]
  congr 1
  · congr 1
    rw [List.take_eq_take_iff]
    omega
  · simp
theorem take_made (k : Int) (d : List Int) (n : Int) : ((d.length + 9 : Nat) : Int) ≤ n → (made k d).take n.toNat = made k d := fun h => List.take_of_length_le (by rw [made_length]; omega)
theorem op_zero {S : St} {K : List Int} (h : S.fuse = some (0, K)) : S.op = (40, S.fail K) := by unfold St.op; rw [h]
theorem op_succ {S : St} {K : List Int} {o : Nat} (h : S.fuse = some (o + 1, K)) : S.op = (0, { S with fuse := some (o, K) }) := by unfold St.op; rw [h]
/-- put of a frame at a fuse. -/
theorem put_f {S : St} {f : Nat} {k : Int} {l : List Int} {x : Fl} {o : Nat} {K : List Int} (hon : S.on = true) (hfu : S.fuse = some (o, K)) (hx : S.L[f]? = some x) (hn : x.b.length + (l.length + 9) ≤ 16777216) :
    S.put f k l = (if o ≤ 1 then (40, ⟨loseAll (S.L.set f ⟨x.b ++ made k l, x.n⟩) K, false, S.falls + 1, none⟩) else (0, { S with L := S.L.set f ⟨x.b ++ made k l, (x.b ++ made k l).length⟩, fuse := some (o - 2, K) })) := by
  have ha : S.append f (made k l) = ({ S with L := S.L.set f ⟨x.b ++ made k l, x.n⟩ } : St).op := by
    unfold St.append
    rw [refuse_zero hon (at_lt hx), if_neg (by simp), Int.toNat_natCast, hx]
    simp only
    rw [if_neg (by rw [made_length]; omega)]
  have h2 : (S.L.set f ⟨x.b ++ made k l, x.n⟩)[f]? = some ⟨x.b ++ made k l, x.n⟩ := by rw [List.getElem?_set, if_pos rfl, if_pos (at_lt hx)]
  obtain ⟨L, on, falls, fuse⟩ := S
  simp only at hon hfu hx ha h2 ⊢
  subst hon hfu
  match o with
  | 0 =>
    have e : (⟨L.set f ⟨x.b ++ made k l, x.n⟩, true, falls, some (0, K)⟩ : St).op = _ := op_zero rfl
    rw [e] at ha
    unfold St.put
    rw [ha, if_pos (by simp), if_pos (by omega)]
    rfl
  | 1 =>
    have e : (⟨L.set f ⟨x.b ++ made k l, x.n⟩, true, falls, some (1, K)⟩ : St).op = _ := op_succ rfl
    rw [e] at ha
    unfold St.put
    rw [ha, if_neg (by simp), if_pos (by omega)]
    have e2 : (⟨L.set f ⟨x.b ++ made k l, x.n⟩, true, falls, some (0, K)⟩ : St).op = _ := op_zero rfl
    show (⟨L.set f ⟨x.b ++ made k l, x.n⟩, true, falls, some (0, K)⟩ : St).sync f = _
    unfold St.sync
    rw [refuse_zero rfl (at_lt h2), if_neg (by simp), e2, if_pos (by simp)]
    rfl
  | o + 2 =>
    have e : (⟨L.set f ⟨x.b ++ made k l, x.n⟩, true, falls, some (o + 2, K)⟩ : St).op = _ := op_succ rfl
    rw [e] at ha
    unfold St.put
    rw [ha, if_neg (by simp), if_neg (by omega)]
    have e2 : (⟨L.set f ⟨x.b ++ made k l, x.n⟩, true, falls, some (o + 1, K)⟩ : St).op = _ := op_succ rfl
    show (⟨L.set f ⟨x.b ++ made k l, x.n⟩, true, falls, some (o + 1, K)⟩ : St).sync f = _
    unfold St.sync
    rw [refuse_zero rfl (at_lt h2), if_neg (by simp), e2, if_neg (by simp), Int.toNat_natCast, h2]
    simp
/-- Behind a call: what it told, and what lies there. -/
inductive Oc (falls live : Nat) (h : Hd) (st : List Int) (recs : List (List Int)) (st' : List Int) (recs' : List (List Int)) (fu : Option (Nat × List Int)) (c : Bool) (e : Int) (S : St) (l : Lw) : Prop where
  | good (live' : Nat) (h' : Hd) (fu' : Option (Nat × List Int)) (he : e = 0) (hS : S = LF falls live' h' st' recs' fu') (hl : l = ⟨falls, live', h'⟩) (hl1 : live' ≤ 1) (hk : Lgok h' st' recs') (hc : h'.cap = h.cap) (hs : h'.slots = h.slots) (hg : h'.g ≤ h.g + 1)
  | full (he : e = 60) (hS : S = LF falls live h st recs fu) (hl : l = ⟨falls, live, h⟩)
  | dead (live' : Nat) (h' : Hd) (x y : List Int) (he : e = 40) (ho : S.on = false) (hS : Cr S (falls + 1) live' h' (if c then st' else st) (if c then recs' else recs) x y) (hl : l.falls = falls) (hf : l.fine) (hl1 : live' ≤ 1) (hk : Lgok h' (if c then st' else st) (if c then recs' else recs)) (hc : h'.cap = h.cap) (hs : h'.slots = h.slots) (hg : h'.g ≤ h.g + 1)
/-- Does what was in flight last? -/
def stay (fu : Option (Nat × Int)) (sync frame : Nat) : Bool := match fu with
  | none => false
  | some (o, k) => decide (sync < o) || ((decide (o = sync) || decide (o + 1 = sync)) && decide ((frame : Int) ≤ k))
def fz (fu : Option (Nat × Int)) : Option (Nat × List Int) := fu.map fun q => (q.1, [q.2, q.2])
theorem Lgok.snoc {h : Hd} {st : List Int} {recs : List (List Int)} (k : Lgok h st recs) {r : List Int} (hr : (laid h st recs).length + (r.length + 9) ≤ h.cap) : Lgok h st (recs ++ [r]) := by
  have h2 := (h.ok_iff.1 k.ok).2.2.1
  refine ⟨k.ok, k.g, by rw [laid_snoc_len]; exact hr, fun x hx => ?_⟩
  rcases List.mem_append.1 hx with q | q
  · exact k.rcs x q
  · simp only [List.mem_singleton] at q
    subst q
    omega
theorem LF_bytes {falls live : Nat} {h : Hd} {st : List Int} {recs : List (List Int)} {fu : Option (Nat × List Int)} (hl : live ≤ 1) (h' : Hd) : (LF falls live h st recs fu).bytes ⟨falls, live, h'⟩ = ((laid h st recs).length : Int) := by
  unfold St.bytes
  rw [if_pos (show (LF falls live h st recs fu).falls = falls from rfl)]
  exact size_at (x := wh (laid h st recs)) (two_live hl _ _)
theorem append_oc {falls live : Nat} {h : Hd} {st : List Int} {recs : List (List Int)} (fu : Option (Nat × Int)) (hl : live ≤ 1) (k : Lgok h st recs) (hfn : (⟨falls, live, h⟩ : Lw).fine) (r : List Int) :
    Oc falls live h st recs st (recs ++ [r]) (fz fu) (stay fu 1 (r.length + 9)) ((LF falls live h st recs (fz fu)).wappend ⟨falls, live, h⟩ r).1 ((LF falls live h st recs (fz fu)).wappend ⟨falls, live, h⟩ r).2 ⟨falls, live, h⟩ ∧
    (((LF falls live h st recs (fz fu)).wappend ⟨falls, live, h⟩ r).1 = 60 ↔ h.cap < (laid h st recs).length + (r.length + 9)) := by
  have hc := (h.ok_iff.1 k.ok).2.2.1
  have hx : (LF falls live h st recs (fz fu)).L[live]? = some (wh (laid h st recs)) := two_live hl _ _
  unfold St.wappend
  rw [if_neg (by simp [LF])]
  unfold St.fits
  rw [LF_bytes hl]
  by_cases hfit : (laid h st recs).length + (r.length + 9) ≤ h.cap
  · rw [if_neg (by simp; omega)]
    cases fu with
    | none =>
      have := put_q (k := 2) (l := r) (S := LF falls live h st recs none) rfl rfl hx (by simp [wh]; omega)
      have e : (LF falls live h st recs none).put live 2 r = (0, LF falls live h st (recs ++ [r]) none) := by
        refine Eq.trans this ?_
        simp only [LF, Prod.mk.injEq, true_and]
        rw [two_set hl, laid_snoc]
        rfl
      show Oc falls live h st recs st (recs ++ [r]) none (stay none 1 (r.length + 9)) ((LF falls live h st recs none).put live 2 r).1 ((LF falls live h st recs none).put live 2 r).2 ⟨falls, live, h⟩ ∧ (((LF falls live h st recs none).put live 2 r).1 = 60 ↔ _)
      rw [e]
      exact ⟨.good live h none rfl rfl rfl hl (k.snoc hfit) rfl rfl (by omega), by simp; omega⟩
    | some q =>
      obtain ⟨o, kk⟩ := q
      have hp := put_f (k := 2) (l := r) (S := LF falls live h st recs (some (o, [kk, kk]))) (K := [kk, kk]) rfl rfl hx (by simp [wh]; omega)
      show Oc falls live h st recs st (recs ++ [r]) (some (o, [kk, kk])) (stay (some (o, kk)) 1 (r.length + 9)) ((LF falls live h st recs (some (o, [kk, kk]))).put live 2 r).1 ((LF falls live h st recs (some (o, [kk, kk]))).put live 2 r).2 ⟨falls, live, h⟩ ∧ (((LF falls live h st recs (some (o, [kk, kk]))).put live 2 r).1 = 60 ↔ _)
      by_cases ho : o ≤ 1
      · rw [if_pos ho] at hp
        rw [hp]
        refine ⟨?_, by simp; omega⟩
        have hL : loseAll ((LF falls live h st recs (some (o, [kk, kk]))).L.set live ⟨(wh (laid h st recs)).b ++ made 2 r, (wh (laid h st recs)).n⟩) [kk, kk] = two live (wh (laid h st recs ++ (made 2 r).take kk.toNat)) (wh []) := by
          show loseAll ((two live _ _).set live _) _ = _
          rw [two_set hl, loseAll_two, lose_wh]
          congr 1
          exact lose_tail _ _ _
        by_cases hk : ((r.length + 9 : Nat) : Int) ≤ kk
        · have hs : stay (some (o, kk)) 1 (r.length + 9) = true := by
            unfold stay
            simp
            omega
          rw [hs]
          refine .dead live h [] [] rfl rfl ⟨rfl, ?_, frames_nil, .inl headAt_nil⟩ rfl hfn hl (k.snoc hfit) rfl rfl (by omega)
          refine Eq.trans hL ?_
          rw [take_made 2 r kk hk, List.append_nil]
          simp only [if_true]
          rw [laid_snoc]
        · have hs : stay (some (o, kk)) 1 (r.length + 9) = false := by
            unfold stay
            simp
            omega
          rw [hs]
          refine .dead live h ((made 2 r).take kk.toNat) [] rfl rfl ⟨rfl, hL, frames_cut 2 r (by omega) _ (by omega), .inl headAt_nil⟩ rfl hfn hl k rfl rfl (by omega)
      · rw [if_neg ho] at hp
        rw [hp]
        refine ⟨.good live h (some (o - 2, [kk, kk])) rfl ?_ rfl hl (k.snoc hfit) rfl rfl (by omega), by simp; omega⟩
        simp only [LF]
        rw [two_set hl, laid_snoc]
        rfl
  · rw [if_pos (by simp; omega)]
    exact ⟨.full rfl rfl rfl, by simp; omega⟩

end Go.Proofs.Ytnfjhdedcnbdbaa
