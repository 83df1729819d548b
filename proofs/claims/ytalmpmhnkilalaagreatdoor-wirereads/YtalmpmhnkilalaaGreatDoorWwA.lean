import Derived.Test.YtalmpmhnkilalaaGreatDoorWld
import Derived.Test.YtalmpmhnkilalaaGreatDoorMath
import Derived.Test.YtalmpmhnkilalaaGreatDoorRow
/-
  Package wire's writer, purely and in memory: must, put, octet, number, time.
-/
namespace Go.Proofs.YtalmpmhnkilalaaGreatDoor
open Go.RowKit
set_option linter.unusedVariables false

/-- What a writer holds. -/
structure Ws where
  out : List Int
  most : Nat
  over : Bool
  wrong : Bool
def Ws.must (s : Ws) (ok : Bool) : Ws := { s with wrong := s.wrong || !ok }
def Ws.put (s : Ws) (b : List Int) : Ws := if s.over || decide (s.most - s.out.length < b.length) then { s with over := true } else { s with out := s.out ++ b }

/-- A writer in memory: its block, its row's block, what it holds. -/
structure WV (w : World) (p : Nat) (rb : Option Nat) (s : Ws) (v : Value) : Prop where
  ne : rb ≠ some p
  own : v.ownBlock = rb
  blk : Blk w p 72 [v, .int .i64 (s.most : Int), .bool s.over, .bool s.wrong]
  row : w.ownsRow 0 5 1 v s.out.length (cells8 s.out)
  byte : Byte s.out
  len : s.out.length ≤ s.most
  most : s.most ≤ 1048576
def Wt (w : World) (p : Nat) (rb : Option Nat) (s : Ws) : Prop := ∃ v, WV w p rb s v
/-- What a call leaves. -/
def WQ (w : World) (p : Nat) (rb : Option Nat) (s : Ws) : Ending → World → Prop := fun e w' => e = .returned (.tuple #[]) ∧ ∃ rb', Wt w' p rb' s ∧ Chg (fpt p rb) w w' ∧ Moved w rb rb'

theorem Wt.most {w : World} {p : Nat} {rb : Option Nat} {s : Ws} (h : Wt w p rb s) : s.most ≤ 1048576 := by
  obtain ⟨v, h⟩ := h
  exact h.most
theorem Wt.lt {w : World} {p : Nat} {rb : Option Nat} {s : Ws} (h : Wt w p rb s) : ∀ i, fpt p rb i → i < w.heap.size := by
  obtain ⟨v, h⟩ := h
  rintro i (rfl | hi)
  · exact h.blk.lt
  · have := h.own
    subst this
    exact owns_lt h.row i hi
theorem WV.chg {F : Nat → Prop} {a b : World} {p : Nat} {rb : Option Nat} {s : Ws} {v : Value} (h : WV a p rb s v) (hc : Chg F a b) (hF : ∀ i, fpt p rb i → ¬ F i) : WV b p rb s v := by
  obtain ⟨h0, h1, h2, h3, h4, h5, h6⟩ := h
  subst h1
  exact ⟨h0, rfl, hc.blk h2 (hF p (.inl rfl)), hc.owns h3 (fun g hg => hF g (.inr hg)), h4, h5, h6⟩
theorem Wt.chg {F : Nat → Prop} {a b : World} {p : Nat} {rb : Option Nat} {s : Ws} (h : Wt a p rb s) (hc : Chg F a b) (hF : ∀ i, fpt p rb i → ¬ F i) : Wt b p rb s := by
  obtain ⟨v, h⟩ := h
  exact ⟨v, h.chg hc hF⟩
theorem Wt.later {a b : World} {p : Nat} {rb : Option Nat} {s : Ws} (h : Wt a p rb s) (hb : Below a.heap.size a b) : Wt b p rb s :=
  h.chg (Chg.of_below (F := fun _ => False) hb) (fun _ _ e => e)
theorem WV.setWrong {w : World} {p : Nat} {rb : Option Nat} {s : Ws} {v : Value} (h : WV w p rb s v) : WV (w.setCell ⟨p, 3, none⟩ (.bool true)) p rb { s with wrong := true } v := by
  obtain ⟨h0, h1, h2, h3, h4, h5, h6⟩ := h
  subst h1
  refine ⟨h0, rfl, h2.set 3 _, (Chg.set ⟨p, 3, none⟩ _ w).owns h3 (fun g hg e => h0 ?_), h4, h5, h6⟩
  simp at e
  rw [hg, e]
theorem WV.setOver {w : World} {p : Nat} {rb : Option Nat} {s : Ws} {v : Value} (h : WV w p rb s v) : WV (w.setCell ⟨p, 2, none⟩ (.bool true)) p rb { s with over := true } v := by
  obtain ⟨h0, h1, h2, h3, h4, h5, h6⟩ := h
  subst h1
  refine ⟨h0, rfl, h2.set 2 _, (Chg.set ⟨p, 2, none⟩ _ w).owns h3 (fun g hg e => h0 ?_), h4, h5, h6⟩
  simp at e
  rw [hg, e]

/-- must. -/
theorem mustW (p : Nat) (rb : Option Nat) (s : Ws) (ok : Bool) (w : World) (h : Wt w p rb s) : Calls Tryz.prog 56 #[.pointer (some ⟨p, 0, none⟩), .bool ok] w (WQ w p rb (s.must ok)) := by
  obtain ⟨v, h⟩ := h
  have hf := h.blk.frozen 3
  have c3 : w.cell? ⟨p, 3, none⟩ = some (.bool s.wrong) := h.blk.cell 3
  have HV := hidden h
  clear h
  cases ok with
  | true =>
    go_enter Tryz.func56, Tryz.ntmps56
    go_wp2_with fail
    go_end0
    refine ⟨rfl, rb, ⟨v, ?_⟩, Chg.refl _ _, .inl rfl⟩
    have e : s.must true = s := by simp [Ws.must]
    rw [e]
    exact HV.out
  | false =>
    go_enter Tryz.func56, Tryz.ntmps56
    go_wp2_with fail
    go_end0
    refine ⟨rfl, rb, ⟨v, ?_⟩, (Chg.set ⟨p, 3, none⟩ _ w).mono (fun i _ hi => .inl hi), .inl rfl⟩
    have e : s.must false = { s with wrong := true } := by simp [Ws.must]
    rw [e]
    exact HV.out.setWrong

end Go.Proofs.YtalmpmhnkilalaaGreatDoor

/-
  'append(v, s...)', v a row that is owned: in its place, or in a new row, and nothing else. Nothing of the program.
-/
namespace Go.Proofs.YtalmpmhnkilalaaGreatDoor
open Go.RowKit
set_option linter.unusedVariables false

theorem owns_zero {w : World} {base : Nat} {e : TypeId} {v : Value} {n : Nat} {xs : List Value} (h : w.ownsRow base e 1 v n xs) : w.ownsRow 0 e 1 v n xs := by
  rcases h.2 with h0 | ⟨g, cap, cur, h0, h1, h2⟩
  · exact ⟨h.1, .inl h0⟩
  · exact ⟨h.1, .inr ⟨g, cap, cur, h0, Nat.zero_le _, h2⟩⟩
theorem owns_new {w w' : World} {e : TypeId} {v : Value} {n : Nat} {xs : List Value} {r : Option Nat} (h : w'.ownsRow w.heap.size e 1 v n xs) (hv : v.ownBlock = none → r = none) : Moved w r v.ownBlock := by
  cases hb : v.ownBlock with
  | none => exact .inl (hv hb).symm
  | some g => exact .inr ⟨g, rfl, (h.lt g hb).1⟩

theorem run_appends {P : Program} (w : World) (t ty e : TypeId) (i : TypeInfo) (z : Value) (ht : P.underlying t = some (.slice e)) (hi : P.info? e = some i) (hz : i.zero = some z)
    (hsize : i.size = 1) (hby : i.bytes = 1) (hzs : z.cells.size = 1) (v : Value) (n : Nat) (xs : List Value) (hown : w.ownsRow 0 e 1 v n xs)
    (ad : Addr) (m c : Nat) (news : List Value) (hl : news.length = m) (hnews : ∀ j u, news[j]? = some u → w.cell? (ad.add j) = some u) (h1 : ∀ u ∈ news, u.oneCell' = true) (hb : n + m ≤ 140737488355328) :
    ∃ v' w', (Builtin.append_ #[t, t] ty #[v, .slice (some ad) m c]).run P w = .ok v' w' ∧ w'.ownsRow 0 e 1 v' (n + m) (xs ++ news) ∧ Chg (fun i => v.ownBlock = some i) w w' ∧ Moved w v.ownBlock v'.ownBlock := by
  have h63 : n + m ≤ maxLen := by unfold maxLen; omega
  rcases hown.2 with ⟨rfl, rfl⟩ | ⟨g, cap, cur, rfl, hbg, hg, hnc, hcm, hcs, htake⟩
  · have hxs : xs = [] := List.eq_nil_of_length_eq_zero (by simpa using hown.1)
    subst hxs
    obtain ⟨v', w', hr, ho, hgr, hiff⟩ := run_append_own (P := P) w w.heap.size t ty e i z 1 1 ht hi hz hsize hby hzs (by omega) (.slice none 0 0) 0 [] (World.ownsRow_nil _ _ _ _) ad m c news (by omega) hnews h1 h63 (by omega) (Nat.le_refl _)
    exact ⟨v', w', hr, owns_zero ho, Chg.of_grown hgr (fun j hj => by cases hj), owns_new (r := none) ho (fun _ => rfl)⟩
  · by_cases hroom : n + m ≤ cap
    · obtain ⟨w', hr, ho, hgr⟩ := run_append_fits (P := P) w 0 t ty e i 1 ht hi hsize g n cap xs hown ad m c news (by omega) hnews h1 hroom
      exact ⟨_, w', hr, ho, Chg.of_grown hgr (fun j hj => hj), .inl rfl⟩
    · obtain ⟨v', w', hr, ho, hgr⟩ := run_append_arg_grows (P := P) w t ty e i z 1 1 ht hi hz hsize hby hzs (by omega) ⟨g, 0, none⟩ n cap xs hown.1 (hown.cells rfl) ad m c news (by omega) hnews (by omega) h63 (by omega)
      refine ⟨v', w', hr, owns_zero ho, Chg.of_grown hgr (fun j hj => by cases hj), ?_⟩
      rcases ho.2 with ⟨rfl, h0⟩ | ⟨g', c', cur', rfl, hb', _⟩
      · omega
      · exact .inr ⟨g', rfl, hb'⟩

theorem wpList_appends {P : Program} (w : World) {ops : Array Oper} {rest : List Oper} {o : Oper} {a : Act} {Q : Exit → Act → World → Prop} (hgd : o.guard = none) (s x : Operand) (t : TypeId)
    (ho : o.op = .call { callee := .builtin .append, args := #[s, x], argTypes := #[t, t] }) (e : TypeId) (i : TypeInfo) (z : Value) (ht : P.underlying t = some (.slice e)) (hi : P.info? e = some i) (hz : i.zero = some z)
    (hsize : i.size = 1) (hby : i.bytes = 1) (hzs : z.cells.size = 1) (v : Value) (n : Nat) (xs : List Int) (hs : a.eval s = v) (hown : w.ownsRow 0 e 1 v n (cells8 xs))
    (ad : Option Addr) (m c : Nat) (l : List Int) (hx : a.eval x = .slice ad m c) (hsl : Sl w ad m l) (hnone : ad = none → m = 0 ∧ c = 0) (hb : n + m ≤ 140737488355328)
    (h : ∀ v' w', w'.ownsRow 0 e 1 v' (n + m) (cells8 (xs ++ l)) → Chg (fun i => v.ownBlock = some i) w w' → Moved w v.ownBlock v'.ownBlock → wpList P ops Q rest (a.put o.dst v') w') : wpList P ops Q (o :: rest) a w := by
  cases ad with
  | none =>
    obtain ⟨rfl, rfl⟩ := hnone rfl
    have hl : l = [] := List.eq_nil_of_length_eq_zero hsl.len
    subst hl
    refine wpList_append_own_none hgd s x t ho 0 e i 1 ht hi v n _ hs hown hx ?_
    exact h v w (by simpa using hown) (Chg.refl _ _) (.inl rfl)
  | some x' =>
    refine wpList_plain hgd fun K hK => ?_
    obtain ⟨v', w', hr, h1, h2, h3⟩ := run_appends (P := P) w t o.type e i z ht hi hz hsize hby hzs v n (cells8 xs) hown x' m c (cells8 l) (by rw [cells8_length, hsl.len]) hsl.cells (cells8_one l) hb
    unfold Oper.wp
    simp [execOp, ho, resolve, invoke, builtin, hs, hx, hr, Result.andThen]
    exact hK _ _ (h v' w' (by rw [cells8_append]; exact h1) h2 h3)

theorem wp_appends {P : Program} (w : World) {o : Oper} {a : Act} {K : Act → World → Prop} {Q : Exit → Act → World → Prop} (s x : Operand) (t : TypeId)
    (ho : o.op = .call { callee := .builtin .append, args := #[s, x], argTypes := #[t, t] }) (e : TypeId) (i : TypeInfo) (z : Value) (ht : P.underlying t = some (.slice e)) (hi : P.info? e = some i) (hz : i.zero = some z)
    (hsize : i.size = 1) (hby : i.bytes = 1) (hzs : z.cells.size = 1) (v : Value) (n : Nat) (xs : List Int) (hs : a.eval s = v) (hown : w.ownsRow 0 e 1 v n (cells8 xs))
    (ad : Option Addr) (m c : Nat) (l : List Int) (hx : a.eval x = .slice ad m c) (hsl : Sl w ad m l) (hnone : ad = none → m = 0 ∧ c = 0) (hb : n + m ≤ 140737488355328)
    (h : ∀ v' w', w'.ownsRow 0 e 1 v' (n + m) (cells8 (xs ++ l)) → Chg (fun i => v.ownBlock = some i) w w' → Moved w v.ownBlock v'.ownBlock → K (a.put o.dst v') w') : o.wp P a w K Q := by
  have hr : ∃ v' w', (Builtin.append_ #[t, t] o.type #[v, .slice ad m c]).run P w = .ok v' w' ∧ w'.ownsRow 0 e 1 v' (n + m) (cells8 (xs ++ l)) ∧ Chg (fun i => v.ownBlock = some i) w w' ∧ Moved w v.ownBlock v'.ownBlock := by
    cases ad with
    | none =>
      obtain ⟨rfl, rfl⟩ := hnone rfl
      have hl : l = [] := List.eq_nil_of_length_eq_zero hsl.len
      subst hl
      exact ⟨v, w, run_append_owned_none (P := P) (w := w) 0 t o.type e i 1 ht hi v n _ hown, by simpa using hown, Chg.refl _ _, .inl rfl⟩
    | some x' =>
      obtain ⟨v', w', hr, h1, h2, h3⟩ := run_appends (P := P) w t o.type e i z ht hi hz hsize hby hzs v n (cells8 xs) hown x' m c (cells8 l) (by rw [cells8_length, hsl.len]) hsl.cells (cells8_one l) hb
      exact ⟨v', w', hr, by rw [cells8_append]; exact h1, h2, h3⟩
  obtain ⟨v', w', hr, h1, h2, h3⟩ := hr
  unfold Oper.wp
  simp [execOp, ho, resolve, invoke, builtin, hs, hx, hr, Result.andThen]
  exact h v' w' h1 h2 h3
theorem step_appends {P : Program} (w : World) {ops : Array Oper} {o : Oper} {a : Act} {K : Act → World → Prop} {Q : Exit → Act → World → Prop} {E : Prop} (hgd : o.guard = none) (s x : Operand) (t : TypeId)
    (ho : o.op = .call { callee := .builtin .append, args := #[s, x], argTypes := #[t, t] }) (e : TypeId) (i : TypeInfo) (z : Value) (ht : P.underlying t = some (.slice e)) (hi : P.info? e = some i) (hz : i.zero = some z)
    (hsize : i.size = 1) (hby : i.bytes = 1) (hzs : z.cells.size = 1) (v : Value) (n : Nat) (xs : List Int) (hs : a.eval s = v) (hown : w.ownsRow 0 e 1 v n (cells8 xs))
    (ad : Option Addr) (m c : Nat) (l : List Int) (hx : a.eval x = .slice ad m c) (hsl : Sl w ad m l) (hnone : ad = none → m = 0 ∧ c = 0) (hb : n + m ≤ 140737488355328)
    (h : ∀ v' w', w'.ownsRow 0 e 1 v' (n + m) (cells8 (xs ++ l)) → Chg (fun i => v.ownBlock = some i) w w' → Moved w v.ownBlock v'.ownBlock → K (a.put o.dst v') w') :
    if Region.wanted o (yielded ops a.tmps) = true then Oper.wp P o a w K Q else E := by
  have hw : Region.wanted o (yielded ops a.tmps) = true := by simp [Region.wanted, hgd]
  rw [if_pos hw]
  exact wp_appends w s x t ho e i z ht hi hz hsize hby hzs v n xs hs hown ad m c l hx hsl hnone hb h

end Go.Proofs.YtalmpmhnkilalaaGreatDoor

/-
  Package wire's writer: put.
-/
namespace Go.Proofs.YtalmpmhnkilalaaGreatDoor
open Go.RowKit
set_option linter.unusedVariables false

theorem WV.grow {w w6 : World} {p : Nat} {rb : Option Nat} {s : Ws} {v v' : Value} {b : List Int} {n : Nat} (h : WV w p rb s v) (hn : n = s.out.length + b.length) (hb : Byte b)
    (ho : w6.ownsRow 0 5 1 v' n (cells8 (s.out ++ b))) (hc : Chg (fun i => v.ownBlock = some i) w w6) (hm : Moved w v.ownBlock v'.ownBlock) (hl : s.out.length + b.length ≤ s.most) :
    Blk w6 p 72 [v, .int .i64 (s.most : Int), .bool s.over, .bool s.wrong] ∧ ∃ rb', WV (w6.setCell ⟨p, 0, none⟩ v') p rb' { s with out := s.out ++ b } v' ∧ Chg (fpt p rb) w (w6.setCell ⟨p, 0, none⟩ v') ∧ Moved w rb rb' := by
  have hown := h.own
  rw [hown] at hc hm
  have hB : Blk w6 p 72 [v, .int .i64 (s.most : Int), .bool s.over, .bool s.wrong] := hc.blk h.blk (fun e => h.ne e)
  have hne : v'.ownBlock ≠ some p := by
    intro e
    rcases hm with k | ⟨g, k, hg⟩
    · exact h.ne (k.symm.trans e)
    · have := h.blk.lt
      rw [k] at e
      simp at e
      omega
  subst hn
  refine ⟨hB, v'.ownBlock, ⟨hne, rfl, hB.set 0 _, ?_, h.byte.append hb, by simpa using hl, h.most⟩, (hc.mono (G := fpt p rb) (fun i _ hi => .inr hi)).trans (Chg.set ⟨p, 0, none⟩ _ w6) (fun i _ hi => .inl hi), hm⟩
  rw [List.length_append]
  exact (Chg.set ⟨p, 0, none⟩ _ w6).owns ho (fun g hg e => hne (by rw [hg, e]))

set_option maxHeartbeats 1000000 in
set_option maxRecDepth 4000 in
theorem putW (p : Nat) (rb : Option Nat) (s : Ws) (ad : Option Addr) (n c : Nat) (b : List Int) (w : World) (h : Wt w p rb s) (hs : Sl w ad n b) (hnone : ad = none → n = 0 ∧ c = 0) (hn : n ≤ 70368744177664) :
    Calls Tryz.prog 86 #[.pointer (some ⟨p, 0, none⟩), .slice ad n c] w (WQ w p rb (s.put b)) := by
  obtain ⟨i0, hi, hz0, hz1, hz2⟩ := info_parts info5
  obtain ⟨v, h⟩ := h
  obtain ⟨a1, c1, rfl⟩ := owns_form h.row
  have hlen := hs.len
  obtain ⟨S, M, ov, wr⟩ := s
  simp only at h
  obtain ⟨k, hk⟩ : ∃ k, S.length = k := ⟨_, rfl⟩
  replace h : WV w p rb ⟨S, M, ov, wr⟩ (.slice a1 k c1) := by rw [← hk]; exact h
  have hM := h.most
  have hL := h.len
  simp only at hM hL
  have f0 := h.blk.frozen 0
  have f2 := h.blk.frozen 2
  have c0 : w.cell? ⟨p, 0, none⟩ = some (.slice a1 k c1) := h.blk.cell 0
  have cM : w.cell? ⟨p, 1, none⟩ = some (.int .i64 (M : Int)) := h.blk.cell 1
  have c2 : w.cell? ⟨p, 2, none⟩ = some (.bool ov) := h.blk.cell 2
  have HV := hidden h
  have HS := hidden hs
  have HK := hidden hk
  rw [hk] at hL
  clear h hs hk
  by_cases hgt : M < n + k
  · have e : (Ws.mk S M ov wr).put b = ⟨S, M, true, wr⟩ := by
      unfold Ws.put
      rw [if_pos]
      simp only [Bool.or_eq_true, decide_eq_true_eq]
      right
      rw [hlen, HK.out]
      omega
    rw [e]
    go_enter Tryz.func86, Tryz.ntmps86
    have hg1 : ((n : Int) > (M : Int) - (k : Int)) := by omega
    go_wp2_with fail
    go_quiet (fail)
    go_wp2_with fail
    go_end0
    refine ⟨rfl, rb, ⟨_, (HV.out.chg (Chg.drewN (fun _ => False) w nq) (fun _ _ e => e)).setOver⟩, ?_, .inl rfl⟩
    exact (Chg.drewN (fpt p rb) w nq).trans ((Chg.set ⟨p, 2, none⟩ _ _).mono (G := fpt p rb) (fun i _ hi => .inl hi)) (fun _ _ e => e)
  · have hg1 : ¬ ((n : Int) > (M : Int) - (k : Int)) := by omega
    cases ov with
    | true =>
      have e : (Ws.mk S M true wr).put b = ⟨S, M, true, wr⟩ := by
        unfold Ws.put
        rw [if_pos (by simp)]
      rw [e]
      go_enter Tryz.func86, Tryz.ntmps86
      go_wp2_with fail
      go_quiet (fail)
      go_wp2_with fail
      go_end0
      exact ⟨rfl, rb, ⟨_, HV.out.chg (Chg.drewN (fun _ => False) w nq) (fun _ _ e => e)⟩, Chg.drewN (fpt p rb) w nq, .inl rfl⟩
    | false =>
      have e : (Ws.mk S M false wr).put b = ⟨S ++ b, M, false, wr⟩ := by
        unfold Ws.put
        rw [if_neg]
        simp only [Bool.or_eq_true, decide_eq_true_eq, not_or]
        refine ⟨by simp, ?_⟩
        rw [hlen, HK.out]
        omega
      rw [e]
      go_enter Tryz.func86, Tryz.ntmps86
      go_wp2_with fail
      go_quiet (fail)
      have HV1 := hidden (HV.out.chg (Chg.drewN (fun _ => False) w nq) (fun _ _ e => e))
      have HS1 := hidden ((Chg.drewN (fun _ => False) w nq).sl HS.out (fun _ _ _ e => e))
      go_wp2_with (first
        | (at_builtin; refine wpList_appends _ rfl _ _ 22 rfl 5 i0 (.int .u8 0) Tryz.underlying22 hi hz0 hz1 hz2 rfl (.slice a1 k c1) S.length S rfl HV1.out.row ad n c b rfl HS1.out hnone (by have := HK.out; omega) ?_; intro v2 w2 o2 g2 m2; obtain ⟨a2, c2x, rfl⟩ := owns_form o2; obtain ⟨B2, rb', V2, C2, M2⟩ := WV.grow HV1.out (b := b) (n := S.length + n) (by rw [hlen]) HS.out.byte o2 g2 m2 (by rw [hlen]; have := HK.out; show S.length + n ≤ M; omega); have HV2 := hidden V2; have HC2 := hidden C2; have HM2 := hidden M2; have f02 := B2.frozen 0; have c02 := B2.cell 0; simp only [List.getElem?_cons_zero] at c02; clear V2 C2 M2 o2 g2 m2 B2))
      go_end0
      exact ⟨rfl, rb', ⟨_, HV2.out⟩, (Chg.drewN (fpt p rb) w nq).trans HC2.out (fun _ _ e => e), HM2.out⟩

end Go.Proofs.YtalmpmhnkilalaaGreatDoor
