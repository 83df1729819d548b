import Derived.Test.YthfapajpmcmfeaaRfB
import Derived.Test.YthfapajpmcmfeaaBackM
import Derived.Laws.CopyOwn
namespace Go.Proofs.Ythfapajpmcmfeaa
open Go.RowKit
set_option linter.unusedVariables false

/-- 'copy' into a variable that is known whole. -/
theorem wpList_copy_blk {P : Program} {ops : Array Oper} {rest : List Oper} {o : Oper} {a : Act} {w : World} {Q : Exit → Act → World → Prop} (hgd : o.guard = none) (d s : Operand) (dT sT : TypeId)
    (ho : o.op = .call { callee := .builtin .copy, args := #[d, s], argTypes := #[dT, sT] }) (elem : TypeId) (hu : P.underlying dT = some (.slice elem)) (hsz : (P.info? elem).map (·.size) = some 1)
    (g off dLen dCap : Nat) (ad : Addr) (sLen sCap : Nat) (hd : a.eval d = .slice (some ⟨g, off, none⟩) dLen dCap) (hs : a.eval s = .slice (some ad) sLen sCap)
    (cur : List Value) (t : TypeId) (hB : Blk w g t cur) (cs : List Value) (hn : cs.length = Nat.min sLen dLen)
    (hsrc : ∀ j v, cs[j]? = some v → w.cell? (ad.add j) = some v) (hfit : off + cs.length ≤ cur.length) (h1 : ∀ v ∈ cs, v.oneCell' = true)
    (h : ∀ w', Blk w' g t (splice cur off cs) → w.grownBy w' (some g) → wpList P ops Q rest (a.put o.dst (goInt cs.length)) w') :
    wpList P ops Q (o :: rest) a w := by
  refine wpList_plain hgd fun K hK' => ?_
  have hrun := run_copy_row (P := P) w dT sT o.type elem g off dLen dCap ad sLen sCap cur.toArray t cs hu hsz hB hn hsrc (by simpa using hfit) h1
  unfold Oper.wp
  simp [execOp, ho, resolve, invoke, builtin, hd, hs, hrun, Result.andThen]
  exact hK' _ _ (h _ (show _ = _ by simpa [splice] using setRow_heap w g _ _ t _ hB) ⟨rfl, rfl, rfl, by simp [World.setRow], fun k _ hk => setRow_other w g k _ (fun e => hk (by simp [e]))⟩)
theorem size5 : (Try.prog.info? 5).map (·.size) = some 1 := by kernel_rfl

/-- 'copy' of what is read to the front of a row of bytes that is known whole. -/
theorem wpList_copy_in {ops : Array Oper} {rest : List Oper} {o : Oper} {a : Act} {w : World} {Q : Exit → Act → World → Prop} (hgd : o.guard = none) (d s : Operand)
    (ho : o.op = .call { callee := .builtin .copy, args := #[d, s], argTypes := #[29, 29] }) (g m : Nat) (a0 : Option Addr) (n cap0 : Nat) (hd : a.eval d = .slice (some ⟨g, 0, none⟩) m m) (hs : a.eval s = .slice a0 n cap0)
    (l cur : List Int) (hS : Sl w a0 n l) (hm : n ≤ m) (hcl : cur.length = m) (hB : Blk w g 5 (cells8 cur))
    (h : ∀ w', Blk w' g 5 (cells8 (l ++ cur.drop n)) → w.grownBy w' (some g) → wpList Try.prog ops Q rest (a.put o.dst (goInt n)) w') : wpList Try.prog ops Q (o :: rest) a w := by
  cases a0 with
  | none =>
    have h0 : n = 0 := by
      rcases Nat.eq_zero_or_pos n with h0 | h0
      · exact h0
      · obtain ⟨x, hx, _⟩ := hS.cell 0 h0
        cases hx
    subst h0
    have hl : l = [] := List.eq_nil_of_length_eq_zero hS.len
    subst hl
    refine wpList_plain hgd fun K hK' => ?_
    have hrun := run_copy_none (P := Try.prog) w 29 29 o.type 5 (some ⟨g, 0, none⟩) none m m 0 cap0 Try.underlying29 size5 (by simp)
    unfold Oper.wp
    simp [execOp, ho, resolve, invoke, builtin, hd, hs, hrun, Result.andThen]
    exact hK' _ _ (h w (by simpa using hB) (World.grownBy.refl _ _))
  | some x =>
    refine wpList_copy_blk hgd d s 29 29 ho 5 Try.underlying29 size5 g 0 m m x n cap0 hd hs (cells8 cur) 5 hB (cells8 l) (by rw [cells8_length, hS.len]; exact (Nat.min_eq_left hm).symm) hS.cells (by rw [cells8_length, cells8_length, hS.len]; omega) (cells8_one l) ?_
    intro w' h1 h2
    have e : splice (cells8 cur) 0 (cells8 l) = cells8 (l ++ cur.drop n) := by
      unfold splice
      rw [cells8_append, List.take_zero, List.nil_append, Nat.zero_add, cells8_length, hS.len]
      simp [cells8, List.map_drop]
    rw [e] at h1
    have h3 := h w' h1 h2
    rw [cells8_length, hS.len]
    exact h3

/-- A reader none of whose memory is as old as w. -/
theorem newReader_apart (ad : Option Addr) (n c : Nat) (l : List Int) (w : World) (h : Sl w ad n l) (hn : n ≤ 70368744177664) (hnone : ad = none → n = 0 ∧ c = 0) :
    Calls Try.prog 11 #[.slice ad n c] w fun e w' => ∃ p, e = .returned (.pointer (some ⟨p, 0, none⟩)) ∧ w.heap.size ≤ p ∧ p < w'.heap.size ∧ (∀ w'', Chg (fun i => i < w.heap.size) w' w'' → RS w'' p l 0) ∧ Below w.heap.size w w' := by
  have HS := hidden h
  have HNO := hidden hnone
  clear h hnone
  go_enter Try.func11, Try.ntmps11
  go_wp2_with fail
  refine (clone_any ad n c l w HS.out hn HNO.out).mono ?_
  rintro e w1 ⟨ad', c', rfl, ho, hb⟩
  go_wp2_with (first
    | (refine wpList_build_to rfl 59 #[(0, .tmp 4)] rfl [(0, .slice ad' n c')] #[.slice ad' n c', .int .i64 0] ?_ (built59 _ _ _) ?_; kernel_rfl)
    | (refine wpList_box_blk rfl 59 (.tmp 5) rfl [.slice ad' n c', .int .i64 0] rfl ?_; intro w2 B2 bl2 hz2))
  go_ret
  have hl := HS.out.len
  refine ⟨_, rfl, hb.size, B2.lt, fun w'' hc => ?_, hb.trans (bl2.mono hb.size)⟩
  have ho2 : w2.ownsRow w.heap.size 5 1 (.slice ad' n c') n (cells8 l) := (Chg.of_below (F := fun _ => False) bl2).owns ho (fun _ _ h => h)
  have ho3 := hc.owns ho2 (fun g hg => by have := (ho2.lt g hg).1; omega)
  have hS := sl_of_owns ho3 HS.out.byte
  refine ⟨by omega, ad', c', by rw [hl]; exact hc.blk B2 (by have := hb.size; omega), by rw [hl]; exact hS, fun x hx hp => ?_⟩
  have := (sl_of_owns ho HS.out.byte).lt x hx (by omega)
  omega

theorem RS.apart {w w' : World} {p q t : Nat} {l : List Int} {vs : List Value} (h : RS w p l t) (hc : Chg (fun i => i = q) w w') (hq : Blk w q 61 vs) (hv : ∀ x : Int, (.int .u8 x : Value) ∉ vs) : RS w' p l t := by
  obtain ⟨h1, ad, c, hB, hS, hne⟩ := h
  refine ⟨h1, ad, c, hc.blk hB ?_, hc.sl hS ?_, hne⟩
  · rintro rfl
    unfold Blk at hB hq
    rw [hB] at hq
    cases hq
  · intro x hx hp e
    obtain ⟨y, hy, hcell⟩ := hS.cell 0 hp
    rw [hx] at hy
    obtain rfl := Option.some.inj hy
    obtain ⟨b, off, sp⟩ := x
    have hs : sp = none := by simpa [Addr.add] using World.cell?_spot hcell
    subst hs
    simp only at e
    subst e
    rw [Addr.add_lit, hq.cell] at hcell
    exact hv _ (List.mem_of_getElem? hcell)
theorem SS.blk61 {w : World} {q t : Nat} {L : List Bool} (h : SS w q L t) : ∃ vs, Blk w q 61 vs ∧ ∀ x : Int, (.int .u8 x : Value) ∉ vs := by
  obtain ⟨_, v, hB, hO, _⟩ := h
  obtain ⟨ad, c, rfl⟩ := owns_form hO
  exact ⟨_, hB, fun x => by simp⟩
theorem SS.apart {w w' : World} {p q t s : Nat} {L : List Bool} {l : List Int} (h : SS w q L t) (hR : RS w p l s) (hc : Chg (fun i => i = p) w w') : SS w' q L t := by
  obtain ⟨_, ad, c, hB, _⟩ := hR
  refine h.chg hc ?_ ?_
  · rintro rfl
    obtain ⟨vs, hq, _⟩ := h.blk61
    unfold Blk at hB hq
    rw [hB] at hq
    cases hq
  · rintro g cs hg rfl
    unfold Blk at hB
    rw [hB] at hg
    cases hg
theorem rep_range (l : List Int) : Rep l ((List.range (8 * l.length)).map (bt l)) := by
  intro i
  by_cases h : i < 8 * l.length
  · simp [List.getD, h]
  · rw [bt_beyond l i (by omega)]
    simp [List.getD, h]

/-- Filling a row. -/
theorem fill_step (a b : List Int) (x y : Int) (i : Nat) (h : a.length = i) : (a ++ y :: b).set i x = (a ++ [x]) ++ b := by
  subst h
  simp
theorem Blk.row8 {w : World} {g : Nat} {l : List Int} (h : Blk w g 5 (cells8 l)) (hb : Byte l) (n : Nat) (hn : n ≤ l.length) : Sl w (some ⟨g, 0, none⟩) n (l.take n) := by
  refine ⟨by simp; omega, hb.take n, fun j hj => ⟨_, rfl, ?_⟩⟩
  rw [Addr.add_lit, h.cell]
  simp [cells8, List.getD, show j < l.length by omega, hj]

end Go.Proofs.Ythfapajpmcmfeaa
