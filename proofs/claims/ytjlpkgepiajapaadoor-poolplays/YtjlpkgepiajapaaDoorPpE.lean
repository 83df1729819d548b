/-
  The document's pool: a copy of bytes; Get, Left, Slots, Used.
-/
import Derived.Test.YtjlpkgepiajapaaDoorPpC
import Derived.Laws.AppendOwnNone
namespace Go.Proofs.YtjlpkgepiajapaaDoor
open Go.RowKit
set_option linter.unusedVariables false
set_option linter.unusedSimpArgs false

theorem wpList_app_eq {P : Program} {w w' : World} {ops : Array Oper} {rest : List Oper} {o : Oper} {a : Act} {Q : Exit → Act → World → Prop} (hgd : o.guard = none) (s x : Operand) (t : TypeId)
    (ho : o.op = .call { callee := .builtin .append, args := #[s, x], argTypes := #[t, t] }) (v1 v2 r : Value) (hs : a.eval s = v1) (hx : a.eval x = v2)
    (hr : (Builtin.append_ #[t, t] o.type #[v1, v2]).run P w = .ok r w') (h : wpList P ops Q rest (a.put o.dst r) w') : wpList P ops Q (o :: rest) a w := by
  refine wpList_plain hgd fun K hK => ?_
  unfold Oper.wp
  simp [execOp, ho, resolve, invoke, builtin, hs, hx, hr, Result.andThen]
  exact hK _ _ h
theorem inf5 : ∃ i0, Tryd.prog.info? 5 = some i0 ∧ i0.zero = some (.int .u8 0) ∧ i0.size = 1 ∧ i0.bytes = 1 := info_parts info5
theorem run_ap0 (w : World) (ty : TypeId) : (Builtin.append_ #[40, 40] ty #[.slice none 0 0, .slice none 0 0]).run Tryd.prog w = .ok (.slice none 0 0) w := by kernel_rfl
/-- A copy of bytes: a new row, or none. -/
theorem run_apS (w : World) (ty : TypeId) (ad : Option Addr) (m c : Nat) (l : List Int) (hs : Sl w ad m l) (hn : ad = none → m = 0 ∧ c = 0) (hm : m ≤ 140737488355328) :
    ∃ ad' c' w', (Builtin.append_ #[40, 40] ty #[.slice none 0 0, .slice ad m c]).run Tryd.prog w = .ok (.slice ad' m c') w' ∧ Sl w' ad' m l ∧ Below w.heap.size w w' ∧ (ad' = none → m = 0 ∧ c' = 0) ∧ (∀ x, ad' = some x → w.heap.size ≤ x.block ∧ Tg w' x.block 5) := by
  obtain ⟨i0, hi0, hz0, hz1, hz2⟩ := inf5
  cases ad with
  | none =>
    obtain ⟨rfl, rfl⟩ := hn rfl
    have hl : l = [] := List.eq_nil_of_length_eq_zero hs.len
    subst hl
    exact ⟨none, 0, w, run_ap0 w ty, Sl.nil _ _, Below.refl _ _, fun _ => ⟨rfl, rfl⟩, fun x hx => by cases hx⟩
  | some x =>
    obtain ⟨v', w', hr, ho, hgr, hiff⟩ := run_append_own (P := Tryd.prog) w w.heap.size 40 ty 5 i0 (.int .u8 0) 1 1 Tryd.underlying40 hi0 hz0 hz1 hz2 rfl (by omega) (.slice none 0 0) 0 [] (World.ownsRow_nil _ _ _ _) x m c (cells8 l) (by rw [cells8_length, hs.len]; omega) hs.cells (cells8_one l) (by unfold maxLen; omega) (by omega) (Nat.le_refl _)
    rw [Nat.zero_add, List.nil_append] at ho
    obtain ⟨ad', c', rfl⟩ := owns_form ho
    have hcap := owns_cap ho
    refine ⟨ad', c', w', hr, sl_of_owns ho hs.byte, grown_below (e := 5) (size := 1) hgr (World.ownsRow_nil _ _ _ _) (Nat.le_refl _), fun e => ⟨(hcap.2.2.2 e).1, (hcap.2.2.2 e).2⟩, fun y hy => ?_⟩
    subst hy
    rcases ho.2 with ⟨h0, _⟩ | ⟨g', cap', cur, hv, hb', hh, _⟩
    · cases h0
    · simp only [Value.slice.injEq, Option.some.injEq] at hv
      rw [hv.1]
      exact ⟨hb', ⟨_, _, hh⟩⟩

set_option maxHeartbeats 1000000 in
theorem getR (k : Int) (r q n : Nat) (st : Sx) (B : Nat → Value) (w : World) (h : RP w r q n st B) (hd : ∀ i o d, st i = some (o, d) → d.size ≤ 128) :
    Calls Tryd.prog 23 #[.pointer (some ⟨r, 0, none⟩), .int .i64 k] w fun e w' => Below w.heap.size w w' ∧ ((atS st n k = none ∧ e = .returned (.tuple #[.slice none 0 0, .int .i64 111])) ∨
      ∃ i o d ad c, atS st n k = some (i, o, d) ∧ e = .returned (.tuple #[.slice ad d.size c, .int .i64 0]) ∧ Sl w' ad d.size (bts d) ∧ ∀ x, ad = some x → w.heap.size ≤ x.block) := by
  have c0 := h.c0
  have hn := h.n1
  have HR := hidden h
  have HIS := hidden (atS_isR k r q n st B w h)
  clear h
  rcases atS_cases st n k with ⟨e1, e2⟩ | ⟨i, o, d, e1, rfl, hi, hst, e2⟩
  · rw [e1] at HIS
    have E1 := hidden e1
    clear e2 e1
    go_enter Tryd.func23, Tryd.ntmps23
    go_wp2_with (refine HIS.out.mono ?_; clear HIS; rintro e w1 ⟨rfl, rfl⟩)
    go_ret2
    exact ⟨Below.refl _ _, .inl ⟨E1.out, rfl⟩⟩
  · rw [e1] at HIS
    have E1 := hidden e1
    clear e2 e1
    obtain ⟨ad, c, eB, hS, hno, _⟩ := HR.out.byt i o d hst
    have hds := hd i o d hst
    have k2 := HR.out.k2 hi hst
    rw [eB] at k2
    obtain ⟨a', c', w9, hr, h1, h2, h3, h4⟩ := run_apS w 40 ad d.size c (bts d) hS hno (by omega)
    have H1 := hidden (And.intro h1 h2)
    have H4 := hidden (fun x hx => (h4 x hx).1)
    clear hst eB h1 h2 h3 h4 hS hno hd hds
    generalize hm9 : d.size = m9 at hr k2 H1
    have HM9 := hidden hm9
    clear hm9 hn
    have HRR := hidden hr
    clear hr
    go_enter Tryd.func23, Tryd.ntmps23
    go_wp2_with (first | (refine HIS.out.mono ?_; clear HIS; rintro e w1 ⟨rfl, rfl⟩) | (refine wpList_app_eq rfl (.tmp 13) (.tmp 21) 40 rfl (.slice none 0 0) (.slice ad m9 c) (.slice a' m9 c') rfl rfl HRR.out ?_))
    go_ret2
    exact ⟨H1.out.2, .inr ⟨i, o, d, a', c', E1.out, by rw [HM9.out]; rfl, by rw [HM9.out]; exact H1.out.1, H4.out⟩⟩
/-- How many slots below are free. -/
def frL (st : Sx) (i : Nat) : Nat := ((List.range i).filter fun j => (st j).isNone).length
theorem frL_succ (st : Sx) (i : Nat) : frL st (i + 1) = frL st i + (if (st i).isNone then 1 else 0) := by
  unfold frL
  rw [List.range_succ, List.filter_append, List.length_append]
  cases e : st i <;> simp [e]
theorem frL_le (st : Sx) (i : Nat) : frL st i ≤ i := by
  unfold frL
  have := List.length_filter_le (fun j => (st j).isNone) (List.range i)
  simpa using this
theorem frL_tk (st : Sx) (n : Nat) : frL st n + (tkL st n).length = n := by
  have key : ∀ l : List Nat, (l.filter fun j => (st j).isNone).length + (l.filterMap fun i => (st i).map fun x => ((i : Int), leV x.1 x.2)).length = l.length := by
    intro l
    induction l with
    | nil => rfl
    | cons i l ih =>
      cases e : st i with
      | none => simp [e]; omega
      | some x => simp [e]; omega
  have := key (List.range n)
  rw [List.length_range] at this
  exact this
set_option maxHeartbeats 1000000 in
theorem leftR (r q n : Nat) (st : Sx) (B : Nat → Value) (w : World) (h : RP w r q n st B) :
    Calls Tryd.prog 29 #[.pointer (some ⟨r, 0, none⟩)] w fun e w' => e = .returned (.int .i64 ((n - (tkL st n).length : Nat) : Int)) ∧ w' = w := by
  have c0 := h.c0
  have hn := h.n1
  have HR := hidden h
  have HT := hidden (frL_tk st n)
  clear h
  go_enter Tryd.func29, Tryd.ntmps29
  go_wp2_with fail
  go_loopw [3, 4] (fun v3 v4 wx => ∃ i : Nat, v3 = .int .i64 (frL st i : Int) ∧ v4 = .int .i64 (i : Int) ∧ i ≤ n ∧ wx = w) (fun _ v4 _ => n - (intOf v4).toNat)
  case atStart => exact ⟨0, rfl, rfl, by omega, rfl⟩
  case round =>
    obtain ⟨i, rfl, rfl, hi, rfl⟩ := hrel
    have hfi := frL_le st i
    have hfs := frL_succ st i
    obtain ⟨f, hf⟩ : ∃ f, frL st i = f := ⟨_, rfl⟩
    rw [hf] at hfi hfs ⊢
    have HF := hidden hf
    clear hf
    by_cases hin : i < n
    · cases hs : st i with
      | none =>
        rw [hs] at hfs
        have HFS := hidden hfs
        have k0 := HR.out.k0 hin (show (st i).isSome = false by rw [hs]; rfl)
        clear hfs hs
        go_wp2_with fail
        refine ⟨⟨i + 1, by rw [HFS.out]; first | rfl | simp, by first | rfl | simp, by omega, by first | rfl | trivial⟩, ?_⟩
        show n - ((i : Int) + 1).toNat < n - (i : Int).toNat
        omega
      | some x =>
        rw [hs] at hfs
        have HFS := hidden hfs
        have k0 := HR.out.k0 hin (show (st i).isSome = true by rw [hs]; rfl)
        clear hfs hs
        go_wp2_with fail
        refine ⟨⟨i + 1, by rw [HFS.out]; first | rfl | simp, by first | rfl | simp, by omega, by first | rfl | trivial⟩, ?_⟩
        show n - ((i : Int) + 1).toNat < n - (i : Int).toNat
        omega
    · have hfv : (f : Int) = ((n - (tkL st n).length : Nat) : Int) := by
        have h1 := HT.out
        have h2 := HF.out
        rw [show i = n by omega] at h2
        omega
      have HV := hidden hfv
      clear hfs hfv
      go_wp2_with fail
      go_ret
      exact ⟨by rw [HV.out]; rfl, rfl⟩

end Go.Proofs.YtjlpkgepiajapaaDoor
