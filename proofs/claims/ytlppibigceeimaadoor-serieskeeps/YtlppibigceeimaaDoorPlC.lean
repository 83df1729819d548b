import Derived.Test.YtlppibigceeimaaDoorPlA
import Derived.Carry
import Derived.Lib.ConvBytes
import Derived.Lib.SmallJoins
/-
  Package pool: a pool, purely, and in memory; New.
-/
namespace Go.Proofs.YtlppibigceeimaaDoor.K
open Go.RowKit
set_option linter.unusedVariables false
set_option linter.unusedSimpArgs false

/-- Who has a slot, and what lies in it. -/
abbrev Sx := Nat → Option (ByteArray × ByteArray)
def leV (o d : ByteArray) : Value := .agg #[.string o, .string d]
def uV : Value := .agg #[]
def upS (st : Sx) (i : Nat) (x : Option (ByteArray × ByteArray)) : Sx := fun j => if j = i then x else st j
/-- All that are taken; all that an owner has. -/
def tkL (st : Sx) (n : Nat) : List (Int × Value) := (List.range n).filterMap fun i => (st i).map fun x => ((i : Int), leV x.1 x.2)
def setL (st : Sx) (n : Nat) (o : ByteArray) : List (Int × Value) := (List.range n).filterMap fun i => match st i with
  | some x => if x.1 = o then some ((i : Int), uV) else none
  | none => none
theorem mem_tkL {st : Sx} {n : Nat} {k : Int} {v : Value} : (k, v) ∈ tkL st n ↔ ∃ i, i < n ∧ ∃ x, st i = some x ∧ k = (i : Int) ∧ v = leV x.1 x.2 := by
  unfold tkL
  rw [List.mem_filterMap]
  constructor
  · rintro ⟨i, hi, h⟩
    cases e : st i with
    | none => rw [e] at h; cases h
    | some x =>
      rw [e] at h
      simp only [Option.map_some, Option.some.injEq, Prod.mk.injEq] at h
      exact ⟨i, List.mem_range.1 hi, x, e, h.1.symm, h.2.symm⟩
  · rintro ⟨i, hi, x, e, rfl, rfl⟩
    exact ⟨i, List.mem_range.2 hi, by rw [e]; rfl⟩
theorem mem_setL {st : Sx} {n : Nat} {o : ByteArray} {k : Int} {v : Value} : (k, v) ∈ setL st n o ↔ ∃ i, i < n ∧ (∃ d, st i = some (o, d)) ∧ k = (i : Int) ∧ v = uV := by
  unfold setL
  rw [List.mem_filterMap]
  constructor
  · rintro ⟨i, hi, h⟩
    cases e : st i with
    | none => rw [e] at h; cases h
    | some x =>
      rw [e] at h
      simp only at h
      split at h
      · next e1 =>
        simp only [Option.some.injEq, Prod.mk.injEq] at h
        exact ⟨i, List.mem_range.1 hi, ⟨x.2, by rw [e, ← e1]⟩, h.1.symm, h.2.symm⟩
      · cases h
  · rintro ⟨i, hi, ⟨d, e⟩, rfl, rfl⟩
    exact ⟨i, List.mem_range.2 hi, by rw [e]; simp⟩
theorem mem_rm {l : List (Int × Value)} {k : Int} {p : Int × Value} : p ∈ rm l k ↔ p ∈ l ∧ ¬ p.1 = k := by
  unfold rm
  simp
theorem nodup_keys_nodup {l : List (Int × Value)} (h : l.Pairwise (fun p q => ¬ p.1 = q.1)) : l.Nodup := h.imp (fun h e => h (by rw [e]))
theorem pw_filterMap (n : Nat) (f : Nat → Option (Int × Value)) (hf : ∀ i p, f i = some p → p.1 = (i : Int)) : ((List.range n).filterMap f).Pairwise (fun p q => ¬ p.1 = q.1) := by
  rw [List.pairwise_filterMap]
  have : (List.range n).Pairwise (fun a b => a < b) := List.pairwise_lt_range
  refine this.imp (fun {a b} hab p hp q hq e => ?_)
  rw [hf a p hp, hf b q hq] at e
  omega
theorem tk_pw (st : Sx) (n : Nat) : (tkL st n).Pairwise (fun p q => ¬ p.1 = q.1) := pw_filterMap n _ (fun i p h => by
  cases e : st i with
  | none => rw [e] at h; cases h
  | some x => rw [e] at h; simp only [Option.map_some, Option.some.injEq] at h; rw [← h])
theorem set_pw (st : Sx) (n : Nat) (o : ByteArray) : (setL st n o).Pairwise (fun p q => ¬ p.1 = q.1) := pw_filterMap n _ (fun i p h => by
  cases e : st i with
  | none => rw [e] at h; cases h
  | some x =>
    rw [e] at h
    simp only at h
    split at h
    · simp only [Option.some.injEq] at h; rw [← h]
    · cases h)
theorem rm_nodup {l : List (Int × Value)} (h : l.Pairwise (fun p q => ¬ p.1 = q.1)) (k : Int) : (rm l k).Nodup := nodup_keys_nodup (h.filter _)
theorem cons_nodup {l : List (Int × Value)} (h : l.Pairwise (fun p q => ¬ p.1 = q.1)) (k : Int) (v : Value) : ((k, v) :: rm l k).Nodup :=
  List.nodup_cons.2 ⟨fun hm => (mem_rm.1 hm).2 rfl, rm_nodup h k⟩
theorem tk_add (st : Sx) (n i : Nat) (o d : ByteArray) (hi : i < n) : (((i : Int), leV o d) :: rm (tkL st n) (i : Int)).Perm (tkL (upS st i (some (o, d))) n) := by
  rw [List.perm_ext_iff_of_nodup (cons_nodup (tk_pw st n) _ _) (nodup_keys_nodup (tk_pw _ n))]
  rintro ⟨k, v⟩
  rw [List.mem_cons, mem_rm, mem_tkL, mem_tkL]
  constructor
  · rintro (e | ⟨⟨j, hj, x, e, rfl, rfl⟩, hne⟩)
    · simp only [Prod.mk.injEq] at e
      exact ⟨i, hi, (o, d), by simp [upS], e.1, e.2⟩
    · simp only at hne
      exact ⟨j, hj, x, by unfold upS; rw [if_neg (by omega)]; exact e, rfl, rfl⟩
  · rintro ⟨j, hj, x, e, rfl, rfl⟩
    unfold upS at e
    split at e
    · next h =>
      subst h
      cases e
      exact .inl rfl
    · next h => exact .inr ⟨⟨j, hj, x, e, rfl, rfl⟩, by simp only; omega⟩
theorem tk_rm (st : Sx) (n i : Nat) : (rm (tkL st n) (i : Int)).Perm (tkL (upS st i none) n) := by
  rw [List.perm_ext_iff_of_nodup (rm_nodup (tk_pw st n) _) (nodup_keys_nodup (tk_pw _ n))]
  rintro ⟨k, v⟩
  rw [mem_rm, mem_tkL, mem_tkL]
  constructor
  · rintro ⟨⟨j, hj, x, e, rfl, rfl⟩, hne⟩
    simp only at hne
    exact ⟨j, hj, x, by unfold upS; rw [if_neg (by omega)]; exact e, rfl, rfl⟩
  · rintro ⟨j, hj, x, e, rfl, rfl⟩
    unfold upS at e
    split at e
    · cases e
    · next h => exact ⟨⟨j, hj, x, e, rfl, rfl⟩, by simp only; omega⟩
theorem set_add (st : Sx) (n i : Nat) (o d : ByteArray) (hi : i < n) : (((i : Int), uV) :: rm (setL st n o) (i : Int)).Perm (setL (upS st i (some (o, d))) n o) := by
  rw [List.perm_ext_iff_of_nodup (cons_nodup (set_pw st n o) _ _) (nodup_keys_nodup (set_pw _ n o))]
  rintro ⟨k, v⟩
  rw [List.mem_cons, mem_rm, mem_setL, mem_setL]
  constructor
  · rintro (e | ⟨⟨j, hj, ⟨x, e⟩, rfl, rfl⟩, hne⟩)
    · simp only [Prod.mk.injEq] at e
      exact ⟨i, hi, ⟨d, by simp [upS]⟩, e.1, e.2⟩
    · simp only at hne
      exact ⟨j, hj, ⟨x, by unfold upS; rw [if_neg (by omega)]; exact e⟩, rfl, rfl⟩
  · rintro ⟨j, hj, ⟨x, e⟩, rfl, rfl⟩
    unfold upS at e
    split at e
    · next h =>
      subst h
      exact .inl rfl
    · next h => exact .inr ⟨⟨j, hj, ⟨x, e⟩, rfl, rfl⟩, by simp only; omega⟩
theorem set_other (st : Sx) (n i : Nat) (o o' d : ByteArray) (hne : ¬ o' = o) (hs : st i = none) : (setL st n o').Perm (setL (upS st i (some (o, d))) n o') := by
  rw [List.perm_ext_iff_of_nodup (nodup_keys_nodup (set_pw st n o')) (nodup_keys_nodup (set_pw _ n o'))]
  rintro ⟨k, v⟩
  rw [mem_setL, mem_setL]
  constructor
  · rintro ⟨j, hj, ⟨x, e⟩, rfl, rfl⟩
    refine ⟨j, hj, ⟨x, ?_⟩, rfl, rfl⟩
    unfold upS
    split
    · next h => rw [h, hs] at e; cases e
    · exact e
  · rintro ⟨j, hj, ⟨x, e⟩, rfl, rfl⟩
    unfold upS at e
    split at e
    · simp only [Option.some.injEq, Prod.mk.injEq] at e
      exact absurd e.1.symm hne
    · exact ⟨j, hj, ⟨x, e⟩, rfl, rfl⟩
theorem set_rm (st : Sx) (n i : Nat) (o : ByteArray) : (rm (setL st n o) (i : Int)).Perm (setL (upS st i none) n o) := by
  rw [List.perm_ext_iff_of_nodup (rm_nodup (set_pw st n o) _) (nodup_keys_nodup (set_pw _ n o))]
  rintro ⟨k, v⟩
  rw [mem_rm, mem_setL, mem_setL]
  constructor
  · rintro ⟨⟨j, hj, x, rfl, rfl⟩, hne⟩
    simp only at hne
    exact ⟨j, hj, by unfold upS; rw [if_neg (by omega)]; exact x, rfl, rfl⟩
  · rintro ⟨j, hj, ⟨x, e⟩, rfl, rfl⟩
    unfold upS at e
    split at e
    · cases e
    · next h => exact ⟨⟨j, hj, ⟨x, e⟩, rfl, rfl⟩, by simp only; omega⟩
theorem al_tk {st : Sx} {n i : Nat} (hi : i < n) : al (tkL st n) (i : Int) = (st i).map fun x => leV x.1 x.2 := by
  cases e : st i with
  | some x => exact al_of_mem (tk_pw st n) (mem_tkL.2 ⟨i, hi, x, e, rfl, rfl⟩)
  | none =>
    refine al_none (fun p hp hk => ?_)
    obtain ⟨k, v⟩ := p
    obtain ⟨j, hj, x, ex, rfl, rfl⟩ := mem_tkL.1 hp
    simp only at hk
    obtain rfl : j = i := by omega
    rw [e] at ex
    cases ex
theorem al_tk_off {st : Sx} {n : Nat} {k : Int} (hk : k < 0 ∨ (n : Int) ≤ k) : al (tkL st n) k = none := by
  refine al_none (fun p hp e => ?_)
  obtain ⟨k', v⟩ := p
  obtain ⟨j, hj, x, ex, rfl, rfl⟩ := mem_tkL.1 hp
  simp only at e
  omega

def K3 : Int → Value := Value.int .i64
/-- A pool in memory. -/
structure Pl (w : World) (p n g tb ob : Nat) (ow : ByteArray → Option Nat) (st : Sx) : Prop where
  blk : Blk w p 55 [.int .i64 (n : Int), .slice (some ⟨g, 0, none⟩) ((n + 63) / 64) ((n + 63) / 64), .map (some tb), .map (some ob)]
  n1 : 1 ≤ n ∧ n ≤ 65536
  fr : Fr w g ((n + 63) / 64) (fun j => decide (j < n) && (st j).isNone)
  tk : Ml K3 w tb (tkL st n)
  own : ∃ lo : List (ByteArray × Value), Ml Value.string w ob lo ∧ ∀ o, al lo o = (ow o).map fun sb => Value.map (some sb)
  set : ∀ o sb, ow o = some sb → Ml K3 w sb (setL st n o) ∧ setL st n o ≠ [] ∧ sb ≠ tb ∧ sb ≠ ob
  non : ∀ o, ow o = none → setL st n o = []
  inj : ∀ o o' sb, ow o = some sb → ow o' = some sb → o = o'
  ne : tb ≠ ob
  fin : ∀ i, n ≤ i → st i = none
/-- What a call may change. -/
def PF (g tb ob : Nat) (ow : ByteArray → Option Nat) : Nat → Prop := fun i => i = g ∨ i = tb ∨ i = ob ∨ ∃ o, ow o = some i
theorem Pl.later {w w' : World} {p n g tb ob : Nat} {ow : ByteArray → Option Nat} {st : Sx} (h : Pl w p n g tb ob ow st) (hb : Below w.heap.size w w') : Pl w' p n g tb ob ow st := by
  obtain ⟨lo, h1, h2⟩ := h.own
  exact ⟨h.blk.later hb, h.n1, h.fr.later hb, h.tk.later hb, ⟨lo, h1.later hb, h2⟩, fun o sb e => ⟨(h.set o sb e).1.later hb, (h.set o sb e).2⟩, h.non, h.inj, h.ne, h.fin⟩

theorem built63 (n : Int) (g m tb ob : Nat) : Tryd.prog.built 55 [(0, .int .i64 n), (1, .slice (some ⟨g, 0, none⟩) m m), (2, .map (some tb)), (3, .map (some ob))] = some #[.int .i64 n, .slice (some ⟨g, 0, none⟩) m m, .map (some tb), .map (some ob)] := by kernel_rfl
/-- New. -/
theorem newP (n : Nat) (h1 : 1 ≤ n) (h2 : n ≤ 65536) (w : World) : Calls Tryd.prog 6 #[.int .i64 (n : Int)] w fun e w' => ∃ p g tb ob, e = .returned (.tuple #[.pointer (some ⟨p, 0, none⟩), .int .i64 0]) ∧ Pl w' p n g tb ob (fun _ => none) (fun _ => none) ∧ Below w.heap.size w w' ∧ w.heap.size ≤ p ∧ ∀ i, PF g tb ob (fun _ => none) i → w.heap.size ≤ i := by
  have hmm := @run_makeMap Tryd.prog
  have HR := hidden (rowOfP n h1 h2 w)
  obtain ⟨m, hm⟩ : ∃ m, (n + 63) / 64 = m := ⟨_, rfl⟩
  rw [hm] at HR
  have HM := hidden hm
  clear hm
  go_enter Tryd.func6, Tryd.ntmps6
  go_wp2_with (refine HR.out.mono ?_; clear HR; rintro e w1 ⟨rfl, f1, b1⟩; have F1 := hidden f1; have B1 := hidden b1; clear f1 b1)
  go_ret2
  have e1 : Below w1.heap.size w1 (((w1.alloc (.map #[] 0)).alloc (.map #[] 0)).alloc (.cells #[.int .i64 (n : Int), .slice (some ⟨w.heap.size, 0, none⟩) m m, .map (some w1.heap.size), .map (some (w1.heap.size + 1))] 55)) := ((((Below.refl _ _).alloc (Nat.le_refl _) _)).alloc (by simp) _).alloc (by simp; omega) _
  have t1 : Ml K3 (w1.alloc (.map #[] 0)) w1.heap.size [] := Ml.made K3 w1
  have t2 : Ml Value.string ((w1.alloc (.map #[] 0)).alloc (.map #[] 0)) (w1.heap.size + 1) [] := by
    have := Ml.made Value.string (w1.alloc (.map #[] 0))
    rw [World.size_alloc] at this
    exact this
  have t3 := Blk.new ((w1.alloc (.map #[] 0)).alloc (.map #[] 0)) 55 [.int .i64 (n : Int), .slice (some ⟨w.heap.size, 0, none⟩) m m, .map (some w1.heap.size), .map (some (w1.heap.size + 1))]
  rw [World.size_alloc, World.size_alloc] at t3
  have hz := B1.out.size
  refine ⟨w1.heap.size + 1 + 1, w.heap.size, w1.heap.size, w1.heap.size + 1, rfl, ⟨by rw [HM.out]; exact t3, ⟨h1, h2⟩, ?_, ?_, ⟨[], t2.later ((Below.refl _ _).alloc (Nat.le_refl _) _), fun o => rfl⟩, fun o sb e => (by cases e), fun o _ => ?_, fun o o' sb e => (by cases e), by omega, fun i _ => rfl⟩, B1.out.trans (e1.mono hz), by omega, ?_⟩
  · rw [HM.out]
    exact (F1.out.later e1).mono (fun j _ => by simp)
  · have e0 : tkL (fun _ => none) n = [] := by
      rw [List.eq_nil_iff_forall_not_mem]
      rintro ⟨k, v⟩ hm
      obtain ⟨i, _, x, e, _⟩ := mem_tkL.1 hm
      cases e
    rw [e0]
    exact (t1.later ((Below.refl _ _).alloc (Nat.le_refl _) _)).later ((Below.refl _ _).alloc (Nat.le_refl _) _)
  · rw [List.eq_nil_iff_forall_not_mem]
    rintro ⟨k, v⟩ hm
    obtain ⟨i, _, ⟨x, e⟩, _⟩ := mem_setL.1 hm
    cases e
  · rintro i (rfl | rfl | rfl | ⟨o, e⟩)
    · exact Nat.le_refl _
    · exact hz
    · omega
    · cases e

end Go.Proofs.YtlppibigceeimaaDoor.K

/-
  Package pool: Left, Used, Get, Put, release.
-/
namespace Go.Proofs.YtlppibigceeimaaDoor.K
open Go.RowKit
set_option linter.unusedVariables false
set_option linter.unusedSimpArgs false

theorem kyI : Ky Tryd.prog 3 K3 (.int .i64) := ky_int Tryd.underlying3
theorem kyS : Ky Tryd.prog 9 Value.string .string := ky_string Tryd.underlying9
theorem zero75 (w : World) : (zeroValue 93).run Tryd.prog w = .ok (leV ⟨#[]⟩ ⟨#[]⟩) w := by kernel_rfl
theorem zero77 (w : World) : (zeroValue 73).run Tryd.prog w = .ok (.map none) w := by kernel_rfl
theorem Pl.cells {w : World} {p n g tb ob : Nat} {ow : ByteArray → Option Nat} {st : Sx} (h : Pl w p n g tb ob ow st) :
    w.cell? ⟨p, 0, none⟩ = some (.int .i64 (n : Int)) ∧ w.cell? ⟨p, 1, none⟩ = some (.slice (some ⟨g, 0, none⟩) ((n + 63) / 64) ((n + 63) / 64)) ∧ w.cell? ⟨p, 2, none⟩ = some (.map (some tb)) ∧ w.cell? ⟨p, 3, none⟩ = some (.map (some ob)) :=
  ⟨h.blk.cell 0, h.blk.cell 1, h.blk.cell 2, h.blk.cell 3⟩
/-- What an owner's look-up tells. -/
theorem Pl.lookO {w : World} {p n g tb ob : Nat} {ow : ByteArray → Option Nat} {st : Sx} (h : Pl w p n g tb ob ow st) (o : ByteArray) : (Instr.lookup 53 (.map (some ob)) (.string o) false).run Tryd.prog w = .ok (.map (ow o)) w := by
  obtain ⟨lo, h1, h2⟩ := h.own
  have := h1.look kyS Tryd.underlying53 (zero77 w) o false
  rw [h2 o] at this
  rw [this]
  cases ow o <;> rfl
theorem Pl.lookT {w : World} {p n g tb ob : Nat} {ow : ByteArray → Option Nat} {st : Sx} (h : Pl w p n g tb ob ow st) (k : Int) : (Instr.lookup 52 (.map (some tb)) (.int .i64 k) true).run Tryd.prog w = .ok (.tuple #[(al (tkL st n) k).getD (leV ⟨#[]⟩ ⟨#[]⟩), .bool (al (tkL st n) k).isSome]) w := by
  have := h.tk.look kyI Tryd.underlying52 (zero75 w) k true
  rw [if_pos rfl] at this
  exact this
theorem Pl.lenS {w : World} {p n g tb ob : Nat} {ow : ByteArray → Option Nat} {st : Sx} (h : Pl w p n g tb ob ow st) (o : ByteArray) (ty : TypeId) : (Builtin.len_ #[73] ty #[.map (ow o)]).run Tryd.prog w = .ok (.int .i64 ((setL st n o).length : Int)) w := by
  cases e : ow o with
  | none =>
    rw [h.non o e]
    exact Maps.len_nil Tryd.underlying73 ty
  | some sb => exact (h.set o sb e).1.len Tryd.underlying73 ty
theorem tkL_len (st : Sx) (n : Nat) : (tkL st n).length ≤ n := by
  have := List.length_filterMap_le (fun i => (st i).map fun x => ((i : Int), leV x.1 x.2)) (List.range n)
  rw [List.length_range] at this
  exact this

theorem leftP (p n g tb ob : Nat) (ow : ByteArray → Option Nat) (st : Sx) (w : World) (h : Pl w p n g tb ob ow st) : Calls Tryd.prog 11 #[.pointer (some ⟨p, 0, none⟩)] w fun e w' => e = .returned (.int .i64 ((n - (tkL st n).length : Nat) : Int)) ∧ Below w.heap.size w w' := by
  obtain ⟨c0, c1, c2, c3⟩ := h.cells
  have hl := fun (w' : World) (hb : Below w.heap.size w w') (ty : TypeId) => (h.tk.later hb).len (P := Tryd.prog) Tryd.underlying52 ty
  have hn := h.n1
  have hle := tkL_len st n
  obtain ⟨T, hT⟩ : ∃ T, (tkL st n).length = T := ⟨_, rfl⟩
  rw [hT] at hl hle ⊢
  have e1 : (n : Int) - (T : Int) = ((n - T : Nat) : Int) := by omega
  have hl2 := hl w.drew (below_drewN (Below.refl _ _) 1) 3
  have hl1 := hl w (Below.refl _ _) 3
  clear h hT hl c1 c3
  go_enter Tryd.func11, Tryd.ntmps11
  go_wp2_with fail
  go_region
  all_goals
    go_wp2_with fail
    go_ret
    exact ⟨by first | rfl | (rw [← e1]), below_drewN (Below.refl _ _) 1⟩
theorem usedP (o : ByteArray) (p n g tb ob : Nat) (ow : ByteArray → Option Nat) (st : Sx) (w : World) (h : Pl w p n g tb ob ow st) : Calls Tryd.prog 17 #[.pointer (some ⟨p, 0, none⟩), .string o] w fun e w' => e = .returned (.int .i64 ((setL st n o).length : Int)) ∧ w' = w := by
  obtain ⟨c0, c1, c2, c3⟩ := h.cells
  have l1 := h.lookO o
  have l2 := h.lenS o 3
  clear h c0 c1 c2
  generalize ow o = x at *
  generalize ((setL st n o).length : Int) = T at *
  go_enter Tryd.func17, Tryd.ntmps17
  go_wp2_with fail
  go_ret
  exact ⟨rfl, rfl⟩

/-- Get. -/
theorem get_none (k : Int) (p n g tb ob : Nat) (ow : ByteArray → Option Nat) (st : Sx) (w : World) (h : Pl w p n g tb ob ow st) (hk : al (tkL st n) k = none) : Calls Tryd.prog 41 #[.pointer (some ⟨p, 0, none⟩), .int .i64 k] w fun e w' => e = .returned (.tuple #[.slice none 0 0, .int .i64 111]) ∧ Below w.heap.size w w' := by
  obtain ⟨c0, c1, c2, c3⟩ := h.cells
  have l1 := h.lookT k
  rw [hk] at l1
  simp only [Option.getD_none, Option.isSome_none, leV] at l1
  clear h hk c0 c1 c3
  go_enter Tryd.func41, Tryd.ntmps41
  go_wp2_with fail
  go_ret2
  exact ⟨rfl, (Below.refl _ _).alloc (Nat.le_refl _) _⟩
/-- The bytes of a text. -/
def bts (d : ByteArray) : List Int := d.data.toList.map fun (x : UInt8) => (x.toNat : Int)
theorem bts_length (d : ByteArray) : (bts d).length = d.size := by simp [bts]
theorem bts_byte (d : ByteArray) : Byte (bts d) := by
  intro n hn
  obtain ⟨x, _, rfl⟩ := List.mem_map.1 hn
  have := x.toNat_lt
  omega
theorem sl_bytes (w : World) (d : ByteArray) : Sl (Lib.bytesWorld w 5 d) (some ⟨w.heap.size, 0, none⟩) d.size (bts d) := by
  refine ⟨bts_length d, bts_byte d, fun j hj => ⟨_, rfl, ?_⟩⟩
  rw [Addr.add_lit, Nat.zero_add, Lib.bytesWorld_cell w 5 d j hj]
  congr 2
  have hl : j < d.data.size := hj
  simp only [bts, List.getD, List.getElem?_map, Array.getElem?_toList, Array.getElem?_eq_getElem hl]
  rfl
theorem tg_bytes (w : World) (d : ByteArray) : Tg (Lib.bytesWorld w 5 d) w.heap.size 5 := by
  have hz : w.drew.heap = w.heap := rfl
  have h : (w.heap.push (Obj.cells (Lib.bytesCells w 5 d) 5))[w.heap.size]? = some (Obj.cells (Lib.bytesCells w 5 d) 5) := by simp
  unfold Tg Lib.bytesWorld World.freeze
  rw [if_neg (by omega)]
  refine ⟨Lib.bytesCells w 5 d, ((Lib.bytesCells w 5 d).size, (Lib.bytesCells w 5 d).size + 1), ?_⟩
  simp [World.alloc, hz, Array.getElem_modify]
theorem get_some (k : Int) (o d : ByteArray) (p n g tb ob : Nat) (ow : ByteArray → Option Nat) (st : Sx) (w : World) (h : Pl w p n g tb ob ow st) (hk : al (tkL st n) k = some (leV o d)) : Calls Tryd.prog 41 #[.pointer (some ⟨p, 0, none⟩), .int .i64 k] w fun e w' => ∃ ga c, e = .returned (.tuple #[.slice (some ⟨ga, 0, none⟩) d.size c, .int .i64 0]) ∧ w.heap.size ≤ ga ∧ Sl w' (some ⟨ga, 0, none⟩) d.size (bts d) ∧ Below w.heap.size w w' ∧ Tg w' ga 5 := by
  obtain ⟨c0, c1, c2, c3⟩ := h.cells
  have l1 := h.lookT k
  rw [hk] at l1
  simp only [Option.getD_some, Option.isSome_some, leV] at l1
  have hcv := fun (w : World) => Lib.run_convert_string_bytes (P := Tryd.prog) w 9 70 5 d Tryd.underlying9 Tryd.underlying70 Tryd.underlying5
  have hs := fun (w : World) => sl_bytes w d
  have hbw := fun (w : World) => Go.Joins.below_bytesWorld w.heap.size w 5 d (Nat.le_refl _)
  have HS := hidden hs
  have HBW := hidden hbw
  clear h hk c0 c1 c3 hs hbw
  go_enter Tryd.func41, Tryd.ntmps41
  go_wp2_with fail
  go_ret2
  have hs9 := HS.out (w.alloc (Obj.cells #[.string o, .string d] 93))
  rw [World.size_alloc] at hs9
  have ht9 := tg_bytes (w.alloc (Obj.cells #[.string o, .string d] 93)) d
  rw [World.size_alloc] at ht9
  refine ⟨_, _, rfl, ?_, hs9, ?_, ht9⟩
  · simp
  · exact ((Below.refl _ _).alloc (Nat.le_refl _) _).trans ((HBW.out _).mono (by simp))

/-- release: what a caller leaves of the owners' sets is its own affair. -/
theorem releaseP (i p n g tb ob : Nat) (st : Sx) (w : World) (hi : i < n) (n1 : 1 ≤ n ∧ n ≤ 65536)
    (hB : Blk w p 55 [.int .i64 (n : Int), .slice (some ⟨g, 0, none⟩) ((n + 63) / 64) ((n + 63) / 64), .map (some tb), .map (some ob)]) (hF : Fr w g ((n + 63) / 64) (fun j => decide (j < n) && (st j).isNone)) (hT : Ml K3 w tb (tkL st n)) :
    Calls Tryd.prog 42 #[.pointer (some ⟨p, 0, none⟩), .int .i64 (i : Int)] w fun e w' => e = .returned (.tuple #[]) ∧ Fr w' g ((n + 63) / 64) (fun j => decide (j < n) && (upS st i none j).isNone) ∧ Ml K3 w' tb (tkL (upS st i none) n) ∧ Chg (fun j => j = g ∨ j = tb) w w' := by
  obtain ⟨m, hm⟩ : ∃ m, (n + 63) / 64 = m := ⟨_, rfl⟩
  have hmn : n ≤ 64 * m := by omega
  rw [hm] at hB hF ⊢
  clear hm
  have c1 := hB.cell 1
  have c2 := hB.cell 2
  simp only [List.getElem?_cons_zero, List.getElem?_cons_succ] at c1 c2
  obtain ⟨w1, r1, t1, k1, z1⟩ := hT.drop (P := Tryd.prog) (ty := 0) kyI Tryd.underlying52 (i : Int)
  have hpt : ¬ p = tb := fun e => hT.tg 55 (e ▸ hB.tg)
  have hgt : ¬ g = tb := fun e => hT.tg 33 (e ▸ hF.tg)
  have B1 := k1.blk hB hpt
  have d1 := B1.cell 1
  simp only [List.getElem?_cons_zero, List.getElem?_cons_succ] at d1
  have HA := hidden (addP g m m i _ w1 (hF.chg k1 hgt) (Nat.le_refl _) (by omega) (by omega))
  have T1 := hidden (t1.perm (tk_rm st n i))
  have K1 := hidden k1
  have HG := hidden hgt
  have hi2 := hidden hi
  unfold K3 at r1
  clear hB hF hT t1 k1 z1 hpt hgt B1 hi n1 hmn
  go_enter Tryd.func42, Tryd.ntmps42
  go_wp2_with (refine HA.out.mono ?_; clear HA; rintro e w3 ⟨rfl, f3, c3⟩; have F3 := hidden f3; have C3 := hidden c3; clear f3 c3)
  first
    | refine bodyPost_end (results_none rfl _ _ _) rfl ?_
    | refine bodyPost_ret (results_none rfl _ _ _) rfl ?_
  refine ⟨rfl, F3.out.mono (fun j _ => ?_), T1.out.chg C3.out (fun e => HG.out e.symm), (K1.out.mono (fun j _ hj => .inr hj)).trans C3.out (fun j _ hj => .inl hj)⟩
  unfold upS
  by_cases h : j = i
  · have := hi2.out
    simp [h, this]
  · simp [h]

end Go.Proofs.YtlppibigceeimaaDoor.K
