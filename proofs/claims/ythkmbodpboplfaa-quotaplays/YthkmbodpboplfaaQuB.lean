/-
  Package quota: a book in memory; New, Get, Limits, Room, Drop.
-/
import Derived.Test.YthkmbodpboplfaaQuA
import Derived.Carry
import Derived.OwnWalk
namespace Go.Proofs.Ythkmbodpboplfaa
open Go.RowKit
set_option linter.unusedVariables false
set_option linter.unusedSimpArgs false

/-- A book: who is known. -/
abbrev Gk := ByteArray → Option Ac
def getA (g : Gk) (s : ByteArray) : Ac := (g s).getD aZ
def updA (g : Gk) (s : ByteArray) (v : Option Ac) : Gk := fun t => if t = s then v else g t
structure Bk (w : World) (p b : Nat) (g : Gk) : Prop where
  blk : Blk w p 54 [.map (some b)]
  mp : Mp w b (fun s => (g s).map aV)
  ok : ∀ s a, g s = some a → OkA a
theorem Bk.ne {w : World} {p b : Nat} {g : Gk} (h : Bk w p b g) : p ≠ b := fun e => h.mp.tg 54 (e ▸ h.blk.tg)
theorem Bk.later {w w' : World} {p b : Nat} {g : Gk} (h : Bk w p b g) (hb : Below w.heap.size w w') : Bk w' p b g := ⟨h.blk.later hb, h.mp.later hb, h.ok⟩
theorem Bk.chg {F : Nat → Prop} {w w' : World} {p b : Nat} {g : Gk} (h : Bk w p b g) (hc : Chg F w w') (h1 : ¬ F p) (h2 : ¬ F b) : Bk w' p b g := ⟨hc.blk h.blk h1, h.mp.chg hc h2, h.ok⟩
theorem mp_upd {w : World} {b : Nat} {g : Gk} {s : ByteArray} {v : Option Ac} (h : Mp w b (upd (fun s => (g s).map aV) s (v.map aV))) : Mp w b (fun t => (updA g s v t).map aV) := by
  have e : (fun t => (updA g s v t).map aV) = upd (fun s => (g s).map aV) s (v.map aV) := by
    funext t
    unfold updA upd
    split <;> rfl
  rw [e]
  exact h
theorem zero32 (w : World) : (zeroValue 32).run Try.prog w = .ok (aV aZ) w := by kernel_rfl
theorem Bk.look {w : World} {p b : Nat} {g : Gk} (h : Bk w p b g) (s : ByteArray) : (Instr.lookup 52 (.map (some b)) (.string s) false).run Try.prog w = .ok (aV (getA g s)) w := by
  rw [h.mp.look Try.underlying52 Try.underlying9 (zero32 w) s]
  unfold getA
  cases g s <;> rfl
theorem ok_ne {a : Ac} (h : OkA a) : decide (a = aZ) = false := by
  simp only [decide_eq_false_iff_not]
  rintro rfl
  have := h.ms
  simp [aZ] at this
theorem Bk.known {w : World} {p b : Nat} {g : Gk} (h : Bk w p b g) (s : ByteArray) : (!decide (getA g s = aZ)) = (g s).isSome := by
  unfold getA
  cases e : g s with
  | none => simp
  | some a => simp [ok_ne (h.ok s a e)]

theorem newP (w : World) : Calls Try.prog 7 #[] w fun e w' => ∃ p b, e = .returned (.pointer (some ⟨p, 0, none⟩)) ∧ Bk w' p b (fun _ => none) ∧ Below w.heap.size w w' ∧ w.heap.size ≤ p ∧ w.heap.size ≤ b := by
  have hmm := @run_makeMap Try.prog
  go_enter Try.func7, Try.ntmps7
  go_wp2_with fail
  go_ret
  have h1 := Blk.new (w.alloc (.map #[] 0)) 54 [.map (some w.heap.size)]
  rw [World.size_alloc] at h1
  exact ⟨w.heap.size + 1, w.heap.size, rfl, ⟨h1, (Mp.made w).later below_alloc, fun s a h => by cases h⟩, below_alloc.trans (Below.alloc (Below.refl _ _) (by simp) _), by omega, Nat.le_refl _⟩

theorem results_cell_row_tmp {P : Program} {fn : Func} {p u : Tmp} {ty : TypeId} (h : fn.results = #[.cell p ty, .tmp u]) (tmps : Array Value) (w : World) (g : Nat) (t : TypeId) (cs : Array Value) (fr : Nat × Nat) (d : TypeDesc)
    (hp : tmps.getD p undef = .pointer (some ⟨g, 0, none⟩)) (hg : w.heap[g]? = some (.cells cs t fr))
    (hu : P.underlying ty = some d) (hd : (match d with | .struct _ | .array _ _ => true | _ => false) = true) (hi : (P.info? ty).map (·.size) = some cs.size) :
    (results fn tmps).run P w = .ok (.tuple #[.agg cs, tmps.getD u undef]) w := by
  rw [results_cell_tmp h, hp]
  simp [asAddr, run_loadVar_row w g t ty cs fr d hg hu hd hi, Result.andThen]

theorem getP (s : ByteArray) (p b : Nat) (g : Gk) (w : World) (h : Bk w p b g) : Calls Try.prog 16 #[.pointer (some ⟨p, 0, none⟩), .string s] w fun e w' => e = .returned (.tuple #[aV (getA g s), .bool (g s).isSome]) ∧ Below w.heap.size w w' := by
  have hl : ∀ o : Obj, (Instr.lookup 52 (.map (some b)) (.string s) false).run Try.prog (w.alloc o) = .ok (aV (getA g s)) (w.alloc o) := fun o => (h.later below_alloc).look s
  have HK := hidden (fun (w : World) => knownE (getA g s) w)
  rw [h.known s] at HK
  have c0 := h.blk.cell 0
  simp only [List.getElem?_cons_zero] at c0
  have hpl := h.blk.lt
  clear h
  generalize (g s).isSome = ks at *
  generalize getA g s = a at *
  obtain ⟨m1, m2, m3, m4, m5⟩ := a
  unfold aV aL at *
  go_enter Try.func16, Try.ntmps16
  go_wp2_with fail
  go_region_with (refine (HK.out _).mono ?_; rintro e w3 ⟨rfl, rfl⟩)
  all_goals
    go_wp2_with fail
    refine bodyPost_ret (results_cell_row_tmp rfl _ _ w.heap.size 32 _ (0, 0) _ rfl (((Blk.new w 32 (aL ⟨m1, m2, m3, m4, m5⟩)).alloc _).alloc _) Try.underlying32 rfl (by kernel_rfl)) rfl ?_
    refine ⟨rfl, ?_⟩
    have b1 : Below w.heap.size w (((w.alloc (Obj.cells (aL ⟨m1, m2, m3, m4, m5⟩).toArray 32)).alloc (Obj.cells (aL ⟨m1, m2, m3, m4, m5⟩).toArray 32)).alloc (Obj.cells (aL ⟨m1, m2, m3, m4, m5⟩).toArray 32)) := (below_alloc.alloc (by simp) _).alloc (by simp; omega) _
    exact ⟨b1.os, b1.tape, b1.output, b1.size, b1.block⟩

theorem limitsP (s : ByteArray) (p b : Nat) (g : Gk) (w : World) (h : Bk w p b g) : Calls Try.prog 22 #[.pointer (some ⟨p, 0, none⟩), .string s] w fun e w' => e = .returned (.tuple #[.int .i64 (getA g s).ms, .int .i64 (getA g s).mx, .bool (g s).isSome]) ∧ Below w.heap.size w w' := by
  have HG := hidden (getP s p b g w h)
  clear h
  generalize (g s).isSome = ks at *
  generalize getA g s = a at *
  obtain ⟨m1, m2, m3, m4, m5⟩ := a
  unfold aV aL at *
  go_enter Try.func22, Try.ntmps22
  go_wp2_with (refine HG.out.mono ?_; clear HG; rintro e w3 ⟨rfl, hb3⟩)
  go_quiet (fail)
  go_wp2_with fail
  go_ret3
  exact ⟨rfl, below_drewN (hb3.trans (below_alloc.mono hb3.size)) _⟩

theorem durA_zero (n : Int) : (durA aZ n).ms - (durA aZ n).se = 0 ∧ (durA aZ n).mx - (durA aZ n).wr = 0 := by
  unfold durA
  split <;> simp [aZ]
/-- What may still come, and in the window of a call. -/
def roomA (a : Ac) (n : Int) : Int × Int := ((durA a n).ms - (durA a n).se, (durA a n).mx - (durA a n).wr)
theorem room_fits {a : Ac} (h : a = aZ ∨ OkA a) (n : Int) : (0 ≤ (roomA a n).1 ∧ (roomA a n).1 ≤ 1000000) ∧ (0 ≤ (roomA a n).2 ∧ (roomA a n).2 ≤ 1000000) := by
  rcases h with rfl | h
  · have := durA_zero n
    unfold roomA
    rw [this.1, this.2]
    simp
  · have h1 := h.ms
    have h2 := h.mx
    have h3 := h.se
    have h4 := h.wr
    unfold roomA durA
    split <;> simp <;> omega
theorem Bk.has {w : World} {p b : Nat} {g : Gk} (h : Bk w p b g) (s : ByteArray) : getA g s = aZ ∨ OkA (getA g s) := by
  unfold getA
  cases e : g s with
  | none => exact .inl rfl
  | some a => exact .inr (h.ok s a e)
theorem roomBP (s : ByteArray) (n : Int) (p b : Nat) (g : Gk) (w : World) (h : Bk w p b g) : Calls Try.prog 15 #[.pointer (some ⟨p, 0, none⟩), .string s, .int .i64 n] w fun e w' => e = .returned (.tuple #[.int .i64 (roomA (getA g s) n).1, .int .i64 (roomA (getA g s) n).2]) ∧ Below w.heap.size w w' := by
  have hl := h.look s
  have hf := room_fits (h.has s) n
  have HD := hidden (duringP (getA g s) n w)
  have HR := hidden (fun w : World => roomP (durA (getA g s) n) w (roomA (getA g s) n).1 (roomA (getA g s) n).2 rfl rfl (by unfold I64; omega) (by unfold I64; omega))
  have c0 := h.blk.cell 0
  simp only [List.getElem?_cons_zero] at c0
  clear h hf
  generalize (roomA (getA g s) n).1 = x at *
  generalize (roomA (getA g s) n).2 = y at *
  generalize durA (getA g s) n = a2 at *
  generalize getA g s = a at *
  go_enter Try.func15, Try.ntmps15
  go_wp2_with (first | (refine HD.out.mono ?_; clear HD; rintro e w3 ⟨rfl, hb3⟩) | (refine (HR.out _).mono ?_; clear HR; rintro e w4 ⟨rfl, hb4⟩))
  go_ret2
  exact ⟨rfl, hb3.trans (hb4.mono hb3.size)⟩

/-- Drop. -/
theorem dropP (s : ByteArray) (p b : Nat) (g : Gk) (w : World) (h : Bk w p b g) : Calls Try.prog 12 #[.pointer (some ⟨p, 0, none⟩), .string s] w fun e w' => e = .returned (.bool (g s).isSome) ∧ Bk w' p b (updA g s none) ∧ Chg (fun i => i = b) w w' := by
  have hl := h.look s
  have HK := hidden (knownP (getA g s) w)
  rw [h.known s] at HK
  have c0 := h.blk.cell 0
  simp only [List.getElem?_cons_zero] at c0
  have H := hidden h
  clear h
  generalize (g s).isSome = ks at *
  generalize getA g s = a at *
  go_enter Try.func12, Try.ntmps12
  go_wp2_with (refine HK.out.mono ?_; clear HK; rintro e w3 ⟨rfl, hb3⟩; have h3 := hidden (H.out.later hb3); have c3 := h3.out.blk.cell 0; simp only [List.getElem?_cons_zero] at c3; obtain ⟨w4, hdel, m4, k4, z4⟩ := h3.out.mp.drop (ty := 0) Try.underlying52 Try.underlying9 s)
  go_ret
  exact ⟨rfl, ⟨k4.blk h3.out.blk h3.out.ne, mp_upd m4, fun t a ht => by
    unfold updA at ht
    split at ht
    · cases ht
    · exact h3.out.ok t a ht⟩, (Chg.of_below hb3).trans k4 (fun i _ hi => hi)⟩

end Go.Proofs.Ythkmbodpboplfaa
