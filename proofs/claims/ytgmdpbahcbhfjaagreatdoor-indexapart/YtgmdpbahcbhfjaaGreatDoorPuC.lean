import Derived.Test.YtgmdpbahcbhfjaaGreatDoorPtX
import Derived.Laws.OwnMore
set_option linter.unusedSimpArgs false
set_option linter.unusedVariables false
set_option maxHeartbeats 40000000
set_option maxRecDepth 100000
/-
  The machine in memory.
-/
namespace Go.Proofs.YtgmdpbahcbhfjaaGreatDoor
open Go.RowKit

theorem info102 : (Tryz.prog.info? 282).map (fun i => (i.zero, i.size, i.bytes)) = some (some (.agg #[.slice none 0 0, .int .u64 0]), 2, 32) := by kernel_rfl

/-- What a spot takes, as a value. -/
def TkV (F : Nat → Prop) (w : World) (v : Value) (l : Sn) : Prop := ∃ ad c, v = .slice ad l.length c ∧ Ss w ad l ∧ (∀ y, l ≠ [] → ad = some y → F y.block) ∧ l.length ≤ 2000
theorem TkV.mono {F G : Nat → Prop} {w : World} {v : Value} {l : Sn} (h : TkV F w v l) (hFG : ∀ b, F b → G b) : TkV G w v l := by
  obtain ⟨ad, c, e, h1, h2, h3⟩ := h
  exact ⟨ad, c, e, h1, fun y h0 e => hFG _ (h2 y h0 e), h3⟩
theorem TkV.keep {F G : Nat → Prop} {w w' : World} {v : Value} {l : Sn} (h : TkV F w v l) (hc : Chg G w w') (hd : ∀ b, F b → ¬ G b) : TkV F w' v l := by
  obtain ⟨ad, c, e, hs, hf, h3⟩ := h
  refine ⟨ad, c, e, ⟨hs.sz, fun h0 => ?_⟩, hf, h3⟩
  obtain ⟨b, off, e1, hlt, hcell⟩ := hs.at' h0
  have hbk := hc.block b hlt (hd b (hf _ h0 e1))
  refine ⟨b, off, e1, Nat.lt_of_lt_of_le hlt hc.size, fun k x hx => ?_⟩
  rw [show w'.cell? ⟨b, off + k * 2, none⟩ = w.cell? ⟨b, off + k * 2, none⟩ from World.cell?_of_block hbk, show w'.cell? ⟨b, off + k * 2 + 1, none⟩ = w.cell? ⟨b, off + k * 2 + 1, none⟩ from World.cell?_of_block hbk]
  exact hcell k x hx

def cQ (l : List (Value × Nat)) : List Value := l.flatMap (fun x => [x.1, .int .u64 (x.2 : Int)])
theorem cQ_cons (x : Value × Nat) (l : List (Value × Nat)) : cQ (x :: l) = x.1 :: .int .u64 (x.2 : Int) :: cQ l := by simp [cQ]
theorem cQ_append (l m : List (Value × Nat)) : cQ (l ++ m) = cQ l ++ cQ m := by simp [cQ]
theorem cQ_get : ∀ (l : List (Value × Nat)) (i : Nat) (x : Value × Nat), l[i]? = some x → (cQ l)[i * 2]? = some x.1 ∧ (cQ l)[i * 2 + 1]? = some (.int .u64 (x.2 : Int))
  | [], i, x, h => by simp at h
  | y :: t, 0, x, h => by simp at h; subst h; rw [cQ_cons]; exact ⟨rfl, rfl⟩
  | y :: t, i + 1, x, h => by
    rw [cQ_cons, show (i + 1) * 2 = i * 2 + 1 + 1 by omega, show i * 2 + 1 + 1 + 1 = (i * 2 + 1) + 1 + 1 by omega]
    simp only [List.getElem?_cons_succ] at h ⊢
    exact cQ_get t i x h
theorem cQ_set : ∀ (l : List (Value × Nat)) (i : Nat) (x : Value × Nat) (n : Nat), l[i]? = some x → (cQ l).set (i * 2 + 1) (.int .u64 (n : Int)) = cQ (l.set i (x.1, n))
  | [], i, x, n, h => by simp at h
  | y :: t, 0, x, n, h => by simp at h; subst h; simp [cQ_cons]
  | y :: t, i + 1, x, n, h => by
    rw [cQ_cons, show (i + 1) * 2 + 1 = (i * 2 + 1) + 1 + 1 by omega]
    simp only [List.getElem?_cons_succ] at h
    simp only [List.set_cons_succ, cQ_cons]
    rw [cQ_set t i x n h]

/-- Spots and their values. -/
structure SpL (F : Nat → Prop) (w : World) (vs : List (Value × Nat)) (M : List Sp) : Prop where
  len : vs.length = M.length
  tk : ∀ (i : Nat) (x : Value × Nat) (s : Sp), vs[i]? = some x → M[i]? = some s → x.2 = s.next ∧ TkV F w x.1 s.takes
theorem SpL.mono {F G : Nat → Prop} {w : World} {vs : List (Value × Nat)} {M : List Sp} (h : SpL F w vs M) (hFG : ∀ b, F b → G b) : SpL G w vs M :=
  ⟨h.len, fun i x s h1 h2 => ⟨(h.tk i x s h1 h2).1, (h.tk i x s h1 h2).2.mono hFG⟩⟩
theorem SpL.keep {F G : Nat → Prop} {w w' : World} {vs : List (Value × Nat)} {M : List Sp} (h : SpL F w vs M) (hc : Chg G w w') (hd : ∀ b, F b → ¬ G b) : SpL F w' vs M :=
  ⟨h.len, fun i x s h1 h2 => ⟨(h.tk i x s h1 h2).1, (h.tk i x s h1 h2).2.keep hc hd⟩⟩
theorem SpL.get {F : Nat → Prop} {w : World} {vs : List (Value × Nat)} {M : List Sp} (h : SpL F w vs M) {i : Nat} {s : Sp} (hs : M[i]? = some s) : ∃ v, vs[i]? = some (v, s.next) ∧ TkV F w v s.takes := by
  have hl : i < vs.length := by rw [h.len]; exact (List.getElem?_eq_some_iff.1 hs).1
  have := h.tk i vs[i] s (by simp) hs
  exact ⟨vs[i].1, by rw [List.getElem?_eq_getElem hl, ← this.1], this.2⟩
theorem SpL.snoc {F : Nat → Prop} {w : World} {vs : List (Value × Nat)} {M : List Sp} (h : SpL F w vs M) {v : Value} {l : Sn} (hv : TkV F w v l) : SpL F w (vs ++ [(v, 0)]) (M ++ [⟨l, 0⟩]) := by
  refine ⟨by simp [h.len], fun i x s h1 h2 => ?_⟩
  rcases Nat.lt_or_ge i M.length with hl | hl
  · rw [List.getElem?_append_left hl] at h2
    rw [List.getElem?_append_left (by rw [h.len]; exact hl)] at h1
    exact h.tk i x s h1 h2
  · rw [List.getElem?_append_right hl] at h2
    rw [List.getElem?_append_right (by rw [h.len]; exact hl), h.len] at h1
    have hi : i - M.length = 0 := by
      have := (List.getElem?_eq_some_iff.1 h2).1
      simp at this
      omega
    rw [hi] at h1 h2
    simp at h1 h2
    subst h1 h2
    exact ⟨rfl, hv⟩
theorem SpL.set {F : Nat → Prop} {w : World} {vs : List (Value × Nat)} {M : List Sp} (h : SpL F w vs M) {i n : Nat} {v : Value} {s : Sp} (hv : vs[i]? = some (v, s.next)) (hs : M[i]? = some s) : SpL F w (vs.set i (v, n)) (M.set i ⟨s.takes, n⟩) := by
  refine ⟨by simp [h.len], fun j x t h1 h2 => ?_⟩
  by_cases hij : i = j
  · subst hij
    rw [List.getElem?_set_self (List.getElem?_eq_some_iff.1 hv).1] at h1
    rw [List.getElem?_set_self (List.getElem?_eq_some_iff.1 hs).1] at h2
    injection h1 with h1
    injection h2 with h2
    subst h1 h2
    exact ⟨rfl, (h.tk i _ s hv hs).2⟩
  · rw [List.getElem?_set_ne hij] at h1 h2
    exact h.tk j x t h1 h2

/-- A store in a row that is owned. -/
theorem owns_setV {w : World} {base : Nat} {e : TypeId} {size g n cap : Nat} {xs : List Value} (hO : w.ownsRow base e size (.slice (some ⟨g, 0, none⟩) n cap) n xs) (q : Nat) (u : Value) :
    (w.setCell ⟨g, q, none⟩ u).ownsRow base e size (.slice (some ⟨g, 0, none⟩) n cap) n (xs.set q u) := by
  have hl := hO.1
  rcases hO.2 with ⟨h0, _⟩ | ⟨g', cap', cur, hv, hb, hh, hn, hc, hs, ht⟩
  · cases h0
  · simp only [Value.slice.injEq, Option.some.injEq, Addr.mk.injEq] at hv
    obtain ⟨⟨rfl, _⟩, _, rfl⟩ := hv
    refine ⟨by rw [List.length_set]; exact hl, .inr ⟨g, cap, cur.setIfInBounds q u, rfl, hb, ?_, hn, hc, by simpa using hs, ?_⟩⟩
    · simp [World.setCell, Array.getElem?_modify, hh]
    · rw [Array.toList_setIfInBounds, List.take_set, ht]

structure Mc (F : Nat → Prop) (w : World) (r : Nat) (E : Es) (M : List Sp) (ad : Option Addr) (c : Nat) (vs : List (Value × Nat)) : Prop where
  blk : Blk w r 225 [.slice ad M.length c, .int .u64 (E.first : Int), .int .u64 (E.last : Int), .bool E.emp]
  own : w.ownsRow 0 282 2 (.slice ad M.length c) M.length (cQ vs)
  sp : SpL F w vs M
  nr : ¬ F r
  no : ∀ b, F b → (Value.slice ad M.length c).ownBlock ≠ some b
  ne : (Value.slice ad M.length c).ownBlock ≠ some r
  lt : ∀ b, F b → b < w.heap.size
  b64 : ∀ (i : Nat) (s : Sp), M[i]? = some s → s.next < 18446744073709551616
/-- A machine: its row of spots lies in o. -/
def Mch (F : Nat → Prop) (w : World) (r : Nat) (E : Es) (M : List Sp) (o : Option Nat) : Prop := ∃ ad c vs, Mc F w r E M ad c vs ∧ (Value.slice ad M.length c).ownBlock = o
theorem Mc.keep {F G : Nat → Prop} {w w' : World} {r : Nat} {E : Es} {M : List Sp} {ad : Option Addr} {c : Nat} {vs : List (Value × Nat)} (h : Mc F w r E M ad c vs) (hc : Chg G w w') (hr : ¬ G r) (ho : ∀ b, (Value.slice ad M.length c).ownBlock = some b → ¬ G b) (hF : ∀ b, F b → ¬ G b) : Mc F w' r E M ad c vs :=
  ⟨hc.blk h.blk hr, hc.owns h.own ho, h.sp.keep hc hF, h.nr, h.no, h.ne, fun b hb => Nat.lt_of_lt_of_le (h.lt b hb) hc.size, h.b64⟩
theorem Mch.keep {F G : Nat → Prop} {w w' : World} {r : Nat} {E : Es} {M : List Sp} {o : Option Nat} (h : Mch F w r E M o) (hc : Chg G w w') (hr : ¬ G r) (ho : ∀ b, o = some b → ¬ G b) (hF : ∀ b, F b → ¬ G b) : Mch F w' r E M o := by
  obtain ⟨ad, c, vs, h1, h2⟩ := h
  exact ⟨ad, c, vs, h1.keep hc hr (fun b hb => ho b (by rw [← h2]; exact hb)) hF, h2⟩
theorem Mch.later {F : Nat → Prop} {w w' : World} {r : Nat} {E : Es} {M : List Sp} {o : Option Nat} (h : Mch F w r E M o) (hb : Below w.heap.size w w') : Mch F w' r E M o :=
  h.keep (Chg.of_below (F := fun _ => False) hb) (fun h => h) (fun _ _ h => h) (fun _ _ h => h)
/-- More blocks that are not the machine's. -/
theorem Mch.more {F G : Nat → Prop} {w : World} {r : Nat} {E : Es} {M : List Sp} {o : Option Nat} (h : Mch F w r E M o) (hFG : ∀ b, F b → G b) (hr : ¬ G r) (ho : ∀ b, G b → o ≠ some b) (hl : ∀ b, G b → b < w.heap.size) : Mch G w r E M o := by
  obtain ⟨ad, c, vs, h1, h2⟩ := h
  exact ⟨ad, c, vs, ⟨h1.blk, h1.own, h1.sp.mono hFG, hr, fun b hb => by rw [h2]; exact ho b hb, h1.ne, hl, h1.b64⟩, h2⟩
theorem Mch.rlt {F : Nat → Prop} {w : World} {r : Nat} {E : Es} {M : List Sp} {o : Option Nat} (h : Mch F w r E M o) : r < w.heap.size := by
  obtain ⟨ad, c, vs, h1, h2⟩ := h
  exact h1.blk.lt
theorem Mch.olt {F : Nat → Prop} {w : World} {r : Nat} {E : Es} {M : List Sp} {o : Option Nat} (h : Mch F w r E M o) : ∀ b, o = some b → b < w.heap.size := by
  obtain ⟨ad, c, vs, h1, rfl⟩ := h
  exact owns_lt h1.own
/-- What a call does to a machine: its own blocks alone change; blocks that are not its own, of which it tells, are those or new. -/
structure Mv (F F' : Nat → Prop) (w w' : World) (r : Nat) (o o' : Option Nat) : Prop where
  chg : Chg (fun b => b = r ∨ o = some b) w w'
  mv : Moved w o o'
  sub : ∀ b, F b → F' b
  new : ∀ b, F' b → F b ∨ w.heap.size ≤ b
theorem Mv.below {F : Nat → Prop} {w w' : World} {r : Nat} {o : Option Nat} (h : Below w.heap.size w w') : Mv F F w w' r o o := ⟨Chg.of_below h, .inl rfl, fun _ h => h, fun _ h => .inl h⟩
theorem Mv.trans {F F1 F2 : Nat → Prop} {w w1 w2 : World} {r : Nat} {o o1 o2 : Option Nat} (h : Mv F F1 w w1 r o o1) (k : Mv F1 F2 w1 w2 r o1 o2) : Mv F F2 w w2 r o o2 := by
  refine ⟨h.chg.trans k.chg (fun i hi hg => ?_), h.mv.trans k.mv h.chg.size, fun b hb => k.sub b (h.sub b hb), fun b hb => ?_⟩
  · rcases hg with hg | hg
    · exact .inl hg
    · rcases h.mv with e | ⟨g, e, hlt⟩
      · rw [e] at hg; exact .inr hg
      · rw [e] at hg; injection hg with hg; omega
  · rcases k.new b hb with h1 | h1
    · exact h.new b h1
    · exact .inr (Nat.le_trans h.chg.size h1)
/-- Parts stay. -/
theorem Mv.part {F F' : Nat → Prop} {w w' : World} {r : Nat} {o o' : Option Nat} (h : Mv F F' w w' r o o') (hr : ¬ F r) (ho : ∀ b, F b → o ≠ some b) : ∀ b, F b → ¬ (b = r ∨ o = some b) := by
  rintro b hb (rfl | e)
  · exact hr hb
  · exact ho b hb e

end Go.Proofs.YtgmdpbahcbhfjaaGreatDoor
/-
  The machine: link.
-/
namespace Go.Proofs.YtgmdpbahcbhfjaaGreatDoor
open Go.RowKit

/-- The spots ahead of k are linked. -/
def lnkK (k : Nat) (M : List Sp) (f t : Nat) : List Sp := M.mapIdx (fun i s => if i < k ∧ f.testBit i = true then ⟨s.takes, s.next ||| t⟩ else s)
theorem lnkK_length (k : Nat) (M : List Sp) (f t : Nat) : (lnkK k M f t).length = M.length := by simp [lnkK]
theorem lnkK_get (k : Nat) (M : List Sp) (f t i : Nat) : (lnkK k M f t)[i]? = M[i]?.map (fun s => if i < k ∧ f.testBit i = true then ⟨s.takes, s.next ||| t⟩ else s) := by
  simp [lnkK, List.getElem?_mapIdx]
theorem lnkK_zero (M : List Sp) (f t : Nat) : lnkK 0 M f t = M := by
  apply List.ext_getElem?
  intro i
  rw [lnkK_get]
  simp
theorem lnkK_all (M : List Sp) (f t : Nat) : lnkK M.length M f t = lnkM M f t := by
  apply List.ext_getElem?
  intro i
  rw [lnkK_get, lnk_get]
  cases h : M[i]? with
  | none => rfl
  | some s =>
    have := (List.getElem?_eq_some_iff.1 h).1
    simp [this]
theorem lnkK_yes {M : List Sp} {f t k : Nat} {s : Sp} (hs : M[k]? = some s) (hf : f.testBit k = true) : (lnkK k M f t).set k ⟨s.takes, s.next ||| t⟩ = lnkK (k + 1) M f t := by
  apply List.ext_getElem?
  intro i
  by_cases hik : k = i
  · subst hik
    rw [List.getElem?_set_self (by rw [lnkK_length]; exact (List.getElem?_eq_some_iff.1 hs).1), lnkK_get, hs]
    simp [hf]
  · rw [List.getElem?_set_ne hik, lnkK_get, lnkK_get]
    have : (i < k + 1) ↔ (i < k) := by omega
    simp only [this]
theorem lnkK_no {M : List Sp} {f t k : Nat} (hf : f.testBit k = false) : lnkK k M f t = lnkK (k + 1) M f t := by
  apply List.ext_getElem?
  intro i
  rw [lnkK_get, lnkK_get]
  by_cases hik : k = i
  · subst hik; simp [hf]
  · have : (i < k + 1) ↔ (i < k) := by omega
    simp only [this]
theorem lnkK_at {M : List Sp} {f t k : Nat} {s : Sp} (hs : M[k]? = some s) : (lnkK k M f t)[k]? = some s := by
  rw [lnkK_get, hs]; simp
theorem or_lt {a b : Nat} (ha : a < 18446744073709551616) (hb : b < 18446744073709551616) : a ||| b < 18446744073709551616 := Nat.or_lt_two_pow (n := 64) ha hb

/-- One spot's next is set. -/
theorem Mc.setN {F : Nat → Prop} {w : World} {r : Nat} {E : Es} {M : List Sp} {g c : Nat} {vs : List (Value × Nat)} (h : Mc F w r E M (some ⟨g, 0, none⟩) c vs) {k n : Nat} {v : Value} {s : Sp} (hv : vs[k]? = some (v, s.next)) (hs : M[k]? = some s) (hn : n < 18446744073709551616) :
    Mc F (w.setCell ⟨g, k * 2 + 1, none⟩ (.int .u64 (n : Int))) r E (M.set k ⟨s.takes, n⟩) (some ⟨g, 0, none⟩) c (vs.set k (v, n)) := by
  have hg : ∀ b, (Value.slice (some ⟨g, 0, none⟩) M.length c).ownBlock = some b ↔ g = b := fun b => by simp [Value.ownBlock]
  have hc := Chg.set ⟨g, k * 2 + 1, none⟩ (.int .u64 (n : Int)) w
  have hl : (M.set k ⟨s.takes, n⟩).length = M.length := by simp
  refine ⟨?_, ?_, ?_, h.nr, ?_, ?_, fun b hb => ?_, fun i x hx => ?_⟩
  · rw [hl]
    exact hc.blk h.blk (fun e => h.ne ((hg r).2 (by have e' : r = g := e; exact e'.symm)))
  · rw [hl]
    have := owns_setV h.own (k * 2 + 1) (.int .u64 (n : Int))
    rw [cQ_set vs k _ n hv] at this
    exact this
  · exact (h.sp.keep hc (fun b hb e => h.no b hb ((hg b).2 (by have e' : b = g := e; exact e'.symm)))).set hv hs
  · rw [hl]; exact h.no
  · rw [hl]; exact h.ne
  · have := h.lt b hb; have := hc.size; omega
  · by_cases hk : k = i
    · subst hk
      rw [List.getElem?_set_self (List.getElem?_eq_some_iff.1 hs).1] at hx
      injection hx with hx
      subst hx
      exact hn
    · rw [List.getElem?_set_ne hk] at hx
      exact h.b64 i x hx

set_option maxRecDepth 100000 in
set_option maxHeartbeats 8000000 in
theorem linkP (F : Nat → Prop) (w : World) (r : Nat) (E : Es) (M : List Sp) (o : Option Nat) (f t : Nat) (hM : Mch F w r E M o) (hf : f < 18446744073709551616) (ht : t < 18446744073709551616) (hlen : M.length ≤ 64) :
    Calls Tryz.prog 179 #[.pointer (some ⟨r, 0, none⟩), .int .u64 (f : Int), .int .u64 (t : Int)] w fun e w' => e = .returned (.tuple #[]) ∧ Mch F w' r E (lnkM M f t) o ∧ Chg (fun b => o = some b) w w' := by
  obtain ⟨ad, c, vs, hm, ho⟩ := hM
  obtain ⟨n, hn⟩ : ∃ n, M.length = n := ⟨_, rfl⟩
  have HN := hidden hn
  have HO : Hid ((Value.slice ad n c).ownBlock = o) := hidden (by rw [← hn]; exact ho)
  have HM : Hid (Mc F w r E (lnkK 0 M f t) ad c vs) := hidden (by rw [lnkK_zero]; exact hm)
  have c0 : w.cell? ⟨r, 0, none⟩ = some (.slice ad n c) := by have := hm.blk.cell 0; rw [hn] at this; exact this
  have HA := hidden (lnkK_all M f t)
  rw [hn] at hlen
  clear ho hn hm
  go_enter Tryz.func179, Tryz.ntmps179
  go_wp2
  clear c0
  go_loopw [6, 12] (fun s6 s12 wx => ∃ (i : Nat), s12 = .int .i64 (i : Int) ∧ i ≤ n ∧ Hid (∃ vs', Mc F wx r E (lnkK i M f t) ad c vs') ∧ Hid (Chg (fun b => o = some b) w wx)) (fun _ s12 _ => n - (intOf s12).toNat)
  case atStart => exact ⟨0, rfl, by omega, hidden ⟨vs, HM.out⟩, hidden (Chg.refl _ _)⟩
  case round =>
    rename World => wr
    obtain ⟨i, rfl, hi, hex, hch⟩ := hrel
    obtain ⟨vs', hmc⟩ := hex.out
    clear HM hex
    by_cases hlt : i < n
    · have hltz : (i : Int) < (n : Int) := by omega
      obtain ⟨s, hs⟩ : ∃ s, M[i]? = some s := ⟨M[i]'(by rw [HN.out]; exact hlt), by simp⟩
      have hs' := lnkK_at (f := f) (t := t) hs
      obtain ⟨v, hv, htk⟩ := hmc.sp.get hs'
      have hln : (lnkK i M f t).length = n := by rw [lnkK_length]; exact HN.out
      have kH := hasP f i hf (by omega)
      obtain ⟨R, hR⟩ : ∃ R, f.testBit i = R := ⟨_, rfl⟩
      cases R with
      | false =>
        have HNX : Hid (∃ vs', Mc F wr r E (lnkK (i + 1) M f t) ad c vs') := hidden ⟨vs', by rw [← lnkK_no hR]; exact hmc⟩
        rw [hR] at kH
        clear hmc hs hs' hv htk hln hR
        go_wp2_with (go_at_call 171; refine (kH _).mono ?_; rintro e w2 ⟨rfl, rfl⟩; clear kH)
        refine ⟨⟨i + 1, by first | rfl | simp, by omega, HNX, hch⟩, ?_⟩
        simp [intOf]
        omega
      | true =>
        rcases hmc.own.2 with ⟨e0, e1⟩ | ⟨g, cap, cur, e0, _⟩
        · rw [hln] at e1; omega
        · injection e0 with e0 _ e2
          subst e0 e2
          have hoc := cQ_get vs' i _ hv
          have d1 : wr.cell? ⟨g, i * 2 + 1, none⟩ = some (.int .u64 (s.next : Int)) := by
            have := hmc.own.cells (g := g) (by simp [Value.ownBlock]) _ _ hoc.2
            rw [Addr.add_lit, Nat.zero_add] at this
            exact this
          have d2 : wr.frozen? ⟨g, i * 2 + 1, none⟩ = false := hmc.own.frozenAt _
          have c0 : wr.cell? ⟨r, 0, none⟩ = some (.slice (some ⟨g, 0, none⟩) n c) := by have := hmc.blk.cell 0; rw [hln] at this; exact this
          have hb := hmc.b64 i s hs'
          have HNX : Hid (∃ vs', Mc F (wr.setCell ⟨g, i * 2 + 1, none⟩ (.int .u64 ((s.next ||| t : Nat) : Int))) r E (lnkK (i + 1) M f t) (some ⟨g, 0, none⟩) c vs') := hidden ⟨_, by rw [← lnkK_yes hs hR]; exact hmc.setN hv hs' (or_lt hb ht)⟩
          have HCN : Hid (Chg (fun b => o = some b) w (wr.setCell ⟨g, i * 2 + 1, none⟩ (.int .u64 ((s.next ||| t : Nat) : Int)))) := hidden (hch.out.trans (Chg.set _ _ wr) (fun b _ e => by rw [← HO.out]; have e' : b = g := e; rw [e']; rfl))
          have o1 := or64 hb ht
          rw [hR] at kH
          clear hmc hs hs' hv htk hln hR hoc hb
          go_wp2_with (go_at_call 171; refine (kH _).mono ?_; rintro e w2 ⟨rfl, rfl⟩; clear kH)
          refine ⟨⟨i + 1, by first | rfl | simp, by omega, HNX, HCN⟩, ?_⟩
          simp [intOf]
          omega
    · have hltz : ¬ (i : Int) < (n : Int) := by omega
      have hie : i = n := by omega
      subst hie
      have HF : Hid (Mc F wr r E (lnkM M f t) ad c vs') := hidden (by rw [← HA.out, HN.out]; exact hmc)
      clear hmc
      go_wp2
      go_end0
      exact ⟨rfl, ⟨ad, c, vs', HF.out, by rw [lnk_length, HN.out]; exact HO.out⟩, hch.out⟩

end Go.Proofs.YtgmdpbahcbhfjaaGreatDoor
/-
  The machine: addSpot.
-/
namespace Go.Proofs.YtgmdpbahcbhfjaaGreatDoor
open Go.RowKit

theorem res_spot (tmps : Array Value) (w : World) (g : Nat) (e : Es) (hp : tmps.getD 4 undef = .pointer (some ⟨g, 0, none⟩)) (h : Blk w g 223 (esC e)) :
    (results Tryz.f169 tmps).run Tryz.prog w = .ok (esV e) w := by
  have h0 : w.cell? ⟨g, 0, none⟩ = some (.int .u64 (e.first : Int)) := h.cell 0
  have h1 : w.cell? ⟨g, 1, none⟩ = some (.int .u64 (e.last : Int)) := h.cell 1
  have h2 : w.cell? ⟨g, 2, none⟩ = some (.bool e.emp) := h.cell 2
  have hr : Tryz.f169.results = #[.cell 4 223] := by kernel_rfl
  have hp' : tmps[4]?.getD undef = .pointer (some ⟨g, 0, none⟩) := by simpa using hp
  simp [results, hr, hp', asAddr, loadVar, h0, h1, h2, go_sem, esV]

theorem Chg.sets (b : Nat) : ∀ (vs : List Value) (o : Nat) (w : World), Chg (fun i => i = b) w (w.setCells b o vs)
  | [], o, w => Chg.refl _ _
  | v :: t, o, w => (Chg.set ⟨b, o, none⟩ v w).trans (Chg.sets b t (o + 1) _) (fun _ _ e => e)
theorem Mc.pushed {F : Nat → Prop} {w w9 : World} {r : Nat} {E : Es} {M : List Sp} {ad : Option Addr} {c : Nat} {vs : List (Value × Nat)} {v : Value} {l : Sn} {n g9 c9 : Nat} (h : Mc F w r E M ad c vs) (hn : M.length = n) (hv : TkV F w v l) (ho : w9.ownsRow 0 282 2 (.slice (some ⟨g9, 0, none⟩) (n + 1) c9) (n + 1) (cQ vs ++ [v, .int .u64 0]))
    (hch : Chg (fun b => (Value.slice ad n c).ownBlock = some b) w w9) (hmv : Moved w (Value.slice ad n c).ownBlock (some g9)) : Mc F (w9.setCell ⟨r, 0, none⟩ (.slice (some ⟨g9, 0, none⟩) (n + 1) c9)) r E (M ++ [⟨l, 0⟩]) (some ⟨g9, 0, none⟩) c9 (vs ++ [(v, 0)]) := by
  subst hn
  have hg : ∀ n c b, (Value.slice (some ⟨g9, 0, none⟩) n c).ownBlock = some b ↔ g9 = b := fun n c b => by simp [Value.ownBlock]
  have hgn : ∀ b, b < w.heap.size → (Value.slice ad M.length c).ownBlock ≠ some b → g9 ≠ b := fun b hb hne e => by
    rcases hmv with e1 | ⟨g, e1, hlt⟩
    · exact hne (by rw [← e1, e])
    · injection e1 with e1; omega
  have hc := Chg.set ⟨r, 0, none⟩ (.slice (some ⟨g9, 0, none⟩) (M.length + 1) c9) w9
  have hl : (M ++ [(⟨l, 0⟩ : Sp)]).length = M.length + 1 := by simp
  have hne := hgn r h.blk.lt h.ne
  refine ⟨?_, ?_, ?_, h.nr, ?_, ?_, fun b hb => ?_, fun i x hx => ?_⟩
  · rw [hl]
    exact (hch.blk h.blk h.ne).set 0 _
  · rw [hl]
    have e : cQ (vs ++ [(v, 0)]) = cQ vs ++ [v, .int .u64 0] := by rw [cQ_append]; rfl
    rw [e]
    exact hc.owns ho (fun g e e2 => hne (by have e2' : g = r := e2; rw [← e2']; exact (hg _ _ g).1 e))
  · exact ((h.sp.keep hch (fun b hb e => h.no b hb e)).snoc (hv.keep hch (fun b hb e => h.no b hb e))).keep hc (fun b hb e => h.nr (by have e' : b = r := e; rw [← e']; exact hb))
  · intro b hb e
    exact hgn b (h.lt b hb) (h.no b hb) ((hg _ _ b).1 e)
  · exact fun e => hne ((hg _ _ r).1 e)
  · have := h.lt b hb; have := hch.size; have := hc.size; omega
  · rcases Nat.lt_or_ge i M.length with hi | hi
    · rw [List.getElem?_append_left hi] at hx
      exact h.b64 i x hx
    · rw [List.getElem?_append_right hi] at hx
      have hi0 : i - M.length = 0 := by
        have := (List.getElem?_eq_some_iff.1 hx).1
        simp at this
        omega
      rw [hi0] at hx
      simp at hx
      subst hx
      simp
theorem wrap2 {n p : Nat} (hn : n < 64) (hp : 2 ^ n = p) : IntKind.u64.wrap (2 ^ n) = (p : Int) := by
  have h1 : 2 ^ n < 2 ^ 64 := Nat.pow_lt_pow_right (by omega) hn
  have h2 : (2 : Nat) ^ 64 = 18446744073709551616 := by decide
  have e : ((2 : Int) ^ n) = (p : Int) := by rw [← hp]; simp
  rw [hp, h2] at h1
  rw [e, IntKind.wrap_u64]
  omega
theorem info52 : (Tryz.prog.info? 223).map (·.size) = some 3 := by kernel_rfl

set_option maxRecDepth 100000 in
set_option maxHeartbeats 8000000 in
theorem addSpotP (F : Nat → Prop) (w : World) (r : Nat) (E : Es) (M : List Sp) (o : Option Nat) (v : Value) (l : Sn) (hM : Mch F w r E M o) (hv : TkV F w v l) (hlen : M.length < 64) :
    Calls Tryz.prog 169 #[.pointer (some ⟨r, 0, none⟩), v] w fun e w' => e = .returned (esV (spotM M l).1) ∧ ∃ o', Mch F w' r E (spotM M l).2 o' ∧ Mv F F w w' r o o' := by
  obtain ⟨i0, hi0, hz0, hz1, hz2⟩ := info_parts info102
  have HI := hidden hi0
  obtain ⟨ad, c, vs, hm, ho⟩ := hM
  obtain ⟨n, hn⟩ : ∃ n, M.length = n := ⟨_, rfl⟩
  have HN := hidden hn
  have HO : Hid ((Value.slice ad n c).ownBlock = o) := hidden (by rw [← hn]; exact ho)
  have HM := hidden hm
  have B1 := Blk.alloc hm.blk (.cells #[.int .u64 0, .int .u64 0, .bool false] 223)
  have c0 : (w.alloc (.cells #[.int .u64 0, .int .u64 0, .bool false] 223)).cell? ⟨r, 0, none⟩ = some (.slice ad n c) := by have := B1.cell 0; rw [hn] at this; exact this
  have OW : Hid (((w.alloc (.cells #[.int .u64 0, .int .u64 0, .bool false] 223))).ownsRow 0 282 2 (.slice ad n c) n (cQ vs)) := hidden (by have := hm.own.alloc (.cells #[.int .u64 0, .int .u64 0, .bool false] 223); rw [hn] at this; exact this)
  rw [hn] at hlen
  have HV := hidden hv
  obtain ⟨va, vc, rfl, hv2⟩ := hv
  obtain ⟨k, hk⟩ : ∃ k, l.length = k := ⟨_, rfl⟩
  rw [hk] at HV
  have HK := hidden hk
  rw [hk]
  have cellN : Hid (∀ jj u, [Value.slice va k vc, Value.int .u64 0][jj]? = some u → ((w.alloc (.cells #[.int .u64 0, .int .u64 0, .bool false] 223)).alloc (.cells #[.slice va k vc, .int .u64 0] 282)).cell? ((⟨w.heap.size + 1, 0, none⟩ : Addr).add jj) = some u) := hidden (fun jj u hu => by
    rw [Addr.add_lit, Nat.zero_add]
    have := (Blk.new (w.alloc (.cells #[.int .u64 0, .int .u64 0, .bool false] 223)) 282 [.slice va k vc, .int .u64 0]).cell jj
    rw [hu, show (w.alloc (.cells #[.int .u64 0, .int .u64 0, .bool false] 223)).heap.size = w.heap.size + 1 by simp] at this
    exact this)
  obtain ⟨p, hp⟩ : ∃ p, 2 ^ n = p := ⟨_, rfl⟩
  have hwr := wrap2 hlen hp
  have B52 := Blk.new w 223 [.int .u64 0, .int .u64 0, .bool false]
  have HNX : Hid (∀ (w9 : World) (g9 c9 : Nat) (ob : Obj), w9.ownsRow 0 282 2 (.slice (some ⟨g9, 0, none⟩) (n + 1) c9) (n + 1) (cQ vs ++ [.slice va k vc, .int .u64 0]) → Pushed ((w.alloc (.cells #[.int .u64 0, .int .u64 0, .bool false] 223)).alloc ob) w9 (.slice ad n c) g9 →
      Mc F (w9.setCell ⟨r, 0, none⟩ (.slice (some ⟨g9, 0, none⟩) (n + 1) c9)) r E (M ++ [⟨l, 0⟩]) (some ⟨g9, 0, none⟩) c9 (vs ++ [(.slice va k vc, 0)]) ∧ Blk w9 r 225 [.slice ad n c, .int .u64 (E.first : Int), .int .u64 (E.last : Int), .bool E.emp] ∧ Blk (w9.setCell ⟨r, 0, none⟩ (.slice (some ⟨g9, 0, none⟩) (n + 1) c9)) w.heap.size 223 [.int .u64 0, .int .u64 0, .bool false] ∧ Mv F F w (w9.setCell ⟨r, 0, none⟩ (.slice (some ⟨g9, 0, none⟩) (n + 1) c9)) r o (some g9) ∧ g9 ≠ w.heap.size) := hidden (fun w9 g9 c9 ob h1 h2 => by
    obtain ⟨hch, hmv⟩ := h2.chg
    have hch2 : Chg (fun b => (Value.slice ad n c).ownBlock = some b) w w9 := (Chg.alloc _ w _).trans hch (fun _ _ e => e)
    have hal : (w.alloc (.cells #[.int .u64 0, .int .u64 0, .bool false] 223)).heap.size = w.heap.size + 1 := by simp
    have hmv2 : Moved w (Value.slice ad n c).ownBlock (some g9) := by
      rcases hmv with e | ⟨g, e, hlt⟩
      · exact .inl e
      · exact .inr ⟨g, e, by omega⟩
    have hwn : ∀ b, (Value.slice ad n c).ownBlock = some b → b < w.heap.size := by rw [← hn]; exact owns_lt hm.own
    have hne := hm.ne
    rw [hn] at hne
    have HRL := hm.blk.lt
    refine ⟨hm.pushed hn HV.out h1 hch2 hmv2, ?_, ?_, ⟨?_, ?_, fun _ h => h, fun _ h => .inl h⟩, ?_⟩
    · have := hch2.blk hm.blk (by rw [hn] at *; exact hne)
      rw [hn] at this
      exact this
    · exact (Chg.set ⟨r, 0, none⟩ _ w9).blk (hch.blk B52 (fun e => by have := hwn _ e; omega)) (fun e => by have e' : w.heap.size = r := e; omega)
    · exact (hch2.mono (G := fun b => b = r ∨ o = some b) (fun i _ h => .inr (by rw [← HO.out]; exact h))).trans (Chg.set ⟨r, 0, none⟩ _ w9) (fun i _ e => .inl e)
    · rw [← HO.out]; exact hmv2
    · intro e
      rcases hmv with e1 | ⟨g, e1, hlt⟩
      · have := hwn g9 e1.symm; omega
      · injection e1 with e1; omega)
  have HP := hidden hp
  have HRL := hidden hm.blk.lt
  have HFL := hidden hm.lt
  have hone : Hid (∀ v ∈ [Value.int .u64 (p : Int), Value.int .u64 (p : Int), Value.bool false], v.oneCell' = true) := hidden (by intro v hv; simp at hv; rcases hv with rfl | rfl <;> rfl)
  clear hi0 ho hn hm B1 hv2 hk B52 hp
  obtain ⟨R, hR⟩ : ∃ R, spotM M l = R := ⟨_, rfl⟩
  have HR := hidden hR
  rw [hR]
  clear hR
  go_enter Tryz.func169, Tryz.ntmps169
  go_wp2_with (first
    | (refine wpList_push2 _ rfl (.tmp 16) (.tmp 19) 220 rfl 282 i0 (.agg #[.slice none 0 0, .int .u64 0]) 32 Tryz.underlying220 HI.out hz0 hz1 hz2 rfl 0 (.slice ad n c) n (cQ vs) rfl (OW.out.alloc _) ⟨w.heap.size + 1, 0, none⟩ [.slice va k vc, .int .u64 0] rfl rfl cellN.out (by intro u hu; simp at hu; rcases hu with rfl | rfl <;> rfl) (by unfold maxLen; omega) (by omega) (by omega) ?_; intro g9 c9 w9 ho9 hp9; have HX := hidden (HNX.out w9 g9 c9 _ ho9 hp9); have x0 : w9.cell? ⟨r, 0, none⟩ = some (.slice ad n c) := HX.out.2.1.cell 0; have x1 := HX.out.2.1.frozen 0; clear ho9 hp9 HNX)
    | (refine wpList_store_blk rfl 223 (.tmp 4) (.tmp 25) rfl rfl w.heap.size HX.out.2.2.1 rfl rfl rfl info52 hone.out ?_))
  have HB := blk_stored (l := [.int .u64 (p : Int), .int .u64 (p : Int), .bool false]) HX.out.2.2.1 rfl
  refine bodyPost_ret (res_spot _ _ w.heap.size ⟨p, p, false⟩ rfl HB) rfl ?_
  have hcs := Chg.sets w.heap.size [.int .u64 (p : Int), .int .u64 (p : Int), .bool false] 0 (w9.setCell ⟨r, 0, none⟩ (.slice (some ⟨g9, 0, none⟩) (n + 1) c9))
  have hRL := HRL.out
  rw [← HR.out]
  refine ⟨?_, some g9, ⟨_, _, _, HX.out.1.keep hcs (fun e => by have e' : r = w.heap.size := e; omega) (fun b hb e => HX.out.2.2.2.2 (by have e' : b = w.heap.size := e; rw [← e']; simpa [Value.ownBlock] using hb)) (fun b hb e => by have := HFL.out b hb; have e' : b = w.heap.size := e; omega), rfl⟩, ?_⟩
  · simp only [spotM, HN.out, HP.out]
  · have hmv := HX.out.2.2.2.1
    exact ⟨hmv.chg.trans hcs (fun i hi e => by have e' : i = w.heap.size := e; omega), hmv.mv, fun _ h => h, fun _ h => .inl h⟩

end Go.Proofs.YtgmdpbahcbhfjaaGreatDoor
/-
  The machine: chain, repeated.
-/
namespace Go.Proofs.YtgmdpbahcbhfjaaGreatDoor
open Go.RowKit

theorem res_chain (tmps : Array Value) (w : World) (g : Nat) (e : Es) (hp : tmps.getD 6 undef = .pointer (some ⟨g, 0, none⟩)) (h : Blk w g 223 (esC e)) :
    (results Tryz.f167 tmps).run Tryz.prog w = .ok (esV e) w := by
  have h0 : w.cell? ⟨g, 0, none⟩ = some (.int .u64 (e.first : Int)) := h.cell 0
  have h1 : w.cell? ⟨g, 1, none⟩ = some (.int .u64 (e.last : Int)) := h.cell 1
  have h2 : w.cell? ⟨g, 2, none⟩ = some (.bool e.emp) := h.cell 2
  have hr : Tryz.f167.results = #[.cell 6 223] := by kernel_rfl
  have hp' : tmps[6]?.getD undef = .pointer (some ⟨g, 0, none⟩) := by simpa using hp
  simp [results, hr, hp', asAddr, loadVar, h0, h1, h2, go_sem, esV]
theorem res_rep (tmps : Array Value) (w : World) (g : Nat) (e : Es) (hp : tmps.getD 6 undef = .pointer (some ⟨g, 0, none⟩)) (h : Blk w g 223 (esC e)) :
    (results Tryz.f168 tmps).run Tryz.prog w = .ok (esV e) w := by
  have h0 : w.cell? ⟨g, 0, none⟩ = some (.int .u64 (e.first : Int)) := h.cell 0
  have h1 : w.cell? ⟨g, 1, none⟩ = some (.int .u64 (e.last : Int)) := h.cell 1
  have h2 : w.cell? ⟨g, 2, none⟩ = some (.bool e.emp) := h.cell 2
  have hr : Tryz.f168.results = #[.cell 6 223] := by kernel_rfl
  have hp' : tmps[6]?.getD undef = .pointer (some ⟨g, 0, none⟩) := by simpa using hp
  simp [results, hr, hp', asAddr, loadVar, h0, h1, h2, go_sem, esV]
theorem esC_one (e : Es) : ∀ v ∈ esC e, v.oneCell' = true := by
  intro v hv; simp [esC] at hv; rcases hv with rfl | rfl | rfl <;> rfl

set_option maxRecDepth 100000 in
set_option maxHeartbeats 8000000 in
theorem chainP (F : Nat → Prop) (w : World) (r : Nat) (E : Es) (M : List Sp) (o : Option Nat) (a b : Es) (ha : a.b64) (hb : b.b64) (hM : Mch F w r E M o) (hlen : M.length ≤ 64) :
    Calls Tryz.prog 167 #[.pointer (some ⟨r, 0, none⟩), esV a, esV b] w fun e w' => e = .returned (esV (a.chain b)) ∧ Mch F w' r E (lnkM M a.last b.first) o ∧ Mv F F w w' r o o := by
  obtain ⟨af, al, ae⟩ := a
  obtain ⟨bf, bl, be⟩ := b
  have o1 := or64 ha.1 hb.1
  have o2 := or64 hb.2 ha.2
  obtain ⟨W, hW⟩ : ∃ W, ((w.alloc (.cells #[.int .u64 (af : Int), .int .u64 (al : Int), .bool ae] 223)).alloc (.cells #[.int .u64 (bf : Int), .int .u64 (bl : Int), .bool be] 223)).alloc (.cells #[.int .u64 0, .int .u64 0, .bool false] 223) = W := ⟨_, rfl⟩
  have hs1 : (w.alloc (.cells #[.int .u64 (af : Int), .int .u64 (al : Int), .bool ae] 223)).heap.size = w.heap.size + 1 := by simp
  have hs2 : ((w.alloc (.cells #[.int .u64 (af : Int), .int .u64 (al : Int), .bool ae] 223)).alloc (.cells #[.int .u64 (bf : Int), .int .u64 (bl : Int), .bool be] 223)).heap.size = w.heap.size + 1 + 1 := by simp
  have hal : Below w.heap.size w W := by
    have h1 := (Below.refl w.heap.size w).alloc (Nat.le_refl _) (.cells #[.int .u64 (af : Int), .int .u64 (al : Int), .bool ae] 223)
    have h2 := h1.alloc h1.size (.cells #[.int .u64 (bf : Int), .int .u64 (bl : Int), .bool be] 223)
    rw [← hW]
    exact h2.alloc h2.size _
  have B1 : Blk W w.heap.size 223 (esC ⟨af, al, ae⟩) := by rw [← hW]; exact ((Blk.new w 223 (esC ⟨af, al, ae⟩)).alloc _).alloc _
  have B2 : Blk W (w.heap.size + 1) 223 (esC ⟨bf, bl, be⟩) := by
    have := (Blk.new (w.alloc (.cells #[.int .u64 (af : Int), .int .u64 (al : Int), .bool ae] 223)) 223 (esC ⟨bf, bl, be⟩)).alloc (.cells #[.int .u64 0, .int .u64 0, .bool false] 223)
    rw [hs1] at this
    rw [← hW]
    exact this
  have B3 : Blk W (w.heap.size + 1 + 1) 223 (esC ⟨0, 0, false⟩) := by
    have := Blk.new ((w.alloc (.cells #[.int .u64 (af : Int), .int .u64 (al : Int), .bool ae] 223)).alloc (.cells #[.int .u64 (bf : Int), .int .u64 (bl : Int), .bool be] 223)) 223 (esC ⟨0, 0, false⟩)
    rw [hs2] at this
    rw [← hW]
    exact this
  have kL := linkP F W r E M o al bf (hM.later hal) ha.2 hb.1 hlen
  have y1 : W.cell? ⟨w.heap.size, 1, none⟩ = some (.int .u64 (al : Int)) := B1.cell 1
  have y2 : W.cell? ⟨w.heap.size + 1, 0, none⟩ = some (.int .u64 (bf : Int)) := B2.cell 0
  have HOL : Hid (∀ k, w.heap.size ≤ k → ¬ o = some k) := hidden (fun k hk e => by have := hM.olt k e; omega)
  have HAL := hidden hal
  have HB1 := hidden B1
  have HB2 := hidden B2
  have HB3 := hidden B3
  have HSZ : Hid (w.heap.size + 1 + 1 < W.heap.size) := hidden B3.lt
  have HRL := hidden hM.rlt
  have HFL : Hid (∀ b, F b → b < w.heap.size) := hidden (by obtain ⟨_, _, _, h, _⟩ := hM; exact h.lt)
  rw [← hW] at kL y1 y2
  have HW := hidden hW
  clear hal ha hb B1 B2 B3 hM hs1 hs2 hW
  have HFIN : Hid (∀ (w2 : World) (X : Obj) (e : Es), Mch F w2 r E (lnkM M al bf) o → Chg (fun b => o = some b) W w2 → Blk ((w2.alloc X).setCells (w.heap.size + 1 + 1) 0 (esC e)) (w.heap.size + 1 + 1) 223 (esC e) ∧ Mch F ((w2.alloc X).setCells (w.heap.size + 1 + 1) 0 (esC e)) r E (lnkM M al bf) o ∧ Mv F F w ((w2.alloc X).setCells (w.heap.size + 1 + 1) 0 (esC e)) r o o) := hidden (fun w2 X e h1 h2 => by
    have hcs := Chg.sets (w.heap.size + 1 + 1) (esC e) 0 (w2.alloc X)
    have hRL := HRL.out
    refine ⟨blk_stored ((h2.blk HB3.out (HOL.out _ (by omega))).alloc X) rfl, ?_, ?_⟩
    · have h3 := h1.later ((Below.refl _ w2).alloc (Nat.le_refl _) X)
      exact h3.keep hcs (fun e => by have e' : r = w.heap.size + 1 + 1 := e; omega) (fun b hb e => HOL.out (w.heap.size + 1 + 1) (by omega) (by have e' : b = w.heap.size + 1 + 1 := e; rw [← e']; exact hb)) (fun b hb e => by have := HFL.out b hb; have e' : b = w.heap.size + 1 + 1 := e; omega)
    · have c1 : Chg (fun b => b = r ∨ o = some b) w W := Chg.of_below HAL.out
      have c2 := c1.trans h2 (fun i _ h => .inr h)
      have c3 := c2.trans (Chg.alloc (fun _ => False) w2 X) (fun i _ h => h.elim)
      exact ⟨c3.trans hcs (fun i hi e => by have e' : i = w.heap.size + 1 + 1 := e; omega), .inl rfl, fun _ h => h, fun _ h => .inl h⟩)
  have HBX : Hid (∀ (w2 : World), Chg (fun b => o = some b) W w2 → Blk w2 w.heap.size 223 (esC ⟨af, al, ae⟩) ∧ Blk w2 (w.heap.size + 1) 223 (esC ⟨bf, bl, be⟩) ∧ Blk w2 (w.heap.size + 1 + 1) 223 (esC ⟨0, 0, false⟩)) := hidden (fun w2 h => ⟨h.blk HB1.out (HOL.out _ (by omega)), h.blk HB2.out (HOL.out _ (by omega)), h.blk HB3.out (HOL.out _ (by omega))⟩)
  clear HB1 HB2 HB3
  obtain ⟨R, hR⟩ : ∃ R, (⟨af, al, ae⟩ : Es).chain ⟨bf, bl, be⟩ = R := ⟨_, rfl⟩
  have HR := hidden hR
  rw [hR]
  clear hR
  rw [show esV ⟨af, al, ae⟩ = .agg #[.int .u64 (af : Int), .int .u64 (al : Int), .bool ae] from rfl, show esV ⟨bf, bl, be⟩ = .agg #[.int .u64 (bf : Int), .int .u64 (bl : Int), .bool be] from rfl]
  show Calls Tryz.prog 167 #[.pointer (some ⟨r, 0, none⟩), .agg #[.int .u64 (af : Int), .int .u64 (al : Int), .bool ae], .agg #[.int .u64 (bf : Int), .int .u64 (bl : Int), .bool be]] w fun e w' => e = .returned (esV R) ∧ Mch F w' r E (lnkM M al bf) o ∧ Mv F F w w' r o o
  cases ae <;> cases be
  all_goals
    go_enter Tryz.func167, Tryz.ntmps167
    go_wp2_with (first
      | (go_at_call 179; refine kL.mono ?_; rintro e w2 ⟨rfl, hm2, hc2⟩; rw [HW.out] at hc2; have H2 := hidden hm2; have C2 := hidden hc2; have HX := hidden (HBX.out w2 hc2); have z0 := fun X => (HX.out.1.alloc X).cell 0; have z1 := fun X => (HX.out.1.alloc X).cell 1; have z2 := fun X => (HX.out.1.alloc X).cell 2; have u0 := fun X => (HX.out.2.1.alloc X).cell 0; have u1 := fun X => (HX.out.2.1.alloc X).cell 1; have u2 := fun X => (HX.out.2.1.alloc X).cell 2; have z0' := HX.out.1.cell 0; have z1' := HX.out.1.cell 1; have z2' := HX.out.1.cell 2; have u0' := HX.out.2.1.cell 0; have u1' := HX.out.2.1.cell 1; have u2' := HX.out.2.1.cell 2; simp only [esC, List.getElem?_cons_zero, List.getElem?_cons_succ] at z0 z1 z2 u0 u1 u2 z0' z1' z2' u0' u1' u2'; clear kL hm2 hc2)
      | (refine wpList_store_blk (l := esC R) rfl 223 (.tmp 6) (.tmp 41) rfl rfl (w.heap.size + 1 + 1) (HX.out.2.2.alloc _) rfl (by rw [← HR.out]; rfl) rfl info52 (esC_one _) ?_))
    refine bodyPost_ret (res_chain _ _ (w.heap.size + 1 + 1) R rfl (HFIN.out w2 _ R H2.out C2.out).1) rfl ?_
    exact ⟨rfl, (HFIN.out w2 _ R H2.out C2.out).2⟩

set_option maxRecDepth 100000 in
set_option maxHeartbeats 8000000 in
theorem repeatedP (F : Nat → Prop) (w : World) (r : Nat) (E : Es) (M : List Sp) (o : Option Nat) (a : Es) (s : Nat) (ha : a.b64) (hM : Mch F w r E M o) (hlen : M.length ≤ 64) :
    Calls Tryz.prog 168 #[.pointer (some ⟨r, 0, none⟩), esV a, .int .u8 (s : Int)] w fun e w' => e = .returned (esV (repM a M s).1) ∧ Mch F w' r E (repM a M s).2 o ∧ Mv F F w w' r o o := by
  obtain ⟨af, al, ae⟩ := a
  obtain ⟨W, hW⟩ : ∃ W, ((w.alloc (.cells #[.int .u64 (af : Int), .int .u64 (al : Int), .bool ae] 223)).alloc (.cells #[.int .u64 0, .int .u64 0, .bool false] 223)) = W := ⟨_, rfl⟩
  have hs1 : (w.alloc (.cells #[.int .u64 (af : Int), .int .u64 (al : Int), .bool ae] 223)).heap.size = w.heap.size + 1 := by simp
  have hal : Below w.heap.size w W := by
    have h1 := (Below.refl w.heap.size w).alloc (Nat.le_refl _) (.cells #[.int .u64 (af : Int), .int .u64 (al : Int), .bool ae] 223)
    rw [← hW]
    exact h1.alloc h1.size _
  have B1 : Blk W w.heap.size 223 (esC ⟨af, al, ae⟩) := by rw [← hW]; exact ((Blk.new w 223 (esC ⟨af, al, ae⟩)).alloc _)
  have B3 : Blk W (w.heap.size + 1) 223 (esC ⟨0, 0, false⟩) := by
    have := Blk.new (w.alloc (.cells #[.int .u64 (af : Int), .int .u64 (al : Int), .bool ae] 223)) 223 (esC ⟨0, 0, false⟩)
    rw [hs1] at this
    rw [← hW]
    exact this
  have kL := linkP F W r E M o al af (hM.later hal) ha.2 ha.1 hlen
  have y1 : W.cell? ⟨w.heap.size, 1, none⟩ = some (.int .u64 (al : Int)) := B1.cell 1
  have y2 : W.cell? ⟨w.heap.size, 0, none⟩ = some (.int .u64 (af : Int)) := B1.cell 0
  have HOL : Hid (∀ k, w.heap.size ≤ k → ¬ o = some k) := hidden (fun k hk e => by have := hM.olt k e; omega)
  have HAL := hidden hal
  have HB1 := hidden B1
  have HB3 := hidden B3
  have HRL := hidden hM.rlt
  have HM := hidden hM
  have HFL : Hid (∀ b, F b → b < w.heap.size) := hidden (by obtain ⟨_, _, _, h, _⟩ := hM; exact h.lt)
  rw [← hW] at kL y1 y2
  have HW := hidden hW
  clear hal ha B1 B3 hM hs1 hW
  have HFIN : Hid (∀ (w2 w3 : World) (e : Es), Mch F w2 r E (lnkM M al af) o → Chg (fun b => o = some b) W w2 → Chg (fun b => b = w.heap.size) w2 w3 → Blk (w3.setCells (w.heap.size + 1) 0 (esC e)) (w.heap.size + 1) 223 (esC e) ∧ Mch F (w3.setCells (w.heap.size + 1) 0 (esC e)) r E (lnkM M al af) o ∧ Mv F F w (w3.setCells (w.heap.size + 1) 0 (esC e)) r o o) := hidden (fun w2 w3 e h1 h2 h3 => by
    have hcs := Chg.sets (w.heap.size + 1) (esC e) 0 w3
    have hRL := HRL.out
    have hc3 : Chg (fun b => b = w.heap.size ∨ b = w.heap.size + 1) w2 (w3.setCells (w.heap.size + 1) 0 (esC e)) := (h3.mono (G := fun b => b = w.heap.size ∨ b = w.heap.size + 1) (fun i _ h => .inl h)).trans hcs (fun i _ h => .inr h)
    refine ⟨blk_stored (h3.blk (h2.blk HB3.out (HOL.out _ (by omega))) (fun e => by have e' : w.heap.size + 1 = w.heap.size := e; omega)) rfl, ?_, ?_⟩
    · exact h1.keep hc3 (fun e => by rcases e with e | e <;> omega) (fun b hb e => HOL.out b (by rcases e with e | e <;> omega) hb) (fun b hb e => by have := HFL.out b hb; rcases e with e | e <;> omega)
    · have c1 : Chg (fun b => b = r ∨ o = some b) w W := Chg.of_below HAL.out
      have c2 := c1.trans h2 (fun i _ h => .inr h)
      exact ⟨c2.trans hc3 (fun i hi e => by rcases e with e | e <;> omega), .inl rfl, fun _ h => h, fun _ h => .inl h⟩)
  have HBX : Hid (∀ (w2 : World), Chg (fun b => o = some b) W w2 → Blk w2 w.heap.size 223 (esC ⟨af, al, ae⟩) ∧ Blk w2 (w.heap.size + 1) 223 (esC ⟨0, 0, false⟩)) := hidden (fun w2 h => ⟨h.blk HB1.out (HOL.out _ (by omega)), h.blk HB3.out (HOL.out _ (by omega))⟩)
  have HNL : Hid (∀ (X Y : Obj), Mch F ((w.alloc X).alloc Y) r E M o ∧ Mv F F w ((w.alloc X).alloc Y) r o o) := hidden (fun X Y => by
    have h1 := (Below.refl w.heap.size w).alloc (Nat.le_refl _) X
    have h2 := h1.alloc h1.size Y
    exact ⟨HM.out.later h2, Mv.below h2⟩)
  clear HB1 HB3 HM
  by_cases h63 : s = 63
  · subst h63
    have e1 : repM ⟨af, al, ae⟩ M 63 = (⟨af, al, true⟩, M) := rfl
    rw [e1]
    clear e1 kL y1 y2
    have HBN : Hid (Blk ((w.alloc (.cells #[.int .u64 (af : Int), .int .u64 (al : Int), .bool true] 223)).alloc (.cells #[.int .u64 (af : Int), .int .u64 (al : Int), .bool true] 223)) (w.heap.size + 1) 223 (esC ⟨af, al, true⟩)) := hidden (by
      have := Blk.new (w.alloc (.cells #[.int .u64 (af : Int), .int .u64 (al : Int), .bool true] 223)) 223 (esC ⟨af, al, true⟩)
      rw [show (w.alloc (.cells #[.int .u64 (af : Int), .int .u64 (al : Int), .bool true] 223)).heap.size = w.heap.size + 1 by simp] at this
      exact this)
    show Calls Tryz.prog 168 #[.pointer (some ⟨r, 0, none⟩), .agg #[.int .u64 (af : Int), .int .u64 (al : Int), .bool ae], .int .u8 63] w fun e w' => e = .returned (esV ⟨af, al, true⟩) ∧ Mch F w' r E M o ∧ Mv F F w w' r o o
    go_enter Tryz.func168, Tryz.ntmps168
    go_wp2
    refine bodyPost_ret (res_rep _ _ (w.heap.size + 1) ⟨af, al, true⟩ rfl HBN.out) rfl ?_
    exact ⟨rfl, HNL.out _ _⟩
  · have h63z : ((s : Int) != 63) = true := by simp; omega
    by_cases h43 : s = 43
    · subst h43
      have e1 : repM ⟨af, al, ae⟩ M 43 = (⟨af, al, ae⟩, lnkM M al af) := rfl
      rw [e1]
      clear e1
      show Calls Tryz.prog 168 #[.pointer (some ⟨r, 0, none⟩), .agg #[.int .u64 (af : Int), .int .u64 (al : Int), .bool ae], .int .u8 43] w fun e w' => e = .returned (esV ⟨af, al, ae⟩) ∧ Mch F w' r E (lnkM M al af) o ∧ Mv F F w w' r o o
      go_enter Tryz.func168, Tryz.ntmps168
      go_wp2_with (first
        | (go_at_call 179; refine kL.mono ?_; rintro e w2 ⟨rfl, hm2, hc2⟩; rw [HW.out] at hc2; have H2 := hidden hm2; have C2 := hidden hc2; have HX := hidden (HBX.out w2 hc2); clear kL hm2 hc2)
        | (refine wpList_load_blk rfl 223 (.tmp 4) rfl w.heap.size HX.out.1 rfl Tryz.underlying223 rfl info52 ?_)
        | (refine wpList_store_blk (l := esC ⟨af, al, ae⟩) rfl 223 (.tmp 6) (.tmp 18) rfl rfl (w.heap.size + 1) HX.out.2 rfl rfl rfl info52 (esC_one _) ?_))
      have hf := HFIN.out w2 w2 ⟨af, al, ae⟩ H2.out C2.out (Chg.refl _ _)
      refine bodyPost_ret (res_rep _ _ (w.heap.size + 1) ⟨af, al, ae⟩ rfl hf.1) rfl ?_
      exact ⟨rfl, hf.2⟩
    · have h43z : ((s : Int) != 43) = true := by simp; omega
      have e1 : repM ⟨af, al, ae⟩ M s = (⟨af, al, true⟩, lnkM M al af) := by simp [repM, h63, h43]
      rw [e1]
      clear e1
      show Calls Tryz.prog 168 #[.pointer (some ⟨r, 0, none⟩), .agg #[.int .u64 (af : Int), .int .u64 (al : Int), .bool ae], .int .u8 (s : Int)] w fun e w' => e = .returned (esV ⟨af, al, true⟩) ∧ Mch F w' r E (lnkM M al af) o ∧ Mv F F w w' r o o
      go_enter Tryz.func168, Tryz.ntmps168
      go_wp2_with (first
        | (go_at_call 179; refine kL.mono ?_; rintro e w2 ⟨rfl, hm2, hc2⟩; rw [HW.out] at hc2; have H2 := hidden hm2; have C2 := hidden hc2; have HX := hidden (HBX.out w2 hc2); have HS : Hid (Blk (w2.setCell ⟨w.heap.size, 2, none⟩ (.bool true)) w.heap.size 223 (esC ⟨af, al, true⟩)) := hidden (HX.out.1.set 2 (.bool true)); have HS2 : Hid (Blk (w2.setCell ⟨w.heap.size, 2, none⟩ (.bool true)) (w.heap.size + 1) 223 (esC ⟨0, 0, false⟩)) := hidden (HX.out.2.setOff _ _ (by simp)); have z2 : w2.cell? ⟨w.heap.size, 2, none⟩ = some (.bool ae) := HX.out.1.cell 2; have z3 := HX.out.1.frozen 2; clear kL hm2 hc2)
        | (refine wpList_load_blk rfl 223 (.tmp 4) rfl w.heap.size HS.out rfl Tryz.underlying223 rfl info52 ?_)
        | (refine wpList_store_blk (l := esC ⟨af, al, true⟩) rfl 223 (.tmp 6) (.tmp 18) rfl rfl (w.heap.size + 1) HS2.out rfl rfl rfl info52 (esC_one _) ?_))
      have hf := HFIN.out w2 (w2.setCell ⟨w.heap.size, 2, none⟩ (.bool true)) ⟨af, al, true⟩ H2.out C2.out (Chg.set ⟨w.heap.size, 2, none⟩ (.bool true) w2)
      refine bodyPost_ret (res_rep _ _ (w.heap.size + 1) ⟨af, al, true⟩ rfl hf.1) rfl ?_
      exact ⟨rfl, hf.2⟩

end Go.Proofs.YtgmdpbahcbhfjaaGreatDoor
/-
  Patterns, purely: how many spots there are, and that a machine's sets have room in 64 bits.
-/
namespace Go.Proofs.YtgmdpbahcbhfjaaGreatDoor
open Go

mutual
def Pt.cnt : Pt → Nat
  | .grp l => rowsCnt l
  | .rep a _ => a.cnt
  | _ => 1
def rowCnt : List Pt → Nat
  | [] => 0
  | p :: t => p.cnt + rowCnt t
def rowsCnt : List (List Pt) → Nat
  | [] => 0
  | r :: t => rowCnt r + rowsCnt t
end
mutual
/-- As it is read: classes are short, signs are signs. -/
def Pt.fine : Pt → Prop
  | .cls _ l => l.length ≤ 1000 ∧ l ≠ []
  | .grp l => rowsFine l ∧ l.length ≤ 1000
  | .rep a s => a.fine ∧ (s = 42 ∨ s = 43 ∨ s = 63)
  | _ => True
def rowFine : List Pt → Prop
  | [] => True
  | p :: t => p.fine ∧ rowFine t
def rowsFine : List (List Pt) → Prop
  | [] => True
  | r :: t => rowFine r ∧ r.length ≤ 1000 ∧ rowsFine t
end
mutual
theorem Pt.add_len : ∀ (p : Pt) (m : List Sp), (p.add m).2.length = m.length + p.cnt
  | .chr c, m => by simp [Pt.add, spotM, Pt.cnt]
  | .any, m => by simp [Pt.add, spotM, Pt.cnt]
  | .cls neg l, m => by simp [Pt.add, spotM, Pt.cnt]
  | .grp l, m => by simp only [Pt.add, Pt.cnt]; exact rowsAdd_len l _ m
  | .rep a s, m => by
    simp only [Pt.add, Pt.cnt, repM]
    have := Pt.add_len a m
    split
    · exact this
    · rw [lnk_length]; exact this
theorem rowAdd_len : ∀ (r : List Pt) (e : Es) (m : List Sp), (rowAdd r e m).2.length = m.length + rowCnt r
  | [], e, m => by simp [rowAdd, rowCnt]
  | p :: t, e, m => by
    simp only [rowAdd, rowCnt]
    rw [rowAdd_len t, lnk_length, Pt.add_len p m]
    omega
theorem rowsAdd_len : ∀ (l : List (List Pt)) (e : Es) (m : List Sp), (rowsAdd l e m).2.length = m.length + rowsCnt l
  | [], e, m => by simp [rowsAdd, rowsCnt]
  | r :: t, e, m => by
    simp only [rowsAdd, rowsCnt]
    rw [rowsAdd_len t, rowAdd_len r]
    omega
end
theorem Es.b64.chain {a b : Es} (ha : a.b64) (hb : b.b64) : (a.chain b).b64 := by
  unfold Es.chain Es.b64
  constructor
  · simp only; split
    · exact or_lt ha.1 hb.1
    · exact ha.1
  · simp only; split
    · exact or_lt hb.2 ha.2
    · exact hb.2
theorem Es.b64.either {a b : Es} (ha : a.b64) (hb : b.b64) : (a.either b).b64 := ⟨or_lt ha.1 hb.1, or_lt ha.2 hb.2⟩
theorem Es.b64.zero (b : Bool) : (⟨0, 0, b⟩ : Es).b64 := ⟨by simp, by simp⟩
theorem spot_b64 (m : List Sp) (l : Sn) (h : m.length + 1 ≤ 64) : (spotM m l).1.b64 := by
  have h1 : 2 ^ m.length < 2 ^ 64 := Nat.pow_lt_pow_right (by omega) (by omega)
  have h2 : (2 : Nat) ^ 64 = 18446744073709551616 := by decide
  exact ⟨by simp only [spotM]; omega, by simp only [spotM]; omega⟩
mutual
theorem Pt.add_b64 : ∀ (p : Pt) (m : List Sp), m.length + p.cnt ≤ 64 → (p.add m).1.b64
  | .chr c, m, h => by simp only [Pt.add]; exact spot_b64 m _ (by simpa [Pt.cnt] using h)
  | .any, m, h => by simp only [Pt.add]; exact spot_b64 m _ (by simpa [Pt.cnt] using h)
  | .cls neg l, m, h => by simp only [Pt.add]; exact spot_b64 m _ (by simpa [Pt.cnt] using h)
  | .grp l, m, h => by simp only [Pt.add]; simp only [Pt.cnt] at h; exact rowsAdd_b64 l _ m h (Es.b64.zero _)
  | .rep a s, m, h => by
    simp only [Pt.add, repM]
    simp only [Pt.cnt] at h
    have := Pt.add_b64 a m h
    split <;> exact this
theorem rowAdd_b64 : ∀ (r : List Pt) (e : Es) (m : List Sp), m.length + rowCnt r ≤ 64 → e.b64 → (rowAdd r e m).1.b64
  | [], e, m, h, he => by simp only [rowAdd]; exact he
  | p :: t, e, m, h, he => by
    simp only [rowAdd]
    simp only [rowCnt] at h
    exact rowAdd_b64 t _ _ (by rw [lnk_length, Pt.add_len]; omega) (he.chain (Pt.add_b64 p m (by omega)))
theorem rowsAdd_b64 : ∀ (l : List (List Pt)) (e : Es) (m : List Sp), m.length + rowsCnt l ≤ 64 → e.b64 → (rowsAdd l e m).1.b64
  | [], e, m, h, he => by simp only [rowsAdd]; exact he
  | r :: t, e, m, h, he => by
    simp only [rowsAdd]
    simp only [rowsCnt] at h
    exact rowsAdd_b64 t _ _ (by rw [rowAdd_len]; omega) (he.either (rowAdd_b64 r _ m (by omega) (Es.b64.zero _)))
end

theorem withF_cnt : ∀ (l : Sn) (x : Nat × Nat) (ah be : Sn), (withF l x ah be).length ≤ ah.length + l.length + be.length + 1 ∧ withF l x ah be ≠ []
  | [], x, ah, be => by rw [withF]; simp; omega
  | o :: t, x, ah, be => by
    rw [withF]
    split
    · have := withF_cnt t x (ah ++ [o]) be; simp at this ⊢; exact ⟨by omega, this.2⟩
    · split
      · have := withF_cnt t x ah (be ++ [o]); simp at this ⊢; exact ⟨by omega, this.2⟩
      · have := withF_cnt t (min o.1 x.1, max o.2 x.2) ah be; simp at this ⊢; exact ⟨by omega, this.2⟩
theorem cls_cnt {S : List UInt8} : ∀ (f a : Nat) (acc : Sn), a ≤ S.length → ∀ l b, clsF S f a acc = .ok l b → l.length + a ≤ acc.length + b ∧ l ≠ []
  | 0, a, acc, ha, l, b, h => by rw [clsF] at h; cases h
  | f + 1, a, acc, ha, l, b, h => by
    rw [clsF] at h
    by_cases h93 : acc ≠ [] ∧ S[a]? = some 93
    · rw [if_pos h93] at h
      injection h with e1 e2
      subst e1
      exact ⟨by omega, h93.1⟩
    · rw [if_neg h93] at h
      cases h1 : spanF S a with
      | bad k => rw [h1] at h; cases h
      | out => rw [h1] at h; cases h
      | ok x b1 =>
        rw [h1] at h
        have k1 := span_bd ha h1
        have := cls_cnt f b1 (withS acc x) k1.2 l b h
        have k2 := withF_cnt acc x [] []
        simp at k2
        exact ⟨by have := this.1; unfold withS at this; omega, this.2⟩

theorem read_cnt (S : List UInt8) (hS : S.length ≤ 999) : ∀ (f d a : Nat), a ≤ S.length →
    (∀ l b, rowsF S f d a = .ok l b → rowsCnt l + a ≤ b ∧ rowsFine l ∧ l ≠ [] ∧ l.length + a ≤ b + 1) ∧ (∀ l b, rowF S f d a = .ok l b → rowCnt l + a ≤ b ∧ rowFine l ∧ l.length + a ≤ b) ∧
    (∀ p b, itemF S f d a = .ok p b → p.cnt + a ≤ b ∧ p.fine) ∧ (∀ p b, atomF S f d a = .ok p b → p.cnt + a ≤ b ∧ p.fine)
  | 0, d, a, ha => by
    refine ⟨fun l b h => ?_, fun l b h => ?_, fun l b h => ?_, fun l b h => ?_⟩
    · rw [rowsF] at h; cases h
    · rw [rowF] at h; cases h
    · rw [itemF] at h; cases h
    · rw [atomF] at h; cases h
  | f + 1, d, a, ha => by
    have ih := read_cnt S hS f
    have bd := read_bd S f
    obtain ⟨_, r1, i1, t1⟩ := ih d a ha
    obtain ⟨_, ⟨R1, _⟩, ⟨I1, _⟩, ⟨T1, _⟩⟩ := bd d a ha
    refine ⟨fun l b h => ?_, fun l b h => ?_, fun p b h => ?_, fun p b h => ?_⟩
    · rw [rowsF] at h
      cases h1 : rowF S f d a with
      | bad k => rw [h1] at h; cases h
      | out => rw [h1] at h; cases h
      | ok r b1 =>
        rw [h1] at h
        simp only at h
        have k1 := r1 r b1 h1
        have k2 := R1 r b1 h1
        by_cases h124 : S[b1]? = some 124
        · rw [if_pos h124] at h
          have hl := (List.getElem?_eq_some_iff.1 h124).1
          cases h2 : rowsF S f d (b1 + 1) with
          | bad k => rw [h2] at h; cases h
          | out => rw [h2] at h; cases h
          | ok t b2 =>
            rw [h2] at h
            injection h with e1 e2
            subst e1 e2
            have k3 := (ih d (b1 + 1) hl).1 t b2 h2
            simp only [rowsCnt, rowsFine]
            exact ⟨by omega, ⟨k1.2.1, by omega, k3.2.1⟩, by simp, by simp only [List.length_cons]; omega⟩
        · rw [if_neg h124] at h
          injection h with e1 e2
          subst e1 e2
          simp only [rowsCnt, rowsFine]
          exact ⟨by omega, ⟨k1.2.1, by omega, trivial⟩, by simp, by simp only [List.length_cons, List.length_nil]; omega⟩
    · rw [rowF] at h
      by_cases hst : S[a]? = none ∨ S[a]? = some 124 ∨ S[a]? = some 41
      · rw [if_pos hst] at h
        injection h with e1 e2
        subst e1 e2
        simp only [rowCnt, rowFine]
        exact ⟨by omega, trivial, by simp⟩
      · rw [if_neg hst] at h
        cases h1 : itemF S f d a with
        | bad k => rw [h1] at h; cases h
        | out => rw [h1] at h; cases h
        | ok q b1 =>
          rw [h1] at h
          simp only at h
          have k1 := i1 q b1 h1
          have k2 := I1 q b1 h1
          cases h2 : rowF S f d b1 with
          | bad k => rw [h2] at h; cases h
          | out => rw [h2] at h; cases h
          | ok t b2 =>
            rw [h2] at h
            injection h with e1 e2
            subst e1 e2
            have k3 := (ih d b1 k2.2).2.1 t b2 h2
            simp only [rowCnt, rowFine]
            exact ⟨by omega, ⟨k1.2, k3.2.1⟩, by simp only [List.length_cons]; omega⟩
    · rw [itemF] at h
      cases h1 : atomF S f d a with
      | bad k => rw [h1] at h; cases h
      | out => rw [h1] at h; cases h
      | ok q b1 =>
        rw [h1] at h
        simp only at h
        have k1 := t1 q b1 h1
        split at h
        · injection h with e1 e2
          subst e1 e2
          simp only [Pt.cnt, Pt.fine]
          exact ⟨by omega, k1.2, by simp⟩
        · split at h
          · injection h with e1 e2
            subst e1 e2
            simp only [Pt.cnt, Pt.fine]
            exact ⟨by omega, k1.2, by simp⟩
          · split at h
            · injection h with e1 e2
              subst e1 e2
              simp only [Pt.cnt, Pt.fine]
              exact ⟨by omega, k1.2, by simp⟩
            · injection h with e1 e2
              subst e1 e2
              exact k1
    · rw [atomF] at h
      by_cases h46 : S[a]? = some 46
      · rw [if_pos h46] at h
        injection h with e1 e2
        subst e1 e2
        simp only [Pt.cnt, Pt.fine]
        exact ⟨by omega, trivial⟩
      · rw [if_neg h46] at h
        by_cases h91 : S[a]? = some 91
        · rw [if_pos h91] at h
          have hl := (List.getElem?_eq_some_iff.1 h91).1
          have hle : (if S[a + 1]? = some 94 then a + 2 else a + 1) ≤ S.length ∧ a < (if S[a + 1]? = some 94 then a + 2 else a + 1) := by
            split
            · rename_i h94; have := (List.getElem?_eq_some_iff.1 h94).1; omega
            · omega
          cases h2 : clsF S (S.length + 2) (if S[a + 1]? = some 94 then a + 2 else a + 1) [] with
          | bad k => rw [h2] at h; cases h
          | out => rw [h2] at h; cases h
          | ok t b2 =>
            rw [h2] at h
            injection h with e1 e2
            subst e1 e2
            have k2 := cls_cnt _ _ [] hle.1 t b2 h2
            have k3 := (cls_bd (S.length + 2) _ [] hle.1).1 t b2 h2
            simp only [Pt.cnt, Pt.fine]
            have k4 := k2.1
            simp at k4
            exact ⟨by omega, by omega, k2.2⟩
        · rw [if_neg h91] at h
          by_cases h40 : d < 16 ∧ S[a]? = some 40
          · rw [if_pos h40] at h
            have hl := (List.getElem?_eq_some_iff.1 h40.2).1
            cases h2 : rowsF S f (d + 1) (a + 1) with
            | bad k => rw [h2] at h; cases h
            | out => rw [h2] at h; cases h
            | ok t b2 =>
              rw [h2] at h
              simp only at h
              have k2 := (ih (d + 1) (a + 1) hl).1 t b2 h2
              split at h
              · injection h with e1 e2
                subst e1 e2
                simp only [Pt.cnt, Pt.fine]
                have k5 := ((bd (d + 1) (a + 1) hl).1.1 t b2 h2).2
                exact ⟨by omega, k2.2.1, by omega⟩
              · cases h
          · rw [if_neg h40] at h
            cases h2 : charF S a with
            | bad k => rw [h2] at h; cases h
            | out => rw [h2] at h; cases h
            | ok c b2 =>
              rw [h2] at h
              injection h with e1 e2
              subst e1 e2
              have k2 := char_bd ha h2
              simp only [Pt.cnt, Pt.fine]
              exact ⟨by omega, trivial⟩

end Go.Proofs.YtgmdpbahcbhfjaaGreatDoor
/-
  The machine: add, of one spot.
-/
namespace Go.Proofs.YtgmdpbahcbhfjaaGreatDoor
open Go.RowKit

section
set_option maxRecDepth 100000
theorem at45 (v : Value) (w : World) : (Instr.typeAssert (.iface 217 v) 269 217 true).run Tryz.prog w = .ok (.tuple #[v, .bool true]) w := by rfl
theorem at64_45 (v : Value) (w : World) : (Instr.typeAssert (.iface 250 v) 269 217 true).run Tryz.prog w = .ok (.tuple #[.slice none 0 0, .bool false]) w := by rfl
theorem at64 (v : Value) (w : World) : (Instr.typeAssert (.iface 250 v) 269 250 true).run Tryz.prog w = .ok (.tuple #[v, .bool true]) w := by rfl
theorem at74_45 (v : Value) (w : World) : (Instr.typeAssert (.iface 274 v) 269 217 true).run Tryz.prog w = .ok (.tuple #[.slice none 0 0, .bool false]) w := by rfl
theorem at74_64 (v : Value) (w : World) : (Instr.typeAssert (.iface 274 v) 269 250 true).run Tryz.prog w = .ok (.tuple #[.slice none 0 0, .bool false]) w := by rfl
theorem at74 (v : Value) (w : World) : (Instr.typeAssert (.iface 274 v) 269 274 true).run Tryz.prog w = .ok (.tuple #[v, .bool true]) w := by rfl
theorem at76_45 (v : Value) (w : World) : (Instr.typeAssert (.iface 276 v) 269 217 true).run Tryz.prog w = .ok (.tuple #[.slice none 0 0, .bool false]) w := by rfl
theorem at76_64 (v : Value) (w : World) : (Instr.typeAssert (.iface 276 v) 269 250 true).run Tryz.prog w = .ok (.tuple #[.slice none 0 0, .bool false]) w := by rfl
theorem at76_74 (v : Value) (w : World) : (Instr.typeAssert (.iface 276 v) 269 274 true).run Tryz.prog w = .ok (.tuple #[.agg #[.slice none 0 0], .bool false]) w := by rfl
theorem at76 (v : Value) (w : World) : (Instr.typeAssert (.iface 276 v) 269 276 true).run Tryz.prog w = .ok (.tuple #[v, .bool true]) w := by rfl
def leafT (t : Nat) : Prop := t = 287 ∨ t = 290 ∨ t = 293
theorem atL_45 {t : Nat} (h : leafT t) (v : Value) (w : World) : (Instr.typeAssert (.iface t v) 269 217 true).run Tryz.prog w = .ok (.tuple #[.slice none 0 0, .bool false]) w := by rcases h with rfl | rfl | rfl <;> rfl
theorem atL_64 {t : Nat} (h : leafT t) (v : Value) (w : World) : (Instr.typeAssert (.iface t v) 269 250 true).run Tryz.prog w = .ok (.tuple #[.slice none 0 0, .bool false]) w := by rcases h with rfl | rfl | rfl <;> rfl
theorem atL_74 {t : Nat} (h : leafT t) (v : Value) (w : World) : (Instr.typeAssert (.iface t v) 269 274 true).run Tryz.prog w = .ok (.tuple #[.agg #[.slice none 0 0], .bool false]) w := by rcases h with rfl | rfl | rfl <;> rfl
theorem atL_76 {t : Nat} (h : leafT t) (v : Value) (w : World) : (Instr.typeAssert (.iface t v) 269 276 true).run Tryz.prog w = .ok (.tuple #[.agg #[.nilIface, .int .u8 0], .bool false]) w := by rcases h with rfl | rfl | rfl <;> rfl
end

/-- What add promises. -/
def AddR (F : Nat → Prop) (w : World) (r : Nat) (E : Es) (o : Option Nat) (R : Es × List Sp) (e : Ending) (w' : World) : Prop := e = .returned (esV R.1) ∧ ∃ F' o', Mch F' w' r E R.2 o' ∧ Mv F F' w w' r o o'
def AddC (p : Pt) : Prop := ∀ (F : Nat → Prop) (w : World) (r : Nat) (E : Es) (M : List Sp) (o : Option Nat) (v : Value), PtV F w p v → Mch F w r E M o → M.length + p.cnt ≤ 64 → p.fine → Calls Tryz.prog 151 #[.pointer (some ⟨r, 0, none⟩), v] w (AddR F w r E o (p.add M))
def RowAC (l : List Pt) : Prop := ∀ (F : Nat → Prop) (w : World) (r : Nat) (E : Es) (M : List Sp) (o : Option Nat) (ad : Option Addr) (c b off : Nat), (l ≠ [] → ad = some ⟨b, off, none⟩ ∧ F b) → RowV F w l b off → Mch F w r E M o → M.length + rowCnt l ≤ 64 → rowFine l → l.length ≤ 1000 → Calls Tryz.prog 151 #[.pointer (some ⟨r, 0, none⟩), .iface 250 (.slice ad l.length c)] w (AddR F w r E o (rowAdd l ⟨0, 0, true⟩ M))
def RowsAC (l : List (List Pt)) : Prop := ∀ (F : Nat → Prop) (w : World) (r : Nat) (E : Es) (M : List Sp) (o : Option Nat) (ad : Option Addr) (c b off : Nat), (l ≠ [] → ad = some ⟨b, off, none⟩ ∧ F b) → RowsV F w l b off → Mch F w r E M o → M.length + rowsCnt l ≤ 64 → rowsFine l → l.length ≤ 1000 → Calls Tryz.prog 151 #[.pointer (some ⟨r, 0, none⟩), .iface 217 (.slice ad l.length c)] w (AddR F w r E o (rowsAdd l ⟨0, 0, false⟩ M))

/-- Of a part of one spot: what it takes. -/
theorem othS_len : ∀ (l : Sn) (low : Nat), (othS low l).length ≤ l.length + 1
  | [], low => by rw [othS]; split <;> simp
  | s :: t, low => by
    rw [othS]
    have := othS_len t (s.2 + 1)
    simp only [List.length_append, List.length_cons]
    split
    · simp only [List.length_cons, List.length_nil]; omega
    · simp only [List.length_nil]; omega
theorem ss_lt {w : World} {ad : Option Addr} {l : Sn} (h : Ss w ad l) (h0 : l ≠ []) (y : Addr) (e : ad = some y) : y.block < w.heap.size := by
  obtain ⟨b, off, e1, hlt, _⟩ := h.at' h0
  rw [e] at e1
  injection e1 with e1
  subst e1
  exact hlt
theorem spans_of (F : Nat → Prop) (p : Pt) (v : Value) (w : World) (h : PtV F w p v) (hf : p.fine) (hl : ∃ t u, v = .iface t u ∧ leafT t) :
    Calls Tryz.prog 170 #[v] w fun e w' => ∃ tv, e = .returned tv ∧ TkV (fun b => F b ∨ FW w w' b) w' tv p.spans ∧ Below w.heap.size w w' := by
  cases p with
  | chr c =>
    simp only [PtV] at h
    obtain ⟨rfl, hc⟩ := h
    refine (spansChr c hc w).mono ?_
    rintro e w' ⟨rfl, hb, hbl⟩
    refine ⟨_, rfl, ⟨_, 1, rfl, ss_blk hb (fun x hx => by simp [Pt.spans] at hx; subst hx; exact ⟨hc, hc⟩), fun y _ e => Or.inr ?_, by simp [Pt.spans]⟩, hbl⟩
    injection e with e
    subst e
    exact ⟨Nat.le_refl _, hb.lt⟩
  | any =>
    simp only [PtV] at h
    subst h
    refine (spansAny w).mono ?_
    rintro e w' ⟨a', c', rfl, ho, hbd, hbl⟩
    have hs := ss_of_owns ho hbd
    refine ⟨_, rfl, ⟨a', c', rfl, hs, fun y h0 e => Or.inr ⟨?_, ss_lt hs h0 y e⟩, by have := othS_len [] 0; simp at this; simp only [Pt.spans]; omega⟩, hbl⟩
    subst e
    obtain ⟨a2, c2, e2, _, hsp, _⟩ := owns_formS ho
    injection e2 with e3 _ _
    obtain ⟨z0, z1⟩ := hsp y e3.symm
    obtain ⟨b, off, sp⟩ := y
    simp only at z0 z1
    subst z0 z1
    exact (ho.lt b (by simp [Value.ownBlock])).1
  | cls neg l =>
    simp only [PtV] at h
    simp only [Pt.fine] at hf
    refine (spansCls F v neg l w h hf.1).mono ?_
    rintro e w' ⟨a', c', rfl, hs, hbd, hbk, hbl⟩
    refine ⟨_, rfl, ⟨a', c', rfl, hs, fun y h0 e => ?_, ?_⟩, hbl⟩
    · rcases hbk y h0 e with h1 | h1
      · exact Or.inl h1
      · exact Or.inr ⟨h1, ss_lt hs h0 y e⟩
    · have := othS_len l 0
      have := hf.1
      simp only [Pt.spans]
      split <;> omega
  | grp l =>
    simp only [PtV] at h
    obtain ⟨ad, c, b, off, rfl, _⟩ := h
    obtain ⟨t, u, e, ht⟩ := hl
    injection e with e1 e2
    subst e1
    rcases ht with ht | ht | ht <;> exact absurd ht (by decide)
  | rep a s =>
    simp only [PtV] at h
    obtain ⟨u, rfl, _⟩ := h
    obtain ⟨t, u, e, ht⟩ := hl
    injection e with e1 e2
    subst e1
    rcases ht with ht | ht | ht <;> exact absurd ht (by decide)

theorem res_add (tmps : Array Value) (w : World) (g : Nat) (e : Es) (hp : tmps.getD 4 undef = .pointer (some ⟨g, 0, none⟩)) (h : Blk w g 223 (esC e)) :
    (results Tryz.f151 tmps).run Tryz.prog w = .ok (esV e) w := by
  have h0 : w.cell? ⟨g, 0, none⟩ = some (.int .u64 (e.first : Int)) := h.cell 0
  have h1 : w.cell? ⟨g, 1, none⟩ = some (.int .u64 (e.last : Int)) := h.cell 1
  have h2 : w.cell? ⟨g, 2, none⟩ = some (.bool e.emp) := h.cell 2
  have hr : Tryz.f151.results = #[.cell 4 223] := by kernel_rfl
  have hp' : tmps[4]?.getD undef = .pointer (some ⟨g, 0, none⟩) := by simpa using hp
  simp [results, hr, hp', asAddr, loadVar, h0, h1, h2, go_sem, esV]

/-- A machine beside a block of its caller's that lies above all that it knows. -/
theorem Mv.apart {F F' : Nat → Prop} {w w' : World} {r : Nat} {o o' : Option Nat} {g : Nat} (h : Mv F F' w w' r o o') (hg : g < w.heap.size) (hr : g ≠ r) (ho : o ≠ some g) (hF : ¬ F g) : o' ≠ some g ∧ ¬ F' g := by
  refine ⟨fun e => ?_, fun e => ?_⟩
  · rcases h.mv with e1 | ⟨k, e1, hk⟩
    · exact ho (by rw [← e1]; exact e)
    · rw [e1] at e; injection e with e; omega
  · rcases h.new g e with e1 | e1
    · exact hF e1
    · omega

set_option maxRecDepth 100000 in
set_option maxHeartbeats 8000000 in
theorem add_leaf (p : Pt) (hp : ∀ (F : Nat → Prop) (w : World) (v : Value), PtV F w p v → ∃ t u, v = .iface t u ∧ leafT t) (hc : p.cnt = 1) (ha : ∀ M, p.add M = spotM M p.spans) : AddC p := by
  intro F w r E M o v hv hM hlen hfine
  obtain ⟨t, u, rfl, ht⟩ := hp F w v hv
  rw [ha, hc] at *
  obtain ⟨W, hW⟩ : ∃ W, w.alloc (.cells #[.int .u64 0, .int .u64 0, .bool false] 223) = W := ⟨_, rfl⟩
  have hal : Below w.heap.size w W := by rw [← hW]; exact (Below.refl _ w).alloc (Nat.le_refl _) _
  have B1 : Blk W w.heap.size 223 (esC ⟨0, 0, false⟩) := by rw [← hW]; exact Blk.new w 223 (esC ⟨0, 0, false⟩)
  have hM1 := hM.later hal
  have hv1 := PtV.keep (Chg.of_below (F := fun _ => False) hal) (fun _ _ h => h) p _ hv
  have k25 := spans_of F p (.iface t u) W hv1 hfine ⟨t, u, rfl, ht⟩
  have HFL : Hid (∀ b, F b → b < w.heap.size) := hidden (by obtain ⟨_, _, _, h, _⟩ := hM; exact h.lt)
  have hRL := hM.rlt
  have HNF : Hid (¬ F r ∧ ∀ b, F b → o ≠ some b) := hidden (by obtain ⟨_, _, _, h, e⟩ := hM; exact ⟨h.nr, fun b hb => by rw [← e]; exact h.no b hb⟩)
  have hOL := hM.olt
  have k1 := fun w => atL_45 ht u w
  have k2 := fun w => atL_64 ht u w
  have k3 := fun w => atL_74 ht u w
  have k4 := fun w => atL_76 ht u w
  -- behind spansOf, behind addSpot
  have HST : Hid (∀ (w2 : World) (tv : Value), TkV (fun b => F b ∨ FW W w2 b) w2 tv p.spans → Below W.heap.size W w2 → Calls Tryz.prog 169 #[.pointer (some ⟨r, 0, none⟩), tv] w2 fun e w3 => e = .returned (esV (spotM M p.spans).1) ∧ Blk w3 w.heap.size 223 (esC ⟨0, 0, false⟩) ∧ ∃ F' o', Mch F' (w3.setCells w.heap.size 0 (esC (spotM M p.spans).1)) r E (spotM M p.spans).2 o' ∧ Mv F F' w (w3.setCells w.heap.size 0 (esC (spotM M p.spans).1)) r o o') := hidden (fun w2 tv h1 h2 => by
    have hWs := hal.size
    have hWl := B1.lt
    have hm2 : Mch (fun b => F b ∨ FW W w2 b) w2 r E M o := (hM1.later h2).more (fun b hb => .inl hb) (fun e => by
        rcases e with e | e
        · exact HNF.out.1 e
        · have := e.1; omega) (fun b hb e => by
        rcases hb with hb | hb
        · exact HNF.out.2 b hb e
        · have := hOL b e; have := hb.1; omega) (fun b hb => by
        rcases hb with hb | hb
        · have := HFL.out b hb; have := h2.size; omega
        · exact hb.2)
    refine (addSpotP _ w2 r E M o tv p.spans hm2 h1 (by omega)).mono ?_
    rintro e w3 ⟨rfl, o', hm3, hv3⟩
    have hgw : w.heap.size < w2.heap.size := by have := h2.size; omega
    have hgo : o ≠ some w.heap.size := fun e => by have := hOL _ e; omega
    have hgF : ¬ (F w.heap.size ∨ FW W w2 w.heap.size) := by
      rintro (e | e)
      · have := HFL.out _ e; omega
      · have := e.1; omega
    have hap := hv3.apart hgw (by omega) hgo hgF
    have hB3 : Blk w3 w.heap.size 223 (esC ⟨0, 0, false⟩) := hv3.chg.blk (B1.later h2) (by
      rintro (e | e)
      · omega
      · exact hgo e)
    have hcs := Chg.sets w.heap.size (esC (spotM M p.spans).1) 0 w3
    refine ⟨rfl, hB3, _, o', hm3.keep hcs (fun e => by have e' : r = w.heap.size := e; omega) (fun b hb e => hap.1 (by have e' : b = w.heap.size := e; rw [← e']; exact hb)) (fun b hb e => hap.2 (by have e' : b = w.heap.size := e; rw [← e']; exact hb)), ?_⟩
    have c1 : Chg (fun b => b = r ∨ o = some b) w w2 := (Chg.of_below hal).trans (Chg.of_below (F := fun _ => False) h2) (fun _ _ h => h.elim)
    refine ⟨(c1.trans hv3.chg (fun _ _ h => h)).trans hcs (fun i hi e => by have e' : i = w.heap.size := e; omega), ?_, fun b hb => .inl hb, fun b hb => ?_⟩
    · rcases hv3.mv with e1 | ⟨k, e1, hk⟩
      · exact .inl e1
      · exact .inr ⟨k, e1, by omega⟩
    · rcases hb with hb | hb
      · exact .inl hb
      · exact .inr (by have := hb.1; omega))
  have HAL := hidden hal
  rw [← hW] at k25
  have HW := hidden hW
  obtain ⟨R, hR⟩ : ∃ R, spotM M p.spans = R := ⟨_, rfl⟩
  rw [hR] at HST ⊢
  clear hal B1 hM1 hv1 hv hM hRL hOL ht hfine hlen hW hR ha hc hp
  unfold AddR
  go_enter Tryz.func151, Tryz.ntmps151
  go_wp2_with (first
    | (go_at_call 170; refine k25.mono ?_; rintro e w2 ⟨tv, rfl, h1, h2⟩; rw [HW.out] at h1 h2; have kS := HST.out w2 tv h1 h2; clear k25 h1 h2 HST)
    | (go_at_call 169; refine kS.mono ?_; rintro e w3 ⟨rfl, h3, h4⟩; have H3 := hidden h3; have H4 := hidden h4; clear kS h3 h4)
    | (refine wpList_store_blk (l := esC R.1) rfl 223 (.tmp 4) (.tmp 73) rfl rfl w.heap.size H3.out rfl rfl rfl info52 (esC_one _) ?_))
  refine bodyPost_ret (res_add _ _ w.heap.size R.1 rfl (blk_stored H3.out rfl)) rfl ?_
  exact ⟨rfl, H4.out⟩

theorem add_chr (c : Nat) : AddC (.chr c) := add_leaf _ (fun F w v h => by simp only [PtV] at h; exact ⟨287, _, h.1, .inl rfl⟩) rfl (fun M => rfl)
theorem add_any : AddC .any := add_leaf _ (fun F w v h => by simp only [PtV] at h; exact ⟨290, _, h, .inr (.inl rfl)⟩) rfl (fun M => rfl)
theorem add_cls (neg : Bool) (l : Sn) : AddC (.cls neg l) := add_leaf _ (fun F w v h => by simp only [PtV] at h; obtain ⟨ad, c, e, _⟩ := h; exact ⟨293, _, e, .inr (.inr rfl)⟩) rfl (fun M => rfl)

end Go.Proofs.YtgmdpbahcbhfjaaGreatDoor
