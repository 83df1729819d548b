/-
  What two Opens tell, in one form.
-/
import Derived.Test.YtnfjhdedcnbdbaaWaC
import Derived.Test.YtnfjhdedcnbdbaaWaA
namespace Go.Proofs.Ytnfjhdedcnbdbaa
open Go.RowKit
set_option linter.unusedVariables false
set_option linter.unusedSimpArgs false

def tE : Except Int Fnd → Int | .error e => e | .ok _ => 0
def tS : Except Int Fnd → List Int | .error _ => [] | .ok f => f.state
def tR : Except Int Fnd → List (List Int) | .error _ => [] | .ok f => f.recs
def tN : Except Int Fnd → Bool | .error _ => true | .ok _ => false
/-- Cells that may be written. -/
def Wrt (A : World) (sa : Option Addr) (n : Nat) : Prop := ∀ j, j < n → ∃ g off u, sa = some ⟨g, off, none⟩ ∧ A.cell? ⟨g, off + j, none⟩ = some u ∧ A.frozen? ⟨g, off + j, none⟩ = false
/-- What the program's Open told. -/
structure Out (A : World) (st : List Int) (recs : List (List Int)) (sa : Option Addr) (sn : Nat) (ra : Option Addr) (rc : Nat) (r : List El) : Prop where
  ss : Sl A sa sn st
  sw : Wrt A sa sn
  rl : recs.length = r.length
  rr : A.ownsRow 0 22 1 (.slice ra r.length rc) r.length (r.map (·.2.1))
  rx : ∀ y ∈ r, RowX 0 A y
  ap : r.Pairwise ApartE
  sap : ∀ y ∈ r, ∀ z, sa = some z → 0 < sn → y.2.1.ownBlock ≠ some z.block
  eq : recs = r.map (·.2.2)
  tg : ∀ z, sa = some z → 0 < sn → Tg A z.block 5
/-- Its blocks of bytes. -/
def OW (sa : Option Addr) (sn : Nat) (r : List El) (g : Nat) : Prop := (∃ z, sa = some z ∧ 0 < sn ∧ z.block = g) ∨ ∃ y ∈ r, y.2.1.ownBlock = some g
theorem opens_ok_find {S : St} {f : Fnd} (h : S.opens.1 = .ok f) : S.find = .ok f := by
  unfold St.opens at h
  cases hf : S.find with
  | error e => rw [hf] at h; cases h
  | ok x =>
    rw [hf] at h
    simp only at h
    split at h
    · cases h
    · exact h
theorem finS_byte {S : St} {i : Nat} {a : Hd × List Int} {f : Fnd} (hb : ∀ i, Byte (S.file i)) (ha : headAt (S.file i) = some a) (h : finS S i a = .ok f) : Byte f.state ∧ ∀ r ∈ f.recs, Byte r := by
  unfold finS at h
  split at h
  · simp only [Except.ok.injEq] at h
    subst h
    refine ⟨?_, fun r hr => ?_⟩
    · unfold headAt at ha
      cases hfr : frames (S.file i) with
      | nil => rw [hfr] at ha; cases ha
      | cons x l =>
        rw [hfr] at ha
        obtain ⟨a1, a2⟩ := a
        have := headIn_some ha
        show Byte a2
        rw [this.2.2.2.2.1]
        exact (frames_byte (hb i) x (by rw [hfr]; simp)).1.drop 24
    · have hr' : r ∈ (frames (S.file i)).tail.map (·.2) := hr
      obtain ⟨x, hx, rfl⟩ := List.mem_map.1 hr'
      exact (frames_byte (hb i) x (List.mem_of_mem_tail hx)).1
  · cases h
theorem find_byte {S : St} {f : Fnd} (hb : ∀ i, Byte (S.file i)) (h : S.find = .ok f) : Byte f.state ∧ ∀ r ∈ f.recs, Byte r := by
  unfold St.find at h
  split at h
  · cases h
  · split at h
    · cases h
    · cases h0 : headAt (S.file 0) with
      | none =>
        cases h1 : headAt (S.file 1) with
        | none => rw [h0, h1] at h; cases h
        | some b => rw [h0, h1] at h; exact finS_byte hb h1 h
      | some a =>
        cases h1 : headAt (S.file 1) with
        | none => rw [h0, h1] at h; exact finS_byte hb h0 h
        | some b =>
          rw [h0, h1] at h
          simp only at h
          split at h
          · cases h
          · split at h
            · exact finS_byte hb h1 h
            · exact finS_byte hb h0 h
theorem tell_byte {S : St} (hb : ∀ i, Byte (S.file i)) : Byte (tS S.opens.1) ∧ ∀ r ∈ tR S.opens.1, Byte r := by
  cases h : S.opens.1 with
  | error e => exact ⟨fun x hx => (by cases hx), fun r hr => (by cases hr)⟩
  | ok f => exact find_byte hb (opens_ok_find h)

theorem OpenR.out {w w' : World} {p : Nat} {F : Nat → Prop} {S : St} {e : Ending} (hb : ∀ i, Byte (S.file i)) (h : OpenR w p F S e w') : ∃ F', Dk 71 66 w' p F' S.opens.2 ∧ Chg F w w' ∧ New w F F' ∧ ∃ lo sa sc ra rc r, e = .returned (.tuple #[.pointer lo, .slice sa (tS S.opens.1).length sc, .slice ra (tR S.opens.1).length rc, .int .i64 (tE S.opens.1)]) ∧ (lo = none ↔ tN S.opens.1 = true) ∧ Out w' (tS S.opens.1) (tR S.opens.1) sa (tS S.opens.1).length ra rc r ∧ (∀ g, OW sa (tS S.opens.1).length r g → w.heap.size ≤ g ∧ g < w'.heap.size ∧ ¬ F' g) := by
  have hby := tell_byte hb
  obtain ⟨F', h1, h2, h3, hc⟩ := h
  refine ⟨F', h1, h2, h3, ?_⟩
  rcases hc with ⟨er, he, _, rfl⟩ | ⟨f, lp, x, r, sv, rv, he, _, _, _, _, _, hst, hrc, hfd, hap, rfl⟩
  · rw [he]
    refine ⟨none, none, 0, none, 0, [], rfl, by simp [tN], ⟨Sl.nil _ _, fun j hj => absurd hj (Nat.not_lt_zero _), rfl, World.ownsRow_nil _ _ _ _, fun y hy => (by cases hy), List.Pairwise.nil, fun y hy => (by cases hy), rfl, fun z hz => (by cases hz)⟩, ?_⟩
    rintro g (⟨z, hz, _⟩ | ⟨y, hy, _⟩)
    · cases hz
    · cases hy
  · rw [he] at hby ⊢
    have hby1 : Byte f.state := hby.1
    obtain ⟨sa, sn, sc, rfl, hsn, hsl, _⟩ := hfd.sl (by rw [← hst]; exact hby1)
    rw [← hst] at hsl hsn
    subst hsn
    obtain ⟨q1, q2, q3, ⟨g, n, c, off, hv, hn, h24, hoff, hsv⟩, ⟨ra, rn, rc, rfl⟩, q6⟩ := hfd
    have hrn : rn = r.length := by
      obtain ⟨_, _, e⟩ := owns_formG q6
      simp only [Value.slice.injEq] at e
      exact e.2.1
    subst hrn
    have e1 : sa = some ⟨g, off, none⟩ ∧ f.state.length = n - 24 := by simp only [Value.slice.injEq] at hsv; exact ⟨hsv.1, hsv.2.1⟩
    have hlen : f.recs.length = r.length := by rw [hrc]; simp
    have hrow := q1.2
    rw [hv, ← hn] at hrow
    refine ⟨some ⟨lp, 0, none⟩, sa, sc, ra, rc, r, ?_, by simp [tN], ⟨hsl, ?_, hlen, owns_zero q6, fun y hy => ⟨(q2 y hy).1, owns_zero (q2 y hy).2⟩, (List.pairwise_cons.1 q3).2, ?_, hrc, ?_⟩, ?_⟩
    · show _ = Ending.returned (.tuple #[.pointer (some ⟨lp, 0, none⟩), .slice sa f.state.length sc, .slice ra f.recs.length rc, .int .i64 0])
      rw [hlen]
    · intro j hj
      obtain ⟨y, hy, hcell⟩ := hsl.cell j hj
      rw [e1.1] at hy
      cases hy
      have hj2 : 0 < n - 24 := by
        have : (tS (Except.ok f)).length = n - 24 := e1.2
        omega
      rw [Addr.add_lit] at hcell
      exact ⟨g, off, _, e1.1, hcell, owns_frozen hrow _⟩
    · intro y hy z hz hp
      rw [e1.1] at hz
      cases hz
      have := (List.pairwise_cons.1 q3).1 y hy g (by rw [hv]; rfl)
      exact this
    · intro z hz hp
      rw [e1.1] at hz
      cases hz
      exact owns_tg hrow g rfl
    · rintro g' (⟨z, hz, hp, rfl⟩ | ⟨y, hy, hg⟩)
      · rw [e1.1] at hz
        cases hz
        have := hrow.lt g rfl
        exact ⟨this.1, this.2, hap x (by simp) g (by rw [hv]; rfl)⟩
      · have := (q2 y hy).2.lt g' hg
        exact ⟨this.1, this.2, hap y (by simp [hy]) g' hg⟩
/-- What the document's Open told. -/
structure OutQ (A : World) (st : List Int) (recs : List (List Int)) (sa : Option Addr) (sn : Nat) (ra : Option Addr) (rc : Nat) (r : List El) : Prop where
  ss : Sl A sa sn st
  rl : recs.length = r.length
  rr : A.ownsRow 0 22 1 (.slice ra r.length rc) r.length (r.map (·.2.1))
  rx : ∀ y ∈ r, RowX 0 A y
  eq : recs = r.map (·.2.2)
theorem OpenQ.out {w w' : World} {p : Nat} {F : Nat → Prop} {S : St} {e : Ending} (hb : ∀ i, Byte (S.file i)) (h : OpenQ w p F S e w') : ∃ F', Dk 77 74 w' p F' S.opens.2 ∧ Chg F w w' ∧ New w F F' ∧ ∃ lo sa sc ra rc r, e = .returned (.tuple #[.pointer lo, .slice sa (tS S.opens.1).length sc, .slice ra (tR S.opens.1).length rc, .int .i64 (tE S.opens.1)]) ∧ (lo = none ↔ tN S.opens.1 = true) ∧ OutQ w' (tS S.opens.1) (tR S.opens.1) sa (tS S.opens.1).length ra rc r ∧
    (∀ y ∈ r, ∀ g, y.2.1.ownBlock = some g → w.heap.size ≤ g) ∧ (∀ g, (Value.slice ra r.length rc).ownBlock = some g → w.heap.size ≤ g) ∧ (∀ z, sa = some z → 0 < (tS S.opens.1).length → w.heap.size ≤ z.block) := by
  have hby := tell_byte hb
  obtain ⟨F', h1, h2, h3, hc⟩ := h
  refine ⟨F', h1, h2, h3, ?_⟩
  rcases hc with ⟨er, he, _, rfl⟩ | ⟨f, lp, r, sv, rv, he, _, hlg, _, ⟨sa, sc, rfl, hso⟩, hrc, hrx, hro, _, _, rfl⟩
  · rw [he]
    exact ⟨none, none, 0, none, 0, [], rfl, by simp [tN], ⟨Sl.nil _ _, rfl, World.ownsRow_nil _ _ _ _, fun y hy => (by cases hy), rfl⟩, fun y hy => (by cases hy), fun g hg => (by cases hg), fun z hz => (by cases hz)⟩
  · rw [he] at hby ⊢
    have hby1 : Byte f.state := hby.1
    obtain ⟨ra, rc, rfl⟩ := owns_formG hro
    have hlen : f.recs.length = r.length := by rw [hrc]; simp
    refine ⟨some ⟨lp, 0, none⟩, sa, sc, ra, rc, r, ?_, by simp [tN], ⟨sl_of_owns hso hby1, hlen, owns_zero hro, fun y hy => ⟨(hrx y hy).1, owns_zero (hrx y hy).2⟩, hrc⟩, fun y hy g hg => ((hrx y hy).2.lt g hg).1, fun g hg => (hro.lt g hg).1, ?_⟩
    · show _ = Ending.returned (.tuple #[.pointer (some ⟨lp, 0, none⟩), .slice sa f.state.length sc, .slice ra f.recs.length rc, .int .i64 0])
      rw [hlen]
    · intro z hz hp
      obtain ⟨g, hg⟩ := owns_addr hso hp
      rw [hg] at hz
      cases hz
      exact (hso.lt g (by rw [hg]; rfl)).1

end Go.Proofs.Ytnfjhdedcnbdbaa
