/-
  Package pool: its calls as a caller sees them.
-/
import Derived.Test.YtjlpkgepiajapaaDoorPlH
namespace Go.Proofs.YtjlpkgepiajapaaDoor
open Go.RowKit
set_option linter.unusedVariables false
set_option linter.unusedSimpArgs false

/-- What a call of the pool's may change: nothing below, and no cells but words. -/
def KF (base : Nat) (w : World) : Nat → Prop := fun i => base ≤ i ∧ ∀ t, Tg w i t → t = 87
abbrev Kp (base : Nat) (w w' : World) : Prop := Chg (KF base w) w w'
/-- A pool, wherever it lies from a block on. -/
def PB (base : Nat) (w : World) (p n : Nat) (st : Sx) : Prop := base ≤ p ∧ 0 < base ∧ ∃ g tb ob ow, Pl w p n g tb ob ow st ∧ ∀ i, PF g tb ob ow i → base ≤ i
theorem Pl.kf {w : World} {p n g tb ob base : Nat} {ow : ByteArray → Option Nat} {st : Sx} (h : Pl w p n g tb ob ow st) (hb : ∀ i, PF g tb ob ow i → base ≤ i) : ∀ i, PF g tb ob ow i → KF base w i := by
  intro i hi
  refine ⟨hb i hi, fun t ht => ?_⟩
  rcases hi with rfl | rfl | rfl | ⟨o, e⟩
  · exact ht.one h.fr.tg
  · exact absurd ht (h.tk.tg t)
  · obtain ⟨lo, l1, _⟩ := h.own
    exact absurd ht (l1.tg t)
  · exact absurd ht ((h.set o i e).1.tg t)
theorem PB.later {base : Nat} {w w' : World} {p n : Nat} {st : Sx} (h : PB base w p n st) (k : Below w.heap.size w w') : PB base w' p n st := by
  obtain ⟨h1, h2, g, tb, ob, ow, h3, h4⟩ := h
  exact ⟨h1, h2, g, tb, ob, ow, h3.later k, h4⟩
theorem Kp.blk {base : Nat} {w w' : World} (h : Kp base w w') {i : Nat} {t : TypeId} {L : List Value} (hB : Blk w i t L) (ht : t ≠ 87) : Blk w' i t L := Chg.blk h hB (fun hF => ht (hF.2 t hB.tg))
theorem Kp.bel {base : Nat} {w w' : World} (h : Kp base w w') (hb : base ≤ w.heap.size) : Below base w w' := Chg.below h hb (fun i hi => hi.1)
theorem Kp.gv {base : Nat} {w w' : World} (h : Kp base w w') (hb : 0 < base) (hG : Gv w) : Gv w' := hG.chg h (fun hF => by have := hF.1; omega)
theorem tkp_pb {base : Nat} {w w' : World} {p n g tb ob : Nat} {ow : ByteArray → Option Nat} {st st' : Sx} (h1 : base ≤ p) (h2 : 0 < base) (h : Pl w p n g tb ob ow st) (hb : ∀ i, PF g tb ob ow i → base ≤ i) (hw : base ≤ w.heap.size) (k : TkP w p n g tb ob ow st' w') : PB base w' p n st' ∧ Kp base w w' := by
  obtain ⟨ow', hp, hc, hm⟩ := k
  refine ⟨⟨h1, h2, g, tb, ob, ow', hp, fun i hi => ?_⟩, hc.mono (fun i _ hi => h.kf hb i hi)⟩
  rcases hi with e | e | e | ⟨o, e⟩
  · exact hb i (.inl e)
  · exact hb i (.inr (.inl e))
  · exact hb i (.inr (.inr (.inl e)))
  · rcases hm o i e with e | e
    · exact hb i (.inr (.inr (.inr ⟨o, e⟩)))
    · omega
theorem PB.size {base : Nat} {w : World} {p n : Nat} {st : Sx} (h : PB base w p n st) : base ≤ w.heap.size := by
  obtain ⟨h1, h2, g, tb, ob, ow, h3, h4⟩ := h
  have := h3.blk.lt
  omega

theorem newB (n : Nat) (h1 : 1 ≤ n) (h2 : n ≤ 65536) (w : World) (hw : 0 < w.heap.size) : Calls Tryd.prog 6 #[.int .i64 (n : Int)] w fun e w' => ∃ p, e = .returned (.tuple #[.pointer (some ⟨p, 0, none⟩), .int .i64 0]) ∧ PB w.heap.size w' p n (fun _ => none) ∧ Below w.heap.size w w' :=
  (newP n h1 h2 w).mono fun e w' ⟨p, g, tb, ob, he, hp, hb, hz, hf⟩ => ⟨p, he, ⟨hz, hw, g, tb, ob, _, hp, hf⟩, hb⟩
theorem newBad (k : Int) (hk : k < 1 ∨ 65536 < k) (w : World) : Calls Tryd.prog 6 #[.int .i64 k] w fun e w' => e = .returned (.tuple #[.pointer none, .int .i64 1]) ∧ w' = w := by
  rcases (show k < 1 ∨ (1 ≤ k ∧ 65536 < k) by omega) with h | ⟨h, h'⟩
  all_goals
    clear hk
    go_enter Tryd.func6, Tryd.ntmps6
    go_wp2_with fail
    go_ret2
    exact ⟨rfl, rfl⟩
def takeS (st : Sx) (n : Nat) (o : ByteArray) : Sx := match fst1 st n with
  | some i => upS st i (some (o, emp))
  | none => st
def takeV (st : Sx) (n : Nat) : Value := match fst1 st n with
  | some i => .tuple #[.int .i64 (i : Int), .int .i64 0]
  | none => .tuple #[.int .i64 0, .int .i64 110]
theorem takeB (o : ByteArray) (base p n : Nat) (st : Sx) (w : World) (h : PB base w p n st) (hG : Gv w) :
    Calls Tryd.prog 11 #[.pointer (some ⟨p, 0, none⟩), .string o] w fun e w' => e = .returned (takeV st n) ∧ PB base w' p n (takeS st n o) ∧ Kp base w w' := by
  have hz := h.size
  have h' := h
  obtain ⟨h1, h2, g, tb, ob, ow, h3, h4⟩ := h
  unfold takeV takeS
  cases hf : fst1 st n with
  | none => exact (take_none o p n g tb ob ow st w h3 hG hf).mono fun e w' ⟨e1, e2⟩ => ⟨e1, e2 ▸ h', e2 ▸ Chg.refl _ _⟩
  | some i =>
    cases ho : ow o with
    | none => exact (take_new o i p n g tb ob ow st w h3 hG hf ho).mono fun e w' ⟨e1, e2⟩ => ⟨e1, tkp_pb h1 h2 h3 h4 hz e2⟩
    | some sb => exact (take_old o i sb p n g tb ob ow st w h3 hG hf ho).mono fun e w' ⟨e1, e2⟩ => ⟨e1, tkp_pb h1 h2 h3 h4 hz e2⟩
/-- A slot's number, if it is taken. -/
def atS (st : Sx) (n : Nat) (k : Int) : Option (Nat × ByteArray × ByteArray) := if 0 ≤ k ∧ k < (n : Int) then (st k.toNat).map fun x => (k.toNat, x) else none
theorem atS_cases (st : Sx) (n : Nat) (k : Int) : (atS st n k = none ∧ al (tkL st n) k = none) ∨ ∃ i o d, atS st n k = some (i, o, d) ∧ k = (i : Int) ∧ i < n ∧ st i = some (o, d) ∧ al (tkL st n) k = some (leV o d) := by
  unfold atS
  by_cases hk : 0 ≤ k ∧ k < (n : Int)
  · obtain ⟨i, rfl⟩ : ∃ i : Nat, k = (i : Int) := ⟨k.toNat, by omega⟩
    have hi : i < n := by omega
    rw [if_pos hk, Int.toNat_natCast]
    cases e : st i with
    | none => exact .inl ⟨rfl, by rw [al_tk hi, e]; rfl⟩
    | some x =>
      obtain ⟨o, d⟩ := x
      exact .inr ⟨i, o, d, rfl, rfl, hi, e, by rw [al_tk hi, e]; rfl⟩
  · rw [if_neg hk]
    exact .inl ⟨rfl, al_tk_off (by omega)⟩
def giveS (st : Sx) (n : Nat) (k : Int) : Int × Sx := match atS st n k with
  | some (i, _) => (0, upS st i none)
  | none => (111, st)
theorem giveB (k : Int) (base p n : Nat) (st : Sx) (w : World) (h : PB base w p n st) :
    Calls Tryd.prog 14 #[.pointer (some ⟨p, 0, none⟩), .int .i64 k] w fun e w' => e = .returned (.int .i64 (giveS st n k).1) ∧ PB base w' p n (giveS st n k).2 ∧ Kp base w w' := by
  have hz := h.size
  have h' := h
  obtain ⟨h1, h2, g, tb, ob, ow, h3, h4⟩ := h
  unfold giveS
  rcases atS_cases st n k with ⟨e1, e2⟩ | ⟨i, o, d, e1, rfl, hi, hs, e2⟩
  · rw [e1]
    exact (give_none k p n g tb ob ow st w h3 e2).mono fun e w' ⟨e3, b⟩ => ⟨e3, h'.later b, Chg.of_below b⟩
  · rw [e1]
    exact (give_ok i o d p n g tb ob ow st w h3 hi hs).mono fun e w' ⟨e3, e4⟩ => ⟨e3, tkp_pb h1 h2 h3 h4 hz e4⟩
def putS (st : Sx) (n : Nat) (k : Int) (l : List Int) : Int × Sx := match atS st n k with
  | some (i, o, _) => if 128 < l.length then (1, st) else (0, upS st i (some (o, strOfNums l)))
  | none => (111, st)
theorem putB (k : Int) (ad : Option Addr) (len c : Nat) (l : List Int) (base p n : Nat) (st : Sx) (w : World) (h : PB base w p n st) (hs : Sl w ad len l) (hl : len ≤ 9223372036854775807) :
    Calls Tryd.prog 13 #[.pointer (some ⟨p, 0, none⟩), .int .i64 k, .slice ad len c] w fun e w' => e = .returned (.int .i64 (putS st n k l).1) ∧ PB base w' p n (putS st n k l).2 ∧ Kp base w w' := by
  have hz := h.size
  have h' := h
  obtain ⟨h1, h2, g, tb, ob, ow, h3, h4⟩ := h
  unfold putS
  rcases atS_cases st n k with ⟨e1, e2⟩ | ⟨i, o, d, e1, rfl, hi, hst, e2⟩
  · rw [e1]
    exact (put_none k ad len c p n g tb ob ow st w h3 e2).mono fun e w' ⟨e3, b⟩ => ⟨e3, h'.later b, Chg.of_below b⟩
  · rw [e1]
    simp only
    by_cases hlen : 128 < l.length
    · rw [if_pos hlen]
      exact (put_long i o d ad len c p n g tb ob ow st w h3 hi hst (by rw [← hs.len]; exact hlen) hl).mono fun e w' ⟨e3, b⟩ => ⟨e3, h'.later b, Chg.of_below b⟩
    · rw [if_neg hlen]
      exact (put_ok i o d ad len c l p n g tb ob ow st w h3 hi hst hs (by rw [← hs.len]; omega)).mono fun e w' ⟨e3, hp, hc⟩ => ⟨e3, ⟨h1, h2, g, tb, ob, ow, hp, h4⟩, hc.mono (fun j _ hj => h3.kf h4 j (.inr (.inl hj)))⟩
/-- Get tells nothing, or new bytes. -/
theorem getB (k : Int) (base p n : Nat) (st : Sx) (w : World) (h : PB base w p n st) :
    Calls Tryd.prog 12 #[.pointer (some ⟨p, 0, none⟩), .int .i64 k] w fun e w' => Below w.heap.size w w' ∧ ((atS st n k = none ∧ e = .returned (.tuple #[.slice none 0 0, .int .i64 111])) ∨
      ∃ i o d ga c, atS st n k = some (i, o, d) ∧ e = .returned (.tuple #[.slice (some ⟨ga, 0, none⟩) d.size c, .int .i64 0]) ∧ w.heap.size ≤ ga ∧ Sl w' (some ⟨ga, 0, none⟩) d.size (bts d) ∧ Tg w' ga 5) := by
  obtain ⟨h1, h2, g, tb, ob, ow, h3, h4⟩ := h
  rcases atS_cases st n k with ⟨e1, e2⟩ | ⟨i, o, d, e1, rfl, hi, hst, e2⟩
  · exact (get_none k p n g tb ob ow st w h3 e2).mono fun e w' ⟨e3, b⟩ => ⟨b, .inl ⟨e1, e3⟩⟩
  · exact (get_some _ o d p n g tb ob ow st w h3 e2).mono fun e w' ⟨ga, c, e3, z, s, b, t⟩ => ⟨b, .inr ⟨i, o, d, ga, c, e1, e3, z, s, t⟩⟩
theorem leftB (base p n : Nat) (st : Sx) (w : World) (h : PB base w p n st) : Calls Tryd.prog 18 #[.pointer (some ⟨p, 0, none⟩)] w fun e w' => e = .returned (.int .i64 ((n - (tkL st n).length : Nat) : Int)) ∧ Below w.heap.size w w' := by
  obtain ⟨h1, h2, g, tb, ob, ow, h3, h4⟩ := h
  exact leftP p n g tb ob ow st w h3
theorem usedB (o : ByteArray) (base p n : Nat) (st : Sx) (w : World) (h : PB base w p n st) : Calls Tryd.prog 16 #[.pointer (some ⟨p, 0, none⟩), .string o] w fun e w' => e = .returned (.int .i64 ((setL st n o).length : Int)) ∧ w' = w := by
  obtain ⟨h1, h2, g, tb, ob, ow, h3, h4⟩ := h
  exact usedP o p n g tb ob ow st w h3
theorem dropB (o : ByteArray) (base p n : Nat) (st : Sx) (w : World) (h : PB base w p n st) : Calls Tryd.prog 15 #[.pointer (some ⟨p, 0, none⟩), .string o] w fun e w' => e = .returned (.int .i64 ((setL st n o).length : Int)) ∧ PB base w' p n (drpS st o) ∧ Kp base w w' := by
  have hz := h.size
  obtain ⟨h1, h2, g, tb, ob, ow, h3, h4⟩ := h
  cases ho : ow o with
  | none => exact (drop_none o p n g tb ob ow st w h3 ho).mono fun e w' ⟨e1, e2⟩ => ⟨e1, tkp_pb h1 h2 h3 h4 hz e2⟩
  | some sb => exact (drop_some o sb p n g tb ob ow st w h3 ho).mono fun e w' ⟨e1, e2⟩ => ⟨e1, tkp_pb h1 h2 h3 h4 hz e2⟩

end Go.Proofs.YtjlpkgepiajapaaDoor
