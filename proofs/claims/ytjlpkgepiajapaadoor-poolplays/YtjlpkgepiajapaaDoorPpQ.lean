/-
  PoolPlays: the calls on what it holds.
-/
import Derived.Test.YtjlpkgepiajapaaDoorPpO
namespace Go.Proofs.YtjlpkgepiajapaaDoor
open Go.RowKit
set_option linter.unusedVariables false
set_option linter.unusedSimpArgs false

/-- What a step holds: the pools, and itself. -/
def SB (w0 : World) (v : Nat) (p r q n : Nat → Nat) (ob : Nat) (cs : List Value) (st sr : Nat → Sx) (w : World) : Prop :=
  ∃ F B vb vn Lb Ln, PS w0 w v p r q n st sr F B vb vn Lb Ln ∧ Blk w ob 42 cs
/-- What a step begins and ends with. -/
def PX (w0 : World) (v : Nat) (p r q n : Nat → Nat) (w : World) : Prop := ∃ st F B vb vn Lb Ln, PS w0 w v p r q n st st F B vb vn Lb Ln ∧ Lim st
section
variable {w0 w w' : World} {v : Nat} {p r q n : Nat → Nat} {ob : Nat} {cs : List Value} {st sr : Nat → Sx} {k : Nat} {s : ByteArray}
theorem SB.px (h : SB w0 v p r q n ob cs st st w) (hl : Lim st) : PX w0 v p r q n w := by
  obtain ⟨F, B, vb, vn, Lb, Ln, h1, _⟩ := h
  exact ⟨st, F, B, vb, vn, Lb, Ln, h1, hl⟩
theorem SB.later (h : SB w0 v p r q n ob cs st sr w) (b : Below w.heap.size w w') : SB w0 v p r q n ob cs st sr w' := by
  obtain ⟨F, B, vb, vn, Lb, Ln, h1, h2⟩ := h
  exact ⟨F, B, vb, vn, Lb, Ln, h1.later b, h2.later b⟩
theorem SB.cell (h : SB w0 v p r q n ob cs st sr w) (j : Nat) : w.cell? ⟨ob, j, none⟩ = cs[j]? := by
  obtain ⟨F, B, vb, vn, Lb, Ln, h1, h2⟩ := h
  exact h2.cell j
theorem SB.pc (h : SB w0 v p r q n ob cs st sr w) (hk : k < 3) {F' : Nat → Nat → Prop → Prop} {P : Value → Prop} {f : FuncId} {a : Array Value} {val : Value} {s' : Sx}
    (hc : ∀ (G : Nat → Prop), PQ G w (p k) (n k) (st k) → Gv w → Calls Tryd.prog f a w fun e w' => e = .returned val ∧ ∃ G', PQ G' w' (p k) (n k) s' ∧ Chg G w w' ∧ Nw w G G') :
    Calls Tryd.prog f a w fun e w' => e = .returned val ∧ SB w0 v p r q n ob cs (upF st k s') sr w' := by
  obtain ⟨F, B, vb, vn, Lb, Ln, h1, h2⟩ := h
  refine (hc (F k) (h1.pq k hk) h1.gv).mono fun e w' ⟨e1, G', e2, e3, e4⟩ => ⟨e1, _, B, vb, vn, Lb, Ln, h1.pcall hk e2 e3 e4, e3.blk h2 (h1.notF hk h2.tg (by decide))⟩
theorem SB.rc (h : SB w0 v p r q n ob cs st sr w) (hk : k < 3) {f : FuncId} {a : Array Value} {val : Value} {s' : Sx}
    (hc : ∀ B, RP w (r k) (q k) (n k) (sr k) B → Calls Tryd.prog f a w fun e w' => e = .returned val ∧ RPo w w' (r k) (q k) (n k) (sr k) B s') :
    Calls Tryd.prog f a w fun e w' => e = .returned val ∧ SB w0 v p r q n ob cs st (upF sr k s') w' := by
  obtain ⟨F, B, vb, vn, Lb, Ln, h1, h2⟩ := h
  refine (hc (B k) (h1.rp k hk)).mono fun e w' ⟨e1, e2⟩ => ?_
  obtain ⟨B9, hR9, c9, n9⟩ := e2
  obtain ⟨B', e3, _⟩ := h1.rcall hk ⟨B9, hR9, c9, n9⟩
  exact ⟨e1, F, _, vb, vn, Lb, Ln, e3, c9.blk h2 (h2.tg.ne (h1.rp k hk).row.tg (by decide))⟩
theorem SB.take (hk : k < 3) (h : SB w0 v p r q n ob cs st sr w) : Calls Tryd.prog 11 #[.pointer (some ⟨p k, 0, none⟩), .string s] w fun e w' => e = .returned (takeV (st k) (n k)) ∧ SB w0 v p r q n ob cs (upF st k (takeS (st k) (n k) s)) sr w' :=
  SB.pc (F' := fun _ _ _ => True) (P := fun _ => True) h hk (fun G hq hg => takeX s G (p k) (n k) (st k) w hq hg)
theorem SB.takeR (hk : k < 3) (h : SB w0 v p r q n ob cs st sr w) : Calls Tryd.prog 20 #[.pointer (some ⟨r k, 0, none⟩), .string s] w fun e w' => e = .returned (takeV (sr k) (n k)) ∧ SB w0 v p r q n ob cs st (upF sr k (takeS (sr k) (n k) s)) w' :=
  h.rc hk (fun B hB => Go.Proofs.YtjlpkgepiajapaaDoor.takeR s (r k) (q k) (n k) (sr k) B w hB)
theorem SB.give (hk : k < 3) (x : Int) (h : SB w0 v p r q n ob cs st sr w) : Calls Tryd.prog 14 #[.pointer (some ⟨p k, 0, none⟩), .int .i64 x] w fun e w' => e = .returned (.int .i64 (giveS (st k) (n k) x).1) ∧ SB w0 v p r q n ob cs (upF st k (giveS (st k) (n k) x).2) sr w' :=
  SB.pc (F' := fun _ _ _ => True) (P := fun _ => True) h hk (fun G hq hg => giveX x G (p k) (n k) (st k) w hq)
theorem SB.giveR (hk : k < 3) (x : Int) (h : SB w0 v p r q n ob cs st sr w) : Calls Tryd.prog 21 #[.pointer (some ⟨r k, 0, none⟩), .int .i64 x] w fun e w' => e = .returned (.int .i64 (giveS (sr k) (n k) x).1) ∧ SB w0 v p r q n ob cs st (upF sr k (giveS (sr k) (n k) x).2) w' :=
  h.rc hk (fun B hB => Go.Proofs.YtjlpkgepiajapaaDoor.giveR x (r k) (q k) (n k) (sr k) B w hB)
theorem SB.drop (hk : k < 3) (h : SB w0 v p r q n ob cs st sr w) : Calls Tryd.prog 15 #[.pointer (some ⟨p k, 0, none⟩), .string s] w fun e w' => e = .returned (.int .i64 ((setL (st k) (n k) s).length : Int)) ∧ SB w0 v p r q n ob cs (upF st k (drpS (st k) s)) sr w' :=
  SB.pc (F' := fun _ _ _ => True) (P := fun _ => True) h hk (fun G hq hg => dropX s G (p k) (n k) (st k) w hq)
theorem SB.dropR (hk : k < 3) (h : SB w0 v p r q n ob cs st sr w) : Calls Tryd.prog 30 #[.pointer (some ⟨r k, 0, none⟩), .string s] w fun e w' => e = .returned (.int .i64 ((setL (sr k) (n k) s).length : Int)) ∧ SB w0 v p r q n ob cs st (upF sr k (drpS (sr k) s)) w' :=
  h.rc hk (fun B hB => Go.Proofs.YtjlpkgepiajapaaDoor.dropR s (r k) (q k) (n k) (sr k) B w hB)
theorem SB.left (hk : k < 3) (h : SB w0 v p r q n ob cs st sr w) : Calls Tryd.prog 18 #[.pointer (some ⟨p k, 0, none⟩)] w fun e w' => e = .returned (.int .i64 ((n k - (tkL (st k) (n k)).length : Nat) : Int)) ∧ SB w0 v p r q n ob cs st sr w' := by
  have h' := h
  obtain ⟨F, B, vb, vn, Lb, Ln, h1, h2⟩ := h
  exact (leftX (F k) (p k) (n k) (st k) w (h1.pq k hk)).mono fun e w' ⟨e1, b⟩ => ⟨e1, h'.later b⟩
theorem SB.leftR (hk : k < 3) (h : SB w0 v p r q n ob cs st sr w) : Calls Tryd.prog 29 #[.pointer (some ⟨r k, 0, none⟩)] w fun e w' => e = .returned (.int .i64 ((n k - (tkL (sr k) (n k)).length : Nat) : Int)) ∧ SB w0 v p r q n ob cs st sr w' := by
  have h' := h
  obtain ⟨F, B, vb, vn, Lb, Ln, h1, h2⟩ := h
  exact (Go.Proofs.YtjlpkgepiajapaaDoor.leftR (r k) (q k) (n k) (sr k) (B k) w (h1.rp k hk)).mono fun e w' ⟨e1, b⟩ => ⟨e1, b ▸ h'⟩
theorem SB.used (hk : k < 3) (h : SB w0 v p r q n ob cs st sr w) : Calls Tryd.prog 16 #[.pointer (some ⟨p k, 0, none⟩), .string s] w fun e w' => e = .returned (.int .i64 ((setL (st k) (n k) s).length : Int)) ∧ SB w0 v p r q n ob cs st sr w' := by
  have h' := h
  obtain ⟨F, B, vb, vn, Lb, Ln, h1, h2⟩ := h
  exact (usedX s (F k) (p k) (n k) (st k) w (h1.pq k hk)).mono fun e w' ⟨e1, b⟩ => ⟨e1, b ▸ h'⟩
theorem SB.usedR (hk : k < 3) (h : SB w0 v p r q n ob cs st sr w) : Calls Tryd.prog 28 #[.pointer (some ⟨r k, 0, none⟩), .string s] w fun e w' => e = .returned (.int .i64 ((setL (sr k) (n k) s).length : Int)) ∧ SB w0 v p r q n ob cs st sr w' := by
  have h' := h
  obtain ⟨F, B, vb, vn, Lb, Ln, h1, h2⟩ := h
  exact (Go.Proofs.YtjlpkgepiajapaaDoor.usedR s (r k) (q k) (n k) (sr k) (B k) w (h1.rp k hk)).mono fun e w' ⟨e1, b⟩ => ⟨e1, h'.later b⟩
theorem lim_take {s : Sx} {n : Nat} {o : ByteArray} (h : ∀ i o d, s i = some (o, d) → d.size ≤ 128) : ∀ i o' d, takeS s n o i = some (o', d) → d.size ≤ 128 := by
  intro i o' d hi
  unfold takeS at hi
  cases hf : fst1 s n with
  | none => rw [hf] at hi; exact h i o' d hi
  | some j =>
    rw [hf] at hi
    simp only at hi
    unfold upS at hi
    by_cases e : i = j
    · rw [if_pos e] at hi
      simp only [Option.some.injEq, Prod.mk.injEq] at hi
      rw [← hi.2]
      exact Nat.zero_le _
    · rw [if_neg e] at hi; exact h i o' d hi
theorem lim_give {s : Sx} {n : Nat} {x : Int} (h : ∀ i o d, s i = some (o, d) → d.size ≤ 128) : ∀ i o' d, (giveS s n x).2 i = some (o', d) → d.size ≤ 128 := by
  intro i o' d hi
  unfold giveS at hi
  split at hi
  · simp only at hi
    unfold upS at hi
    split at hi
    · cases hi
    · exact h i o' d hi
  · exact h i o' d hi
theorem lim_drop {s : Sx} {o : ByteArray} (h : ∀ i o d, s i = some (o, d) → d.size ≤ 128) : ∀ i o' d, drpS s o i = some (o', d) → d.size ≤ 128 := by
  intro i o' d hi
  unfold drpS at hi
  split at hi
  · rename_i x hx
    split at hi
    · cases hi
    · injection hi with hi
      subst hi
      exact h i o' d hx
  · cases hi
theorem takeV_tuple (s : Sx) (n : Nat) : ∃ a e : Int, takeV s n = .tuple #[.int .i64 a, .int .i64 e] := by
  unfold takeV
  split
  · exact ⟨_, _, rfl⟩
  · exact ⟨_, _, rfl⟩
end

end Go.Proofs.YtjlpkgepiajapaaDoor
