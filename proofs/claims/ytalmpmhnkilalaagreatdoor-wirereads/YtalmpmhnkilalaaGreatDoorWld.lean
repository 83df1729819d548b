import Derived.Test.YtalmpmhnkilalaaGreatDoorRow
import Derived.Test.YtalmpmhnkilalaaGreatDoorBlk
import Derived.OneCell
import Derived.Test.YtalmpmhnkilalaaGreatDoorChecked
import Derived.Deep.QuietTactic
import Derived.BigQuiet
/-
  Worlds of which some blocks may have changed; a writer and a reader of bits. Nothing of the program but its types' numbers.
-/
namespace Go.Proofs.YtalmpmhnkilalaaGreatDoor
open Go.RowKit
set_option linter.unusedVariables false

theorem hidden {p : Prop} (h : p) : Hid p := h

/-- All blocks but these are as they were. -/
structure Chg (F : Nat → Prop) (w w' : World) : Prop where
  os : w'.os = w.os
  tape : w'.tape = w.tape
  output : w'.output = w.output
  size : w.heap.size ≤ w'.heap.size
  block : ∀ k, k < w.heap.size → ¬ F k → w'.heap[k]? = w.heap[k]?

theorem Chg.refl (F : Nat → Prop) (w : World) : Chg F w w := ⟨rfl, rfl, rfl, Nat.le_refl _, fun _ _ _ => rfl⟩
theorem Chg.trans {F G : Nat → Prop} {a b c : World} (h : Chg F a b) (k : Chg G b c) (hs : ∀ i, i < a.heap.size → G i → F i) : Chg F a c :=
  ⟨k.os.trans h.os, k.tape.trans h.tape, k.output.trans h.output, Nat.le_trans h.size k.size, fun i hi hF => (k.block i (Nat.lt_of_lt_of_le hi h.size) (fun g => hF (hs i hi g))).trans (h.block i hi hF)⟩
theorem Chg.mono {F G : Nat → Prop} {a b : World} (h : Chg F a b) (hs : ∀ i, i < a.heap.size → F i → G i) : Chg G a b :=
  ⟨h.os, h.tape, h.output, h.size, fun i hi hG => h.block i hi (fun f => hG (hs i hi f))⟩
theorem Chg.below {F : Nat → Prop} {B : Nat} {a b : World} (h : Chg F a b) (hB : B ≤ a.heap.size) (hs : ∀ i, F i → B ≤ i) : Below B a b :=
  ⟨h.os, h.tape, h.output, h.size, fun i hi => h.block i (Nat.lt_of_lt_of_le hi hB) (fun f => by have := hs i f; omega)⟩
theorem Chg.of_below {F : Nat → Prop} {a b : World} (h : Below a.heap.size a b) : Chg F a b := ⟨h.os, h.tape, h.output, h.size, fun i hi _ => h.block i hi⟩
theorem Chg.of_grown {F : Nat → Prop} {a b : World} {row : Option Nat} (h : a.grownBy b row) (hs : ∀ i, row = some i → F i) : Chg F a b :=
  ⟨h.os, h.tape, h.output, h.size, fun i hi hF => h.block i hi (fun e => hF (hs i e.symm))⟩
theorem Chg.set (p : Addr) (v : Value) (w : World) : Chg (fun i => i = p.block) w (w.setCell p v) :=
  ⟨rfl, rfl, rfl, by simp [World.setCell], fun k _ hk => heap_setCell_other w p k v (fun e => hk (by simp [e]))⟩
theorem Chg.drew (F : Nat → Prop) (w : World) : Chg F w w.drew := ⟨rfl, rfl, rfl, Nat.le_refl _, fun _ _ _ => rfl⟩
theorem Chg.drewN (F : Nat → Prop) (w : World) (n : Nat) : Chg F w (w.drewN n) := Chg.of_below (below_drewN (Below.refl _ _) n)
theorem Chg.blk {F : Nat → Prop} {a b : World} {g : Nat} {ty : TypeId} {l : List Value} (h : Chg F a b) (hB : Blk a g ty l) (hF : ¬ F g) : Blk b g ty l := by
  unfold Blk at *
  rw [h.block g (Blk.lt hB) hF]
  exact hB
theorem Chg.sl {F : Nat → Prop} {a b : World} {ad : Option Addr} {n : Nat} {l : List Int} (h : Chg F a b) (hS : Sl a ad n l) (hF : ∀ x, ad = some x → 0 < n → ¬ F x.block) : Sl b ad n l := by
  refine ⟨hS.len, hS.byte, fun j hj => ?_⟩
  obtain ⟨x, hx, hc⟩ := hS.cell j hj
  refine ⟨x, hx, ?_⟩
  have hlt := hS.lt x hx (by omega)
  rw [← hc]
  exact World.cell?_of_block (by rw [add_block]; exact h.block _ hlt (hF x hx (by omega)))
theorem Chg.owns {F : Nat → Prop} {a b : World} {base : Nat} {e : TypeId} {size : Nat} {v : Value} {n : Nat} {xs : List Value} (h : Chg F a b) (hO : a.ownsRow base e size v n xs) (hF : ∀ g, v.ownBlock = some g → ¬ F g) : b.ownsRow base e size v n xs := by
  refine ⟨hO.1, ?_⟩
  rcases hO.2 with h0 | ⟨g, cap, cur, rfl, hb, hh, r⟩
  · exact .inl h0
  · refine .inr ⟨g, cap, cur, rfl, hb, ?_, r⟩
    rw [h.block g (Array.getElem?_eq_some_iff.1 hh).1 (hF g rfl)]
    exact hh
theorem owns_lt {w : World} {base : Nat} {e : TypeId} {size : Nat} {v : Value} {n : Nat} {xs : List Value} (hO : w.ownsRow base e size v n xs) : ∀ g, v.ownBlock = some g → g < w.heap.size := by
  intro g hg
  rcases hO.2 with ⟨rfl, _⟩ | ⟨g', cap, cur, rfl, hb, hh, r⟩
  · cases hg
  · obtain rfl : g' = g := by simpa [Value.ownBlock] using hg
    exact (Array.getElem?_eq_some_iff.1 hh).1
/-- A store in a row that is owned. -/
theorem owns_set {w : World} {base : Nat} {e : TypeId} {g n cap : Nat} {R : List Int} (hO : w.ownsRow base e 1 (.slice (some ⟨g, 0, none⟩) n cap) n (cells8 R)) (q : Nat) (x : Int) (hq : q < R.length) :
    (w.setCell ⟨g, q, none⟩ (.int .u8 x)).ownsRow base e 1 (.slice (some ⟨g, 0, none⟩) n cap) n (cells8 (R.set q x)) := by
  have hl := hO.1
  rw [cells8_length] at hl
  rcases hO.2 with ⟨h0, _⟩ | ⟨g', cap', cur, hv, hb, hh, hn, hc, hs, ht⟩
  · cases h0
  · simp only [Value.slice.injEq, Option.some.injEq, Addr.mk.injEq] at hv
    obtain ⟨⟨rfl, _⟩, _, rfl⟩ := hv
    refine ⟨by rw [cells8_length, List.length_set]; omega, .inr ⟨g, cap, cur.setIfInBounds q (.int .u8 x), rfl, hb, ?_, hn, hc, by simpa using hs, ?_⟩⟩
    · simp [World.setCell, Array.getElem?_modify, hh]
    · rw [Array.toList_setIfInBounds, List.take_set, ht]
      simp [cells8, List.map_set]

/-- A writer of bits: its block, its row's block, its row, and what it keeps it in. -/
structure WR (w : World) (p : Nat) (rb : Option Nat) (L : List Bool) (v : Value) (R : List Int) : Prop where
  ne : rb ≠ some p
  own : v.ownBlock = rb
  blk : Blk w p 208 [v, .int .i64 (L.length : Int)]
  row : w.ownsRow 0 5 1 v R.length (cells8 R)
  byte : Byte R
  rep : Rep R L
  len : L.length ≤ 8 * R.length
def WS (w : World) (p : Nat) (rb : Option Nat) (L : List Bool) : Prop := ∃ (v : Value) (R : List Int), WR w p rb L v R
/-- Where a writer's memory lies. -/
def fpt (p : Nat) (rb : Option Nat) : Nat → Prop := fun i => i = p ∨ rb = some i
/-- A new row's block is the old one or new. -/
def Moved (w : World) (rb rb' : Option Nat) : Prop := rb' = rb ∨ ∃ g, rb' = some g ∧ w.heap.size ≤ g
theorem Moved.trans {a b : World} {r s t : Option Nat} (h : Moved a r s) (k : Moved b s t) (hs : a.heap.size ≤ b.heap.size) : Moved a r t := by
  rcases k with rfl | ⟨g, rfl, hg⟩
  · exact h
  · exact .inr ⟨g, rfl, by omega⟩
theorem fpt_moved {w : World} {p : Nat} {rb rb' : Option Nat} (h : Moved w rb rb') : ∀ i, i < w.heap.size → fpt p rb' i → fpt p rb i := by
  intro i hi hf
  rcases hf with rfl | hf
  · exact .inl rfl
  · rcases h with rfl | ⟨g, rfl, hg⟩
    · exact .inr hf
    · simp at hf
      omega
theorem WR.lt {w : World} {p : Nat} {rb : Option Nat} {L : List Bool} {v : Value} {R : List Int} (h : WR w p rb L v R) : ∀ i, fpt p rb i → i < w.heap.size := by
  rintro i (rfl | hi)
  · exact h.blk.lt
  · have := h.own
    subst this
    exact owns_lt h.row i hi
theorem WS.lt {w : World} {p : Nat} {rb : Option Nat} {L : List Bool} (h : WS w p rb L) : ∀ i, fpt p rb i → i < w.heap.size := by
  obtain ⟨v, R, h⟩ := h
  exact h.lt
theorem WR.chg {F : Nat → Prop} {a b : World} {p : Nat} {rb : Option Nat} {L : List Bool} {v : Value} {R : List Int} (h : WR a p rb L v R) (hc : Chg F a b) (hF : ∀ i, fpt p rb i → ¬ F i) : WR b p rb L v R := by
  obtain ⟨h0, h1, h2, h3, h4, h5, h6⟩ := h
  subst h1
  exact ⟨h0, rfl, hc.blk h2 (hF p (.inl rfl)), hc.owns h3 (fun g hg => hF g (.inr hg)), h4, h5, h6⟩
theorem WS.chg {F : Nat → Prop} {a b : World} {p : Nat} {rb : Option Nat} {L : List Bool} (h : WS a p rb L) (hc : Chg F a b) (hF : ∀ i, fpt p rb i → ¬ F i) : WS b p rb L := by
  obtain ⟨v, R, h⟩ := h
  exact ⟨v, R, h.chg hc hF⟩

theorem Chg.alloc (F : Nat → Prop) (w : World) (o : Obj) : Chg F w (w.alloc o) := Chg.of_below ((Below.refl _ _).alloc (Nat.le_refl _) _)
theorem Pushed.chg {w w6 : World} {v : Value} {g6 : Nat} {o : Obj} (hp : Pushed (w.alloc o) w6 v g6) : Chg (fun i => v.ownBlock = some i) w w6 ∧ Moved w v.ownBlock (some g6) := by
  rcases hp with ⟨h1, h2⟩ | ⟨h1, h2⟩
  · exact ⟨(Chg.alloc _ w o).trans (Chg.of_grown (F := fun i => v.ownBlock = some i) h2 (fun i hi => by rw [h1]; exact hi)) (fun i _ hi => hi), .inl h1.symm⟩
  · refine ⟨(Chg.alloc _ w o).trans (Chg.of_grown (F := fun i => v.ownBlock = some i) h2 (fun i hi => by cases hi)) (fun i _ hi => hi), .inr ⟨g6, rfl, ?_⟩⟩
    have : w.heap.size ≤ (w.alloc o).heap.size := by simp
    omega
theorem WR.push {w w6 : World} {p : Nat} {rb : Option Nat} {L : List Bool} {ad : Option Addr} {n c : Nat} {R : List Int} (h : WR w p rb L (.slice ad n c) R) (hn : R.length = n) {o : Obj} {g6 c6 : Nat}
    (ho : w6.ownsRow 0 5 1 (.slice (some ⟨g6, 0, none⟩) (n + 1) c6) (n + 1) (cells8 R ++ [.int .u8 0])) (hp : Pushed (w.alloc o) w6 (.slice ad n c) g6) :
    Blk w6 p 208 [.slice ad n c, .int .i64 (L.length : Int)] ∧ WR (w6.setCell ⟨p, 0, none⟩ (.slice (some ⟨g6, 0, none⟩) (n + 1) c6)) p (some g6) L (.slice (some ⟨g6, 0, none⟩) (n + 1) c6) (R ++ [0]) ∧
      Chg (fpt p rb) w (w6.setCell ⟨p, 0, none⟩ (.slice (some ⟨g6, 0, none⟩) (n + 1) c6)) ∧ Moved w rb (some g6) := by
  obtain ⟨h1, h2⟩ := hp.chg
  have hown := h.own
  rw [hown] at h1 h2
  have hB : Blk w6 p 208 [.slice ad n c, .int .i64 (L.length : Int)] := h1.blk h.blk (fun e => h.ne e)
  have hne : g6 ≠ p := by
    rintro rfl
    rcases h2 with e | ⟨g, e, hg⟩
    · exact h.ne e.symm
    · have := h.blk.lt
      simp at e
      omega
  refine ⟨hB, ⟨by simpa using hne, rfl, hB.set 0 _, ?_, h.byte.append (fun x hx => by simp at hx; omega), h.rep.pad 1, by have := h.len; simp; omega⟩, (h1.mono (G := fpt p rb) (fun i _ hi => .inr hi)).trans (Chg.set ⟨p, 0, none⟩ _ w6) (fun i _ hi => .inl hi), h2⟩
  · have e : cells8 (R ++ [0]) = cells8 R ++ [.int .u8 0] := by rw [cells8_append]; rfl
    rw [e, List.length_append, hn]
    exact ownsRow_setCell_other ho (by simpa [Value.ownBlock] using hne) _
/-- A reader of bits: its block, its bytes, how many bits were got. -/
def RS (w : World) (p : Nat) (l : List Int) (t : Nat) : Prop :=
  t ≤ 8 * l.length ∧ ∃ (ad : Option Addr) (c : Nat), Blk w p 215 [.slice ad l.length c, .int .i64 (t : Int)] ∧ Sl w ad l.length l ∧ ∀ x, ad = some x → 0 < l.length → x.block < p

end Go.Proofs.YtalmpmhnkilalaaGreatDoor

namespace Go.Proofs.YtalmpmhnkilalaaGreatDoor
open Go.RowKit
set_option linter.unusedVariables false

theorem info5 : (Tryz.prog.info? 5).map (fun i => (i.zero, i.size, i.bytes)) = some (some (.int .u8 0), 1, 1) := by kernel_rfl
theorem info_parts {P : Program} {ty : TypeId} {z : Option Value} {s b : Nat} (h : (P.info? ty).map (fun i => (i.zero, i.size, i.bytes)) = some (z, s, b)) : ∃ i, P.info? ty = some i ∧ i.zero = z ∧ i.size = s ∧ i.bytes = b := by
  cases e : P.info? ty with
  | none => rw [e] at h; cases h
  | some i =>
    rw [e] at h
    simp at h
    exact ⟨i, rfl, h.1, h.2.1, h.2.2⟩

/-- bytesOf. -/
theorem bytesOf_any (n : Nat) (w : World) (hn : n ≤ 1152921504606846976) : Calls Tryz.prog 212 #[.int .i64 (n : Int)] w fun e w' => e = .returned (.int .i64 (((n + 7) / 8 : Nat) : Int)) ∧ w' = w := by
  go_enter Tryz.func212, Tryz.ntmps212
  go_wp2_with fail
  go_ret
  refine ⟨?_, rfl⟩
  show Ending.returned (.int .i64 (((n : Int) + 8 - 1) / 8)) = _
  congr 2
  omega

theorem len_any (p : Nat) (rb : Option Nat) (L : List Bool) (w : World) (h : WS w p rb L) : Calls Tryz.prog 198 #[.pointer (some ⟨p, 0, none⟩)] w fun e w' => e = .returned (.int .i64 (L.length : Int)) ∧ w' = w := by
  obtain ⟨v, R, h⟩ := h
  have hB := h.blk
  clear h
  have c1 : w.cell? ⟨p, 1, none⟩ = some (.int .i64 (L.length : Int)) := hB.cell 1
  clear hB
  go_enter Tryz.func198, Tryz.ntmps198
  go_wp2_with fail
  go_ret
  exact ⟨rfl, rfl⟩

theorem built53 : Tryz.prog.built 208 [] = some #[.slice none 0 0, .int .i64 0] := by kernel_rfl

theorem newWriter_any (w : World) : Calls Tryz.prog 197 #[] w fun e w' => e = .returned (.pointer (some ⟨w.heap.size, 0, none⟩)) ∧ WS w' w.heap.size none [] ∧ Below w.heap.size w w' := by
  have hb := built53
  go_enter Tryz.func197, Tryz.ntmps197
  go_wp2_with (first
    | (refine wpList_build_to rfl 208 #[] rfl [] #[.slice none 0 0, .int .i64 0] ?_ hb ?_; kernel_rfl)
    | (refine wpList_box_blk rfl 208 (.tmp 1) rfl [.slice none 0 0, .int .i64 0] rfl ?_; intro w2 B2 bl2 hz2))
  go_ret
  exact ⟨rfl, ⟨.slice none 0 0, [], by simp, rfl, B2, World.ownsRow_nil _ _ _ _, fun n hn => by simp at hn, Rep.nil, by simp⟩, bl2⟩

def roomLen (p : Nat) (w : World) : Nat := match w.cell? ⟨p, 0, none⟩ with | some (.slice _ n _) => n | _ => 0
theorem roomLen_eq {w : World} {p : Nat} {ad : Option Addr} {n c : Nat} (h : w.cell? ⟨p, 0, none⟩ = some (.slice ad n c)) : roomLen p w = n := by
  unfold roomLen
  rw [h]

set_option maxHeartbeats 1000000 in
theorem grow_any (p : Nat) (rb : Option Nat) (L : List Bool) (v : Value) (R : List Int) (count : Nat) (w : World) (h : WR w p rb L v R) (hc : count ≤ 1099511627776) :
    Calls Tryz.prog 223 #[.pointer (some ⟨p, 0, none⟩), .int .i64 (count : Int)] w fun e w' => e = .returned (.tuple #[]) ∧ ∃ rb' v' R', WR w' p rb' L v' R' ∧ count ≤ R'.length ∧ Chg (fpt p rb) w w' ∧ Moved w rb rb' := by
  obtain ⟨i0, hi, hz0, hz1, hz2⟩ := info_parts info5
  have HH := hidden h
  clear h
  go_enter Tryz.func223, Tryz.ntmps223
  go_wp2_with fail
  go_loopw [] (fun wr => ∃ rb' v' R', WR wr p rb' L v' R' ∧ Chg (fpt p rb) w wr ∧ Moved w rb rb') (fun wr => count - roomLen p wr)
  case atStart => exact ⟨rb, v, R, HH.out, Chg.refl _ _, .inl rfl⟩
  case round =>
    rename World => wr
    obtain ⟨rb', v', R', hW, hC, hM⟩ := hrel
    obtain ⟨ad, c, rfl⟩ := owns_form hW.row
    have c0 : wr.cell? ⟨p, 0, none⟩ = some (.slice ad R'.length c) := hW.blk.cell 0
    have hrl := roomLen_eq c0
    have HRL := hidden hrl
    have HW := hidden hW
    have HC := hidden hC
    have HM := hidden hM
    clear hW hC hM hrl
    obtain ⟨n, hn⟩ : ∃ n, R'.length = n := ⟨_, rfl⟩
    rw [hn] at c0
    have HN := hidden hn
    clear hn
    by_cases hlt : n < count
    · go_wp2_with (first
        | (at_builtin; (refine wpList_push _ rfl _ _ 22 rfl 5 i0 (.int .u8 0) 1 Tryz.underlying22 hi hz0 hz1 hz2 rfl 0 (.slice ad n c) n (cells8 R') rfl (by rw [← HN.out]; exact (Chg.alloc (fun _ => False) wr _).owns HW.out.row (fun _ _ h => h)) ⟨wr.heap.size, 0, none⟩ (.int .u8 0) rfl (by first | (simp; done) | (simp; omega)) rfl (by unfold maxLen; omega) (by omega) (Nat.zero_le _) ?_); intro g6 c6 w6 ho6 hp6; rw [HN.out] at HW; obtain ⟨B6, W6, C6, M6⟩ := HW.out.push HN.out ho6 hp6; have d0 : w6.cell? ⟨p, 0, none⟩ = some (.slice ad n c) := B6.cell 0; have f0 := B6.frozen 0; have HW6 := hidden W6; have HC6 := hidden C6; have HM6 := hidden M6; clear W6 C6 M6 B6 ho6 hp6 c0))
      refine ⟨⟨_, _, _, HW6.out, HC.out.trans HC6.out (fun i hi hf => fpt_moved HM.out i hi hf), HM.out.trans HM6.out HC.out.size⟩, ?_⟩
      have e := roomLen_eq (HW6.out.blk.cell 0)
      rw [e, HRL.out, HN.out]
      omega
    · go_wp2_with fail
      go_end0
      exact ⟨rfl, _, _, _, HW.out, by rw [HN.out]; omega, HC.out, HM.out⟩

end Go.Proofs.YtalmpmhnkilalaaGreatDoor
