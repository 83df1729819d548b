/-
  A disk that is newer than a world; what is shown; strings.
-/
import Derived.Test.YtgmcfejmhlglkaaSameR
namespace Go.Proofs.Ytgmcfejmhlglkaa
open Go.RowKit
set_option linter.unusedVariables false
set_option linter.unusedSimpArgs false

theorem str_run {w : World} {ad : Option Addr} {n c : Nat} {l : List Int} (h : Sl w ad n l) : (convert 27 9 (.slice ad n c)).run Try.prog w = .ok (.string (strOfNums l)) w :=
  run_string_of 27 5 9 Try.underlying27 Try.underlying5 Try.underlying9 h

/-- A disk that is newer than w0, and all that has changed since; Y: blocks that are none of its. -/
def NB (w0 w : World) (p : Nat) (S : St) (Y : Nat → Prop) : Prop := ∃ F, Dk 80 82 w p F S ∧ (∀ i, F i → w0.heap.size ≤ i) ∧ Below w0.heap.size w0 w ∧ (∀ i, F i → ¬ Y i) ∧ (∀ i, Y i → i < w.heap.size)
def Kept (Y : Nat → Prop) (w w' : World) : Prop := Chg (fun i => ¬ Y i) w w'
theorem NB.bel {w0 w : World} {p : Nat} {S : St} {Y : Nat → Prop} (h : NB w0 w p S Y) : Below w0.heap.size w0 w := by
  obtain ⟨F, h1, h2, h3, _⟩ := h
  exact h3
theorem NB.step {w0 w w' : World} {p : Nat} {S' : St} {F Y : Nat → Prop} (hF : ∀ i, F i → w0.heap.size ≤ i) (hb : Below w0.heap.size w0 w) (hY : ∀ i, F i → ¬ Y i) (hYl : ∀ i, Y i → i < w.heap.size) (h : Dks 80 82 w w' p F S') : NB w0 w' p S' Y ∧ Kept Y w w' := by
  obtain ⟨F', h1, h2, h3⟩ := h
  refine ⟨⟨F', h1, fun i hi => ?_, hb.trans ⟨h2.os, h2.tape, h2.output, h2.size, fun k hk => h2.block k (Nat.lt_of_lt_of_le hk hb.size) (fun f => by have := hF k f; omega)⟩, fun i hi hy => ?_, fun i hi => Nat.lt_of_lt_of_le (hYl i hi) h2.size⟩, h2.mono (fun i _ hi => hY i hi)⟩
  · rcases h3 i hi with f | f
    · exact hF i f
    · have := hb.size
      omega
  · rcases h3 i hi with f | f
    · exact hY i f hy
    · have := hYl i hy
      omega
theorem NB.later {w0 w w' : World} {p : Nat} {S : St} {Y : Nat → Prop} (h : NB w0 w p S Y) (hb : Below w.heap.size w w') : NB w0 w' p S Y := by
  obtain ⟨F, h1, h2, h3, h4, h5⟩ := h
  exact ⟨F, h1.chg (Chg.of_below (F := fun _ => False) hb) (fun _ _ h => h), h2, h3.trans (hb.mono h3.size), h4, fun i hi => Nat.lt_of_lt_of_le (h5 i hi) hb.size⟩
/-- What is new is none of its. -/
theorem NB.more {w0 w w' : World} {p : Nat} {S : St} {Y : Nat → Prop} (h : NB w0 w p S Y) (hb : Below w.heap.size w w') : NB w0 w' p S (fun i => Y i ∨ w.heap.size ≤ i ∧ i < w'.heap.size) := by
  obtain ⟨F, h1, h2, h3, h4, h5⟩ := h
  refine ⟨F, h1.chg (Chg.of_below (F := fun _ => False) hb) (fun _ _ h => h), h2, h3.trans (hb.mono h3.size), fun i hi hy => ?_, fun i hi => ?_⟩
  · rcases hy with hy | hy
    · exact h4 i hi hy
    · have := h1.lt i hi
      omega
  · rcases hi with hi | hi
    · exact Nat.lt_of_lt_of_le (h5 i hi) hb.size
    · exact hi.2
theorem NB.less {w0 w : World} {p : Nat} {S : St} {Y Z : Nat → Prop} (h : NB w0 w p S Y) (hs : ∀ i, Z i → Y i) : NB w0 w p S Z := by
  obtain ⟨F, h1, h2, h3, h4, h5⟩ := h
  exact ⟨F, h1, h2, h3, fun i hi hz => h4 i hi (hs i hz), fun i hz => h5 i (hs i hz)⟩
/-- What is kept has been written by others. -/
theorem NB.chg {w0 w w' : World} {p : Nat} {S : St} {Y : Nat → Prop} (h : NB w0 w p S Y) (hc : Chg Y w w') (hY : ∀ i, Y i → w0.heap.size ≤ i) : NB w0 w' p S Y := by
  obtain ⟨F, h1, h2, h3, h4, h5⟩ := h
  refine ⟨F, h1.chg hc h4, h2, h3.trans ⟨hc.os, hc.tape, hc.output, hc.size, fun k hk => hc.block k (Nat.lt_of_lt_of_le hk h3.size) (fun f => by have := hY k f; omega)⟩, h4, fun i hi => Nat.lt_of_lt_of_le (h5 i hi) hc.size⟩
theorem Kept.sl {Y : Nat → Prop} {w w' : World} {ad : Option Addr} {n : Nat} {l : List Int} (h : Kept Y w w') (hS : Sl w ad n l) (hY : ∀ x, ad = some x → 0 < n → Y x.block) : Sl w' ad n l := Chg.sl h hS (fun x hx h0 e => e (hY x hx h0))
theorem Kept.blk {Y : Nat → Prop} {w w' : World} {g : Nat} {ty : TypeId} {l : List Value} (h : Kept Y w w') (hB : Blk w g ty l) (hY : Y g) : Blk w' g ty l := Chg.blk h hB (fun e => e hY)
theorem new_b (n : Int) (w0 w : World) (hw : Below w0.heap.size w0 w) (hn : 1 ≤ n) (hn8 : n ≤ 8) : Calls Try.prog 10 #[.int .i64 n] w fun e w' => ∃ p, e = .returned (.tuple #[.pointer (some ⟨p, 0, none⟩), .int .i64 0]) ∧ NB w0 w' p (St.fresh n.toNat) (fun _ => False) := by
  refine (newP n w hn hn8).mono ?_
  rintro e w' ⟨p, F, rfl, hD, hF, hb⟩
  have := hw.size
  exact ⟨p, rfl, F, hD, fun i hi => by have := hF i hi; omega, hw.trans (hb.mono this), fun _ _ h => h, fun _ h => h.elim⟩
theorem append_b (w0 w : World) (p : Nat) (S : St) (Y : Nat → Prop) (f : Int) (ad : Option Addr) (m c : Nat) (l : List Int) (h : NB w0 w p S Y) (hf : S.falls ≤ 1099511627776) (hS : Sl w ad m l) (hnone : ad = none → m = 0 ∧ c = 0) (hm : m ≤ 70368744177664) :
    Calls Try.prog 12 #[.pointer (some ⟨p, 0, none⟩), .int .i64 f, .slice ad m c] w fun e w' => e = .returned (.int .i64 (S.append f l).1) ∧ NB w0 w' p (S.append f l).2 Y ∧ Kept Y w w' := by
  obtain ⟨F, h1, h2, h3, h4, h5⟩ := h
  refine (appendP p F S w f ad m c l h1 hf hS hnone hm).mono ?_
  rintro e w' ⟨rfl, hD⟩
  exact ⟨rfl, NB.step h2 h3 h4 h5 hD⟩
theorem sync_b (w0 w : World) (p : Nat) (S : St) (Y : Nat → Prop) (f : Int) (h : NB w0 w p S Y) (hf : S.falls ≤ 1099511627776) :
    Calls Try.prog 13 #[.pointer (some ⟨p, 0, none⟩), .int .i64 f] w fun e w' => e = .returned (.int .i64 (S.sync f).1) ∧ NB w0 w' p (S.sync f).2 Y ∧ Kept Y w w' := by
  obtain ⟨F, h1, h2, h3, h4, h5⟩ := h
  refine (syncP p F S w f h1 hf).mono ?_
  rintro e w' ⟨rfl, hD⟩
  exact ⟨rfl, NB.step h2 h3 h4 h5 hD⟩
theorem truncate_b (w0 w : World) (p : Nat) (S : St) (Y : Nat → Prop) (f n : Int) (h : NB w0 w p S Y) (hf : S.falls ≤ 1099511627776) (hn : -9223372036854775808 ≤ n ∧ n ≤ 9223372036854775807) :
    Calls Try.prog 14 #[.pointer (some ⟨p, 0, none⟩), .int .i64 f, .int .i64 n] w fun e w' => e = .returned (.int .i64 (S.truncate f n).1) ∧ NB w0 w' p (S.truncate f n).2 Y ∧ Kept Y w w' := by
  obtain ⟨F, h1, h2, h3, h4, h5⟩ := h
  refine (truncateP p F S w f n h1 hf hn).mono ?_
  rintro e w' ⟨rfl, hD⟩
  exact ⟨rfl, NB.step h2 h3 h4 h5 hD⟩
theorem restart_b (w0 w : World) (p : Nat) (S : St) (Y : Nat → Prop) (h : NB w0 w p S Y) :
    Calls Try.prog 18 #[.pointer (some ⟨p, 0, none⟩)] w fun e w' => e = .returned (.tuple #[]) ∧ NB w0 w' p S.restart Y ∧ Kept Y w w' := by
  obtain ⟨F, h1, h2, h3, h4, h5⟩ := h
  refine (restartP p F S w h1).mono ?_
  rintro e w' ⟨rfl, hD⟩
  exact ⟨rfl, NB.step h2 h3 h4 h5 hD⟩
theorem fuse_b (w0 w : World) (p : Nat) (S : St) (Y : Nat → Prop) (o : Int) (ka : Option Addr) (kn kc : Nat) (K : List Int) (h : NB w0 w p S Y) (hS : Sn w ka kn K) (hkc : kn ≤ kc) (ho : -9223372036854775808 ≤ o ∧ o ≤ 9223372036854775807) :
    Calls Try.prog 21 #[.pointer (some ⟨p, 0, none⟩), .int .i64 o, .slice ka kn kc] w fun e w' => e = .returned (.int .i64 (S.setFuse o K).1) ∧ NB w0 w' p (S.setFuse o K).2 Y ∧ Kept Y w w' := by
  obtain ⟨F, h1, h2, h3, h4, h5⟩ := h
  refine (fuseP p F S o ka kn kc K w h1 hS hkc ho).mono ?_
  rintro e w' ⟨rfl, hD⟩
  exact ⟨rfl, NB.step h2 h3 h4 h5 hD⟩
theorem crash_b (w0 w : World) (p : Nat) (S : St) (Y : Nat → Prop) (a : Addr) (kn kc : Nat) (K : List Int) (h : NB w0 w p S Y) (hf : S.falls ≤ 1099511627776) (w1 : World) (hb : Below w.heap.size w w1) (hS : Sn w1 (some a) kn K) (ha : w.heap.size ≤ a.block) :
    Calls Try.prog 15 #[.pointer (some ⟨p, 0, none⟩), .slice (some a) kn kc] w1 fun e w' => e = .returned (.tuple #[]) ∧ NB w0 w' p (S.crash K) Y ∧ Kept Y w1 w' := by
  have hl := h.later hb
  obtain ⟨F, h1, h2, h3, h4, h5⟩ := h
  have hlt := h1.lt
  have h1' := h1.chg (Chg.of_below (F := fun _ => False) hb) (fun _ _ h => h)
  refine (crashP p F S (some a) kn kc K w1 h1' hS ?_ hf).mono ?_
  · intro x hx _ hF
    obtain rfl := Option.some.inj hx
    have := hlt _ hF
    omega
  rintro e w' ⟨rfl, hD⟩
  exact ⟨rfl, NB.step h2 (h3.trans (hb.mono h3.size)) h4 (fun i hi => Nat.lt_of_lt_of_le (h5 i hi) hb.size) hD⟩
theorem read_b (w0 w : World) (p : Nat) (S : St) (Y : Nat → Prop) (f at_ n : Int) (h : NB w0 w p S Y) (ha : -9223372036854775808 ≤ at_ ∧ at_ ≤ 9223372036854775807) (hn : -9223372036854775808 ≤ n ∧ n ≤ 9223372036854775807) :
    Calls Try.prog 16 #[.pointer (some ⟨p, 0, none⟩), .int .i64 f, .int .i64 at_, .int .i64 n] w fun e w' => ∃ ad m c, e = .returned (.tuple #[.slice ad m c, .int .i64 (S.read f at_ n).1]) ∧ Sl w' ad m (S.read f at_ n).2 ∧ (∀ x, ad = some x → w.heap.size ≤ x.block ∧ x.block < w'.heap.size) ∧ NB w0 w' p S Y ∧ Below w.heap.size w w' := by
  have h' := h
  obtain ⟨F, h1, h2, h3, h4, h5⟩ := h
  refine (readP p F S w f at_ n h1 ha hn).mono ?_
  rintro e w' ⟨ad, m, c, rfl, ho, hb, hbl⟩
  refine ⟨ad, m, c, rfl, sl_of_owns ho hb, fun x hx => ?_, h'.later hbl, hbl⟩
  subst hx
  exact ho.lt x.block rfl
theorem size_b (w0 w : World) (p : Nat) (S : St) (Y : Nat → Prop) (f : Int) (h : NB w0 w p S Y) : Calls Try.prog 22 #[.pointer (some ⟨p, 0, none⟩), .int .i64 f] w fun e w' => e = .returned (.int .i64 (S.size f)) ∧ w' = w := by
  obtain ⟨F, h1, h2, h3, h4, h5⟩ := h
  exact sizeP p F S w f h1
theorem lasts_b (w0 w : World) (p : Nat) (S : St) (Y : Nat → Prop) (f : Int) (h : NB w0 w p S Y) : Calls Try.prog 23 #[.pointer (some ⟨p, 0, none⟩), .int .i64 f] w fun e w' => e = .returned (.int .i64 (S.lasts f)) ∧ w' = w := by
  obtain ⟨F, h1, h2, h3, h4, h5⟩ := h
  exact lastsP p F S w f h1
theorem alive_b (w0 w : World) (p : Nat) (S : St) (Y : Nat → Prop) (h : NB w0 w p S Y) : Calls Try.prog 17 #[.pointer (some ⟨p, 0, none⟩)] w fun e w' => e = .returned (.bool S.on) ∧ w' = w := by
  obtain ⟨F, h1, h2, h3, h4, h5⟩ := h
  exact aliveP p F S w h1
theorem falls_b (w0 w : World) (p : Nat) (S : St) (Y : Nat → Prop) (h : NB w0 w p S Y) : Calls Try.prog 20 #[.pointer (some ⟨p, 0, none⟩)] w fun e w' => e = .returned (.int .i64 (S.falls : Int)) ∧ w' = w := by
  obtain ⟨F, h1, h2, h3, h4, h5⟩ := h
  exact fallsP p F S w h1

theorem constBytes (w : World) (C : Array Value) (n c g : Nat) (hg : g = w.heap.size) : (convert 27 27 (.slice (some ⟨g, 0, none⟩) n c)).run Try.prog (w.alloc (.cells C 5)) = .ok (.slice (some ⟨g, 0, none⟩) n c) (w.alloc (.cells C 5 (C.size, C.size + 1))) := by
  subst hg
  exact Lib.run_convert_bytes_const (P := Try.prog) w 27 5 C n c Try.underlying27 Try.underlying5
theorem sn_lit (w : World) (l : List Int) (hb : In64 l) (e : TypeId) (fr : Nat × Nat) (n : Nat) (hn : l.length = n) (C : Array Value) (hC : C = (cellsI l).toArray) (g : Nat) (hg : g = w.heap.size) : Sn (w.alloc (.cells C e fr)) (some ⟨g, 0, none⟩) n l := by
  subst hg
  refine ⟨hn, hb, fun j hj => ⟨_, rfl, ?_⟩⟩
  subst hC
  rw [Addr.add_lit, World.cell?_alloc_mark]
  simp [cellsI, List.getD, show j < l.length by omega]

def sh0 : St := ⟨[⟨[], 0⟩, ⟨[], 0⟩], true, 0, none⟩
def sh1 : St := ⟨[⟨[97, 98, 99], 0⟩, ⟨[], 0⟩], true, 0, none⟩
def sh2 : St := ⟨[⟨[97, 98, 99], 3⟩, ⟨[], 0⟩], true, 0, none⟩
def sh3 : St := ⟨[⟨[97, 98, 99, 100, 101], 3⟩, ⟨[], 0⟩], true, 0, none⟩
def sh4 : St := ⟨[⟨[97, 98, 99, 100], 4⟩, ⟨[], 0⟩], false, 1, none⟩
def sh5 : St := ⟨[⟨[97, 98, 99, 100], 4⟩, ⟨[], 0⟩], true, 1, none⟩
def sh6 : St := ⟨[⟨[97, 98, 99, 100], 4⟩, ⟨[], 0⟩], true, 1, some (0, [])⟩
def sh7 : St := ⟨[⟨[97, 98, 99, 100], 4⟩, ⟨[], 0⟩], false, 2, none⟩
theorem sh01 : sh0.append 0 [97, 98, 99] = (0, sh1) := rfl
theorem sh12 : sh1.sync 0 = (0, sh2) := rfl
theorem sh23 : sh2.append 0 [100, 101] = (0, sh3) := rfl
theorem sh34 : sh3.crash [1] = sh4 := rfl
theorem sh45 : sh4.restart = sh5 := rfl
theorem sh56 : sh5.setFuse 0 [] = (0, sh6) := rfl
theorem sh67 : sh6.sync 0 = (40, sh7) := rfl
theorem shr4 : sh4.read 0 0 1 = (40, []) := rfl
theorem shr5 : sh5.read 0 0 4 = (0, [97, 98, 99, 100]) := rfl
theorem shs : sh3.size 0 = 5 := rfl
theorem shl : sh3.lasts 0 = 3 := rfl
theorem strABCD : strOfNums [97, 98, 99, 100] = ⟨#[97, 98, 99, 100]⟩ := by decide

set_option maxHeartbeats 4000000 in
theorem shown_any (w : World) : Calls Try.prog 5 #[] w fun e w' => e = .returned (.bool true) ∧ Below w.heap.size w w' := by
  have kc := constBytes
  go_enter Try.func5, Try.ntmps5
  go_wp2_with fail
  refine (new_b 2 w w (Below.refl _ _) (by decide) (by decide)).mono ?_
  rintro e w0 ⟨p, rfl, h⟩
  have HH0 : Hid (NB w w0 p sh0 (fun _ => False)) := h
  clear h
  go_wp2_with fail
  refine (newP_none 9 w0 (by decide)).mono ?_
  rintro e w' ⟨rfl, rfl⟩
  go_wp2_with fail
  refine (append_b w _ p sh0 _ 0 (some ⟨w'.heap.size, 0, none⟩) 3 3 [97, 98, 99] (HH0.out.later ((Below.refl _ _).alloc (Nat.le_refl _) _)) (by decide) (sl_lit w' [97, 98, 99] (fun n hn => by simp at hn; omega) 5 (3, 4) 3 rfl _ rfl _ rfl) (fun h => by cases h) (by decide)).mono ?_
  rintro e w1 ⟨rfl, h, hk⟩
  rw [sh01] at h ⊢
  have HH1 := hidden h
  clear h hk HH0
  go_wp2_with fail
  refine (sync_b w _ p sh1 _ 0 HH1.out (by decide)).mono ?_
  rintro e w2 ⟨rfl, h, hk⟩
  rw [sh12] at h ⊢
  have HH2 := hidden h
  clear h hk HH1
  go_wp2_with fail
  refine (append_b w _ p sh2 _ 0 (some ⟨w2.heap.size, 0, none⟩) 2 2 [100, 101] (HH2.out.later ((Below.refl _ _).alloc (Nat.le_refl _) _)) (by decide) (sl_lit w2 [100, 101] (fun n hn => by simp at hn; omega) 5 (2, 3) 2 rfl _ rfl _ rfl) (fun h => by cases h) (by decide)).mono ?_
  rintro e w3 ⟨rfl, h, hk⟩
  rw [sh23] at h ⊢
  have HH3 := hidden h
  clear h hk HH2
  go_wp2_with fail
  refine (size_b w _ p sh3 _ 0 HH3.out).mono ?_
  rintro e w' ⟨rfl, hw⟩
  obtain rfl := hw.symm
  clear hw
  rw [shs]
  go_wp2_with fail
  refine (lasts_b w _ p sh3 _ 0 HH3.out).mono ?_
  rintro e w' ⟨rfl, hw⟩
  obtain rfl := hw.symm
  clear hw
  rw [shl]
  go_wp2_with fail
  refine (crash_b w w3 p sh3 _ ⟨w3.heap.size, 0, none⟩ 1 1 [1] HH3.out (by decide) _ ((Below.refl _ _).alloc (Nat.le_refl _) _) (sn_lit w3 [1] (fun n hn => by simp at hn; omega) 3 (0, 0) 1 rfl _ rfl _ rfl) (Nat.le_refl _)).mono ?_
  rintro e w4 ⟨rfl, h, hk⟩
  rw [sh34] at h
  have HH4 := hidden h
  clear h hk HH3
  go_wp2_with fail
  refine (read_b w _ p sh4 _ 0 0 1 HH4.out (by decide) (by decide)).mono ?_
  rintro e w5 ⟨ad, m, c, rfl, h1, h2, h3, h4⟩
  rw [shr4]
  have HH5 := hidden h3
  clear h1 h2 h3 h4 HH4
  go_wp2_with fail
  refine (restart_b w _ p sh4 _ HH5.out).mono ?_
  rintro e w6 ⟨rfl, h, hk⟩
  rw [sh45] at h
  have HH6 := hidden h
  clear h hk HH5
  go_wp2_with fail
  refine (read_b w _ p sh5 _ 0 0 4 HH6.out (by decide) (by decide)).mono ?_
  rintro e w7 ⟨ad2, m2, c2, rfl, h1, h2, h3, h4⟩
  rw [shr5] at h1 ⊢
  have HH7 := hidden (HH6.out.more h4)
  have HS7 := hidden h1
  have HY7 := hidden h2
  clear h1 h2 h3 h4 HH6
  go_wp2_with fail
  refine (fuse_b w _ p sh5 _ 0 none 0 0 [] HH7.out ⟨rfl, fun n hn => by simp at hn, fun j hj => by omega⟩ (by decide) (by decide)).mono ?_
  rintro e w8 ⟨rfl, h, hk⟩
  rw [sh56] at h ⊢
  have HH8 := hidden h
  have HS8 := hidden (hk.sl HS7.out (fun x hx _ => .inr (HY7.out x hx)))
  clear h hk HS7 HH7
  go_wp2_with fail
  refine (sync_b w _ p sh6 _ 0 HH8.out (by decide)).mono ?_
  rintro e w9 ⟨rfl, h, hk⟩
  rw [sh67] at h ⊢
  have HH9 := hidden h
  have hst := str_run (c := c2) (hk.sl HS8.out (fun x hx _ => .inr (HY7.out x hx)))
  rw [strABCD] at hst
  clear h hk HS8 HH8
  go_wp2_with fail
  refine (falls_b w _ p sh7 _ HH9.out).mono ?_
  rintro e w' ⟨rfl, hw⟩
  obtain rfl := hw.symm
  clear hw
  rw [show ((sh7.falls : Nat) : Int) = 2 from rfl]
  go_wp2_with fail
  refine (alive_b w _ p sh7 _ HH9.out).mono ?_
  rintro e w' ⟨rfl, hw⟩
  obtain rfl := hw.symm
  clear hw
  rw [show sh7.on = false from rfl]
  go_wp2_with fail
  go_ret
  exact ⟨rfl, HH9.out.bel⟩

end Go.Proofs.Ytgmcfejmhlglkaa
