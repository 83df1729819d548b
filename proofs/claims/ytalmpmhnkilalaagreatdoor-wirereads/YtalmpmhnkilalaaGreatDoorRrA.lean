import Derived.Test.YtalmpmhnkilalaaGreatDoorRwA
import Derived.Test.YtalmpmhnkilalaaGreatDoorChS
/-
  Package wire's reader in memory: must, cut, octet, number, time.
-/
namespace Go.Proofs.YtalmpmhnkilalaaGreatDoor
open Go.RowKit
set_option linter.unusedVariables false

/-- A reader in memory that is not broken: its block, the block of its bytes, what is left. -/
structure RdB (w : World) (p K : Nat) (b : List Int) (ad : Option Addr) (n c : Nat) : Prop where
  blk : Blk w p 86 [.slice ad n c, .bool false]
  sl : Sl w ad n b
  at' : ∀ x, ad = some x → 0 < n → x.block = K ∧ x.spot = none
  nn : ad = none → n = 0 ∧ c = 0
  cap : n ≤ c ∧ c ≤ 9223372036854775807
  len : n ≤ 1048576
def Rt0 (w : World) (p K : Nat) : Option (List Int) → Prop
  | some b => ∃ ad n c, RdB w p K b ad n c
  | none => Blk w p 86 [.slice none 0 0, .bool true]
/-- A reader in memory; none: it is broken. -/
structure Rt (w : World) (p K : Nat) (st : Option (List Int)) : Prop where
  ne : K ≠ p
  klt : K < w.heap.size
  rt : Rt0 w p K st
theorem RdB.chg {F : Nat → Prop} {a b : World} {p K : Nat} {l : List Int} {ad : Option Addr} {n c : Nat} (h : RdB a p K l ad n c) (hc : Chg F a b) (hp : ¬ F p) (hK : ¬ F K) : RdB b p K l ad n c :=
  ⟨hc.blk h.blk hp, hc.sl h.sl (fun x hx hn => by rw [(h.at' x hx hn).1]; exact hK), h.at', h.nn, h.cap, h.len⟩
theorem Rt.chg {F : Nat → Prop} {a b : World} {p K : Nat} {st : Option (List Int)} (h : Rt a p K st) (hc : Chg F a b) (hp : ¬ F p) (hK : ¬ F K) : Rt b p K st := by
  obtain ⟨h1, h2, h⟩ := h
  refine ⟨h1, Nat.lt_of_lt_of_le h2 hc.size, ?_⟩
  cases st with
  | none => exact hc.blk h hp
  | some l =>
    obtain ⟨ad, n, c, h⟩ := h
    exact ⟨ad, n, c, h.chg hc hp hK⟩
theorem Rt.later {a b : World} {p K : Nat} {st : Option (List Int)} (h : Rt a p K st) (hb : Below a.heap.size a b) : Rt b p K st := h.chg (Chg.of_below (F := fun _ => False) hb) (fun e => e) (fun e => e)
theorem Rt.noneBlk {w : World} {p K : Nat} (h : Rt w p K none) : Blk w p 86 [.slice none 0 0, .bool true] := h.rt
theorem Rt.someB {w : World} {p K : Nat} {b : List Int} (h : Rt w p K (some b)) : ∃ ad n c, RdB w p K b ad n c := h.rt
theorem Rt.blk {w : World} {p K : Nat} {st : Option (List Int)} (h : Rt w p K st) : ∃ u v, Blk w p 86 [u, v] := by
  cases st with
  | none => exact ⟨_, _, h.noneBlk⟩
  | some l =>
    obtain ⟨ad, n, c, h⟩ := h.someB
    exact ⟨_, _, h.blk⟩
theorem Rt.lt {w : World} {p K : Nat} {st : Option (List Int)} (h : Rt w p K st) : p < w.heap.size := by
  obtain ⟨u, v, h⟩ := h.blk
  exact h.lt
theorem Rt.flag {w : World} {p K : Nat} {st : Option (List Int)} (h : Rt w p K st) : w.cell? ⟨p, 1, none⟩ = some (.bool st.isNone) := by
  cases st with
  | none => exact h.noneBlk.cell 1
  | some l =>
    obtain ⟨ad, n, c, h⟩ := h.someB
    exact h.blk.cell 1
theorem Rt.byte {w : World} {p K : Nat} {b : List Int} (h : Rt w p K (some b)) : Byte b ∧ b.length ≤ 1048576 := by
  obtain ⟨ad, n, c, h⟩ := h.someB
  exact ⟨h.sl.byte, by rw [h.sl.len]; exact h.len⟩
/-- The block that a reader's calls change. -/
def fpr (p : Nat) : Nat → Prop := fun i => i = p
/-- What a call of a reader leaves. -/
structure RQ' {α : Type} (w : World) (p K : Nat) (o : Option (α × List Int)) (V : α → Value → World → Prop) (Z : Value → Prop) (v : Value) (w' : World) : Prop where
  rt : Rt w' p K (o.map (·.2))
  chg : Chg (fpr p) w w'
  yes : ∀ x t, o = some (x, t) → V x v w'
  no : o = none → Z v
def RQ {α : Type} (w : World) (p K : Nat) (o : Option (α × List Int)) (V : α → Value → World → Prop) (Z : Value → Prop) : Ending → World → Prop := fun e w' => ∃ v, e = .returned v ∧ RQ' w p K o V Z v w'

theorem Q.decAt_zero : ∀ (l : List Int) (i n : Nat), (Q.decAt l i n).2 = 0 → (Q.decAt l i n).1 = 0
  | [], i, n, h => rfl
  | c :: r, i, n, h => by
    unfold Q.decAt at h ⊢
    by_cases h1 : 10 ≤ i
    · rw [if_pos h1]
    · rw [if_neg h1] at h ⊢
      by_cases h2 : i = 9 ∧ 1 < c
      · rw [if_pos h2]
      · rw [if_neg h2] at h ⊢
        by_cases h3 : 128 ≤ c
        · rw [if_pos h3] at h ⊢
          exact Q.decAt_zero r _ _ h
        · rw [if_neg h3] at h ⊢
          by_cases h4 : c = 0 ∧ 0 < i
          · rw [if_pos h4]
          · rw [if_neg h4] at h
            simp at h
theorem Q.dec_zero_of {b : List Int} (h : (Q.dec b).2 = 0) : (Q.dec b).1 = 0 := Q.decAt_zero b 0 0 h
theorem mustT (p : Nat) (w : World) : Calls Tryz.prog 68 #[.pointer (some ⟨p, 0, none⟩), .bool true] w fun e w' => e = .returned (.tuple #[]) ∧ w' = w := by
  go_enter Tryz.func68, Tryz.ntmps68
  go_wp2_with fail
  go_end0
  exact ⟨rfl, rfl⟩
theorem mustF (p K : Nat) (st : Option (List Int)) (w : World) (h : Rt w p K st) :
    Calls Tryz.prog 68 #[.pointer (some ⟨p, 0, none⟩), .bool false] w fun e w' => e = .returned (.tuple #[]) ∧ Rt w' p K none ∧ Chg (fpr p) w w' := by
  obtain ⟨u, v, hB⟩ := h.blk
  have HR := hidden h
  have f0 := hB.frozen 0
  have c0 := hB.cell 0
  simp at c0
  have hB2 := hB.set 0 (.slice none 0 0)
  have f1 := hB2.frozen 1
  have c1 := hB2.cell 1
  simp at c1
  have HB2 := hidden hB2
  clear h hB hB2
  go_enter Tryz.func68, Tryz.ntmps68
  go_wp2_with fail
  go_end0
  refine ⟨rfl, ⟨HR.out.ne, by simpa [World.setCell] using HR.out.klt, HB2.out.set 1 (.bool true)⟩, ?_⟩
  exact ((Chg.set ⟨p, 0, none⟩ _ w).mono (G := fpr p) (fun i _ hi => hi)).trans ((Chg.set ⟨p, 1, none⟩ _ _).mono (G := fpr p) (fun i _ hi => hi)) (fun i _ hi => hi)
theorem mustR (p K : Nat) (st : Option (List Int)) (ok : Bool) (w : World) (h : Rt w p K st) :
    Calls Tryz.prog 68 #[.pointer (some ⟨p, 0, none⟩), .bool ok] w fun e w' => e = .returned (.tuple #[]) ∧ Rt w' p K (if ok then st else none) ∧ Chg (fpr p) w w' := by
  cases ok with
  | true =>
    refine (mustT p w).mono ?_
    rintro e w1 ⟨rfl, rfl⟩
    exact ⟨rfl, h, Chg.refl _ _⟩
  | false => exact mustF p K st w h

/-- A piece of what is read. -/
def Pc (K : Nat) (x : List Int) (v : Value) (w : World) : Prop := ∃ ad m, v = .slice ad m m ∧ Sl w ad m x ∧ (ad = none → m = 0) ∧ (∀ y, ad = some y → 0 < m → y.block = K ∧ y.spot = none) ∧ m ≤ 1048576
theorem RdB.drop {w w2 : World} {p K : Nat} {b : List Int} {bb off k c n : Nat} {ad2 : Option Addr} {c2 : Nat} (h : RdB w p K b (some ⟨bb, off, none⟩) k c) (hK : K ≠ p) (hn : n ≤ k) (hB : Blk w2 p 86 [.slice ad2 (k - n) c2, .bool false]) (hC : Chg (fpr p) w w2)
    (h1 : 0 < k - n → ad2 = some ⟨bb, off + n, none⟩) (h2 : ∀ x, ad2 = some x → 0 < k - n → x.block = K ∧ x.spot = none) (h3 : ad2 = none → k - n = 0 ∧ c2 = 0) (h4 : k - n ≤ c2 ∧ c2 ≤ 9223372036854775807) : RdB w2 p K (b.drop n) ad2 (k - n) c2 :=
  ⟨hB, (hC.sl (sl_tail h.sl hn h1) (fun x hx hn e => hK ((h2 x hx hn).1.symm.trans e))), h2, h3, h4, by have := h.len; omega⟩
theorem cut_done {w : World} {p K : Nat} {b : List Int} {off k c n : Nat} {ad2 : Option Addr} {m2 c2 : Nat} (h : RdB w p K b (some ⟨K, off, none⟩) k c) (hK : K ≠ p) (hlt : K < w.heap.size) (hn : n ≤ k) (hm : m2 = k - n)
    (h1 : 0 < k - n → ad2 = some ⟨K, off + n, none⟩) (h2 : ∀ x, ad2 = some x → 0 < k - n → x.block = K ∧ x.spot = none) (h3 : ad2 = none → k - n = 0 ∧ c2 = 0) (h4 : k - n ≤ c2 ∧ c2 ≤ 9223372036854775807) (Z : Value → Prop) :
    RQ w p K (some (b.take n, b.drop n)) (Pc K) Z (.returned (.slice (some ⟨K, off, none⟩) n n)) (w.setCell ⟨p, 0, none⟩ (.slice ad2 m2 c2)) := by
  subst hm
  have hC : Chg (fpr p) w (w.setCell ⟨p, 0, none⟩ (.slice ad2 (k - n) c2)) := (Chg.set ⟨p, 0, none⟩ _ _).mono (fun i _ hi => hi)
  refine ⟨_, rfl, ⟨hK, by simpa [World.setCell] using hlt, ad2, k - n, c2, h.drop hK hn (h.blk.set 0 _) hC h1 h2 h3 h4⟩, hC, fun x t e => ?_, fun e => by cases e⟩
  injection e with e
  injection e with e1 e2
  subst e1
  have hl := h.len
  exact ⟨_, n, rfl, hC.sl (h.sl.take hn) (fun x hx h0 e => hK ((h.at' x hx (by omega)).1.symm.trans e)), fun e => (by cases e), fun y hy _ => (by cases hy; exact ⟨rfl, rfl⟩), by omega⟩
set_option maxHeartbeats 1000000 in
theorem cutR (p K : Nat) (st : Option (List Int)) (n : Nat) (w : World) (h : Rt w p K st) (hn : n ≤ 18446744073709551615) :
    Calls Tryz.prog 126 #[.pointer (some ⟨p, 0, none⟩), .int .u64 (n : Int)] w (RQ w p K (st.bind (rCut n)) (Pc K) (fun v => v = .slice none 0 0)) := by
  have HR := hidden h
  cases st with
  | none =>
    have hB := h.noneBlk
    have c0 := hB.cell 0
    simp at c0
    clear h
    go_enter Tryz.func126, Tryz.ntmps126
    go_wp2_with fail
    refine (mustR p K none _ w HR.out).mono ?_
    rintro e w1 ⟨rfl, hR1, hC1⟩
    rw [ite_self] at hR1
    have HR1 := hidden hR1
    have HC1 := hidden hC1
    have c1 := hR1.noneBlk.cell 1
    simp at c1
    clear hR1 hC1 c0 hB
    go_wp2_with fail
    go_ret
    exact ⟨_, rfl, HR1.out, HC1.out, fun x t h => (by cases h), fun _ => rfl⟩
  | some b =>
    obtain ⟨ad, k, c, hRB⟩ := h.someB
    have hK := h.ne
    clear h
    have hk := hRB.len
    have hcp := hRB.cap
    have c0 := hRB.blk.cell 0
    simp at c0
    have cf := hRB.blk.cell 1
    simp at cf
    have f0 := hRB.blk.frozen 0
    have hlen := hRB.sl.len
    by_cases hle : n ≤ k
    · have ho : (some b).bind (rCut n) = some (b.take n, b.drop n) := by
        show rCut n b = _
        unfold rCut
        rw [if_pos (by omega)]
      rw [ho]
      have hle' : (n : Int) ≤ (k : Int) := by omega
      cases ad with
      | none =>
        obtain ⟨rfl, rfl⟩ := hRB.nn rfl
        obtain rfl : n = 0 := by omega
        have HRB := hidden hRB
        clear hRB
        go_enter Tryz.func126, Tryz.ntmps126
        go_wp2_with fail
        refine (mustT p w).mono ?_
        rintro e w1 ⟨rfl, rfl⟩
        go_wp2_with fail
        go_ret
        refine ⟨_, rfl, ⟨hK, by simpa [World.setCell] using HR.out.klt, none, 0, 0, HRB.out.blk.set 0 _, ?_, fun x hx _ => (by cases hx), fun _ => ⟨rfl, rfl⟩, by omega, by omega⟩, (Chg.set ⟨p, 0, none⟩ _ _).mono (fun i _ hi => hi), fun x t h => ?_, fun h => by cases h⟩
        · have hb : b = [] := List.eq_nil_of_length_eq_zero hlen
          subst hb
          exact Sl.nil _ _
        · injection h with h
          injection h with h1 h2
          subst h1
          exact ⟨none, 0, rfl, Sl.nil _ _, fun _ => rfl, fun y hy _ => (by cases hy), by omega⟩
      | some x =>
        by_cases hk0 : k = 0
        · subst hk0
          obtain rfl : n = 0 := by omega
          have hb : b = [] := List.eq_nil_of_length_eq_zero hlen
          subst hb
          have HRB := hidden hRB
          clear hRB
          have fin : ∀ (y : Addr) (c2 : Nat), c2 ≤ 9223372036854775807 → RQ w p K (some (List.take 0 ([] : List Int), List.drop 0 [])) (Pc K) (fun v => v = .slice none 0 0) (.returned (.slice (some x) 0 0)) (w.setCell ⟨p, 0, none⟩ (.slice (some y) 0 c2)) := fun y c2 hc2 => by
            refine ⟨_, rfl, ⟨hK, by simpa [World.setCell] using HR.out.klt, some y, 0, c2, HRB.out.blk.set 0 _, Sl.nil _ _, fun x hx h => by omega, fun h => (by cases h), by omega, by omega⟩, (Chg.set ⟨p, 0, none⟩ _ _).mono (fun i _ hi => hi), fun x t h => ?_, fun h => by cases h⟩
            injection h with h
            injection h with h1 h2
            subst h1
            exact ⟨_, 0, rfl, Sl.nil _ _, fun _ => rfl, fun y hy h => by omega, by omega⟩
          have HF := hidden fin
          clear fin
          by_cases hc0 : c = 0
          · subst hc0
            go_enter Tryz.func126, Tryz.ntmps126
            go_wp2_with fail
            refine (mustT p w).mono ?_
            rintro e w1 ⟨rfl, rfl⟩
            go_wp2_with fail
            go_ret
            exact HF.out _ _ (by omega)
          · go_enter Tryz.func126, Tryz.ntmps126
            go_wp2_with fail
            refine (mustT p w).mono ?_
            rintro e w1 ⟨rfl, rfl⟩
            go_wp2_with fail
            go_ret
            exact HF.out _ _ (by omega)
        obtain ⟨bb, off, sp⟩ := x
        obtain ⟨hbK, hsp⟩ := hRB.at' _ rfl (by omega)
        obtain rfl : bb = K := hbK
        obtain rfl : sp = none := hsp
        have HRB := hidden hRB
        clear hRB
        by_cases hcn : c = n
        · subst hcn
          obtain rfl : k = c := by omega
          go_enter Tryz.func126, Tryz.ntmps126
          go_wp2_with fail
          refine (mustT p w).mono ?_
          rintro e w1 ⟨rfl, rfl⟩
          go_wp2_with fail
          go_ret
          exact cut_done HRB.out hK HR.out.klt (Nat.le_refl _) (by omega) (fun h => by omega) (fun x hx _ => by cases hx; exact ⟨rfl, rfl⟩) (fun h => by cases h) (by omega) _
        · go_enter Tryz.func126, Tryz.ntmps126
          go_wp2_with fail
          refine (mustT p w).mono ?_
          rintro e w1 ⟨rfl, rfl⟩
          go_wp2_with fail
          go_ret
          exact cut_done HRB.out hK HR.out.klt hle rfl (fun _ => rfl) (fun x hx _ => by cases hx; exact ⟨rfl, rfl⟩) (fun h => by cases h) (by omega) _
    · have ho : (some b).bind (rCut n) = none := by
        show rCut n b = _
        unfold rCut
        rw [if_neg (by omega)]
      rw [ho]
      have hle' : ¬ (n : Int) ≤ (k : Int) := by omega
      clear hRB
      go_enter Tryz.func126, Tryz.ntmps126
      go_wp2_with fail
      refine (mustF p K _ w HR.out).mono ?_
      rintro e w1 ⟨rfl, hR1, hC1⟩
      have HR1 := hidden hR1
      have HC1 := hidden hC1
      have c1 := hR1.noneBlk.cell 1
      simp at c1
      clear hR1 hC1 c0 cf f0
      go_wp2_with fail
      go_ret
      exact ⟨_, rfl, HR1.out, HC1.out, fun x t h => (by cases h), fun _ => rfl⟩

theorem octetR (p K : Nat) (st : Option (List Int)) (w : World) (h : Rt w p K st) :
    Calls Tryz.prog 67 #[.pointer (some ⟨p, 0, none⟩)] w (RQ w p K (st.bind rOct) (fun x v _ => v = .int .u8 x) (fun v => v = .int .u8 0)) := by
  have HC := hidden (cutR p K st 1 w h (by omega))
  have hb : ∀ b, st = some b → Byte b := fun b e => by subst e; exact h.byte.1
  clear h
  have hcase : (st.bind rOct = none ∧ st.bind (rCut 1) = none) ∨ ∃ c t, st.bind rOct = some (c, t) ∧ st.bind (rCut 1) = some ([c], t) := by
    cases st with
    | none => exact .inl ⟨rfl, rfl⟩
    | some b =>
      cases b with
      | nil => exact .inl ⟨rfl, rfl⟩
      | cons c t => exact .inr ⟨c, t, rfl, by simp [rCut]⟩
  rcases hcase with ⟨e1, e2⟩ | ⟨c, t, e1, e2⟩
  · rw [e2] at HC
    rw [e1]
    clear e1 e2
    go_enter Tryz.func67, Tryz.ntmps67
    go_wp2_with fail
    refine HC.out.mono ?_
    rintro e w1 ⟨v, rfl, hQ⟩
    obtain rfl := hQ.no rfl
    have c1 := hQ.rt.noneBlk.cell 1
    simp at c1
    have HQ := hidden hQ
    clear hQ
    go_wp2_with fail
    go_ret
    exact ⟨_, rfl, HQ.out.rt, HQ.out.chg, fun x t h => (by cases h), fun _ => rfl⟩
  · rw [e2] at HC
    rw [e1]
    clear e1 e2
    go_enter Tryz.func67, Tryz.ntmps67
    go_wp2_with fail
    refine HC.out.mono ?_
    rintro e w1 ⟨v, rfl, hQ⟩
    have c1 := hQ.rt.flag
    obtain ⟨ad, m, rfl, hs, _, hat, _⟩ := hQ.yes _ _ rfl
    have hm := hs.len
    simp at hm
    subst hm
    obtain ⟨bb, off, rfl, _, hcell⟩ := hs.at (by omega)
    have k0 := hcell 0 (by omega)
    simp at k0
    simp at c1
    have HQ := hidden hQ
    clear hQ hs hat hcell
    go_wp2_with fail
    go_ret
    refine ⟨_, rfl, HQ.out.rt, HQ.out.chg, fun x t h => ?_, fun h => (by cases h)⟩
    injection h with h
    injection h with h1 h2
    subst h1
    rfl
set_option maxRecDepth 8000 in
set_option maxHeartbeats 1000000 in
theorem numberR (p K : Nat) (st : Option (List Int)) (most : Nat) (w : World) (h : Rt w p K st) (hm : most ≤ 18446744073709551615) :
    Calls Tryz.prog 78 #[.pointer (some ⟨p, 0, none⟩), .int .u64 (most : Int)] w (RQ w p K (st.bind (rNum most)) (fun x v _ => v = .int .u64 (x : Int)) (fun v => v = .int .u64 0)) := by
  have HR := hidden h
  obtain ⟨ad, n, c, b, hs, c0, hno, hbr⟩ : ∃ ad n c b, Sl w ad n b ∧ w.cell? ⟨p, 0, none⟩ = some (.slice ad n c) ∧ n ≤ 1048576 ∧ (st = none ∧ b = [] ∨ st = some b) := by
    cases st with
    | none => exact ⟨none, 0, 0, [], Sl.nil _ _, h.noneBlk.cell 0, by omega, .inl ⟨rfl, rfl⟩⟩
    | some b =>
      obtain ⟨ad, n, c, k⟩ := h.someB
      exact ⟨ad, n, c, b, k.sl, k.blk.cell 0, k.len, .inr rfl⟩
  have HU := hidden (Q.uint_any ad n c b w hs (by omega))
  have hbd := Q.dec_bound b hs.byte
  have hlen := hs.len
  by_cases hok : (Q.dec b).2 ≠ 0 ∧ (Q.dec b).1 ≤ most
  · rcases hbr with ⟨_, rfl⟩ | rfl
    · exact absurd rfl hok.1
    have ho : (some b).bind (rNum most) = some ((Q.dec b).1, b.drop (Q.dec b).2) := by
      show rNum most b = _
      unfold rNum
      rw [if_pos hok]
    have hcut : (some b).bind (rCut (Q.dec b).2) = some (b.take (Q.dec b).2, b.drop (Q.dec b).2) := by
      show rCut _ b = _
      unfold rCut
      rw [if_pos hbd.2.2]
    have HC := hidden (cutR p K (some b) (Q.dec b).2 w HR.out (by omega))
    rw [hcut] at HC
    rw [ho]
    have cf := h.flag
    simp at cf
    clear h hs ho hcut
    generalize (Q.dec b).1 = x at *
    generalize (Q.dec b).2 = k at *
    have hk0 : (k : Int) > 0 := by omega
    have hxm : (x : Int) ≤ (most : Int) := by omega
    go_enter Tryz.func78, Tryz.ntmps78
    go_wp2_with fail
    refine HU.out.mono ?_
    rintro e w1 ⟨rfl, rfl⟩
    go_wp2_with fail
    refine (mustT p w1).mono ?_
    rintro e w2 ⟨rfl, rfl⟩
    go_wp2_with fail
    refine HC.out.mono ?_
    rintro e w3 ⟨v, rfl, hQ⟩
    have HQ := hidden hQ
    clear hQ c0 cf
    go_wp2_with fail
    go_ret
    refine ⟨_, rfl, HQ.out.rt, HQ.out.chg, fun x t h => ?_, fun h => (by cases h)⟩
    injection h with h
    injection h with h1 h2
    subst h1
    rfl
  · have ho : st.bind (rNum most) = none := by
      rcases hbr with ⟨rfl, _⟩ | rfl
      · rfl
      · show rNum most b = _
        unfold rNum
        rw [if_neg hok]
    rw [ho]
    clear h hs ho hbr
    generalize (Q.dec b).1 = x at *
    generalize (Q.dec b).2 = k at *
    by_cases hk : k = 0
    · subst hk
      go_enter Tryz.func78, Tryz.ntmps78
      go_wp2_with fail
      refine HU.out.mono ?_
      rintro e w1 ⟨rfl, rfl⟩
      go_wp2_with fail
      refine (mustF p K st w1 HR.out).mono ?_
      rintro e w2 ⟨rfl, hR2, hC2⟩
      have HR2 := hidden hR2
      have HC2 := hidden hC2
      have c1 := hR2.noneBlk.cell 1
      simp at c1
      clear hR2 hC2 c0
      go_wp2_with fail
      go_ret
      exact ⟨_, rfl, HR2.out, HC2.out, fun x t h => (by cases h), fun _ => rfl⟩
    · have hk0 : (k : Int) > 0 := by omega
      have hxm : ¬ (x : Int) ≤ (most : Int) := by omega
      have hxn : ¬ x ≤ most := by omega
      have hdn : decide ((x : Int) ≤ (most : Int)) = false := decide_eq_false hxm
      have hdm : decide (x ≤ most) = false := decide_eq_false hxn
      go_enter Tryz.func78, Tryz.ntmps78
      go_wp2_with fail
      refine HU.out.mono ?_
      rintro e w1 ⟨rfl, rfl⟩
      go_wp2_with fail
      refine (mustF p K st w1 HR.out).mono ?_
      rintro e w2 ⟨rfl, hR2, hC2⟩
      have HR2 := hidden hR2
      have HC2 := hidden hC2
      have c1 := hR2.noneBlk.cell 1
      simp at c1
      clear hR2 hC2 c0
      go_wp2_with fail
      go_ret
      exact ⟨_, rfl, HR2.out, HC2.out, fun x t h => (by cases h), fun _ => rfl⟩
set_option maxRecDepth 8000 in
set_option maxHeartbeats 1000000 in
theorem timeR (p K : Nat) (st : Option (List Int)) (w : World) (h : Rt w p K st) :
    Calls Tryz.prog 107 #[.pointer (some ⟨p, 0, none⟩)] w (RQ w p K (st.bind rTime) (fun x v _ => v = .int .i64 x) (fun v => v = .int .i64 0)) := by
  have HR := hidden h
  obtain ⟨ad, n, c, b, hs, c0, hno, hbr⟩ : ∃ ad n c b, Sl w ad n b ∧ w.cell? ⟨p, 0, none⟩ = some (.slice ad n c) ∧ n ≤ 1048576 ∧ (st = none ∧ b = [] ∨ st = some b) := by
    cases st with
    | none => exact ⟨none, 0, 0, [], Sl.nil _ _, h.noneBlk.cell 0, by omega, .inl ⟨rfl, rfl⟩⟩
    | some b =>
      obtain ⟨ad, n, c, k⟩ := h.someB
      exact ⟨ad, n, c, b, k.sl, k.blk.cell 0, k.len, .inr rfl⟩
  have HU := hidden (Q.int_any ad n c b w hs (by omega))
  have hbd := Q.dec_bound b hs.byte
  have hlen := hs.len
  by_cases hok : (Q.dec b).2 ≠ 0
  · rcases hbr with ⟨_, rfl⟩ | rfl
    · exact absurd rfl hok
    have ho : (some b).bind rTime = some (Q.unfold' (Q.dec b).1, b.drop (Q.dec b).2) := by
      show rTime b = _
      unfold rTime
      rw [if_pos hok]
    have hcut : (some b).bind (rCut (Q.dec b).2) = some (b.take (Q.dec b).2, b.drop (Q.dec b).2) := by
      show rCut _ b = _
      unfold rCut
      rw [if_pos hbd.2.2]
    have HC := hidden (cutR p K (some b) (Q.dec b).2 w HR.out (by omega))
    rw [hcut] at HC
    rw [ho]
    clear h hs ho hcut
    generalize Q.unfold' (Q.dec b).1 = x at *
    generalize (Q.dec b).2 = k at *
    have hk0 : (k : Int) > 0 := by omega
    have hk2 : 0 < k := by omega
    have hd0 : decide ((k : Int) > 0) = true := decide_eq_true hk0
    have hd1 : decide ((0 : Int) < (k : Int)) = true := decide_eq_true hk0
    have hd2 : decide (0 < k) = true := decide_eq_true hk2
    go_enter Tryz.func107, Tryz.ntmps107
    go_wp2_with fail
    refine HU.out.mono ?_
    rintro e w1 ⟨rfl, rfl⟩
    go_wp2_with fail
    refine (mustT p w1).mono ?_
    rintro e w2 ⟨rfl, rfl⟩
    go_wp2_with fail
    refine HC.out.mono ?_
    rintro e w3 ⟨v, rfl, hQ⟩
    have HQ := hidden hQ
    clear hQ c0
    go_wp2_with fail
    go_ret
    refine ⟨_, rfl, HQ.out.rt, HQ.out.chg, fun x t h => ?_, fun h => (by cases h)⟩
    injection h with h
    injection h with h1 h2
    subst h1
    rfl
  · have ho : st.bind rTime = none := by
      rcases hbr with ⟨rfl, _⟩ | rfl
      · rfl
      · show rTime b = _
        unfold rTime
        rw [if_neg hok]
    rw [ho]
    have hx : (Q.dec b).1 = 0 := Q.dec_zero_of (by omega)
    rw [hx] at HU
    have hu : Q.unfold' 0 = 0 := rfl
    rw [hu] at HU
    clear h hs ho hbr hx hu
    generalize (Q.dec b).2 = k at *
    obtain rfl : k = 0 := by omega
    go_enter Tryz.func107, Tryz.ntmps107
    go_wp2_with fail
    refine HU.out.mono ?_
    rintro e w1 ⟨rfl, rfl⟩
    go_wp2_with fail
    refine (mustF p K st w1 HR.out).mono ?_
    rintro e w2 ⟨rfl, hR2, hC2⟩
    have HR2 := hidden hR2
    have HC2 := hidden hC2
    clear hR2 hC2 c0
    go_wp2_with fail
    refine (cutR p K none 0 w2 HR2.out (by omega)).mono ?_
    rintro e w3 ⟨v, rfl, hQ⟩
    have HQ := hidden hQ
    clear hQ
    go_wp2_with fail
    go_ret
    exact ⟨_, rfl, HQ.out.rt, HC2.out.trans HQ.out.chg (fun i _ hi => hi), fun x t h => (by cases h), fun _ => rfl⟩

end Go.Proofs.YtalmpmhnkilalaaGreatDoor

/-
  Package wire's reader: limited, text, question, token, amount, count, samples. By genrrb19.py.
-/
namespace Go.Proofs.YtalmpmhnkilalaaGreatDoor
open Go.RowKit
set_option linter.unusedVariables false

theorem bind_lim (st : Option (List Int)) (most : Nat) : st.bind (rLim most) = (st.bind (rNum most)).bind (fun q => rCut q.1 q.2) := by cases st <;> rfl
theorem bind_map {α β : Type} (f : α → β) (r : Rdr α) (st : Option (List Int)) : st.bind (rMap f r) = (st.bind r).map (fun q => (f q.1, q.2)) := by cases st <;> rfl
theorem bind_pair {α β : Type} (r : Rdr α) (r2 : Rdr β) (st : Option (List Int)) : st.bind (rPair r r2) = (st.bind r).bind (fun q => (r2 q.2).map (fun p => ((q.1, p.1), p.2))) := by cases st <;> rfl
theorem bind_smp (st : Option (List Int)) : st.bind rSmp = (st.bind (rLim 18446744073709551615)).bind (fun q => (rdR q.1).map (fun l => (l, q.2))) := by cases st <;> rfl
theorem rNum_le {st : Option (List Int)} {most n : Nat} {t : List Int} (h : st.bind (rNum most) = some (n, t)) : n ≤ most := by
  cases st with
  | none => cases h
  | some b =>
    have h : rNum most b = some (n, t) := h
    unfold rNum at h
    split at h
    · rename_i hh
      injection h with h
      injection h with h1 h2
      subst h1
      exact hh.2
    · cases h

theorem limitedR (p K : Nat) (st : Option (List Int)) (most : Nat) (w : World) (h : Rt w p K st) (hm : most ≤ 18446744073709551615) :
    Calls Tryz.prog 151 #[.pointer (some ⟨p, 0, none⟩), .int .u64 (most : Int)] w (RQ w p K (st.bind (rLim most)) (Pc K) (fun v => v = .slice none 0 0)) := by
  have HN := hidden (numberR p K st most w h hm)
  rw [bind_lim]
  clear h
  cases ho : st.bind (rNum most) with
  | none =>
    rw [ho] at HN
    clear ho
    go_enter Tryz.func151, Tryz.ntmps151
    go_wp2_with fail
    refine HN.out.mono ?_
    rintro e w1 ⟨v, rfl, hQ⟩
    obtain rfl := hQ.no rfl
    have HQ := hidden hQ
    clear hQ
    go_wp2_with fail
    refine (cutR p K none 0 w1 HQ.out.rt (by omega)).mono ?_
    rintro e w2 ⟨v, rfl, hQ2⟩
    obtain rfl := hQ2.no rfl
    have HQ2 := hidden hQ2
    clear hQ2
    go_wp2_with fail
    go_ret
    exact ⟨_, rfl, HQ2.out.rt, HQ.out.chg.trans HQ2.out.chg (fun i _ hi => hi), fun x t h => (by cases h), fun _ => rfl⟩
  | some q =>
    obtain ⟨n, t⟩ := q
    have hn := rNum_le ho
    rw [ho] at HN
    clear ho
    go_enter Tryz.func151, Tryz.ntmps151
    go_wp2_with fail
    refine HN.out.mono ?_
    rintro e w1 ⟨v, rfl, hQ⟩
    obtain rfl := hQ.yes _ _ rfl
    have HQ := hidden hQ
    clear hQ
    go_wp2_with fail
    refine (cutR p K (some t) n w1 HQ.out.rt (by omega)).mono ?_
    rintro e w2 ⟨v, rfl, hQ2⟩
    have HQ2 := hidden hQ2
    clear hQ2
    go_wp2_with fail
    go_ret
    exact ⟨_, rfl, HQ2.out.rt, HQ.out.chg.trans HQ2.out.chg (fun i _ hi => hi), HQ2.out.yes, HQ2.out.no⟩

set_option maxRecDepth 20000 in
theorem textR (p K : Nat) (st : Option (List Int)) (w : World) (h : Rt w p K st) :
    Calls Tryz.prog 91 #[.pointer (some ⟨p, 0, none⟩)] w (RQ w p K (st.bind (rTxt 64)) (fun d v _ => v = .string d) (fun v => v = .string (strOfNums []))) := by
  have HN := hidden (limitedR p K st 64 w h (by omega))
  unfold rTxt
  rw [bind_map]
  clear h
  cases ho : st.bind (rLim 64) with
  | none =>
    rw [ho] at HN
    clear ho
    have hcv := fun w1 => run_string_of (P := Tryz.prog) 22 5 9 Tryz.underlying22 Tryz.underlying5 Tryz.underlying9 (cap := 0) (Sl.nil w1 none)
    go_enter Tryz.func91, Tryz.ntmps91
    go_wp2_with fail
    refine HN.out.mono ?_
    rintro e w1 ⟨v, rfl, hQ⟩
    obtain rfl := hQ.no rfl
    have HQ := hidden hQ
    clear hQ
    go_wp2_with fail
    go_ret
    exact ⟨_, rfl, HQ.out.rt, HQ.out.chg, fun x t h => (by cases h), fun _ => rfl⟩
  | some q =>
    obtain ⟨x, t⟩ := q
    rw [ho] at HN
    clear ho
    go_enter Tryz.func91, Tryz.ntmps91
    go_wp2_with fail
    refine HN.out.mono ?_
    rintro e w1 ⟨v, rfl, hQ⟩
    obtain ⟨ad, m, rfl, hs, _⟩ := hQ.yes _ _ rfl
    have hcv := run_string_of (P := Tryz.prog) 22 5 9 Tryz.underlying22 Tryz.underlying5 Tryz.underlying9 (cap := m) hs
    have HQ := hidden hQ
    clear hQ hs
    go_wp2_with fail
    go_ret
    refine ⟨_, rfl, HQ.out.rt, HQ.out.chg, fun x t h => ?_, fun h => (by cases h)⟩
    injection h with h
    injection h with h1 h2
    subst h1
    rfl

set_option maxRecDepth 20000 in
theorem questionR (p K : Nat) (st : Option (List Int)) (w : World) (h : Rt w p K st) :
    Calls Tryz.prog 113 #[.pointer (some ⟨p, 0, none⟩)] w (RQ w p K (st.bind (rTxt 4096)) (fun d v _ => v = .string d) (fun v => v = .string (strOfNums []))) := by
  have HN := hidden (limitedR p K st 4096 w h (by omega))
  unfold rTxt
  rw [bind_map]
  clear h
  cases ho : st.bind (rLim 4096) with
  | none =>
    rw [ho] at HN
    clear ho
    have hcv := fun w1 => run_string_of (P := Tryz.prog) 22 5 9 Tryz.underlying22 Tryz.underlying5 Tryz.underlying9 (cap := 0) (Sl.nil w1 none)
    go_enter Tryz.func113, Tryz.ntmps113
    go_wp2_with fail
    refine HN.out.mono ?_
    rintro e w1 ⟨v, rfl, hQ⟩
    obtain rfl := hQ.no rfl
    have HQ := hidden hQ
    clear hQ
    go_wp2_with fail
    go_ret
    exact ⟨_, rfl, HQ.out.rt, HQ.out.chg, fun x t h => (by cases h), fun _ => rfl⟩
  | some q =>
    obtain ⟨x, t⟩ := q
    rw [ho] at HN
    clear ho
    go_enter Tryz.func113, Tryz.ntmps113
    go_wp2_with fail
    refine HN.out.mono ?_
    rintro e w1 ⟨v, rfl, hQ⟩
    obtain ⟨ad, m, rfl, hs, _⟩ := hQ.yes _ _ rfl
    have hcv := run_string_of (P := Tryz.prog) 22 5 9 Tryz.underlying22 Tryz.underlying5 Tryz.underlying9 (cap := m) hs
    have HQ := hidden hQ
    clear hQ hs
    go_wp2_with fail
    go_ret
    refine ⟨_, rfl, HQ.out.rt, HQ.out.chg, fun x t h => ?_, fun h => (by cases h)⟩
    injection h with h
    injection h with h1 h2
    subst h1
    rfl

theorem tokenR (p K : Nat) (st : Option (List Int)) (w : World) (h : Rt w p K st) :
    Calls Tryz.prog 95 #[.pointer (some ⟨p, 0, none⟩)] w (RQ w p K (st.bind (rLim 64)) (Pc K) (fun v => v = .slice none 0 0)) := by
  have HN := hidden (limitedR p K st 64 w h (by omega))
  clear h
  go_enter Tryz.func95, Tryz.ntmps95
  go_wp2_with fail
  refine HN.out.mono ?_
  rintro e w1 ⟨v, rfl, hQ⟩
  have HQ := hidden hQ
  clear hQ
  go_wp2_with fail
  go_ret
  exact ⟨_, rfl, HQ.out⟩

set_option maxRecDepth 20000 in
theorem amountR (p K : Nat) (st : Option (List Int)) (w : World) (h : Rt w p K st) :
    Calls Tryz.prog 119 #[.pointer (some ⟨p, 0, none⟩)] w (RQ w p K (st.bind (rNum 1099511627775)) (fun n v _ => v = .int .i64 (n : Int)) (fun v => v = .int .i64 0)) := by
  have HN := hidden (numberR p K st 1099511627775 w h (by omega))
  clear h
  cases ho : st.bind (rNum 1099511627775) with
  | none =>
    rw [ho] at HN
    clear ho
    go_enter Tryz.func119, Tryz.ntmps119
    go_wp2_with fail
    refine HN.out.mono ?_
    rintro e w1 ⟨v, rfl, hQ⟩
    obtain rfl := hQ.no rfl
    have HQ := hidden hQ
    clear hQ
    go_wp2_with fail
    go_ret
    exact ⟨_, rfl, HQ.out.rt, HQ.out.chg, fun x t h => (by cases h), fun _ => rfl⟩
  | some q =>
    obtain ⟨x, t⟩ := q
    have hx := rNum_le ho
    rw [ho] at HN
    clear ho
    go_enter Tryz.func119, Tryz.ntmps119
    go_wp2_with fail
    refine HN.out.mono ?_
    rintro e w1 ⟨v, rfl, hQ⟩
    obtain rfl := hQ.yes _ _ rfl
    have HQ := hidden hQ
    clear hQ
    go_wp2_with fail
    go_ret
    refine ⟨_, rfl, HQ.out.rt, HQ.out.chg, fun x t h => ?_, fun h => (by cases h)⟩
    injection h with h
    injection h with h1 h2
    subst h1
    rfl

set_option maxRecDepth 20000 in
theorem countR (p K : Nat) (st : Option (List Int)) (w : World) (h : Rt w p K st) :
    Calls Tryz.prog 141 #[.pointer (some ⟨p, 0, none⟩)] w (RQ w p K (st.bind (rNum 9223372036854775807)) (fun n v _ => v = .int .i64 (n : Int)) (fun v => v = .int .i64 0)) := by
  have HN := hidden (numberR p K st 9223372036854775807 w h (by omega))
  clear h
  cases ho : st.bind (rNum 9223372036854775807) with
  | none =>
    rw [ho] at HN
    clear ho
    go_enter Tryz.func141, Tryz.ntmps141
    go_wp2_with fail
    refine HN.out.mono ?_
    rintro e w1 ⟨v, rfl, hQ⟩
    obtain rfl := hQ.no rfl
    have HQ := hidden hQ
    clear hQ
    go_wp2_with fail
    go_ret
    exact ⟨_, rfl, HQ.out.rt, HQ.out.chg, fun x t h => (by cases h), fun _ => rfl⟩
  | some q =>
    obtain ⟨x, t⟩ := q
    have hx := rNum_le ho
    rw [ho] at HN
    clear ho
    go_enter Tryz.func141, Tryz.ntmps141
    go_wp2_with fail
    refine HN.out.mono ?_
    rintro e w1 ⟨v, rfl, hQ⟩
    obtain rfl := hQ.yes _ _ rfl
    have HQ := hidden hQ
    clear hQ
    go_wp2_with fail
    go_ret
    refine ⟨_, rfl, HQ.out.rt, HQ.out.chg, fun x t h => ?_, fun h => (by cases h)⟩
    injection h with h
    injection h with h1 h2
    subst h1
    rfl

/-- Samples that were read. -/
def SmO (B : Nat) (l : List Sm) (v : Value) (w : World) : Prop := (∃ ad c, v = .slice ad l.length c) ∧ w.ownsRow B 50 2 v l.length (cS l) ∧ (∀ x ∈ l, OkS x)
set_option maxRecDepth 8000 in
set_option maxHeartbeats 1000000 in
theorem samplesR (p K : Nat) (st : Option (List Int)) (w : World) (h : Rt w p K st) (hG : Gv w) (hp : 2 ≤ p) :
    Calls Tryz.prog 186 #[.pointer (some ⟨p, 0, none⟩)] w (RQ w p K (st.bind rSmp) (SmO w.heap.size) (fun v => ∃ ad c, v = .slice ad 0 c)) := by
  have HN := hidden (limitedR p K st 18446744073709551615 w h (by omega))
  have HG := hidden hG
  rw [bind_smp]
  have hsz : 2 ≤ w.heap.size := World.block_lt_of_cell? w _ (hG.tab 0 (by omega))
  clear h hG
  cases ho : st.bind (rLim 18446744073709551615) with
  | none =>
    rw [ho] at HN
    clear ho
    go_enter Tryz.func186, Tryz.ntmps186
    go_wp2_with fail
    refine HN.out.mono ?_
    rintro e w1 ⟨v, rfl, hQ⟩
    obtain rfl := hQ.no rfl
    have HQ := hidden hQ
    have HG1 := hidden (gv_chg HG.out hQ.chg (by unfold fpr; omega))
    have hs1 := hQ.chg.size
    clear hQ
    go_wp2_with fail
    refine (readP w1 none 0 0 [] (Sl.nil _ _) HG1.out (by omega) (by omega) (by omega) (fun _ => ⟨rfl, rfl⟩) (by omega)).mono ?_
    rintro e w2 ⟨ad, c, l, ec, rfl, o2, _, b2, hr⟩
    have hr0 : rdR [] = some [] := rfl
    rw [hr0] at hr
    obtain ⟨rfl, rfl⟩ : l = [] ∧ ec = 0 := by
      rcases hr with ⟨h1, h2⟩ | ⟨h1, _⟩
      · injection h1 with h1; exact ⟨h1.symm, h2⟩
      · cases h1
    have HR2 := hidden (HQ.out.rt.later b2)
    have HC2 := hidden (HQ.out.chg.trans (Chg.of_below (F := fpr p) b2) (fun i _ hi => hi))
    clear o2 b2 hr hr0
    go_wp2_with fail
    refine (mustT p w2).mono ?_
    rintro e w3 ⟨rfl, rfl⟩
    go_wp2_with fail
    go_ret
    exact ⟨_, rfl, HR2.out, HC2.out, fun x t h => (by cases h), fun _ => ⟨_, _, rfl⟩⟩
  | some q =>
    obtain ⟨x, t⟩ := q
    rw [ho] at HN
    clear ho
    go_enter Tryz.func186, Tryz.ntmps186
    go_wp2_with fail
    refine HN.out.mono ?_
    rintro e w1 ⟨v, rfl, hQ⟩
    obtain ⟨ad, m, rfl, hs, hn, _, hm⟩ := hQ.yes _ _ rfl
    have HQ := hidden hQ
    have HG1 := hidden (gv_chg HG.out hQ.chg (by unfold fpr; omega))
    have hs1 := hQ.chg.size
    have HS := hidden hs
    have HNN := hidden hn
    clear hQ hs hn
    go_wp2_with fail
    refine (readP w1 ad m m x HS.out HG1.out (by omega) (by omega) (by omega) (fun h => ⟨HNN.out h, HNN.out h⟩) (by omega)).mono ?_
    rintro e w2 ⟨ad2, c2, l, ec, rfl, o2, hok, b2, hr⟩
    have HR2 := hidden (HQ.out.rt.later b2)
    have HC2 := hidden (HQ.out.chg.trans (Chg.of_below (F := fpr p) b2) (fun i _ hi => hi))
    have HO2 := hidden o2
    have HK := hidden hok
    clear o2 b2 hok
    rcases hr with ⟨hr, rfl⟩ | ⟨hr, rfl, rfl⟩
    · have HRR := hidden (show (some (x, t)).bind (fun q => (rdR q.1).map (fun l => (l, q.2))) = some (l, t) by show (rdR x).map _ = _; rw [hr]; rfl)
      clear hr
      obtain ⟨N, hN⟩ : ∃ N, l.length = N := ⟨_, rfl⟩
      have HNl := hidden hN
      rw [hN] at HO2 ⊢
      clear hN
      go_wp2_with fail
      refine (mustT p w2).mono ?_
      rintro e w3 ⟨rfl, rfl⟩
      go_wp2_with fail
      go_ret
      rw [HRR.out]
      refine ⟨_, rfl, HR2.out, HC2.out, fun x t h => ?_, fun h => (by cases h)⟩
      injection h with h
      injection h with h1 h2
      subst h1
      refine ⟨⟨_, _, by rw [HNl.out]; rfl⟩, ?_, HK.out⟩
      rw [HNl.out]
      exact owns_base HO2.out (fun g hg => by have := (HO2.out.lt g hg).1; omega)
    · have HRR := hidden (show (some (x, t)).bind (fun q => (rdR q.1).map (fun l => (l, q.2))) = none by show (rdR x).map _ = _; rw [hr]; rfl)
      clear hr
      go_wp2_with fail
      refine (mustF p K _ w2 HR2.out).mono ?_
      rintro e w3 ⟨rfl, hR3, hC3⟩
      have HR3 := hidden hR3
      have HC3 := hidden hC3
      clear hR3 hC3
      go_wp2_with fail
      go_ret
      rw [HRR.out]
      exact ⟨_, rfl, HR3.out, HC2.out.trans HC3.out (fun i _ hi => hi), fun x t h => (by cases h), fun _ => ⟨_, _, rfl⟩⟩

end Go.Proofs.YtalmpmhnkilalaaGreatDoor

/-
  One element of so many cells behind a row that is owned. Nothing of the program.
-/
namespace Go.Proofs.YtalmpmhnkilalaaGreatDoor
open Go.RowKit
set_option linter.unusedVariables false

theorem run_pushN {P : Program} (w : World) (t ty e : TypeId) (i : TypeInfo) (z : Value) (sz bytes : Nat) (ht : P.underlying t = some (.slice e)) (hi : P.info? e = some i) (hz : i.zero = some z)
    (hsize : i.size = sz) (hby : i.bytes = bytes) (hzs : z.cells.size = sz) (hp : 0 < sz) (base : Nat) (v : Value) (n : Nat) (xs : List Value) (hown : w.ownsRow base e sz v n xs)
    (ad : Addr) (news : List Value) (hl : news.length = sz) (hnews : ∀ j u, news[j]? = some u → w.cell? (ad.add j) = some u) (hone : ∀ x ∈ news, x.oneCell' = true) (h63 : n + 1 ≤ maxLen) (hbytes : (n + 1) * bytes ≤ 140737488355328) (hbase : base ≤ w.heap.size) :
    ∃ g' c' w', (Builtin.append_ #[t, t] ty #[v, .slice (some ad) 1 1]).run P w = .ok (.slice (some ⟨g', 0, none⟩) (n + 1) c') w' ∧
      w'.ownsRow base e sz (.slice (some ⟨g', 0, none⟩) (n + 1) c') (n + 1) (xs ++ news) ∧ Pushed w w' v g' := by
  have hl1 : news.length = 1 * sz := by omega
  rcases hown.2 with ⟨rfl, rfl⟩ | ⟨g, cap, cur, rfl, hbg, hg, hnc, hcm, hcs, htake⟩
  · have hxs : xs = [] := List.eq_nil_of_length_eq_zero (by simpa using hown.1)
    subst hxs
    obtain ⟨v', w', hr, ho, hgr, hiff⟩ := run_append_own (P := P) w w.heap.size t ty e i z sz bytes ht hi hz hsize hby hzs hp (.slice none 0 0) 0 [] (World.ownsRow_nil _ _ _ _) ad 1 1 news hl1 hnews hone h63 hbytes (Nat.le_refl _)
    rcases ho.2 with ⟨_, h0⟩ | ⟨g', c', cur', rfl, hb', hh, hrest⟩
    · omega
    · exact ⟨g', c', w', by simpa using hr, ⟨by simp [hl], .inr ⟨g', c', cur', rfl, by omega, hh, by simpa using hrest⟩⟩, .inr ⟨hb', by simpa [Value.ownBlock] using hgr⟩⟩
  · by_cases hroom : n + 1 ≤ cap
    · obtain ⟨w', hr, ho, hgr⟩ := run_append_fits (P := P) w base t ty e i sz ht hi hsize g n cap xs hown ad 1 1 news hl1 hnews hone hroom
      exact ⟨g, cap, w', hr, ho, .inl ⟨rfl, hgr⟩⟩
    · obtain ⟨v', w', hr, ho, hgr⟩ := run_append_arg_grows (P := P) w t ty e i z sz bytes ht hi hz hsize hby hzs hp ⟨g, 0, none⟩ n cap xs hown.1 (hown.cells rfl) ad 1 1 news hl1 hnews (by omega) h63 hbytes
      rcases ho.2 with ⟨_, h0⟩ | ⟨g', c', cur', rfl, hb', hh, hrest⟩
      · omega
      · exact ⟨g', c', w', hr, ⟨by rw [List.length_append, hown.1, hl, Nat.add_mul, Nat.one_mul], .inr ⟨g', c', cur', rfl, by omega, hh, hrest⟩⟩, .inr ⟨hb', hgr⟩⟩
theorem wp_pushN {P : Program} (w : World) {o : Oper} {a : Act} {K : Act → World → Prop} {Q : Exit → Act → World → Prop} (s x : Operand) (t : TypeId)
    (ho : o.op = .call { callee := .builtin .append, args := #[s, x], argTypes := #[t, t] }) (e : TypeId) (i : TypeInfo) (z : Value) (sz bytes : Nat) (ht : P.underlying t = some (.slice e)) (hi : P.info? e = some i) (hz : i.zero = some z)
    (hsize : i.size = sz) (hby : i.bytes = bytes) (hzs : z.cells.size = sz) (hp : 0 < sz) (base : Nat) (v : Value) (n : Nat) (xs : List Value) (hs : a.eval s = v) (hown : w.ownsRow base e sz v n xs)
    (ad : Addr) (news : List Value) (hx : a.eval x = .slice (some ad) 1 1) (hl : news.length = sz) (hnews : ∀ j u, news[j]? = some u → w.cell? (ad.add j) = some u) (hone : ∀ x ∈ news, x.oneCell' = true) (h63 : n + 1 ≤ maxLen) (hbytes : (n + 1) * bytes ≤ 140737488355328) (hbase : base ≤ w.heap.size)
    (h : ∀ g' c' w', w'.ownsRow base e sz (.slice (some ⟨g', 0, none⟩) (n + 1) c') (n + 1) (xs ++ news) → Pushed w w' v g' → K (a.put o.dst (.slice (some ⟨g', 0, none⟩) (n + 1) c')) w') : o.wp P a w K Q := by
  obtain ⟨g', c', w', hr, h2, h3⟩ := run_pushN (P := P) w t o.type e i z sz bytes ht hi hz hsize hby hzs hp base v n xs hown ad news hl hnews hone h63 hbytes hbase
  unfold Oper.wp
  simp [execOp, ho, resolve, invoke, builtin, hs, hx, hr, Result.andThen]
  exact h g' c' w' h2 h3
theorem wpList_pushN {P : Program} (w : World) {ops : Array Oper} {rest : List Oper} {o : Oper} {a : Act} {Q : Exit → Act → World → Prop} (hgd : o.guard = none) (s x : Operand) (t : TypeId)
    (ho : o.op = .call { callee := .builtin .append, args := #[s, x], argTypes := #[t, t] }) (e : TypeId) (i : TypeInfo) (z : Value) (sz bytes : Nat) (ht : P.underlying t = some (.slice e)) (hi : P.info? e = some i) (hz : i.zero = some z)
    (hsize : i.size = sz) (hby : i.bytes = bytes) (hzs : z.cells.size = sz) (hp : 0 < sz) (base : Nat) (v : Value) (n : Nat) (xs : List Value) (hs : a.eval s = v) (hown : w.ownsRow base e sz v n xs)
    (ad : Addr) (news : List Value) (hx : a.eval x = .slice (some ad) 1 1) (hl : news.length = sz) (hnews : ∀ j u, news[j]? = some u → w.cell? (ad.add j) = some u) (hone : ∀ x ∈ news, x.oneCell' = true) (h63 : n + 1 ≤ maxLen) (hbytes : (n + 1) * bytes ≤ 140737488355328) (hbase : base ≤ w.heap.size)
    (h : ∀ g' c' w', w'.ownsRow base e sz (.slice (some ⟨g', 0, none⟩) (n + 1) c') (n + 1) (xs ++ news) → Pushed w w' v g' → wpList P ops Q rest (a.put o.dst (.slice (some ⟨g', 0, none⟩) (n + 1) c')) w') : wpList P ops Q (o :: rest) a w :=
  wpList_plain hgd fun _ hK => wp_pushN w s x t ho e i z sz bytes ht hi hz hsize hby hzs hp base v n xs hs hown ad news hx hl hnews hone h63 hbytes hbase fun g' c' w' h2 h3 => hK _ _ (h g' c' w' h2 h3)
theorem step_pushN {P : Program} (w : World) {ops : Array Oper} {o : Oper} {a : Act} {K : Act → World → Prop} {Q : Exit → Act → World → Prop} {E : Prop} (hgd : o.guard = none) (s x : Operand) (t : TypeId)
    (ho : o.op = .call { callee := .builtin .append, args := #[s, x], argTypes := #[t, t] }) (e : TypeId) (i : TypeInfo) (z : Value) (sz bytes : Nat) (ht : P.underlying t = some (.slice e)) (hi : P.info? e = some i) (hz : i.zero = some z)
    (hsize : i.size = sz) (hby : i.bytes = bytes) (hzs : z.cells.size = sz) (hp : 0 < sz) (base : Nat) (v : Value) (n : Nat) (xs : List Value) (hs : a.eval s = v) (hown : w.ownsRow base e sz v n xs)
    (ad : Addr) (news : List Value) (hx : a.eval x = .slice (some ad) 1 1) (hl : news.length = sz) (hnews : ∀ j u, news[j]? = some u → w.cell? (ad.add j) = some u) (hone : ∀ x ∈ news, x.oneCell' = true) (h63 : n + 1 ≤ maxLen) (hbytes : (n + 1) * bytes ≤ 140737488355328) (hbase : base ≤ w.heap.size)
    (h : ∀ g' c' w', w'.ownsRow base e sz (.slice (some ⟨g', 0, none⟩) (n + 1) c') (n + 1) (xs ++ news) → Pushed w w' v g' → K (a.put o.dst (.slice (some ⟨g', 0, none⟩) (n + 1) c')) w') :
    if Region.wanted o (yielded ops a.tmps) = true then Oper.wp P o a w K Q else E := by
  have hw : Region.wanted o (yielded ops a.tmps) = true := by simp [Region.wanted, hgd]
  rw [if_pos hw]
  exact wp_pushN w s x t ho e i z sz bytes ht hi hz hsize hby hzs hp base v n xs hs hown ad news hx hl hnews hone h63 hbytes hbase h

end Go.Proofs.YtalmpmhnkilalaaGreatDoor
