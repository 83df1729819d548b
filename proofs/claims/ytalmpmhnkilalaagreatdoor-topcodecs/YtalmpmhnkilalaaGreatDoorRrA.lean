/-
  Package wire's reader in memory: must, cut, octet, number, time.
-/
import Derived.Test.YtalmpmhnkilalaaGreatDoorRwA
namespace Go.Proofs.YtalmpmhnkilalaaGreatDoor
open Go.RowKit
set_option linter.unusedVariables false

/-- A reader in memory that is not broken: its block, the block of its bytes, what is left. -/
structure RdB (w : World) (p K : Nat) (b : List Int) (ad : Option Addr) (n c : Nat) : Prop where
  blk : Blk w p 86 [.slice ad n c, .bool false]
  sl : Sl w ad n b
  at' : ∀ x, ad = some x → 0 < n → x.block = K ∧ x.spot = none
  nn : ad = none → n = 0 ∧ c = 0
  cap : n ≤ c ∧ c ≤ 9223372036854775807
  len : n ≤ 1048576
def Rt0 (w : World) (p K : Nat) : Option (List Int) → Prop
  | some b => ∃ ad n c, RdB w p K b ad n c
  | none => Blk w p 86 [.slice none 0 0, .bool true]
/-- A reader in memory; none: it is broken. -/
structure Rt (w : World) (p K : Nat) (st : Option (List Int)) : Prop where
  ne : K ≠ p
  klt : K < w.heap.size
  rt : Rt0 w p K st
theorem RdB.chg {F : Nat → Prop} {a b : World} {p K : Nat} {l : List Int} {ad : Option Addr} {n c : Nat} (h : RdB a p K l ad n c) (hc : Chg F a b) (hp : ¬ F p) (hK : ¬ F K) : RdB b p K l ad n c :=
  ⟨hc.blk h.blk hp, hc.sl h.sl (fun x hx hn => by rw [(h.at' x hx hn).1]; exact hK), h.at', h.nn, h.cap, h.len⟩
theorem Rt.chg {F : Nat → Prop} {a b : World} {p K : Nat} {st : Option (List Int)} (h : Rt a p K st) (hc : Chg F a b) (hp : ¬ F p) (hK : ¬ F K) : Rt b p K st := by
  obtain ⟨h1, h2, h⟩ := h
  refine ⟨h1, Nat.lt_of_lt_of_le h2 hc.size, ?_⟩
  cases st with
  | none => exact hc.blk h hp
  | some l =>
    obtain ⟨ad, n, c, h⟩ := h
    exact ⟨ad, n, c, h.chg hc hp hK⟩
theorem Rt.later {a b : World} {p K : Nat} {st : Option (List Int)} (h : Rt a p K st) (hb : Below a.heap.size a b) : Rt b p K st := h.chg (Chg.of_below (F := fun _ => False) hb) (fun e => e) (fun e => e)
theorem Rt.noneBlk {w : World} {p K : Nat} (h : Rt w p K none) : Blk w p 86 [.slice none 0 0, .bool true] := h.rt
theorem Rt.someB {w : World} {p K : Nat} {b : List Int} (h : Rt w p K (some b)) : ∃ ad n c, RdB w p K b ad n c := h.rt
theorem Rt.blk {w : World} {p K : Nat} {st : Option (List Int)} (h : Rt w p K st) : ∃ u v, Blk w p 86 [u, v] := by
  cases st with
  | none => exact ⟨_, _, h.noneBlk⟩
  | some l =>
    obtain ⟨ad, n, c, h⟩ := h.someB
    exact ⟨_, _, h.blk⟩
theorem Rt.lt {w : World} {p K : Nat} {st : Option (List Int)} (h : Rt w p K st) : p < w.heap.size := by
  obtain ⟨u, v, h⟩ := h.blk
  exact h.lt
theorem Rt.flag {w : World} {p K : Nat} {st : Option (List Int)} (h : Rt w p K st) : w.cell? ⟨p, 1, none⟩ = some (.bool st.isNone) := by
  cases st with
  | none => exact h.noneBlk.cell 1
  | some l =>
    obtain ⟨ad, n, c, h⟩ := h.someB
    exact h.blk.cell 1
theorem Rt.byte {w : World} {p K : Nat} {b : List Int} (h : Rt w p K (some b)) : Byte b ∧ b.length ≤ 1048576 := by
  obtain ⟨ad, n, c, h⟩ := h.someB
  exact ⟨h.sl.byte, by rw [h.sl.len]; exact h.len⟩
/-- The block that a reader's calls change. -/
def fpr (p : Nat) : Nat → Prop := fun i => i = p
/-- What a call of a reader leaves. -/
structure RQ' {α : Type} (w : World) (p K : Nat) (o : Option (α × List Int)) (V : α → Value → World → Prop) (Z : Value → Prop) (v : Value) (w' : World) : Prop where
  rt : Rt w' p K (o.map (·.2))
  chg : Chg (fpr p) w w'
  yes : ∀ x t, o = some (x, t) → V x v w'
  no : o = none → Z v
def RQ {α : Type} (w : World) (p K : Nat) (o : Option (α × List Int)) (V : α → Value → World → Prop) (Z : Value → Prop) : Ending → World → Prop := fun e w' => ∃ v, e = .returned v ∧ RQ' w p K o V Z v w'

theorem Q.decAt_zero : ∀ (l : List Int) (i n : Nat), (Q.decAt l i n).2 = 0 → (Q.decAt l i n).1 = 0
  | [], i, n, h => rfl
  | c :: r, i, n, h => by
    unfold Q.decAt at h ⊢
    by_cases h1 : 10 ≤ i
    · rw [if_pos h1]
    · rw [if_neg h1] at h ⊢
      by_cases h2 : i = 9 ∧ 1 < c
      · rw [if_pos h2]
      · rw [if_neg h2] at h ⊢
        by_cases h3 : 128 ≤ c
        · rw [if_pos h3] at h ⊢
          exact Q.decAt_zero r _ _ h
        · rw [if_neg h3] at h ⊢
          by_cases h4 : c = 0 ∧ 0 < i
          · rw [if_pos h4]
          · rw [if_neg h4] at h
            simp at h
theorem Q.dec_zero_of {b : List Int} (h : (Q.dec b).2 = 0) : (Q.dec b).1 = 0 := Q.decAt_zero b 0 0 h
theorem mustT (p : Nat) (w : World) : Calls Tryz.prog 68 #[.pointer (some ⟨p, 0, none⟩), .bool true] w fun e w' => e = .returned (.tuple #[]) ∧ w' = w := by
  go_enter Tryz.func68, Tryz.ntmps68
  go_wp2_with fail
  go_end0
  exact ⟨rfl, rfl⟩
theorem mustF (p K : Nat) (st : Option (List Int)) (w : World) (h : Rt w p K st) :
    Calls Tryz.prog 68 #[.pointer (some ⟨p, 0, none⟩), .bool false] w fun e w' => e = .returned (.tuple #[]) ∧ Rt w' p K none ∧ Chg (fpr p) w w' := by
  obtain ⟨u, v, hB⟩ := h.blk
  have HR := hidden h
  have f0 := hB.frozen 0
  have c0 := hB.cell 0
  simp at c0
  have hB2 := hB.set 0 (.slice none 0 0)
  have f1 := hB2.frozen 1
  have c1 := hB2.cell 1
  simp at c1
  have HB2 := hidden hB2
  clear h hB hB2
  go_enter Tryz.func68, Tryz.ntmps68
  go_wp2_with fail
  go_end0
  refine ⟨rfl, ⟨HR.out.ne, by simpa [World.setCell] using HR.out.klt, HB2.out.set 1 (.bool true)⟩, ?_⟩
  exact ((Chg.set ⟨p, 0, none⟩ _ w).mono (G := fpr p) (fun i _ hi => hi)).trans ((Chg.set ⟨p, 1, none⟩ _ _).mono (G := fpr p) (fun i _ hi => hi)) (fun i _ hi => hi)
theorem mustR (p K : Nat) (st : Option (List Int)) (ok : Bool) (w : World) (h : Rt w p K st) :
    Calls Tryz.prog 68 #[.pointer (some ⟨p, 0, none⟩), .bool ok] w fun e w' => e = .returned (.tuple #[]) ∧ Rt w' p K (if ok then st else none) ∧ Chg (fpr p) w w' := by
  cases ok with
  | true =>
    refine (mustT p w).mono ?_
    rintro e w1 ⟨rfl, rfl⟩
    exact ⟨rfl, h, Chg.refl _ _⟩
  | false => exact mustF p K st w h

/-- A piece of what is read. -/
def Pc (K : Nat) (x : List Int) (v : Value) (w : World) : Prop := ∃ ad m, v = .slice ad m m ∧ Sl w ad m x ∧ (ad = none → m = 0) ∧ (∀ y, ad = some y → 0 < m → y.block = K ∧ y.spot = none) ∧ m ≤ 1048576
theorem RdB.drop {w w2 : World} {p K : Nat} {b : List Int} {bb off k c n : Nat} {ad2 : Option Addr} {c2 : Nat} (h : RdB w p K b (some ⟨bb, off, none⟩) k c) (hK : K ≠ p) (hn : n ≤ k) (hB : Blk w2 p 86 [.slice ad2 (k - n) c2, .bool false]) (hC : Chg (fpr p) w w2)
    (h1 : 0 < k - n → ad2 = some ⟨bb, off + n, none⟩) (h2 : ∀ x, ad2 = some x → 0 < k - n → x.block = K ∧ x.spot = none) (h3 : ad2 = none → k - n = 0 ∧ c2 = 0) (h4 : k - n ≤ c2 ∧ c2 ≤ 9223372036854775807) : RdB w2 p K (b.drop n) ad2 (k - n) c2 :=
  ⟨hB, (hC.sl (sl_tail h.sl hn h1) (fun x hx hn e => hK ((h2 x hx hn).1.symm.trans e))), h2, h3, h4, by have := h.len; omega⟩
theorem cut_done {w : World} {p K : Nat} {b : List Int} {off k c n : Nat} {ad2 : Option Addr} {m2 c2 : Nat} (h : RdB w p K b (some ⟨K, off, none⟩) k c) (hK : K ≠ p) (hlt : K < w.heap.size) (hn : n ≤ k) (hm : m2 = k - n)
    (h1 : 0 < k - n → ad2 = some ⟨K, off + n, none⟩) (h2 : ∀ x, ad2 = some x → 0 < k - n → x.block = K ∧ x.spot = none) (h3 : ad2 = none → k - n = 0 ∧ c2 = 0) (h4 : k - n ≤ c2 ∧ c2 ≤ 9223372036854775807) (Z : Value → Prop) :
    RQ w p K (some (b.take n, b.drop n)) (Pc K) Z (.returned (.slice (some ⟨K, off, none⟩) n n)) (w.setCell ⟨p, 0, none⟩ (.slice ad2 m2 c2)) := by
  subst hm
  have hC : Chg (fpr p) w (w.setCell ⟨p, 0, none⟩ (.slice ad2 (k - n) c2)) := (Chg.set ⟨p, 0, none⟩ _ _).mono (fun i _ hi => hi)
  refine ⟨_, rfl, ⟨hK, by simpa [World.setCell] using hlt, ad2, k - n, c2, h.drop hK hn (h.blk.set 0 _) hC h1 h2 h3 h4⟩, hC, fun x t e => ?_, fun e => by cases e⟩
  injection e with e
  injection e with e1 e2
  subst e1
  have hl := h.len
  exact ⟨_, n, rfl, hC.sl (h.sl.take hn) (fun x hx h0 e => hK ((h.at' x hx (by omega)).1.symm.trans e)), fun e => (by cases e), fun y hy _ => (by cases hy; exact ⟨rfl, rfl⟩), by omega⟩
set_option maxHeartbeats 1000000 in
theorem cutR (p K : Nat) (st : Option (List Int)) (n : Nat) (w : World) (h : Rt w p K st) (hn : n ≤ 18446744073709551615) :
    Calls Tryz.prog 126 #[.pointer (some ⟨p, 0, none⟩), .int .u64 (n : Int)] w (RQ w p K (st.bind (rCut n)) (Pc K) (fun v => v = .slice none 0 0)) := by
  have HR := hidden h
  cases st with
  | none =>
    have hB := h.noneBlk
    have c0 := hB.cell 0
    simp at c0
    clear h
    go_enter Tryz.func126, Tryz.ntmps126
    go_wp2_with fail
    refine (mustR p K none _ w HR.out).mono ?_
    rintro e w1 ⟨rfl, hR1, hC1⟩
    rw [ite_self] at hR1
    have HR1 := hidden hR1
    have HC1 := hidden hC1
    have c1 := hR1.noneBlk.cell 1
    simp at c1
    clear hR1 hC1 c0 hB
    go_wp2_with fail
    go_ret
    exact ⟨_, rfl, HR1.out, HC1.out, fun x t h => (by cases h), fun _ => rfl⟩
  | some b =>
    obtain ⟨ad, k, c, hRB⟩ := h.someB
    have hK := h.ne
    clear h
    have hk := hRB.len
    have hcp := hRB.cap
    have c0 := hRB.blk.cell 0
    simp at c0
    have cf := hRB.blk.cell 1
    simp at cf
    have f0 := hRB.blk.frozen 0
    have hlen := hRB.sl.len
    by_cases hle : n ≤ k
    · have ho : (some b).bind (rCut n) = some (b.take n, b.drop n) := by
        show rCut n b = _
        unfold rCut
        rw [if_pos (by omega)]
      rw [ho]
      have hle' : (n : Int) ≤ (k : Int) := by omega
      cases ad with
      | none =>
        obtain ⟨rfl, rfl⟩ := hRB.nn rfl
        obtain rfl : n = 0 := by omega
        have HRB := hidden hRB
        clear hRB
        go_enter Tryz.func126, Tryz.ntmps126
        go_wp2_with fail
        refine (mustT p w).mono ?_
        rintro e w1 ⟨rfl, rfl⟩
        go_wp2_with fail
        go_ret
        refine ⟨_, rfl, ⟨hK, by simpa [World.setCell] using HR.out.klt, none, 0, 0, HRB.out.blk.set 0 _, ?_, fun x hx _ => (by cases hx), fun _ => ⟨rfl, rfl⟩, by omega, by omega⟩, (Chg.set ⟨p, 0, none⟩ _ _).mono (fun i _ hi => hi), fun x t h => ?_, fun h => by cases h⟩
        · have hb : b = [] := List.eq_nil_of_length_eq_zero hlen
          subst hb
          exact Sl.nil _ _
        · injection h with h
          injection h with h1 h2
          subst h1
          exact ⟨none, 0, rfl, Sl.nil _ _, fun _ => rfl, fun y hy _ => (by cases hy), by omega⟩
      | some x =>
        by_cases hk0 : k = 0
        · subst hk0
          obtain rfl : n = 0 := by omega
          have hb : b = [] := List.eq_nil_of_length_eq_zero hlen
          subst hb
          have HRB := hidden hRB
          clear hRB
          have fin : ∀ (y : Addr) (c2 : Nat), c2 ≤ 9223372036854775807 → RQ w p K (some (List.take 0 ([] : List Int), List.drop 0 [])) (Pc K) (fun v => v = .slice none 0 0) (.returned (.slice (some x) 0 0)) (w.setCell ⟨p, 0, none⟩ (.slice (some y) 0 c2)) := fun y c2 hc2 => by
            refine ⟨_, rfl, ⟨hK, by simpa [World.setCell] using HR.out.klt, some y, 0, c2, HRB.out.blk.set 0 _, Sl.nil _ _, fun x hx h => by omega, fun h => (by cases h), by omega, by omega⟩, (Chg.set ⟨p, 0, none⟩ _ _).mono (fun i _ hi => hi), fun x t h => ?_, fun h => by cases h⟩
            injection h with h
            injection h with h1 h2
            subst h1
            exact ⟨_, 0, rfl, Sl.nil _ _, fun _ => rfl, fun y hy h => by omega, by omega⟩
          have HF := hidden fin
          clear fin
          by_cases hc0 : c = 0
          · subst hc0
            go_enter Tryz.func126, Tryz.ntmps126
            go_wp2_with fail
            refine (mustT p w).mono ?_
            rintro e w1 ⟨rfl, rfl⟩
            go_wp2_with fail
            go_ret
            exact HF.out _ _ (by omega)
          · go_enter Tryz.func126, Tryz.ntmps126
            go_wp2_with fail
            refine (mustT p w).mono ?_
            rintro e w1 ⟨rfl, rfl⟩
            go_wp2_with fail
            go_ret
            exact HF.out _ _ (by omega)
        obtain ⟨bb, off, sp⟩ := x
        obtain ⟨hbK, hsp⟩ := hRB.at' _ rfl (by omega)
        obtain rfl : bb = K := hbK
        obtain rfl : sp = none := hsp
        have HRB := hidden hRB
        clear hRB
        by_cases hcn : c = n
        · subst hcn
          obtain rfl : k = c := by omega
          go_enter Tryz.func126, Tryz.ntmps126
          go_wp2_with fail
          refine (mustT p w).mono ?_
          rintro e w1 ⟨rfl, rfl⟩
          go_wp2_with fail
          go_ret
          exact cut_done HRB.out hK HR.out.klt (Nat.le_refl _) (by omega) (fun h => by omega) (fun x hx _ => by cases hx; exact ⟨rfl, rfl⟩) (fun h => by cases h) (by omega) _
        · go_enter Tryz.func126, Tryz.ntmps126
          go_wp2_with fail
          refine (mustT p w).mono ?_
          rintro e w1 ⟨rfl, rfl⟩
          go_wp2_with fail
          go_ret
          exact cut_done HRB.out hK HR.out.klt hle rfl (fun _ => rfl) (fun x hx _ => by cases hx; exact ⟨rfl, rfl⟩) (fun h => by cases h) (by omega) _
    · have ho : (some b).bind (rCut n) = none := by
        show rCut n b = _
        unfold rCut
        rw [if_neg (by omega)]
      rw [ho]
      have hle' : ¬ (n : Int) ≤ (k : Int) := by omega
      clear hRB
      go_enter Tryz.func126, Tryz.ntmps126
      go_wp2_with fail
      refine (mustF p K _ w HR.out).mono ?_
      rintro e w1 ⟨rfl, hR1, hC1⟩
      have HR1 := hidden hR1
      have HC1 := hidden hC1
      have c1 := hR1.noneBlk.cell 1
      simp at c1
      clear hR1 hC1 c0 cf f0
      go_wp2_with fail
      go_ret
      exact ⟨_, rfl, HR1.out, HC1.out, fun x t h => (by cases h), fun _ => rfl⟩

theorem octetR (p K : Nat) (st : Option (List Int)) (w : World) (h : Rt w p K st) :
    Calls Tryz.prog 67 #[.pointer (some ⟨p, 0, none⟩)] w (RQ w p K (st.bind rOct) (fun x v _ => v = .int .u8 x) (fun v => v = .int .u8 0)) := by
  have HC := hidden (cutR p K st 1 w h (by omega))
  have hb : ∀ b, st = some b → Byte b := fun b e => by subst e; exact h.byte.1
  clear h
  have hcase : (st.bind rOct = none ∧ st.bind (rCut 1) = none) ∨ ∃ c t, st.bind rOct = some (c, t) ∧ st.bind (rCut 1) = some ([c], t) := by
    cases st with
    | none => exact .inl ⟨rfl, rfl⟩
    | some b =>
      cases b with
      | nil => exact .inl ⟨rfl, rfl⟩
      | cons c t => exact .inr ⟨c, t, rfl, by simp [rCut]⟩
  rcases hcase with ⟨e1, e2⟩ | ⟨c, t, e1, e2⟩
  · rw [e2] at HC
    rw [e1]
    clear e1 e2
    go_enter Tryz.func67, Tryz.ntmps67
    go_wp2_with fail
    refine HC.out.mono ?_
    rintro e w1 ⟨v, rfl, hQ⟩
    obtain rfl := hQ.no rfl
    have c1 := hQ.rt.noneBlk.cell 1
    simp at c1
    have HQ := hidden hQ
    clear hQ
    go_wp2_with fail
    go_ret
    exact ⟨_, rfl, HQ.out.rt, HQ.out.chg, fun x t h => (by cases h), fun _ => rfl⟩
  · rw [e2] at HC
    rw [e1]
    clear e1 e2
    go_enter Tryz.func67, Tryz.ntmps67
    go_wp2_with fail
    refine HC.out.mono ?_
    rintro e w1 ⟨v, rfl, hQ⟩
    have c1 := hQ.rt.flag
    obtain ⟨ad, m, rfl, hs, _, hat, _⟩ := hQ.yes _ _ rfl
    have hm := hs.len
    simp at hm
    subst hm
    obtain ⟨bb, off, rfl, _, hcell⟩ := hs.at (by omega)
    have k0 := hcell 0 (by omega)
    simp at k0
    simp at c1
    have HQ := hidden hQ
    clear hQ hs hat hcell
    go_wp2_with fail
    go_ret
    refine ⟨_, rfl, HQ.out.rt, HQ.out.chg, fun x t h => ?_, fun h => (by cases h)⟩
    injection h with h
    injection h with h1 h2
    subst h1
    rfl
set_option maxRecDepth 8000 in
set_option maxHeartbeats 1000000 in
theorem numberR (p K : Nat) (st : Option (List Int)) (most : Nat) (w : World) (h : Rt w p K st) (hm : most ≤ 18446744073709551615) :
    Calls Tryz.prog 78 #[.pointer (some ⟨p, 0, none⟩), .int .u64 (most : Int)] w (RQ w p K (st.bind (rNum most)) (fun x v _ => v = .int .u64 (x : Int)) (fun v => v = .int .u64 0)) := by
  have HR := hidden h
  obtain ⟨ad, n, c, b, hs, c0, hno, hbr⟩ : ∃ ad n c b, Sl w ad n b ∧ w.cell? ⟨p, 0, none⟩ = some (.slice ad n c) ∧ n ≤ 1048576 ∧ (st = none ∧ b = [] ∨ st = some b) := by
    cases st with
    | none => exact ⟨none, 0, 0, [], Sl.nil _ _, h.noneBlk.cell 0, by omega, .inl ⟨rfl, rfl⟩⟩
    | some b =>
      obtain ⟨ad, n, c, k⟩ := h.someB
      exact ⟨ad, n, c, b, k.sl, k.blk.cell 0, k.len, .inr rfl⟩
  have HU := hidden (Q.uint_any ad n c b w hs (by omega))
  have hbd := Q.dec_bound b hs.byte
  have hlen := hs.len
  by_cases hok : (Q.dec b).2 ≠ 0 ∧ (Q.dec b).1 ≤ most
  · rcases hbr with ⟨_, rfl⟩ | rfl
    · exact absurd rfl hok.1
    have ho : (some b).bind (rNum most) = some ((Q.dec b).1, b.drop (Q.dec b).2) := by
      show rNum most b = _
      unfold rNum
      rw [if_pos hok]
    have hcut : (some b).bind (rCut (Q.dec b).2) = some (b.take (Q.dec b).2, b.drop (Q.dec b).2) := by
      show rCut _ b = _
      unfold rCut
      rw [if_pos hbd.2.2]
    have HC := hidden (cutR p K (some b) (Q.dec b).2 w HR.out (by omega))
    rw [hcut] at HC
    rw [ho]
    have cf := h.flag
    simp at cf
    clear h hs ho hcut
    generalize (Q.dec b).1 = x at *
    generalize (Q.dec b).2 = k at *
    have hk0 : (k : Int) > 0 := by omega
    have hxm : (x : Int) ≤ (most : Int) := by omega
    go_enter Tryz.func78, Tryz.ntmps78
    go_wp2_with fail
    refine HU.out.mono ?_
    rintro e w1 ⟨rfl, rfl⟩
    go_wp2_with fail
    refine (mustT p w1).mono ?_
    rintro e w2 ⟨rfl, rfl⟩
    go_wp2_with fail
    refine HC.out.mono ?_
    rintro e w3 ⟨v, rfl, hQ⟩
    have HQ := hidden hQ
    clear hQ c0 cf
    go_wp2_with fail
    go_ret
    refine ⟨_, rfl, HQ.out.rt, HQ.out.chg, fun x t h => ?_, fun h => (by cases h)⟩
    injection h with h
    injection h with h1 h2
    subst h1
    rfl
  · have ho : st.bind (rNum most) = none := by
      rcases hbr with ⟨rfl, _⟩ | rfl
      · rfl
      · show rNum most b = _
        unfold rNum
        rw [if_neg hok]
    rw [ho]
    clear h hs ho hbr
    generalize (Q.dec b).1 = x at *
    generalize (Q.dec b).2 = k at *
    by_cases hk : k = 0
    · subst hk
      go_enter Tryz.func78, Tryz.ntmps78
      go_wp2_with fail
      refine HU.out.mono ?_
      rintro e w1 ⟨rfl, rfl⟩
      go_wp2_with fail
      refine (mustF p K st w1 HR.out).mono ?_
      rintro e w2 ⟨rfl, hR2, hC2⟩
      have HR2 := hidden hR2
      have HC2 := hidden hC2
      have c1 := hR2.noneBlk.cell 1
      simp at c1
      clear hR2 hC2 c0
      go_wp2_with fail
      go_ret
      exact ⟨_, rfl, HR2.out, HC2.out, fun x t h => (by cases h), fun _ => rfl⟩
    · have hk0 : (k : Int) > 0 := by omega
      have hxm : ¬ (x : Int) ≤ (most : Int) := by omega
      have hxn : ¬ x ≤ most := by omega
      have hdn : decide ((x : Int) ≤ (most : Int)) = false := decide_eq_false hxm
      have hdm : decide (x ≤ most) = false := decide_eq_false hxn
      go_enter Tryz.func78, Tryz.ntmps78
      go_wp2_with fail
      refine HU.out.mono ?_
      rintro e w1 ⟨rfl, rfl⟩
      go_wp2_with fail
      refine (mustF p K st w1 HR.out).mono ?_
      rintro e w2 ⟨rfl, hR2, hC2⟩
      have HR2 := hidden hR2
      have HC2 := hidden hC2
      have c1 := hR2.noneBlk.cell 1
      simp at c1
      clear hR2 hC2 c0
      go_wp2_with fail
      go_ret
      exact ⟨_, rfl, HR2.out, HC2.out, fun x t h => (by cases h), fun _ => rfl⟩
set_option maxRecDepth 8000 in
set_option maxHeartbeats 1000000 in
theorem timeR (p K : Nat) (st : Option (List Int)) (w : World) (h : Rt w p K st) :
    Calls Tryz.prog 107 #[.pointer (some ⟨p, 0, none⟩)] w (RQ w p K (st.bind rTime) (fun x v _ => v = .int .i64 x) (fun v => v = .int .i64 0)) := by
  have HR := hidden h
  obtain ⟨ad, n, c, b, hs, c0, hno, hbr⟩ : ∃ ad n c b, Sl w ad n b ∧ w.cell? ⟨p, 0, none⟩ = some (.slice ad n c) ∧ n ≤ 1048576 ∧ (st = none ∧ b = [] ∨ st = some b) := by
    cases st with
    | none => exact ⟨none, 0, 0, [], Sl.nil _ _, h.noneBlk.cell 0, by omega, .inl ⟨rfl, rfl⟩⟩
    | some b =>
      obtain ⟨ad, n, c, k⟩ := h.someB
      exact ⟨ad, n, c, b, k.sl, k.blk.cell 0, k.len, .inr rfl⟩
  have HU := hidden (Q.int_any ad n c b w hs (by omega))
  have hbd := Q.dec_bound b hs.byte
  have hlen := hs.len
  by_cases hok : (Q.dec b).2 ≠ 0
  · rcases hbr with ⟨_, rfl⟩ | rfl
    · exact absurd rfl hok
    have ho : (some b).bind rTime = some (Q.unfold' (Q.dec b).1, b.drop (Q.dec b).2) := by
      show rTime b = _
      unfold rTime
      rw [if_pos hok]
    have hcut : (some b).bind (rCut (Q.dec b).2) = some (b.take (Q.dec b).2, b.drop (Q.dec b).2) := by
      show rCut _ b = _
      unfold rCut
      rw [if_pos hbd.2.2]
    have HC := hidden (cutR p K (some b) (Q.dec b).2 w HR.out (by omega))
    rw [hcut] at HC
    rw [ho]
    clear h hs ho hcut
    generalize Q.unfold' (Q.dec b).1 = x at *
    generalize (Q.dec b).2 = k at *
    have hk0 : (k : Int) > 0 := by omega
    have hk2 : 0 < k := by omega
    have hd0 : decide ((k : Int) > 0) = true := decide_eq_true hk0
    have hd1 : decide ((0 : Int) < (k : Int)) = true := decide_eq_true hk0
    have hd2 : decide (0 < k) = true := decide_eq_true hk2
    go_enter Tryz.func107, Tryz.ntmps107
    go_wp2_with fail
    refine HU.out.mono ?_
    rintro e w1 ⟨rfl, rfl⟩
    go_wp2_with fail
    refine (mustT p w1).mono ?_
    rintro e w2 ⟨rfl, rfl⟩
    go_wp2_with fail
    refine HC.out.mono ?_
    rintro e w3 ⟨v, rfl, hQ⟩
    have HQ := hidden hQ
    clear hQ c0
    go_wp2_with fail
    go_ret
    refine ⟨_, rfl, HQ.out.rt, HQ.out.chg, fun x t h => ?_, fun h => (by cases h)⟩
    injection h with h
    injection h with h1 h2
    subst h1
    rfl
  · have ho : st.bind rTime = none := by
      rcases hbr with ⟨rfl, _⟩ | rfl
      · rfl
      · show rTime b = _
        unfold rTime
        rw [if_neg hok]
    rw [ho]
    have hx : (Q.dec b).1 = 0 := Q.dec_zero_of (by omega)
    rw [hx] at HU
    have hu : Q.unfold' 0 = 0 := rfl
    rw [hu] at HU
    clear h hs ho hbr hx hu
    generalize (Q.dec b).2 = k at *
    obtain rfl : k = 0 := by omega
    go_enter Tryz.func107, Tryz.ntmps107
    go_wp2_with fail
    refine HU.out.mono ?_
    rintro e w1 ⟨rfl, rfl⟩
    go_wp2_with fail
    refine (mustF p K st w1 HR.out).mono ?_
    rintro e w2 ⟨rfl, hR2, hC2⟩
    have HR2 := hidden hR2
    have HC2 := hidden hC2
    clear hR2 hC2 c0
    go_wp2_with fail
    refine (cutR p K none 0 w2 HR2.out (by omega)).mono ?_
    rintro e w3 ⟨v, rfl, hQ⟩
    have HQ := hidden hQ
    clear hQ
    go_wp2_with fail
    go_ret
    exact ⟨_, rfl, HQ.out.rt, HC2.out.trans HQ.out.chg (fun i _ hi => hi), fun x t h => (by cases h), fun _ => rfl⟩

end Go.Proofs.YtalmpmhnkilalaaGreatDoor
