import Derived.Test.YtalmpmhnkilalaaGreatDoorRrA
import Derived.Test.YtalmpmhnkilalaaGreatDoorRefA
import Derived.Test.YtalmpmhnkilalaaGreatDoorRrC
/-
  The document's reader in memory: number, signed.
-/
namespace Go.Proofs.YtalmpmhnkilalaaGreatDoor
open Go.RowKit
set_option linter.unusedVariables false

/-- The document's reader, purely: what is left, and whether all was well. -/
structure Ri where
  b : List Int
  ok : Bool
/-- It in memory: its block, the block of its bytes. -/
structure IB (w : World) (p K : Nat) (s : Ri) (ad : Option Addr) (n c : Nat) : Prop where
  blk : Blk w p 89 [.slice ad n c, .bool s.ok]
  sl : Sl w ad n s.b
  at' : ∀ x, ad = some x → 0 < n → x.block = K ∧ x.spot = none
  nn : ad = none → n = 0 ∧ c = 0
  cap : n ≤ c ∧ c ≤ 9223372036854775807
  len : n ≤ 1048576
structure It (w : World) (p K : Nat) (s : Ri) : Prop where
  ne : K ≠ p
  klt : K < w.heap.size
  it : ∃ ad n c, IB w p K s ad n c
theorem IB.chg {F : Nat → Prop} {a b : World} {p K : Nat} {s : Ri} {ad : Option Addr} {n c : Nat} (h : IB a p K s ad n c) (hc : Chg F a b) (hp : ¬ F p) (hK : ¬ F K) : IB b p K s ad n c :=
  ⟨hc.blk h.blk hp, hc.sl h.sl (fun x hx hn => by rw [(h.at' x hx hn).1]; exact hK), h.at', h.nn, h.cap, h.len⟩
theorem It.chg {F : Nat → Prop} {a b : World} {p K : Nat} {s : Ri} (h : It a p K s) (hc : Chg F a b) (hp : ¬ F p) (hK : ¬ F K) : It b p K s := by
  obtain ⟨h1, h2, ad, n, c, h⟩ := h
  exact ⟨h1, Nat.lt_of_lt_of_le h2 hc.size, ad, n, c, h.chg hc hp hK⟩
theorem It.later {a b : World} {p K : Nat} {s : Ri} (h : It a p K s) (hb : Below a.heap.size a b) : It b p K s := h.chg (Chg.of_below (F := fun _ => False) hb) (fun e => e) (fun e => e)
theorem It.lt {w : World} {p K : Nat} {s : Ri} (h : It w p K s) : p < w.heap.size := by
  obtain ⟨_, _, ad, n, c, h⟩ := h
  exact h.blk.lt
theorem It.flag {w : World} {p K : Nat} {s : Ri} (h : It w p K s) : w.cell? ⟨p, 1, none⟩ = some (.bool s.ok) := by
  obtain ⟨_, _, ad, n, c, h⟩ := h
  exact h.blk.cell 1
theorem It.byte {w : World} {p K : Nat} {s : Ri} (h : It w p K s) : Byte s.b ∧ s.b.length ≤ 1048576 := by
  obtain ⟨_, _, ad, n, c, h⟩ := h
  exact ⟨h.sl.byte, by rw [h.sl.len]; exact h.len⟩
/-- The flag is written. -/
theorem IB.setOk {w : World} {p K : Nat} {s : Ri} {ad : Option Addr} {n c : Nat} (h : IB w p K s ad n c) (hK : K ≠ p) (x : Bool) : IB (w.setCell ⟨p, 1, none⟩ (.bool x)) p K ⟨s.b, x⟩ ad n c :=
  ⟨h.blk.set 1 (.bool x), ((Chg.set ⟨p, 1, none⟩ _ w).mono (G := fpr p) (fun i _ hi => hi)).sl h.sl (fun y hy hn e => hK ((h.at' y hy hn).1.symm.trans e)), h.at', h.nn, h.cap, h.len⟩
/-- The slice is cut. -/
theorem IB.cut {w : World} {p K : Nat} {s : Ri} {ad : Option Addr} {k c n : Nat} (h : IB w p K s ad k c) (hK : K ≠ p) (hn : n ≤ k) {ad2 : Option Addr} {m2 c2 : Nat} (hm : m2 = k - n)
    (h1 : ∀ bb off, ad = some ⟨bb, off, none⟩ → 0 < k - n → ad2 = some ⟨bb, off + n, none⟩) (h3 : ad2 = none → k - n = 0 ∧ c2 = 0) (h4 : k - n ≤ c2 ∧ c2 ≤ 9223372036854775807) :
    IB (w.setCell ⟨p, 0, none⟩ (.slice ad2 m2 c2)) p K ⟨s.b.drop n, s.ok⟩ ad2 (k - n) c2 := by
  subst hm
  have hC : Chg (fpr p) w (w.setCell ⟨p, 0, none⟩ (.slice ad2 (k - n) c2)) := (Chg.set ⟨p, 0, none⟩ _ _).mono (fun i _ hi => hi)
  have hl := h.len
  have hsl := h.sl.len
  by_cases hk : 0 < k - n
  · obtain ⟨bb, off, rfl, _, _⟩ := h.sl.at (by omega)
    have hat := h.at' _ rfl (by omega)
    have ha := h1 _ _ rfl hk
    subst ha
    refine ⟨h.blk.set 0 _, hC.sl (sl_tail h.sl hn (fun _ => rfl)) (fun x hx _ e => ?_), fun x hx _ => ?_, h3, h4, by omega⟩
    · cases hx
      exact hK (hat.1.symm.trans e)
    · cases hx
      exact ⟨hat.1, rfl⟩
  · have e0 : k - n = 0 := by omega
    have eb : s.b.drop n = [] := List.drop_eq_nil_of_le (by omega)
    rw [e0] at h3 h4 hC ⊢
    refine ⟨h.blk.set 0 _, ?_, fun x hx h => absurd h (by omega), h3, h4, by omega⟩
    show Sl _ _ _ (s.b.drop n)
    rw [eb]
    exact Sl.nil _ _
/-- What a call of it leaves. -/
structure IQ' (w : World) (p K : Nat) (s : Ri) (w' : World) : Prop where
  it : It w' p K s
  chg : Chg (fpr p) w w'
def IQ (w : World) (p K : Nat) (s : Ri) (V : Value → World → Prop) : Ending → World → Prop := fun e w' => ∃ v, e = .returned v ∧ IQ' w p K s w' ∧ V v w'

def Ri.num (s : Ri) : Ri := ⟨s.b.drop (Q.dec s.b).2, s.ok && decide (0 < (Q.dec s.b).2)⟩
theorem num_done {w : World} {p K : Nat} {s : Ri} {ad : Option Addr} {k c n : Nat} (h : IB w p K s ad k c) (hK : K ≠ p) (hlt : K < w.heap.size) (hn : n ≤ k) (x : Bool) {ad2 : Option Addr} {m2 c2 : Nat} (hm : m2 = k - n)
    (h1 : ∀ bb off, ad = some ⟨bb, off, none⟩ → 0 < k - n → ad2 = some ⟨bb, off + n, none⟩) (h3 : ad2 = none → k - n = 0 ∧ c2 = 0) (h4 : k - n ≤ c2 ∧ c2 ≤ 9223372036854775807) :
    IQ' w p K ⟨s.b.drop n, x⟩ ((w.setCell ⟨p, 1, none⟩ (.bool x)).setCell ⟨p, 0, none⟩ (.slice ad2 m2 c2)) :=
  ⟨⟨hK, by simpa [World.setCell] using hlt, _, _, _, (h.setOk hK x).cut hK hn hm h1 h3 h4⟩,
    ((Chg.set ⟨p, 1, none⟩ _ w).mono (G := fpr p) (fun i _ hi => hi)).trans ((Chg.set ⟨p, 0, none⟩ _ _).mono (G := fpr p) (fun i _ hi => hi)) (fun i _ hi => hi)⟩
set_option maxRecDepth 8000 in
set_option maxHeartbeats 1000000 in
theorem numberI (p K : Nat) (s : Ri) (w : World) (h : It w p K s) :
    Calls Tryz.prog 79 #[.pointer (some ⟨p, 0, none⟩)] w (IQ w p K s.num fun v _ => v = .int .u64 ((Q.dec s.b).1 : Int)) := by
  obtain ⟨hK, hlt, ad, k, c, hB⟩ := h
  have HU := hidden (Q.refUint_any ad k c s.b w hB.sl (by have := hB.len; omega))
  have hbd := Q.dec_bound s.b hB.sl.byte
  have hlen := hB.sl.len
  have hkl := hB.len
  have c0 := hB.blk.cell 0
  simp at c0
  have cf := hB.blk.cell 1
  simp at cf
  have f1 := hB.blk.frozen 1
  have f0 := hB.blk.frozen 0
  have hkk : (Q.dec s.b).2 ≤ k := by have := hbd.2.2; omega
  have hcp := hB.cap
  have hnn := hB.nn
  have HB := hidden hB
  unfold Ri.num
  clear hB
  generalize (Q.dec s.b).1 = x at *
  generalize (Q.dec s.b).2 = n at *
  have fin : ∀ (y : Bool) (ad2 : Option Addr) (m2 c2 : Nat) (v : Value), y = (s.ok && decide (0 < n)) → v = .int .u64 (x : Int) → m2 = k - n → (∀ bb off, ad = some ⟨bb, off, none⟩ → 0 < k - n → ad2 = some ⟨bb, off + n, none⟩) → (ad2 = none → k - n = 0 ∧ c2 = 0) → (k - n ≤ c2 ∧ c2 ≤ 9223372036854775807) →
      IQ w p K ⟨s.b.drop n, s.ok && decide (0 < n)⟩ (fun v _ => v = .int .u64 (x : Int)) (.returned v) ((w.setCell ⟨p, 1, none⟩ (.bool y)).setCell ⟨p, 0, none⟩ (.slice ad2 m2 c2)) :=
    fun y ad2 m2 c2 v hy hv hm h1 h3 h4 => by
      subst hy
      exact ⟨_, rfl, num_done HB.out hK hlt hkk _ hm h1 h3 h4, hv⟩
  have HF := hidden fin
  clear fin
  have key : ∀ b : Bool, s.ok = b → Calls Tryz.prog 79 #[.pointer (some ⟨p, 0, none⟩)] w (IQ w p K ⟨s.b.drop n, s.ok && decide (0 < n)⟩ fun v _ => v = .int .u64 (x : Int)) := by
    intro b hb
    rw [hb] at cf
    have h3a : ad = none → k - n = 0 ∧ c - n = 0 := fun e => by have := hnn e; omega
    by_cases hc : c = n
    · subst hc
      cases b
      · go_enter Tryz.func79, Tryz.ntmps79
        go_wp2_with fail
        refine HU.out.mono ?_
        rintro e w1 ⟨rfl, rfl⟩
        go_wp2_with fail
        go_ret
        exact HF.out _ _ _ _ _ (by rw [hb]; rfl) rfl (by omega) (fun bb off _ h => by omega) (fun h => ⟨by omega, rfl⟩) (by omega)
      · go_enter Tryz.func79, Tryz.ntmps79
        go_wp2_with fail
        refine HU.out.mono ?_
        rintro e w1 ⟨rfl, rfl⟩
        go_wp2_with fail
        go_ret
        exact HF.out _ _ _ _ _ (by rw [hb]; simp) rfl (by omega) (fun bb off _ h => by omega) (fun h => ⟨by omega, rfl⟩) (by omega)
    · have h1a : ∀ bb off, ad = some ⟨bb, off, none⟩ → 0 < k - n → Option.map (fun x => x.add n) ad = some ⟨bb, off + n, none⟩ := fun bb off e _ => by subst e; simp [Addr.add]
      have h3b : Option.map (fun x : Addr => x.add n) ad = none → k - n = 0 ∧ c - n = 0 := fun e => h3a (by cases ad with | none => rfl | some x => cases e)
      have H1 := hidden h1a
      have H3 := hidden h3b
      clear h1a h3b h3a hnn
      cases b
      · go_enter Tryz.func79, Tryz.ntmps79
        go_wp2_with fail
        refine HU.out.mono ?_
        rintro e w1 ⟨rfl, rfl⟩
        go_wp2_with fail
        go_ret
        exact HF.out _ _ _ _ _ (by rw [hb]; rfl) rfl rfl H1.out H3.out (by omega)
      · go_enter Tryz.func79, Tryz.ntmps79
        go_wp2_with fail
        refine HU.out.mono ?_
        rintro e w1 ⟨rfl, rfl⟩
        go_wp2_with fail
        go_ret
        exact HF.out _ _ _ _ _ (by rw [hb]; simp) rfl rfl H1.out H3.out (by omega)
  exact key _ rfl
set_option maxRecDepth 8000 in
set_option maxHeartbeats 1000000 in
theorem signedI (p K : Nat) (s : Ri) (w : World) (h : It w p K s) :
    Calls Tryz.prog 73 #[.pointer (some ⟨p, 0, none⟩)] w (IQ w p K s.num fun v _ => v = .int .i64 (Q.unfold' (Q.dec s.b).1)) := by
  obtain ⟨hK, hlt, ad, k, c, hB⟩ := h
  have HU := hidden (Q.refInt_any ad k c s.b w hB.sl (by have := hB.len; omega))
  have hbd := Q.dec_bound s.b hB.sl.byte
  have hlen := hB.sl.len
  have hkl := hB.len
  have c0 := hB.blk.cell 0
  simp at c0
  have cf := hB.blk.cell 1
  simp at cf
  have f1 := hB.blk.frozen 1
  have f0 := hB.blk.frozen 0
  have hkk : (Q.dec s.b).2 ≤ k := by have := hbd.2.2; omega
  have hcp := hB.cap
  have hnn := hB.nn
  have HB := hidden hB
  unfold Ri.num
  clear hB
  generalize Q.unfold' (Q.dec s.b).1 = x at *
  generalize (Q.dec s.b).2 = n at *
  have fin : ∀ (y : Bool) (ad2 : Option Addr) (m2 c2 : Nat) (v : Value), y = (s.ok && decide (0 < n)) → v = .int .i64 x → m2 = k - n → (∀ bb off, ad = some ⟨bb, off, none⟩ → 0 < k - n → ad2 = some ⟨bb, off + n, none⟩) → (ad2 = none → k - n = 0 ∧ c2 = 0) → (k - n ≤ c2 ∧ c2 ≤ 9223372036854775807) →
      IQ w p K ⟨s.b.drop n, s.ok && decide (0 < n)⟩ (fun v _ => v = .int .i64 x) (.returned v) ((w.setCell ⟨p, 1, none⟩ (.bool y)).setCell ⟨p, 0, none⟩ (.slice ad2 m2 c2)) :=
    fun y ad2 m2 c2 v hy hv hm h1 h3 h4 => by
      subst hy
      exact ⟨_, rfl, num_done HB.out hK hlt hkk _ hm h1 h3 h4, hv⟩
  have HF := hidden fin
  clear fin
  have key : ∀ b : Bool, s.ok = b → Calls Tryz.prog 73 #[.pointer (some ⟨p, 0, none⟩)] w (IQ w p K ⟨s.b.drop n, s.ok && decide (0 < n)⟩ fun v _ => v = .int .i64 x) := by
    intro b hb
    rw [hb] at cf
    have h3a : ad = none → k - n = 0 ∧ c - n = 0 := fun e => by have := hnn e; omega
    by_cases hc : c = n
    · subst hc
      cases b
      · go_enter Tryz.func73, Tryz.ntmps73
        go_wp2_with fail
        refine HU.out.mono ?_
        rintro e w1 ⟨rfl, rfl⟩
        go_wp2_with fail
        go_ret
        exact HF.out _ _ _ _ _ (by rw [hb]; rfl) rfl (by omega) (fun bb off _ h => by omega) (fun h => ⟨by omega, rfl⟩) (by omega)
      · go_enter Tryz.func73, Tryz.ntmps73
        go_wp2_with fail
        refine HU.out.mono ?_
        rintro e w1 ⟨rfl, rfl⟩
        go_wp2_with fail
        go_ret
        exact HF.out _ _ _ _ _ (by rw [hb]; simp) rfl (by omega) (fun bb off _ h => by omega) (fun h => ⟨by omega, rfl⟩) (by omega)
    · have h1a : ∀ bb off, ad = some ⟨bb, off, none⟩ → 0 < k - n → Option.map (fun x => x.add n) ad = some ⟨bb, off + n, none⟩ := fun bb off e _ => by subst e; simp [Addr.add]
      have h3b : Option.map (fun x : Addr => x.add n) ad = none → k - n = 0 ∧ c - n = 0 := fun e => h3a (by cases ad with | none => rfl | some x => cases e)
      have H1 := hidden h1a
      have H3 := hidden h3b
      clear h1a h3b h3a hnn
      cases b
      · go_enter Tryz.func73, Tryz.ntmps73
        go_wp2_with fail
        refine HU.out.mono ?_
        rintro e w1 ⟨rfl, rfl⟩
        go_wp2_with fail
        go_ret
        exact HF.out _ _ _ _ _ (by rw [hb]; rfl) rfl rfl H1.out H3.out (by omega)
      · go_enter Tryz.func73, Tryz.ntmps73
        go_wp2_with fail
        refine HU.out.mono ?_
        rintro e w1 ⟨rfl, rfl⟩
        go_wp2_with fail
        go_ret
        exact HF.out _ _ _ _ _ (by rw [hb]; simp) rfl rfl H1.out H3.out (by omega)
  exact key _ rfl
end Go.Proofs.YtalmpmhnkilalaaGreatDoor

/-
  The document's reader in memory: count, one.
-/
namespace Go.Proofs.YtalmpmhnkilalaaGreatDoor
open Go.RowKit
set_option linter.unusedVariables false

theorem It.setOk {w : World} {p K : Nat} {s : Ri} (h : It w p K s) (x : Bool) : It (w.setCell ⟨p, 1, none⟩ (.bool x)) p K ⟨s.b, x⟩ := by
  obtain ⟨hK, hlt, ad, n, c, h⟩ := h
  exact ⟨hK, by simpa [World.setCell] using hlt, ad, n, c, h.setOk hK x⟩
theorem It.frozen {w : World} {p K : Nat} {s : Ri} (h : It w p K s) (i : Nat) : w.frozen? ⟨p, i, none⟩ = false := by
  obtain ⟨hK, hlt, ad, n, c, h⟩ := h
  exact h.blk.frozen i
theorem chg_ok (p : Nat) (w : World) (x : Value) (i : Nat) : Chg (fpr p) w (w.setCell ⟨p, i, none⟩ x) := (Chg.set ⟨p, i, none⟩ _ w).mono (G := fpr p) (fun i _ hi => hi)
def Ri.cnt (most : Nat) (s : Ri) : Ri := ⟨s.num.b, s.num.ok && decide ((Q.dec s.b).1 ≤ most)⟩
set_option maxRecDepth 8000 in
set_option maxHeartbeats 1000000 in
theorem countI (p K : Nat) (s : Ri) (most : Nat) (w : World) (h : It w p K s) (hm : most ≤ 9223372036854775807) :
    Calls Tryz.prog 48 #[.pointer (some ⟨p, 0, none⟩), .int .i64 (most : Int)] w (IQ w p K (s.cnt most) fun v _ => v = .int .i64 (if (s.cnt most).ok then ((Q.dec s.b).1 : Int) else 0)) := by
  have HN := hidden (numberI p K s w h)
  have hbd := Q.dec_bound s.b h.byte.1
  unfold Ri.cnt
  clear h
  generalize (Q.dec s.b).1 = x at *
  generalize s.num = t at *
  obtain ⟨tb, tok⟩ := t
  cases tok with
  | false =>
    go_enter Tryz.func48, Tryz.ntmps48
    go_wp2_with fail
    refine HN.out.mono ?_
    rintro e w1 ⟨v, rfl, hQ, rfl⟩
    have cf := hQ.it.flag
    simp at cf
    have f1 := hQ.it.frozen 1
    have g1 := (hQ.it.setOk false).flag
    simp at g1
    have HQ := hidden hQ
    clear hQ
    go_wp2_with fail
    go_ret
    exact ⟨_, rfl, ⟨HQ.out.it.setOk false, HQ.out.chg.trans (chg_ok p _ _ 1) (fun i _ hi => hi)⟩, rfl⟩
  | true =>
    by_cases hx : x ≤ most
    · have hx' : (x : Int) ≤ (most : Int) := by omega
      rw [decide_eq_true hx]
      go_enter Tryz.func48, Tryz.ntmps48
      go_wp2_with fail
      refine HN.out.mono ?_
      rintro e w1 ⟨v, rfl, hQ, rfl⟩
      have cf := hQ.it.flag
      simp at cf
      have f1 := hQ.it.frozen 1
      have g1 := (hQ.it.setOk true).flag
      simp at g1
      have HQ := hidden hQ
      clear hQ
      go_wp2_with fail
      go_ret
      exact ⟨_, rfl, ⟨HQ.out.it.setOk true, HQ.out.chg.trans (chg_ok p _ _ 1) (fun i _ hi => hi)⟩, rfl⟩
    · have hx' : ¬ (x : Int) ≤ (most : Int) := by omega
      have hdn : decide ((x : Int) ≤ (most : Int)) = false := decide_eq_false hx'
      have hdm : decide (x ≤ most) = false := decide_eq_false hx
      rw [hdm]
      go_enter Tryz.func48, Tryz.ntmps48
      go_wp2_with fail
      refine HN.out.mono ?_
      rintro e w1 ⟨v, rfl, hQ, rfl⟩
      have cf := hQ.it.flag
      simp at cf
      have f1 := hQ.it.frozen 1
      have g1 := (hQ.it.setOk false).flag
      simp at g1
      have HQ := hidden hQ
      clear hQ
      go_wp2_with fail
      go_ret
      exact ⟨_, rfl, ⟨HQ.out.it.setOk false, HQ.out.chg.trans (chg_ok p _ _ 1) (fun i _ hi => hi)⟩, rfl⟩
def Ri.one : Ri → Int × Ri
  | ⟨c :: t, true⟩ => (c, ⟨t, true⟩)
  | s => (0, ⟨s.b, false⟩)
theorem one_no (b : List Int) : Ri.one ⟨b, false⟩ = (0, ⟨b, false⟩) := by cases b <;> rfl
set_option maxRecDepth 8000 in
set_option maxHeartbeats 1000000 in
theorem oneI (p K : Nat) (s : Ri) (w : World) (h : It w p K s) :
    Calls Tryz.prog 36 #[.pointer (some ⟨p, 0, none⟩)] w (IQ w p K s.one.2 fun v _ => v = .int .i64 s.one.1) := by
  have HI := hidden h
  obtain ⟨hK, hlt, ad, k, c, hB⟩ := h
  have c0 := hB.blk.cell 0
  simp at c0
  have cf := hB.blk.cell 1
  simp at cf
  have f1 := hB.blk.frozen 1
  have f0 := hB.blk.frozen 0
  have hkl := hB.len
  have hcp := hB.cap
  have hlen := hB.sl.len
  have hby := hB.sl.byte
  have HB := hidden hB
  obtain ⟨b, ok⟩ := s
  have g1 := fun x => (HI.out.setOk x).flag
  simp at g1
  cases ok with
  | false =>
    rw [one_no]
    have g1 := g1.1
    clear hB
    go_enter Tryz.func36, Tryz.ntmps36
    go_wp2_with fail
    go_ret
    exact ⟨_, rfl, ⟨HI.out.setOk false, chg_ok p _ _ 1⟩, rfl⟩
  | true =>
    cases b with
    | nil =>
      simp at hlen
      subst hlen
      have g1 := g1.1
      clear hB
      go_enter Tryz.func36, Tryz.ntmps36
      go_wp2_with fail
      go_ret
      exact ⟨_, rfl, ⟨HI.out.setOk false, chg_ok p _ _ 1⟩, rfl⟩
    | cons a t =>
      simp at hlen
      have hk1 : (k : Int) > 0 := by omega
      have hk0 : 0 < k := by omega
      have ha := hby a (by simp)
      obtain ⟨bb, off, rfl, _, hcell⟩ := hB.sl.at hk0
      have k0 := hcell 0 hk0
      simp at k0
      have hne : ¬ bb = p := fun e => hK ((hB.at' _ rfl hk0).1.symm.trans e)
      have g1 := g1.2
      clear hB hcell
      have fin : ∀ (ad2 : Option Addr) (m2 c2 : Nat) (v : Value), v = .int .i64 a → m2 = k - 1 → (∀ bb' off', some (⟨bb, off, none⟩ : Addr) = some ⟨bb', off', none⟩ → 0 < k - 1 → ad2 = some ⟨bb', off' + 1, none⟩) → (ad2 = none → k - 1 = 0 ∧ c2 = 0) → (k - 1 ≤ c2 ∧ c2 ≤ 9223372036854775807) →
          IQ w p K ⟨t, true⟩ (fun v _ => v = .int .i64 a) (.returned v) ((w.setCell ⟨p, 1, none⟩ (.bool true)).setCell ⟨p, 0, none⟩ (.slice ad2 m2 c2)) :=
        fun ad2 m2 c2 v hv hm h1 h3 h4 => ⟨_, rfl, num_done (n := 1) HB.out hK hlt hk0 true hm h1 h3 h4, hv⟩
      have HF := hidden fin
      clear fin
      show Calls _ _ _ _ (IQ w p K ⟨t, true⟩ fun v _ => v = .int .i64 a)
      by_cases hc : c = 1
      · subst hc
        obtain rfl : k = 1 := by omega
        go_enter Tryz.func36, Tryz.ntmps36
        go_wp2_with fail
        go_ret
        exact HF.out _ _ _ _ rfl (by omega) (fun _ _ _ h => by omega) (fun h => by cases h) (by omega)
      · go_enter Tryz.func36, Tryz.ntmps36
        go_wp2_with fail
        go_ret
        exact HF.out _ _ _ _ rfl (by omega) (fun _ _ e _ => by cases e; rfl) (fun h => by cases h) (by omega)
end Go.Proofs.YtalmpmhnkilalaaGreatDoor

/-
  The document's reader in memory: text.
-/
namespace Go.Proofs.YtalmpmhnkilalaaGreatDoor
open Go.RowKit
set_option linter.unusedVariables false

/-- How many bytes a text takes, and which. -/
def txN (b : List Int) (most : Nat) : Nat := if Q.badB b most then 0 else (Q.dec b).2 + (Q.dec b).1
def txL (b : List Int) (most : Nat) : List Int := if Q.badB b most then [] else (b.drop (Q.dec b).2).take (Q.dec b).1
def Ri.txt (most : Nat) (s : Ri) : Ri := ⟨s.b.drop (txN s.b most), s.ok && decide (0 < txN s.b most)⟩
theorem txN_le {b : List Int} (hb : Byte b) (most : Nat) : txN b most ≤ b.length := by
  have hd := Q.dec_bound b hb
  unfold txN
  split
  · omega
  · rename_i h
    simp [Q.badB] at h
    omega
theorem bytesI {w : World} {ad : Option Addr} {k c : Nat} {b : List Int} (p most : Nat) (hs : Sl w ad k b) (hcp : k ≤ c ∧ c ≤ 9223372036854775807) (hk : k ≤ 1048576) (hm : most ≤ 9223372036854775807) (hp : p < w.heap.size) :
    Calls Tryz.prog 70 #[.slice ad k c, .int .i64 (most : Int)] w fun e w1 => ∃ ad' m' c', e = .returned (.tuple #[.slice ad' m' c', .int .i64 (txN b most : Nat)]) ∧ Sl w1 ad' m' (txL b most) ∧ (∀ x, ad' = some x → 0 < m' → ¬ fpr p x.block) ∧ Below w.heap.size w w1 := by
  unfold txN txL
  cases hb : Q.badB b most with
  | true =>
    refine (Q.refBytes_bad ad k c most b w hs (by omega) (by omega) (by omega) hb).mono ?_
    rintro e w1 ⟨rfl, rfl⟩
    exact ⟨none, 0, 0, rfl, Sl.nil _ _, fun x hx => (by cases hx), Below.refl _ _⟩
  | false =>
    refine (Q.refBytes_good ad k c most b w hs hcp.1 hcp.2 (by omega) (by omega) (by omega) hb).mono ?_
    rintro e w1 ⟨ad', c', rfl, ho, hB⟩
    refine ⟨ad', _, c', rfl, sl_of_owns ho ((hs.byte.drop _).take _), fun x hx h0 e => ?_, hB⟩
    rcases ho.2 with ⟨h1, h2⟩ | ⟨g, cc, cur, h1, h2, _⟩
    · omega
    · rw [hx] at h1
      injection h1 with h1 _ _
      injection h1 with h1
      subst h1
      have e : g = p := e
      omega
set_option maxRecDepth 8000 in
set_option maxHeartbeats 1000000 in
theorem textI (p K : Nat) (s : Ri) (most : Nat) (w : World) (h : It w p K s) (hm : most ≤ 9223372036854775807) :
    Calls Tryz.prog 37 #[.pointer (some ⟨p, 0, none⟩), .int .i64 (most : Int)] w (IQ w p K (s.txt most) fun v _ => v = .string (strOfNums (txL s.b most))) := by
  have hpl := h.lt
  obtain ⟨hK, hlt, ad, k, c, hB⟩ := h
  have HU := hidden (bytesI p most hB.sl hB.cap hB.len hm hpl)
  have hlen := hB.sl.len
  have hkl := hB.len
  have c0 := hB.blk.cell 0
  simp at c0
  have hkk : txN s.b most ≤ k := by have := txN_le hB.sl.byte most; omega
  have hcp := hB.cap
  have hnn := hB.nn
  have HB := hidden hB
  unfold Ri.txt
  clear hB
  generalize txL s.b most = l at *
  generalize txN s.b most = n at *
  have fin : ∀ (w1 : World) (y : Bool) (ad2 : Option Addr) (m2 c2 : Nat) (v : Value), Below w.heap.size w w1 → y = (s.ok && decide (0 < n)) → v = .string (strOfNums l) → m2 = k - n → (∀ bb off, ad = some ⟨bb, off, none⟩ → 0 < k - n → ad2 = some ⟨bb, off + n, none⟩) → (ad2 = none → k - n = 0 ∧ c2 = 0) → (k - n ≤ c2 ∧ c2 ≤ 9223372036854775807) →
      IQ w p K ⟨s.b.drop n, s.ok && decide (0 < n)⟩ (fun v _ => v = .string (strOfNums l)) (.returned v) ((w1.setCell ⟨p, 1, none⟩ (.bool y)).setCell ⟨p, 0, none⟩ (.slice ad2 m2 c2)) :=
    fun w1 y ad2 m2 c2 v hb hy hv hm h1 h3 h4 => by
      subst hy
      have hc := Chg.of_below (F := fun _ => False) hb
      have q := num_done (HB.out.chg hc (fun e => e) (fun e => e)) hK (Nat.lt_of_lt_of_le hlt hc.size) hkk (s.ok && decide (0 < n)) hm h1 h3 h4
      exact ⟨_, rfl, ⟨q.it, (Chg.of_below hb).trans q.chg (fun i _ hi => hi)⟩, hv⟩
  have HF := hidden fin
  clear fin
  have key : ∀ b : Bool, s.ok = b → Calls Tryz.prog 37 #[.pointer (some ⟨p, 0, none⟩), .int .i64 (most : Int)] w (IQ w p K ⟨s.b.drop n, s.ok && decide (0 < n)⟩ fun v _ => v = .string (strOfNums l)) := by
    intro b hb
    have h3a : ad = none → k - n = 0 ∧ c - n = 0 := fun e => by have := hnn e; omega
    go_enter Tryz.func37, Tryz.ntmps37
    go_wp2_with fail
    refine HU.out.mono ?_
    rintro e w1 ⟨ad', m', c', rfl, hs1, hno, hbe⟩
    have hB1 := HB.out.chg (Chg.of_below (F := fun _ => False) hbe) (fun e => e) (fun e => e)
    have hcv := fun (x y : Value) => run_string_of (P := Tryz.prog) 22 5 9 Tryz.underlying22 Tryz.underlying5 Tryz.underlying9 (cap := c') (((chg_ok p w1 x 1).trans (chg_ok p _ y 0) (fun i _ hi => hi)).sl hs1 hno)
    have d0 := hB1.blk.cell 0
    simp at d0
    have df := hB1.blk.cell 1
    simp at df
    rw [hb] at df
    have f1 := hB1.blk.frozen 1
    have f0 := hB1.blk.frozen 0
    have HBE := hidden hbe
    clear hB1 hs1 hno hbe c0
    by_cases hc : c = n
    · subst hc
      cases b
      · go_wp2_with fail
        go_ret
        exact HF.out _ _ _ _ _ _ HBE.out (by rw [hb]; rfl) rfl (by omega) (fun bb off _ h => by omega) (fun h => ⟨by omega, rfl⟩) (by omega)
      · go_wp2_with fail
        go_ret
        exact HF.out _ _ _ _ _ _ HBE.out (by rw [hb]; simp) rfl (by omega) (fun bb off _ h => by omega) (fun h => ⟨by omega, rfl⟩) (by omega)
    · have h1a : ∀ bb off, ad = some ⟨bb, off, none⟩ → 0 < k - n → Option.map (fun x => x.add n) ad = some ⟨bb, off + n, none⟩ := fun bb off e _ => by subst e; simp [Addr.add]
      have h3b : Option.map (fun x : Addr => x.add n) ad = none → k - n = 0 ∧ c - n = 0 := fun e => h3a (by cases ad with | none => rfl | some x => cases e)
      have H1 := hidden h1a
      have H3 := hidden h3b
      clear h1a h3b h3a hnn
      cases b
      · go_wp2_with fail
        go_ret
        exact HF.out _ _ _ _ _ _ HBE.out (by rw [hb]; rfl) rfl rfl H1.out H3.out (by omega)
      · go_wp2_with fail
        go_ret
        exact HF.out _ _ _ _ _ _ HBE.out (by rw [hb]; simp) rfl rfl H1.out H3.out (by omega)
  exact key _ rfl
end Go.Proofs.YtalmpmhnkilalaaGreatDoor

/-
  The document's reader in memory: labels.
-/
namespace Go.Proofs.YtalmpmhnkilalaaGreatDoor
open Go.RowKit
set_option linter.unusedVariables false

/-- A list's rounds, purely: n elements are told, each is read while all is well. -/
def Ri.rep {α : Type} (val : Ri → α) (next : Ri → Ri) : Nat → Ri → List α → List α × Ri
  | 0, s, acc => (acc, s)
  | n + 1, s, acc => if s.ok then Ri.rep val next n (next s) (acc ++ [val s]) else (acc, s)
theorem Ri.rep_no {α : Type} {val : Ri → α} {next : Ri → Ri} (n : Nat) {s : Ri} (h : s.ok = false) (acc : List α) : Ri.rep val next n s acc = (acc, s) := by
  cases n with
  | zero => rfl
  | succ n => rw [Ri.rep, h]; rfl
theorem Ri.rep_yes {α : Type} {val : Ri → α} {next : Ri → Ri} (n : Nat) {s : Ri} (h : s.ok = true) (acc : List α) : Ri.rep val next (n + 1) s acc = Ri.rep val next n (next s) (acc ++ [val s]) := by
  rw [Ri.rep, if_pos h]
/-- How many elements are told. -/
def Ri.many (most : Nat) (s : Ri) : Nat := if (s.cnt most).ok then (Q.dec s.b).1 else 0
theorem many_le (most : Nat) (s : Ri) : s.many most ≤ most := by
  unfold Ri.many Ri.cnt
  split
  · rename_i h
    simp at h
    exact h.2
  · omega
def Ri.lab (s : Ri) : La := ⟨strOfNums (txL s.b 64), strOfNums (txL (s.txt 64).b 64)⟩
def Ri.labN (s : Ri) : Ri := (s.txt 64).txt 64
def Ri.labs (s : Ri) : List La × Ri := Ri.rep Ri.lab Ri.labN (s.many 16) (s.cnt 16) []
set_option maxRecDepth 8000 in
set_option maxHeartbeats 4000000 in
theorem labelsI (p K : Nat) (s : Ri) (w : World) (h : It w p K s) :
    Calls Tryz.prog 80 #[.pointer (some ⟨p, 0, none⟩)] w (IQ w p K s.labs.2 fun v w' => ∃ ad c, v = .slice ad s.labs.1.length c ∧ w'.ownsRow w.heap.size 47 2 v s.labs.1.length (s.labs.1.flatMap La.cells)) := by
  obtain ⟨i0, z0, hi0, hz0, hz1, hz2, hz3⟩ := info_z infoL
  have HN := hidden (countI p K s 16 w h (by omega))
  have hNm := many_le 16 s
  have hN : (if (s.cnt 16).ok then ((Q.dec s.b).1 : Int) else 0) = (s.many 16 : Nat) := by unfold Ri.many; split <;> rfl
  rw [hN] at HN
  clear hN
  have hpw := h.lt
  have hkw := h.klt
  clear h
  obtain ⟨R, hR⟩ : ∃ R, R = s.labs := ⟨_, rfl⟩
  rw [← hR]
  unfold Ri.labs at hR
  generalize s.many 16 = N at *
  generalize s.cnt 16 = s0 at *
  have HRR := hidden hR
  clear hR
  go_enter Tryz.func80, Tryz.ntmps80
  go_wp2_with fail
  refine HN.out.mono ?_
  rintro e w1 ⟨v, rfl, hQ, rfl⟩
  have H1 : Hid (∃ (xs : List La) (t : Ri) (ad : Option Addr) (c : Nat), xs.length + N = N ∧ Value.slice none 0 0 = .slice ad xs.length c ∧ w1.ownsRow w.heap.size 47 2 (.slice none 0 0) xs.length (xs.flatMap La.cells) ∧ It w1 p K t ∧ Chg (fpr p) w w1 ∧ R = Ri.rep Ri.lab Ri.labN N t xs) :=
    hidden ⟨[], s0, none, 0, by simp, rfl, World.ownsRow_nil _ _ _ _, hQ.it, hQ.chg, HRR.out⟩
  clear hQ
  go_wp2_with fail
  go_loopw [3, 4, 5, 6] (fun v3 v4 _ _ wx => ∃ n : Nat, v4 = .int .i64 (n : Int) ∧ n ≤ N ∧ Hid (∃ (xs : List La) (t : Ri) (ad : Option Addr) (c : Nat), xs.length + n = N ∧ v3 = .slice ad xs.length c ∧ wx.ownsRow w.heap.size 47 2 v3 xs.length (xs.flatMap La.cells) ∧ It wx p K t ∧ Chg (fpr p) w wx ∧ R = Ri.rep Ri.lab Ri.labN n t xs)) (fun _ v4 _ _ _ => (intOf v4).toNat)
  case atStart => exact ⟨N, rfl, by omega, H1⟩
  case round =>
    obtain ⟨n, rfl, hn, hI⟩ := hrel
    obtain ⟨xs, t, ad, c, hxn, hv3, hown, hIt, hC, hT⟩ := hI.out
    subst hv3
    have cf := hIt.flag
    have HOW := hidden hown
    have HIT := hidden hIt
    have HCC := hidden hC
    have HT := hidden hT
    clear hI H1 hown hIt hC hT
    cases n with
    | zero =>
      go_wp2_with fail
      go_ret
      have e : R = (xs, t) := HT.out
      rw [e]
      exact ⟨_, rfl, ⟨HIT.out, HCC.out⟩, ad, c, rfl, HOW.out⟩
    | succ n =>
      have hn0 : ((n + 1 : Nat) : Int) > 0 := by omega
      obtain ⟨y, hy⟩ : ∃ y, t.ok = y := ⟨_, rfl⟩
      rw [hy] at cf
      cases y with
      | false =>
        go_wp2_with fail
        go_ret
        have e : R = (xs, t) := HT.out.trans (Ri.rep_no _ hy _)
        rw [e]
        exact ⟨_, rfl, ⟨HIT.out, HCC.out⟩, ad, c, rfl, HOW.out⟩
      | true =>
        have HT2 := hidden (HT.out.trans (Ri.rep_yes _ hy _))
        clear HT hy
        go_wp2_with fail
        refine (textI p K t 64 _ HIT.out (by omega)).mono ?_
        rintro e w2 ⟨v, rfl, hQ, rfl⟩
        have HQ := hidden hQ
        clear hQ cf
        go_wp2_with fail
        refine (textI p K (t.txt 64) 64 _ HQ.out.it (by omega)).mono ?_
        rintro e w3 ⟨v, rfl, hQ3, rfl⟩
        have hC3 := HQ.out.chg.trans hQ3.chg (fun i _ hi => hi)
        have HR3 := hidden hQ3.it
        have HC3 := hidden (HCC.out.trans hC3 (fun i _ hi => hi))
        have HOW2 := hidden (hC3.owns HOW.out (fun g hg e => by have h1 := (HOW.out.lt g hg).1; unfold fpr at e; omega))
        clear hQ3 hC3
        have HX : Hid (Ri.lab t = ⟨strOfNums (txL t.b 64), strOfNums (txL (t.txt 64).b 64)⟩) := hidden rfl
        generalize strOfNums (txL t.b 64) = a1 at *
        generalize strOfNums (txL (t.txt 64).b 64) = a2 at *
        have hs3 := HC3.out.size
        go_wp2_with (first
          | (at_builtin; refine wpList_pushN _ rfl _ _ 42 rfl 47 i0 z0 2 32 Tryz.underlying42 hi0 hz0 hz1 hz2 hz3 (by decide) w.heap.size (.slice ad xs.length c) xs.length (xs.flatMap La.cells) rfl (by exact (HOW2.out.alloc _)) ⟨w3.heap.size, 0, none⟩ [.string a1, .string a2] rfl rfl (by intro j u hu; have h9 := (Blk.new w3 47 [.string a1, .string a2]).cell (0 + j); rw [Addr.add_lit, h9, Nat.zero_add]; exact hu) (by intro u hu; simp at hu; rcases hu with rfl | rfl <;> rfl) (by unfold maxLen; omega) (by omega) (by simp; omega) ?_; intro g' c' w' ho' hp'; have HO' := hidden ho'; have HP' := hidden hp'; clear ho' hp'))
        have hI2 : Hid (∃ (xs2 : List La) (t2 : Ri) (ad : Option Addr) (c : Nat), xs2.length + n = N ∧ Value.slice (some ⟨g', 0, none⟩) (xs.length + 1) c' = .slice ad xs2.length c ∧ w'.ownsRow w.heap.size 47 2 (.slice (some ⟨g', 0, none⟩) (xs.length + 1) c') xs2.length (xs2.flatMap La.cells) ∧ It w' p K t2 ∧ Chg (fpr p) w w' ∧ R = Ri.rep Ri.lab Ri.labN n t2 xs2) := by
          have hw2 : Chg (fun i_1 => Value.ownBlock (.slice ad xs.length c) = some i_1) w3 w' := HP'.out.chg.1
          have hfp : ∀ j, Value.ownBlock (.slice ad xs.length c) = some j → w.heap.size ≤ j := fun j hj => (HOW2.out.lt j hj).1
          refine hidden ⟨xs ++ [Ri.lab t], t.labN, _, _, by rw [List.length_append]; simp; omega, by rw [List.length_append]; rfl, ?_, HR3.out.chg hw2 (fun e => by have := hfp p e; omega) (fun e => by have := hfp K e; omega), HC3.out.trans hw2 (fun j hj e => absurd (hfp j e) (by omega)), HT2.out⟩
          rw [List.length_append, List.flatMap_append, HX.out]
          simpa [La.cells] using HO'.out
        clear HO' HP'
        go_wp2_with fail
        refine ⟨⟨n, by first | rfl | simp, by omega, hI2⟩, ?_⟩
        simp [intOf]
end Go.Proofs.YtalmpmhnkilalaaGreatDoor
