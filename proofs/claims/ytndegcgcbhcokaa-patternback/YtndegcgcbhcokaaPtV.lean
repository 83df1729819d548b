/-
  The reader: group.
-/
import Derived.Test.YtndegcgcbhcokaaPtT
namespace Go.Proofs.Ytndegcgcbhcokaa
open Go.RowKit
set_option linter.unusedVariables false
set_option linter.unusedSimpArgs false

/-- What rows answers. -/
def RowsR (r : Nat) (s : ByteArray) (d : Nat) (w : World) (R : Pr (List (List Pt))) (e : Ending) (w' : World) : Prop :=
  ∃ ad n c b ok, e = .returned (.tuple #[.slice ad n c, .bool ok]) ∧ Rd w' r s b d ∧ Chg (fun i => i = r) w w' ∧ b ≤ (bts s).length ∧ ((ok = true ∧ ∃ l g off, l.length = n ∧ R = .ok l b ∧ (l ≠ [] → ad = some ⟨g, off, none⟩ ∧ FW w w' g) ∧ RowsV (FW w w') w' l g off) ∨ (ok = false ∧ R = .bad b))
def RowsC (f : Nat) : Prop := ∀ (r : Nat) (s : ByteArray) (a d : Nat) (w : World), Rd w r s a d → a ≤ s.size → s.size ≤ 64 → d ≤ 16 → rowsF (bts s) f d a ≠ .out → Calls Try.prog 12 #[.pointer (some ⟨r, 0, none⟩)] w (RowsR r s d w (rowsF (bts s) f d a))
def grpF (S : List UInt8) (f d a : Nat) : Pr Pt :=
  match rowsF S f (d + 1) a with
  | .ok l b => if S[b]? = some 41 then .ok (.grp l) (b + 1) else .bad b
  | .bad k => .bad k
  | .out => .out
theorem Rd.deep {w : World} {r : Nat} {s : ByteArray} {a d : Nat} (h : Rd w r s a d) (x : Nat) (y : Int) (hy : y = (x : Int)) : Rd (w.setCell ⟨r, 2, none⟩ (.int .i64 y)) r s a x := by
  subst hy
  exact Blk.set h 2 _

set_option maxRecDepth 100000 in
set_option maxHeartbeats 8000000 in
theorem group_of_rows (f : Nat) (hR : RowsC f) (r : Nat) (s : ByteArray) (a d : Nat) (w : World) (h : Rd w r s a d) (ha : a ≤ s.size) (hs : s.size ≤ 64) (hd : d < 16) (hno : grpF (bts s) f d a ≠ .out) :
    Calls Try.prog 43 #[.pointer (some ⟨r, 0, none⟩)] w (PartR r s d w (grpF (bts s) f d a)) := by
  have hs2 : s.size ≤ 140737488355328 := by omega
  have hrw : r < w.heap.size := Blk.lt h
  have c2 : w.cell? ⟨r, 2, none⟩ = some (.int .i64 (d : Int)) := h.cell 2
  have f2 := h.frozen 2
  have h1 := h.deep (d + 1) ((d : Int) + 1) (by omega)
  have HC1 : Hid (Chg (fun i => i = r) w (w.setCell ⟨r, 2, none⟩ (.int .i64 ((d : Int) + 1)))) := hidden (Chg.set ⟨r, 2, none⟩ _ _)
  have k1 := hR r s a (d + 1) _ h1 ha hs (by omega) (fun e => hno (by rw [grpF, e]))
  have hsz : (w.setCell ⟨r, 2, none⟩ (.int .i64 ((d : Int) + 1))).heap.size = w.heap.size := by simp
  obtain ⟨G, hG⟩ : ∃ G, grpF (bts s) f d a = G := ⟨_, rfl⟩
  have HG := hidden hG
  rw [hG]
  have HSZ := hidden hsz
  clear hno h h1 hR hG hsz
  go_enter Try.func43, Try.ntmps43
  go_upto_region 3 with (go_at_call 12; refine k1.mono ?_; rintro e w1 ⟨ad, n, c, b, ok, rfl, hrd, hch, hbl, hres⟩; clear k1)
  have hbs : b ≤ s.size := by rw [size_bts]; exact hbl
  have e2 : w1.cell? ⟨r, 2, none⟩ = some (.int .i64 ((d : Int) + 1)) := by have := hrd.cell 2; simpa using this
  have g2 := hrd.frozen 2
  have H3 : Hid (∀ y : Int, y = (d : Int) → Rd (w1.setCell ⟨r, 2, none⟩ (.int .i64 y)) r s b d) := hidden (fun y hy => hrd.deep d y hy)
  have HC3 : Hid (∀ y : Int, Chg (fun i => i = r) w1 (w1.setCell ⟨r, 2, none⟩ (.int .i64 y))) := hidden (fun y => Chg.set ⟨r, 2, none⟩ _ _)
  have HCH := hidden (HC1.out.trans hch (fun _ _ e => e))
  have hdz : (d : Int) + 1 - 1 = (d : Int) := by omega
  rcases hres with ⟨rfl, l, g, off, hln, hro, hlg, hrv⟩ | ⟨rfl, hro⟩
  · have HRO := hidden hro
    have HLN := hidden hln
    have HLG := hidden hlg
    have HRV := hidden hrv
    have kT := takeP r s b d 41 (w1.setCell ⟨r, 2, none⟩ (.int .i64 (d : Int))) (H3.out _ rfl) hbs hs2
    clear hrd hch hro hln hlg hrv
    by_cases h41 : (bts s)[b]? = some 41
    · rw [decide_eq_true h41, tkN, if_pos h41] at kT
      have kT' : Calls Try.prog 18 #[.pointer (some ⟨r, 0, none⟩), .int .u8 41] (w1.setCell ⟨r, 2, none⟩ (.int .i64 (d : Int))) fun e w' => e = .returned (.bool true) ∧ Rd w' r s (b + 1) d ∧ Chg (fun i => i = r) (w1.setCell ⟨r, 2, none⟩ (.int .i64 (d : Int))) w' := kT
      have HE : Hid (G = .ok (.grp l) (b + 1)) := hidden (by rw [← HG.out, grpF, HRO.out]; simp only; rw [if_pos h41])
      have HB1 : Hid (b + 1 ≤ (bts s).length) := hidden (List.getElem?_eq_some_iff.1 h41).1
      clear h41 kT
      go_wp2_with (go_at_call 18; refine kT'.mono ?_; rintro e w3 ⟨rfl, h3, hc3⟩; clear kT')
      go_ret2
      have hcc := (HC3.out (d : Int)).trans hc3 (fun _ _ e => e)
      have hV : PtV (FW w w3) w3 (.grp l) (.iface 74 (.agg #[.slice ad n c])) := by
        have hF : ∀ b', FW (w.setCell ⟨r, 2, none⟩ (.int .i64 ((d : Int) + 1))) w1 b' → FW w w3 b' := fun b' hb' => ⟨by have := hb'.1; rw [HSZ.out] at this; exact this, Nat.lt_of_lt_of_le hb'.2 hcc.size⟩
        simp only [PtV]
        refine ⟨ad, c, g, off, by rw [HLN.out], fun h0 => ⟨(HLG.out h0).1, hF _ (HLG.out h0).2⟩, RowsV.mono hF l g off (RowsV.keep hcc (fun b' hb' e => ?_) l g off (fun h0 => (HLG.out h0).2) HRV.out)⟩
        have := hb'.1
        rw [HSZ.out] at this
        have e' : b' = r := e
        omega
      exact ⟨_, b + 1, true, rfl, h3, HCH.out.trans hcc (fun _ _ e => e), HB1.out, Or.inl ⟨rfl, _, HE.out, hV⟩⟩
    · rw [decide_eq_false h41, tkN, if_neg h41] at kT
      have kT' : Calls Try.prog 18 #[.pointer (some ⟨r, 0, none⟩), .int .u8 41] (w1.setCell ⟨r, 2, none⟩ (.int .i64 (d : Int))) fun e w' => e = .returned (.bool false) ∧ Rd w' r s b d ∧ Chg (fun i => i = r) (w1.setCell ⟨r, 2, none⟩ (.int .i64 (d : Int))) w' := kT
      have HE : Hid (G = .bad b) := hidden (by rw [← HG.out, grpF, HRO.out]; simp only; rw [if_neg h41])
      clear h41 kT
      go_wp2_with (go_at_call 18; refine kT'.mono ?_; rintro e w3 ⟨rfl, h3, hc3⟩; clear kT')
      go_ret2
      exact ⟨_, b, false, rfl, h3, HCH.out.trans ((HC3.out (d : Int)).trans hc3 (fun _ _ e => e)) (fun _ _ e => e), hbl, Or.inr ⟨rfl, HE.out⟩⟩
  · have HE : Hid (G = .bad b) := hidden (by rw [← HG.out, grpF, hro])
    clear hrd hch hro
    go_wp2
    go_ret2
    exact ⟨_, b, false, rfl, H3.out _ (by omega), HCH.out.trans (HC3.out _) (fun _ _ e => e), hbl, Or.inr ⟨rfl, HE.out⟩⟩

end Go.Proofs.Ytndegcgcbhcokaa
