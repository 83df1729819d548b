/-
  The reader: span.
-/
import Derived.Test.YtanlgplgplncdaaDoorPtC
namespace Go.Proofs.YtanlgplgplncdaaDoor
open Go.RowKit
set_option linter.unusedVariables false
set_option linter.unusedSimpArgs false

/-- What span answers. -/
def SpR (S : List UInt8) (a lo hi b : Nat) (ok : Bool) : Prop := a ≤ b ∧ b ≤ S.length ∧ (ok = true → spanF S a = .ok (lo, hi) b ∧ lo ≤ hi ∧ hi ≤ 1114111) ∧ (ok = false → spanF S a = .bad b)
theorem res_span (tmps : Array Value) (w : World) (g : Nat) (lo hi : Int) (ok : Bool) (hp : tmps.getD 2 undef = .pointer (some ⟨g, 0, none⟩)) (hq : tmps.getD 3 undef = .bool ok) (h0 : w.cell? ⟨g, 0, none⟩ = some (.int .i32 lo)) (h1 : w.cell? ⟨g, 1, none⟩ = some (.int .i32 hi)) :
    (results Tryd.f77 tmps).run Tryd.prog w = .ok (.tuple #[.agg #[.int .i32 lo, .int .i32 hi], .bool ok]) w := by
  have h : Tryd.f77.results = #[.cell 2 157, .tmp 3] := by kernel_rfl
  have hp' : tmps[2]?.getD undef = .pointer (some ⟨g, 0, none⟩) := by simpa using hp
  have hq' : tmps[3]?.getD undef = .bool ok := by simpa using hq
  simp [results, h, hp', hq', asAddr, loadVar, h0, h1, go_sem]
theorem lab_chg {r : Nat} {w w0 w1 w2 : World} (h0 : Below w.heap.size w w0) (h1 : Chg (fun i => i = r) w0 w1) (h2 : Chg (fun i => i = w.heap.size) w1 w2) : Chg (fun i => i = r) w w2 := by
  have k1 : Chg (fun i => i = r ∨ i = w.heap.size) w w1 := (Chg.of_below h0).trans h1 (fun i _ e => Or.inl e)
  have k2 : Chg (fun i => i = r ∨ i = w.heap.size) w w2 := k1.trans h2 (fun i _ e => Or.inr e)
  exact k2.mono (fun i hi e => by rcases e with e | e; exact e; omega)
theorem vc_le {c : Nat} (h : Vc c) : c ≤ 1114111 := by unfold Vc at h; omega

set_option maxRecDepth 100000 in
set_option maxHeartbeats 8000000 in
theorem spanP (r : Nat) (s : ByteArray) (a d : Nat) (w : World) (h : Rd w r s a d) (ha : a ≤ s.size) (hs : s.size ≤ 140737488355328) :
    Calls Tryd.prog 77 #[.pointer (some ⟨r, 0, none⟩)] w fun e w' => ∃ (lo hi b : Nat) (ok : Bool), e = .returned (.tuple #[.agg #[.int .i32 ((lo : Nat) : Int), .int .i32 ((hi : Nat) : Int)], .bool ok]) ∧ SpR (bts s) a lo hi b ok ∧ Rd w' r s b d ∧ Chg (fun i => i = r) w w' := by
  have hal : Below w.heap.size w (w.alloc (.cells #[.int .i32 0, .int .i32 0] 157)) := (Below.refl _ _).alloc (Nat.le_refl _) _
  have hrw : r < w.heap.size := Blk.lt h
  have hne : Hid (w.heap.size ≠ r) := hidden (by omega)
  have hB0 : Hid (Blk (w.alloc (.cells #[.int .i32 0, .int .i32 0] 157)) w.heap.size 157 [.int .i32 0, .int .i32 0]) := Blk.new w 157 _
  have k1 := characterP r s a d (w.alloc (.cells #[.int .i32 0, .int .i32 0] 157)) (h.chg (Chg.of_below (F := fun _ => False) hal) (fun h => h)) ha hs
  have HAL := hidden hal
  clear hal h
  go_enter Tryd.func77, Tryd.ntmps77
  go_upto_region 2 with (go_at_call 76; refine k1.mono ?_; rintro e w1 ⟨lo, b, ok, rfl, hc, h1, hc1⟩; clear k1)
  have H1 := hidden h1
  have HC1 := hidden hc1
  have HB1 := hidden (hc1.blk hB0.out hne.out)
  have HC := hidden hc
  have hbs : b ≤ s.size := by rw [size_bts]; exact hc.2.1
  clear h1 hc1 hc hB0
  cases ok with
  | false =>
    have HR : Hid (SpR (bts s) a lo lo b false) := hidden ⟨HC.out.1, HC.out.2.1, (fun h => by cases h), fun _ => by rw [spanF, (HC.out.2.2.2 rfl).1]⟩
    have B1 := HB1.out
    have c0 : w1.cell? ⟨w.heap.size, 0, none⟩ = some (.int .i32 0) := B1.cell 0
    have c1 : w1.cell? ⟨w.heap.size, 1, none⟩ = some (.int .i32 0) := B1.cell 1
    have f0 := B1.frozen 0
    have f1 := B1.frozen 1
    clear B1
    go_wp2
    have hcs : Chg (fun i => i = w.heap.size) w1 ((w1.setCell ⟨w.heap.size, 0, none⟩ (.int .i32 (lo : Int))).setCell ⟨w.heap.size, 1, none⟩ (.int .i32 (lo : Int))) := (Chg.set ⟨w.heap.size, 0, none⟩ _ w1).trans (Chg.set ⟨w.heap.size, 1, none⟩ _ _) (fun _ _ e => e)
    have hB2 := (HB1.out.set 0 (.int .i32 (lo : Int))).set 1 (.int .i32 (lo : Int))
    refine bodyPost_ret (res_span _ _ w.heap.size lo lo false rfl rfl (hB2.cell 0) (hB2.cell 1)) rfl ?_
    exact ⟨lo, lo, b, false, rfl, HR.out, H1.out.chg hcs (fun e => hne.out e.symm), lab_chg HAL.out HC1.out hcs⟩
  | true =>
    obtain ⟨hcf, hv⟩ := HC.out.2.2.1 rfl
    have kT := takeP r s b d 45 w1 H1.out hbs hs
    by_cases h45 : (bts s)[b]? = some 45
    · rw [decide_eq_true h45, tkN, if_pos h45] at kT
      have kT' : Calls Tryd.prog 54 #[.pointer (some ⟨r, 0, none⟩), .int .u8 45] w1 fun e w' => e = .returned (.bool true) ∧ Rd w' r s (b + 1) d ∧ Chg (fun i => i = r) w1 w' := kT
      have hb1 : b + 1 ≤ s.size := by rw [size_bts]; exact (List.getElem?_eq_some_iff.1 h45).1
      have HSF : Hid (spanF (bts s) a = match charF (bts s) (b + 1) with
          | .ok hi c => if hi < lo then .bad (b + 1) else .ok (lo, hi) c
          | .bad k => .bad k
          | .out => .out) := hidden (by rw [spanF, hcf]; simp only; rw [if_pos h45]; cases charF (bts s) (b + 1) <;> rfl)
      have k2 : Hid (∀ w2, Rd w2 r s (b + 1) d → Calls Tryd.prog 76 #[.pointer (some ⟨r, 0, none⟩)] w2 fun e w' => ∃ c b' ok, e = .returned (.tuple #[.int .i32 ((c : Nat) : Int), .bool ok]) ∧ ChR (bts s) (b + 1) c b' ok ∧ Rd w' r s b' d ∧ Chg (fun i => i = r) w2 w') := hidden (fun w2 h2 => characterP r s (b + 1) d w2 h2 hb1 hs)
      have hab : a ≤ b := HC.out.1
      clear kT hcf h45 HC
      go_wp2_with (go_at_call 54; refine kT'.mono ?_; rintro e w2 ⟨rfl, h2, hc2⟩; have d1 : w2.cell? ⟨r, 1, none⟩ = some (.int .i64 ((b : Int) + 1)) := by { have := h2.cell 1; simpa using this }; clear kT')
      have H2 := hidden h2
      have HC2 := hidden (HC1.out.trans hc2 (fun _ _ e => e))
      have HB2 := hidden (hc2.blk HB1.out hne.out)
      clear h2 hc2 HC1 HB1 H1
      have k3 := k2.out _ H2.out
      clear k2 d1
      go_upto_region 6 with (go_at_call 76; refine k3.mono ?_; rintro e w3 ⟨hi, b3, ok, rfl, hc, h3, hc3⟩; clear k3)
      have H3 := hidden h3
      have HC3 := hidden (HC2.out.trans hc3 (fun _ _ e => e))
      have HB3 := hidden (hc3.blk HB2.out hne.out)
      have HC := hidden hc
      clear h3 hc3 hc HC2 HB2 H2
      have B1 := HB3.out
      have c0 : w3.cell? ⟨w.heap.size, 0, none⟩ = some (.int .i32 0) := B1.cell 0
      have c1 : w3.cell? ⟨w.heap.size, 1, none⟩ = some (.int .i32 0) := B1.cell 1
      have f0 := B1.frozen 0
      have f1 := B1.frozen 1
      clear B1
      cases ok with
      | false =>
        have HR : Hid (SpR (bts s) a lo hi b3 false) := hidden ⟨by have := HC.out.1; omega, HC.out.2.1, (fun h => by cases h), fun _ => by rw [HSF.out, (HC.out.2.2.2 rfl).1]⟩
        go_wp2
        have hcs : Chg (fun i => i = w.heap.size) w3 ((w3.setCell ⟨w.heap.size, 0, none⟩ (.int .i32 (lo : Int))).setCell ⟨w.heap.size, 1, none⟩ (.int .i32 (hi : Int))) := (Chg.set ⟨w.heap.size, 0, none⟩ _ w3).trans (Chg.set ⟨w.heap.size, 1, none⟩ _ _) (fun _ _ e => e)
        have hB2 := (HB3.out.set 0 (.int .i32 (lo : Int))).set 1 (.int .i32 (hi : Int))
        refine bodyPost_ret (res_span _ _ w.heap.size lo hi false rfl rfl (hB2.cell 0) (hB2.cell 1)) rfl ?_
        exact ⟨lo, hi, b3, false, rfl, HR.out, H3.out.chg hcs (fun e => hne.out e.symm), lab_chg HAL.out HC3.out hcs⟩
      | true =>
        obtain ⟨hcf2, hv2⟩ := HC.out.2.2.1 rfl
        by_cases hlt : hi < lo
        · have hltz : (hi : Int) < (lo : Int) := by omega
          have HR : Hid (SpR (bts s) a 0 0 (b + 1) false) := hidden ⟨by omega, by rw [← size_bts]; exact hb1, (fun h => by cases h), fun _ => by rw [HSF.out, hcf2]; simp only; rw [if_pos hlt]⟩
          have r1 : w3.cell? ⟨r, 1, none⟩ = some (.int .i64 (b3 : Int)) := H3.out.cell 1
          have rf := H3.out.frozen 1
          have HR4 : Hid (Rd (w3.setCell ⟨r, 1, none⟩ (.int .i64 ((b : Int) + 1))) r s (b + 1) d) := hidden (by have := H3.out.set (b + 1); simpa using this)
          have hcr : Hid (Chg (fun i => i = r) w3 (w3.setCell ⟨r, 1, none⟩ (.int .i64 ((b : Int) + 1)))) := hidden (Chg.set ⟨r, 1, none⟩ _ _)
          have HB4 := hidden (hcr.out.blk HB3.out hne.out)
          have c0' : (w3.setCell ⟨r, 1, none⟩ (.int .i64 ((b : Int) + 1))).cell? ⟨w.heap.size, 0, none⟩ = some (.int .i32 0) := HB4.out.cell 0
          have c1' : (w3.setCell ⟨r, 1, none⟩ (.int .i64 ((b : Int) + 1))).cell? ⟨w.heap.size, 1, none⟩ = some (.int .i32 0) := HB4.out.cell 1
          have f0' := HB4.out.frozen 0
          have f1' := HB4.out.frozen 1
          clear hcf2 hv2 hlt
          go_wp2
          have hcs : Chg (fun i => i = w.heap.size) (w3.setCell ⟨r, 1, none⟩ (.int .i64 ((b : Int) + 1))) (((w3.setCell ⟨r, 1, none⟩ (.int .i64 ((b : Int) + 1))).setCell ⟨w.heap.size, 0, none⟩ (.int .i32 0)).setCell ⟨w.heap.size, 1, none⟩ (.int .i32 0)) := (Chg.set ⟨w.heap.size, 0, none⟩ _ _).trans (Chg.set ⟨w.heap.size, 1, none⟩ _ _) (fun _ _ e => e)
          have hB2 := (HB4.out.set 0 (.int .i32 0)).set 1 (.int .i32 0)
          refine bodyPost_ret (res_span _ _ w.heap.size 0 0 false rfl rfl (hB2.cell 0) (hB2.cell 1)) rfl ?_
          exact ⟨0, 0, b + 1, false, rfl, HR.out, HR4.out.chg hcs (fun e => hne.out e.symm), lab_chg HAL.out (HC3.out.trans hcr.out (fun _ _ e => e)) hcs⟩
        · have hltz : ¬ (hi : Int) < (lo : Int) := by omega
          have hltz' : decide ((hi : Int) < (lo : Int)) = false := decide_eq_false hltz
          have HR : Hid (SpR (bts s) a lo hi b3 true) := hidden ⟨by have := HC.out.1; omega, HC.out.2.1, fun _ => ⟨by rw [HSF.out, hcf2]; simp only; rw [if_neg hlt], by omega, vc_le hv2⟩, (fun h => by cases h)⟩
          clear hcf2 hv2 hlt
          go_wp2
          have hcs : Chg (fun i => i = w.heap.size) w3 ((w3.setCell ⟨w.heap.size, 0, none⟩ (.int .i32 (lo : Int))).setCell ⟨w.heap.size, 1, none⟩ (.int .i32 (hi : Int))) := (Chg.set ⟨w.heap.size, 0, none⟩ _ w3).trans (Chg.set ⟨w.heap.size, 1, none⟩ _ _) (fun _ _ e => e)
          have hB2 := (HB3.out.set 0 (.int .i32 (lo : Int))).set 1 (.int .i32 (hi : Int))
          refine bodyPost_ret (res_span _ _ w.heap.size lo hi true rfl rfl (hB2.cell 0) (hB2.cell 1)) rfl ?_
          first
            | exact ⟨lo, hi, b3, true, rfl, HR.out, H3.out.chg hcs (fun e => hne.out e.symm), lab_chg HAL.out HC3.out hcs⟩
            | exact ⟨lo, hi, b3, Or.inr ⟨rfl, HR.out, H3.out.chg hcs (fun e => hne.out e.symm), lab_chg HAL.out HC3.out hcs⟩⟩
    · rw [decide_eq_false h45, tkN, if_neg h45] at kT
      have kT' : Calls Tryd.prog 54 #[.pointer (some ⟨r, 0, none⟩), .int .u8 45] w1 fun e w' => e = .returned (.bool false) ∧ Rd w' r s b d ∧ Chg (fun i => i = r) w1 w' := kT
      have HR : Hid (SpR (bts s) a lo lo b true) := hidden ⟨HC.out.1, HC.out.2.1, fun _ => ⟨by rw [spanF, hcf]; simp only; rw [if_neg h45], Nat.le_refl _, vc_le hv⟩, (fun h => by cases h)⟩
      clear kT hcf h45
      go_wp2_with (go_at_call 54; refine kT'.mono ?_; rintro e w2 ⟨rfl, h2, hc2⟩; have HB2 := hidden (hc2.blk HB1.out hne.out); have c0 : w2.cell? ⟨w.heap.size, 0, none⟩ = some (.int .i32 0) := HB2.out.cell 0; have c1 : w2.cell? ⟨w.heap.size, 1, none⟩ = some (.int .i32 0) := HB2.out.cell 1; have f0 := HB2.out.frozen 0; have f1 := HB2.out.frozen 1; clear kT')
      have hcs : Chg (fun i => i = w.heap.size) w2 ((w2.setCell ⟨w.heap.size, 0, none⟩ (.int .i32 (lo : Int))).setCell ⟨w.heap.size, 1, none⟩ (.int .i32 (lo : Int))) := (Chg.set ⟨w.heap.size, 0, none⟩ _ w2).trans (Chg.set ⟨w.heap.size, 1, none⟩ _ _) (fun _ _ e => e)
      have hB2 := (HB2.out.set 0 (.int .i32 (lo : Int))).set 1 (.int .i32 (lo : Int))
      refine bodyPost_ret (res_span _ _ w.heap.size lo lo true rfl rfl (hB2.cell 0) (hB2.cell 1)) rfl ?_
      exact ⟨lo, lo, b, true, rfl, HR.out, h2.chg hcs (fun e => hne.out e.symm), lab_chg HAL.out (HC1.out.trans hc2 (fun _ _ e => e)) hcs⟩

end Go.Proofs.YtanlgplgplncdaaDoor
