/-
  The machine: chain, repeated.
-/
import Derived.Test.YtanlgplgplncdaaDoorPuD
namespace Go.Proofs.YtanlgplgplncdaaDoor
open Go.RowKit
set_option linter.unusedVariables false
set_option linter.unusedSimpArgs false

theorem res_chain (tmps : Array Value) (w : World) (g : Nat) (e : Es) (hp : tmps.getD 6 undef = .pointer (some ⟨g, 0, none⟩)) (h : Blk w g 111 (esC e)) :
    (results Tryd.f62 tmps).run Tryd.prog w = .ok (esV e) w := by
  have h0 : w.cell? ⟨g, 0, none⟩ = some (.int .u64 (e.first : Int)) := h.cell 0
  have h1 : w.cell? ⟨g, 1, none⟩ = some (.int .u64 (e.last : Int)) := h.cell 1
  have h2 : w.cell? ⟨g, 2, none⟩ = some (.bool e.emp) := h.cell 2
  have hr : Tryd.f62.results = #[.cell 6 111] := by kernel_rfl
  have hp' : tmps[6]?.getD undef = .pointer (some ⟨g, 0, none⟩) := by simpa using hp
  simp [results, hr, hp', asAddr, loadVar, h0, h1, h2, go_sem, esV]
theorem res_rep (tmps : Array Value) (w : World) (g : Nat) (e : Es) (hp : tmps.getD 6 undef = .pointer (some ⟨g, 0, none⟩)) (h : Blk w g 111 (esC e)) :
    (results Tryd.f63 tmps).run Tryd.prog w = .ok (esV e) w := by
  have h0 : w.cell? ⟨g, 0, none⟩ = some (.int .u64 (e.first : Int)) := h.cell 0
  have h1 : w.cell? ⟨g, 1, none⟩ = some (.int .u64 (e.last : Int)) := h.cell 1
  have h2 : w.cell? ⟨g, 2, none⟩ = some (.bool e.emp) := h.cell 2
  have hr : Tryd.f63.results = #[.cell 6 111] := by kernel_rfl
  have hp' : tmps[6]?.getD undef = .pointer (some ⟨g, 0, none⟩) := by simpa using hp
  simp [results, hr, hp', asAddr, loadVar, h0, h1, h2, go_sem, esV]
theorem esC_one (e : Es) : ∀ v ∈ esC e, v.oneCell' = true := by
  intro v hv; simp [esC] at hv; rcases hv with rfl | rfl | rfl <;> rfl

set_option maxRecDepth 100000 in
set_option maxHeartbeats 8000000 in
theorem chainP (F : Nat → Prop) (w : World) (r : Nat) (E : Es) (M : List Sp) (o : Option Nat) (a b : Es) (ha : a.b64) (hb : b.b64) (hM : Mch F w r E M o) (hlen : M.length ≤ 64) :
    Calls Tryd.prog 62 #[.pointer (some ⟨r, 0, none⟩), esV a, esV b] w fun e w' => e = .returned (esV (a.chain b)) ∧ Mch F w' r E (lnkM M a.last b.first) o ∧ Mv F F w w' r o o := by
  obtain ⟨af, al, ae⟩ := a
  obtain ⟨bf, bl, be⟩ := b
  have o1 := or64 ha.1 hb.1
  have o2 := or64 hb.2 ha.2
  obtain ⟨W, hW⟩ : ∃ W, ((w.alloc (.cells #[.int .u64 (af : Int), .int .u64 (al : Int), .bool ae] 111)).alloc (.cells #[.int .u64 (bf : Int), .int .u64 (bl : Int), .bool be] 111)).alloc (.cells #[.int .u64 0, .int .u64 0, .bool false] 111) = W := ⟨_, rfl⟩
  have hs1 : (w.alloc (.cells #[.int .u64 (af : Int), .int .u64 (al : Int), .bool ae] 111)).heap.size = w.heap.size + 1 := by simp
  have hs2 : ((w.alloc (.cells #[.int .u64 (af : Int), .int .u64 (al : Int), .bool ae] 111)).alloc (.cells #[.int .u64 (bf : Int), .int .u64 (bl : Int), .bool be] 111)).heap.size = w.heap.size + 1 + 1 := by simp
  have hal : Below w.heap.size w W := by
    have h1 := (Below.refl w.heap.size w).alloc (Nat.le_refl _) (.cells #[.int .u64 (af : Int), .int .u64 (al : Int), .bool ae] 111)
    have h2 := h1.alloc h1.size (.cells #[.int .u64 (bf : Int), .int .u64 (bl : Int), .bool be] 111)
    rw [← hW]
    exact h2.alloc h2.size _
  have B1 : Blk W w.heap.size 111 (esC ⟨af, al, ae⟩) := by rw [← hW]; exact ((Blk.new w 111 (esC ⟨af, al, ae⟩)).alloc _).alloc _
  have B2 : Blk W (w.heap.size + 1) 111 (esC ⟨bf, bl, be⟩) := by
    have := (Blk.new (w.alloc (.cells #[.int .u64 (af : Int), .int .u64 (al : Int), .bool ae] 111)) 111 (esC ⟨bf, bl, be⟩)).alloc (.cells #[.int .u64 0, .int .u64 0, .bool false] 111)
    rw [hs1] at this
    rw [← hW]
    exact this
  have B3 : Blk W (w.heap.size + 1 + 1) 111 (esC ⟨0, 0, false⟩) := by
    have := Blk.new ((w.alloc (.cells #[.int .u64 (af : Int), .int .u64 (al : Int), .bool ae] 111)).alloc (.cells #[.int .u64 (bf : Int), .int .u64 (bl : Int), .bool be] 111)) 111 (esC ⟨0, 0, false⟩)
    rw [hs2] at this
    rw [← hW]
    exact this
  have kL := linkP F W r E M o al bf (hM.later hal) ha.2 hb.1 hlen
  have y1 : W.cell? ⟨w.heap.size, 1, none⟩ = some (.int .u64 (al : Int)) := B1.cell 1
  have y2 : W.cell? ⟨w.heap.size + 1, 0, none⟩ = some (.int .u64 (bf : Int)) := B2.cell 0
  have HOL : Hid (∀ k, w.heap.size ≤ k → ¬ o = some k) := hidden (fun k hk e => by have := hM.olt k e; omega)
  have HAL := hidden hal
  have HB1 := hidden B1
  have HB2 := hidden B2
  have HB3 := hidden B3
  have HSZ : Hid (w.heap.size + 1 + 1 < W.heap.size) := hidden B3.lt
  have HRL := hidden hM.rlt
  have HFL : Hid (∀ b, F b → b < w.heap.size) := hidden (by obtain ⟨_, _, _, h, _⟩ := hM; exact h.lt)
  rw [← hW] at kL y1 y2
  have HW := hidden hW
  clear hal ha hb B1 B2 B3 hM hs1 hs2 hW
  have HFIN : Hid (∀ (w2 : World) (X : Obj) (e : Es), Mch F w2 r E (lnkM M al bf) o → Chg (fun b => o = some b) W w2 → Blk ((w2.alloc X).setCells (w.heap.size + 1 + 1) 0 (esC e)) (w.heap.size + 1 + 1) 111 (esC e) ∧ Mch F ((w2.alloc X).setCells (w.heap.size + 1 + 1) 0 (esC e)) r E (lnkM M al bf) o ∧ Mv F F w ((w2.alloc X).setCells (w.heap.size + 1 + 1) 0 (esC e)) r o o) := hidden (fun w2 X e h1 h2 => by
    have hcs := Chg.sets (w.heap.size + 1 + 1) (esC e) 0 (w2.alloc X)
    have hRL := HRL.out
    refine ⟨blk_stored ((h2.blk HB3.out (HOL.out _ (by omega))).alloc X) rfl, ?_, ?_⟩
    · have h3 := h1.later ((Below.refl _ w2).alloc (Nat.le_refl _) X)
      exact h3.keep hcs (fun e => by have e' : r = w.heap.size + 1 + 1 := e; omega) (fun b hb e => HOL.out (w.heap.size + 1 + 1) (by omega) (by have e' : b = w.heap.size + 1 + 1 := e; rw [← e']; exact hb)) (fun b hb e => by have := HFL.out b hb; have e' : b = w.heap.size + 1 + 1 := e; omega)
    · have c1 : Chg (fun b => b = r ∨ o = some b) w W := Chg.of_below HAL.out
      have c2 := c1.trans h2 (fun i _ h => .inr h)
      have c3 := c2.trans (Chg.alloc (fun _ => False) w2 X) (fun i _ h => h.elim)
      exact ⟨c3.trans hcs (fun i hi e => by have e' : i = w.heap.size + 1 + 1 := e; omega), .inl rfl, fun _ h => h, fun _ h => .inl h⟩)
  have HBX : Hid (∀ (w2 : World), Chg (fun b => o = some b) W w2 → Blk w2 w.heap.size 111 (esC ⟨af, al, ae⟩) ∧ Blk w2 (w.heap.size + 1) 111 (esC ⟨bf, bl, be⟩) ∧ Blk w2 (w.heap.size + 1 + 1) 111 (esC ⟨0, 0, false⟩)) := hidden (fun w2 h => ⟨h.blk HB1.out (HOL.out _ (by omega)), h.blk HB2.out (HOL.out _ (by omega)), h.blk HB3.out (HOL.out _ (by omega))⟩)
  clear HB1 HB2 HB3
  obtain ⟨R, hR⟩ : ∃ R, (⟨af, al, ae⟩ : Es).chain ⟨bf, bl, be⟩ = R := ⟨_, rfl⟩
  have HR := hidden hR
  rw [hR]
  clear hR
  rw [show esV ⟨af, al, ae⟩ = .agg #[.int .u64 (af : Int), .int .u64 (al : Int), .bool ae] from rfl, show esV ⟨bf, bl, be⟩ = .agg #[.int .u64 (bf : Int), .int .u64 (bl : Int), .bool be] from rfl]
  show Calls Tryd.prog 62 #[.pointer (some ⟨r, 0, none⟩), .agg #[.int .u64 (af : Int), .int .u64 (al : Int), .bool ae], .agg #[.int .u64 (bf : Int), .int .u64 (bl : Int), .bool be]] w fun e w' => e = .returned (esV R) ∧ Mch F w' r E (lnkM M al bf) o ∧ Mv F F w w' r o o
  cases ae <;> cases be
  all_goals
    go_enter Tryd.func62, Tryd.ntmps62
    go_wp2_with (first
      | (go_at_call 72; refine kL.mono ?_; rintro e w2 ⟨rfl, hm2, hc2⟩; rw [HW.out] at hc2; have H2 := hidden hm2; have C2 := hidden hc2; have HX := hidden (HBX.out w2 hc2); have z0 := fun X => (HX.out.1.alloc X).cell 0; have z1 := fun X => (HX.out.1.alloc X).cell 1; have z2 := fun X => (HX.out.1.alloc X).cell 2; have u0 := fun X => (HX.out.2.1.alloc X).cell 0; have u1 := fun X => (HX.out.2.1.alloc X).cell 1; have u2 := fun X => (HX.out.2.1.alloc X).cell 2; have z0' := HX.out.1.cell 0; have z1' := HX.out.1.cell 1; have z2' := HX.out.1.cell 2; have u0' := HX.out.2.1.cell 0; have u1' := HX.out.2.1.cell 1; have u2' := HX.out.2.1.cell 2; simp only [esC, List.getElem?_cons_zero, List.getElem?_cons_succ] at z0 z1 z2 u0 u1 u2 z0' z1' z2' u0' u1' u2'; clear kL hm2 hc2)
      | (refine wpList_store_blk (l := esC R) rfl 111 (.tmp 6) (.tmp 41) rfl rfl (w.heap.size + 1 + 1) (HX.out.2.2.alloc _) rfl (by rw [← HR.out]; rfl) rfl info52 (esC_one _) ?_))
    refine bodyPost_ret (res_chain _ _ (w.heap.size + 1 + 1) R rfl (HFIN.out w2 _ R H2.out C2.out).1) rfl ?_
    exact ⟨rfl, (HFIN.out w2 _ R H2.out C2.out).2⟩

set_option maxRecDepth 100000 in
set_option maxHeartbeats 8000000 in
theorem repeatedP (F : Nat → Prop) (w : World) (r : Nat) (E : Es) (M : List Sp) (o : Option Nat) (a : Es) (s : Nat) (ha : a.b64) (hM : Mch F w r E M o) (hlen : M.length ≤ 64) :
    Calls Tryd.prog 63 #[.pointer (some ⟨r, 0, none⟩), esV a, .int .u8 (s : Int)] w fun e w' => e = .returned (esV (repM a M s).1) ∧ Mch F w' r E (repM a M s).2 o ∧ Mv F F w w' r o o := by
  obtain ⟨af, al, ae⟩ := a
  obtain ⟨W, hW⟩ : ∃ W, ((w.alloc (.cells #[.int .u64 (af : Int), .int .u64 (al : Int), .bool ae] 111)).alloc (.cells #[.int .u64 0, .int .u64 0, .bool false] 111)) = W := ⟨_, rfl⟩
  have hs1 : (w.alloc (.cells #[.int .u64 (af : Int), .int .u64 (al : Int), .bool ae] 111)).heap.size = w.heap.size + 1 := by simp
  have hal : Below w.heap.size w W := by
    have h1 := (Below.refl w.heap.size w).alloc (Nat.le_refl _) (.cells #[.int .u64 (af : Int), .int .u64 (al : Int), .bool ae] 111)
    rw [← hW]
    exact h1.alloc h1.size _
  have B1 : Blk W w.heap.size 111 (esC ⟨af, al, ae⟩) := by rw [← hW]; exact ((Blk.new w 111 (esC ⟨af, al, ae⟩)).alloc _)
  have B3 : Blk W (w.heap.size + 1) 111 (esC ⟨0, 0, false⟩) := by
    have := Blk.new (w.alloc (.cells #[.int .u64 (af : Int), .int .u64 (al : Int), .bool ae] 111)) 111 (esC ⟨0, 0, false⟩)
    rw [hs1] at this
    rw [← hW]
    exact this
  have kL := linkP F W r E M o al af (hM.later hal) ha.2 ha.1 hlen
  have y1 : W.cell? ⟨w.heap.size, 1, none⟩ = some (.int .u64 (al : Int)) := B1.cell 1
  have y2 : W.cell? ⟨w.heap.size, 0, none⟩ = some (.int .u64 (af : Int)) := B1.cell 0
  have HOL : Hid (∀ k, w.heap.size ≤ k → ¬ o = some k) := hidden (fun k hk e => by have := hM.olt k e; omega)
  have HAL := hidden hal
  have HB1 := hidden B1
  have HB3 := hidden B3
  have HRL := hidden hM.rlt
  have HM := hidden hM
  have HFL : Hid (∀ b, F b → b < w.heap.size) := hidden (by obtain ⟨_, _, _, h, _⟩ := hM; exact h.lt)
  rw [← hW] at kL y1 y2
  have HW := hidden hW
  clear hal ha B1 B3 hM hs1 hW
  have HFIN : Hid (∀ (w2 w3 : World) (e : Es), Mch F w2 r E (lnkM M al af) o → Chg (fun b => o = some b) W w2 → Chg (fun b => b = w.heap.size) w2 w3 → Blk (w3.setCells (w.heap.size + 1) 0 (esC e)) (w.heap.size + 1) 111 (esC e) ∧ Mch F (w3.setCells (w.heap.size + 1) 0 (esC e)) r E (lnkM M al af) o ∧ Mv F F w (w3.setCells (w.heap.size + 1) 0 (esC e)) r o o) := hidden (fun w2 w3 e h1 h2 h3 => by
    have hcs := Chg.sets (w.heap.size + 1) (esC e) 0 w3
    have hRL := HRL.out
    have hc3 : Chg (fun b => b = w.heap.size ∨ b = w.heap.size + 1) w2 (w3.setCells (w.heap.size + 1) 0 (esC e)) := (h3.mono (G := fun b => b = w.heap.size ∨ b = w.heap.size + 1) (fun i _ h => .inl h)).trans hcs (fun i _ h => .inr h)
    refine ⟨blk_stored (h3.blk (h2.blk HB3.out (HOL.out _ (by omega))) (fun e => by have e' : w.heap.size + 1 = w.heap.size := e; omega)) rfl, ?_, ?_⟩
    · exact h1.keep hc3 (fun e => by rcases e with e | e <;> omega) (fun b hb e => HOL.out b (by rcases e with e | e <;> omega) hb) (fun b hb e => by have := HFL.out b hb; rcases e with e | e <;> omega)
    · have c1 : Chg (fun b => b = r ∨ o = some b) w W := Chg.of_below HAL.out
      have c2 := c1.trans h2 (fun i _ h => .inr h)
      exact ⟨c2.trans hc3 (fun i hi e => by rcases e with e | e <;> omega), .inl rfl, fun _ h => h, fun _ h => .inl h⟩)
  have HBX : Hid (∀ (w2 : World), Chg (fun b => o = some b) W w2 → Blk w2 w.heap.size 111 (esC ⟨af, al, ae⟩) ∧ Blk w2 (w.heap.size + 1) 111 (esC ⟨0, 0, false⟩)) := hidden (fun w2 h => ⟨h.blk HB1.out (HOL.out _ (by omega)), h.blk HB3.out (HOL.out _ (by omega))⟩)
  have HNL : Hid (∀ (X Y : Obj), Mch F ((w.alloc X).alloc Y) r E M o ∧ Mv F F w ((w.alloc X).alloc Y) r o o) := hidden (fun X Y => by
    have h1 := (Below.refl w.heap.size w).alloc (Nat.le_refl _) X
    have h2 := h1.alloc h1.size Y
    exact ⟨HM.out.later h2, Mv.below h2⟩)
  clear HB1 HB3 HM
  by_cases h63 : s = 63
  · subst h63
    have e1 : repM ⟨af, al, ae⟩ M 63 = (⟨af, al, true⟩, M) := rfl
    rw [e1]
    clear e1 kL y1 y2
    have HBN : Hid (Blk ((w.alloc (.cells #[.int .u64 (af : Int), .int .u64 (al : Int), .bool true] 111)).alloc (.cells #[.int .u64 (af : Int), .int .u64 (al : Int), .bool true] 111)) (w.heap.size + 1) 111 (esC ⟨af, al, true⟩)) := hidden (by
      have := Blk.new (w.alloc (.cells #[.int .u64 (af : Int), .int .u64 (al : Int), .bool true] 111)) 111 (esC ⟨af, al, true⟩)
      rw [show (w.alloc (.cells #[.int .u64 (af : Int), .int .u64 (al : Int), .bool true] 111)).heap.size = w.heap.size + 1 by simp] at this
      exact this)
    show Calls Tryd.prog 63 #[.pointer (some ⟨r, 0, none⟩), .agg #[.int .u64 (af : Int), .int .u64 (al : Int), .bool ae], .int .u8 63] w fun e w' => e = .returned (esV ⟨af, al, true⟩) ∧ Mch F w' r E M o ∧ Mv F F w w' r o o
    go_enter Tryd.func63, Tryd.ntmps63
    go_wp2
    refine bodyPost_ret (res_rep _ _ (w.heap.size + 1) ⟨af, al, true⟩ rfl HBN.out) rfl ?_
    exact ⟨rfl, HNL.out _ _⟩
  · have h63z : ((s : Int) != 63) = true := by simp; omega
    by_cases h43 : s = 43
    · subst h43
      have e1 : repM ⟨af, al, ae⟩ M 43 = (⟨af, al, ae⟩, lnkM M al af) := rfl
      rw [e1]
      clear e1
      show Calls Tryd.prog 63 #[.pointer (some ⟨r, 0, none⟩), .agg #[.int .u64 (af : Int), .int .u64 (al : Int), .bool ae], .int .u8 43] w fun e w' => e = .returned (esV ⟨af, al, ae⟩) ∧ Mch F w' r E (lnkM M al af) o ∧ Mv F F w w' r o o
      go_enter Tryd.func63, Tryd.ntmps63
      go_wp2_with (first
        | (go_at_call 72; refine kL.mono ?_; rintro e w2 ⟨rfl, hm2, hc2⟩; rw [HW.out] at hc2; have H2 := hidden hm2; have C2 := hidden hc2; have HX := hidden (HBX.out w2 hc2); clear kL hm2 hc2)
        | (refine wpList_load_blk rfl 111 (.tmp 4) rfl w.heap.size HX.out.1 rfl Tryd.underlying111 rfl info52 ?_)
        | (refine wpList_store_blk (l := esC ⟨af, al, ae⟩) rfl 111 (.tmp 6) (.tmp 18) rfl rfl (w.heap.size + 1) HX.out.2 rfl rfl rfl info52 (esC_one _) ?_))
      have hf := HFIN.out w2 w2 ⟨af, al, ae⟩ H2.out C2.out (Chg.refl _ _)
      refine bodyPost_ret (res_rep _ _ (w.heap.size + 1) ⟨af, al, ae⟩ rfl hf.1) rfl ?_
      exact ⟨rfl, hf.2⟩
    · have h43z : ((s : Int) != 43) = true := by simp; omega
      have e1 : repM ⟨af, al, ae⟩ M s = (⟨af, al, true⟩, lnkM M al af) := by simp [repM, h63, h43]
      rw [e1]
      clear e1
      show Calls Tryd.prog 63 #[.pointer (some ⟨r, 0, none⟩), .agg #[.int .u64 (af : Int), .int .u64 (al : Int), .bool ae], .int .u8 (s : Int)] w fun e w' => e = .returned (esV ⟨af, al, true⟩) ∧ Mch F w' r E (lnkM M al af) o ∧ Mv F F w w' r o o
      go_enter Tryd.func63, Tryd.ntmps63
      go_wp2_with (first
        | (go_at_call 72; refine kL.mono ?_; rintro e w2 ⟨rfl, hm2, hc2⟩; rw [HW.out] at hc2; have H2 := hidden hm2; have C2 := hidden hc2; have HX := hidden (HBX.out w2 hc2); have HS : Hid (Blk (w2.setCell ⟨w.heap.size, 2, none⟩ (.bool true)) w.heap.size 111 (esC ⟨af, al, true⟩)) := hidden (HX.out.1.set 2 (.bool true)); have HS2 : Hid (Blk (w2.setCell ⟨w.heap.size, 2, none⟩ (.bool true)) (w.heap.size + 1) 111 (esC ⟨0, 0, false⟩)) := hidden (HX.out.2.setOff _ _ (by simp)); have z2 : w2.cell? ⟨w.heap.size, 2, none⟩ = some (.bool ae) := HX.out.1.cell 2; have z3 := HX.out.1.frozen 2; clear kL hm2 hc2)
        | (refine wpList_load_blk rfl 111 (.tmp 4) rfl w.heap.size HS.out rfl Tryd.underlying111 rfl info52 ?_)
        | (refine wpList_store_blk (l := esC ⟨af, al, true⟩) rfl 111 (.tmp 6) (.tmp 18) rfl rfl (w.heap.size + 1) HS2.out rfl rfl rfl info52 (esC_one _) ?_))
      have hf := HFIN.out w2 (w2.setCell ⟨w.heap.size, 2, none⟩ (.bool true)) ⟨af, al, true⟩ H2.out C2.out (Chg.set ⟨w.heap.size, 2, none⟩ (.bool true) w2)
      refine bodyPost_ret (res_rep _ _ (w.heap.size + 1) ⟨af, al, true⟩ rfl hf.1) rfl ?_
      exact ⟨rfl, hf.2⟩

end Go.Proofs.YtanlgplgplncdaaDoor
