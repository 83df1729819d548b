import Derived.Test.YtanlgplgplncdaaGreatDoorPuD
/-
  The machine: chain, repeated.
-/
namespace Go.Proofs.YtanlgplgplncdaaGreatDoor
open Go.RowKit
set_option linter.unusedVariables false
set_option linter.unusedSimpArgs false

theorem res_chain (tmps : Array Value) (w : World) (g : Nat) (e : Es) (hp : tmps.getD 6 undef = .pointer (some ⟨g, 0, none⟩)) (h : Blk w g 163 (esC e)) :
    (results Tryz.f107 tmps).run Tryz.prog w = .ok (esV e) w := by
  have h0 : w.cell? ⟨g, 0, none⟩ = some (.int .u64 (e.first : Int)) := h.cell 0
  have h1 : w.cell? ⟨g, 1, none⟩ = some (.int .u64 (e.last : Int)) := h.cell 1
  have h2 : w.cell? ⟨g, 2, none⟩ = some (.bool e.emp) := h.cell 2
  have hr : Tryz.f107.results = #[.cell 6 163] := by kernel_rfl
  have hp' : tmps[6]?.getD undef = .pointer (some ⟨g, 0, none⟩) := by simpa using hp
  simp [results, hr, hp', asAddr, loadVar, h0, h1, h2, go_sem, esV]
theorem res_rep (tmps : Array Value) (w : World) (g : Nat) (e : Es) (hp : tmps.getD 6 undef = .pointer (some ⟨g, 0, none⟩)) (h : Blk w g 163 (esC e)) :
    (results Tryz.f108 tmps).run Tryz.prog w = .ok (esV e) w := by
  have h0 : w.cell? ⟨g, 0, none⟩ = some (.int .u64 (e.first : Int)) := h.cell 0
  have h1 : w.cell? ⟨g, 1, none⟩ = some (.int .u64 (e.last : Int)) := h.cell 1
  have h2 : w.cell? ⟨g, 2, none⟩ = some (.bool e.emp) := h.cell 2
  have hr : Tryz.f108.results = #[.cell 6 163] := by kernel_rfl
  have hp' : tmps[6]?.getD undef = .pointer (some ⟨g, 0, none⟩) := by simpa using hp
  simp [results, hr, hp', asAddr, loadVar, h0, h1, h2, go_sem, esV]
theorem esC_one (e : Es) : ∀ v ∈ esC e, v.oneCell' = true := by
  intro v hv; simp [esC] at hv; rcases hv with rfl | rfl | rfl <;> rfl

set_option maxRecDepth 100000 in
set_option maxHeartbeats 8000000 in
theorem chainP (F : Nat → Prop) (w : World) (r : Nat) (E : Es) (M : List Sp) (o : Option Nat) (a b : Es) (ha : a.b64) (hb : b.b64) (hM : Mch F w r E M o) (hlen : M.length ≤ 64) :
    Calls Tryz.prog 107 #[.pointer (some ⟨r, 0, none⟩), esV a, esV b] w fun e w' => e = .returned (esV (a.chain b)) ∧ Mch F w' r E (lnkM M a.last b.first) o ∧ Mv F F w w' r o o := by
  obtain ⟨af, al, ae⟩ := a
  obtain ⟨bf, bl, be⟩ := b
  have o1 := or64 ha.1 hb.1
  have o2 := or64 hb.2 ha.2
  obtain ⟨W, hW⟩ : ∃ W, ((w.alloc (.cells #[.int .u64 (af : Int), .int .u64 (al : Int), .bool ae] 163)).alloc (.cells #[.int .u64 (bf : Int), .int .u64 (bl : Int), .bool be] 163)).alloc (.cells #[.int .u64 0, .int .u64 0, .bool false] 163) = W := ⟨_, rfl⟩
  have hs1 : (w.alloc (.cells #[.int .u64 (af : Int), .int .u64 (al : Int), .bool ae] 163)).heap.size = w.heap.size + 1 := by simp
  have hs2 : ((w.alloc (.cells #[.int .u64 (af : Int), .int .u64 (al : Int), .bool ae] 163)).alloc (.cells #[.int .u64 (bf : Int), .int .u64 (bl : Int), .bool be] 163)).heap.size = w.heap.size + 1 + 1 := by simp
  have hal : Below w.heap.size w W := by
    have h1 := (Below.refl w.heap.size w).alloc (Nat.le_refl _) (.cells #[.int .u64 (af : Int), .int .u64 (al : Int), .bool ae] 163)
    have h2 := h1.alloc h1.size (.cells #[.int .u64 (bf : Int), .int .u64 (bl : Int), .bool be] 163)
    rw [← hW]
    exact h2.alloc h2.size _
  have B1 : Blk W w.heap.size 163 (esC ⟨af, al, ae⟩) := by rw [← hW]; exact ((Blk.new w 163 (esC ⟨af, al, ae⟩)).alloc _).alloc _
  have B2 : Blk W (w.heap.size + 1) 163 (esC ⟨bf, bl, be⟩) := by
    have := (Blk.new (w.alloc (.cells #[.int .u64 (af : Int), .int .u64 (al : Int), .bool ae] 163)) 163 (esC ⟨bf, bl, be⟩)).alloc (.cells #[.int .u64 0, .int .u64 0, .bool false] 163)
    rw [hs1] at this
    rw [← hW]
    exact this
  have B3 : Blk W (w.heap.size + 1 + 1) 163 (esC ⟨0, 0, false⟩) := by
    have := Blk.new ((w.alloc (.cells #[.int .u64 (af : Int), .int .u64 (al : Int), .bool ae] 163)).alloc (.cells #[.int .u64 (bf : Int), .int .u64 (bl : Int), .bool be] 163)) 163 (esC ⟨0, 0, false⟩)
    rw [hs2] at this
    rw [← hW]
    exact this
  have kL := linkP F W r E M o al bf (hM.later hal) ha.2 hb.1 hlen
  have y1 : W.cell? ⟨w.heap.size, 1, none⟩ = some (.int .u64 (al : Int)) := B1.cell 1
  have y2 : W.cell? ⟨w.heap.size + 1, 0, none⟩ = some (.int .u64 (bf : Int)) := B2.cell 0
  have HOL : Hid (∀ k, w.heap.size ≤ k → ¬ o = some k) := hidden (fun k hk e => by have := hM.olt k e; omega)
  have HAL := hidden hal
  have HB1 := hidden B1
  have HB2 := hidden B2
  have HB3 := hidden B3
  have HSZ : Hid (w.heap.size + 1 + 1 < W.heap.size) := hidden B3.lt
  have HRL := hidden hM.rlt
  have HFL : Hid (∀ b, F b → b < w.heap.size) := hidden (by obtain ⟨_, _, _, h, _⟩ := hM; exact h.lt)
  rw [← hW] at kL y1 y2
  have HW := hidden hW
  clear hal ha hb B1 B2 B3 hM hs1 hs2 hW
  have HFIN : Hid (∀ (w2 : World) (X : Obj) (e : Es), Mch F w2 r E (lnkM M al bf) o → Chg (fun b => o = some b) W w2 → Blk ((w2.alloc X).setCells (w.heap.size + 1 + 1) 0 (esC e)) (w.heap.size + 1 + 1) 163 (esC e) ∧ Mch F ((w2.alloc X).setCells (w.heap.size + 1 + 1) 0 (esC e)) r E (lnkM M al bf) o ∧ Mv F F w ((w2.alloc X).setCells (w.heap.size + 1 + 1) 0 (esC e)) r o o) := hidden (fun w2 X e h1 h2 => by
    have hcs := Chg.sets (w.heap.size + 1 + 1) (esC e) 0 (w2.alloc X)
    have hRL := HRL.out
    refine ⟨blk_stored ((h2.blk HB3.out (HOL.out _ (by omega))).alloc X) rfl, ?_, ?_⟩
    · have h3 := h1.later ((Below.refl _ w2).alloc (Nat.le_refl _) X)
      exact h3.keep hcs (fun e => by have e' : r = w.heap.size + 1 + 1 := e; omega) (fun b hb e => HOL.out (w.heap.size + 1 + 1) (by omega) (by have e' : b = w.heap.size + 1 + 1 := e; rw [← e']; exact hb)) (fun b hb e => by have := HFL.out b hb; have e' : b = w.heap.size + 1 + 1 := e; omega)
    · have c1 : Chg (fun b => b = r ∨ o = some b) w W := Chg.of_below HAL.out
      have c2 := c1.trans h2 (fun i _ h => .inr h)
      have c3 := c2.trans (Chg.alloc (fun _ => False) w2 X) (fun i _ h => h.elim)
      exact ⟨c3.trans hcs (fun i hi e => by have e' : i = w.heap.size + 1 + 1 := e; omega), .inl rfl, fun _ h => h, fun _ h => .inl h⟩)
  have HBX : Hid (∀ (w2 : World), Chg (fun b => o = some b) W w2 → Blk w2 w.heap.size 163 (esC ⟨af, al, ae⟩) ∧ Blk w2 (w.heap.size + 1) 163 (esC ⟨bf, bl, be⟩) ∧ Blk w2 (w.heap.size + 1 + 1) 163 (esC ⟨0, 0, false⟩)) := hidden (fun w2 h => ⟨h.blk HB1.out (HOL.out _ (by omega)), h.blk HB2.out (HOL.out _ (by omega)), h.blk HB3.out (HOL.out _ (by omega))⟩)
  clear HB1 HB2 HB3
  obtain ⟨R, hR⟩ : ∃ R, (⟨af, al, ae⟩ : Es).chain ⟨bf, bl, be⟩ = R := ⟨_, rfl⟩
  have HR := hidden hR
  rw [hR]
  clear hR
  rw [show esV ⟨af, al, ae⟩ = .agg #[.int .u64 (af : Int), .int .u64 (al : Int), .bool ae] from rfl, show esV ⟨bf, bl, be⟩ = .agg #[.int .u64 (bf : Int), .int .u64 (bl : Int), .bool be] from rfl]
  show Calls Tryz.prog 107 #[.pointer (some ⟨r, 0, none⟩), .agg #[.int .u64 (af : Int), .int .u64 (al : Int), .bool ae], .agg #[.int .u64 (bf : Int), .int .u64 (bl : Int), .bool be]] w fun e w' => e = .returned (esV R) ∧ Mch F w' r E (lnkM M al bf) o ∧ Mv F F w w' r o o
  cases ae <;> cases be
  all_goals
    go_enter Tryz.func107, Tryz.ntmps107
    go_wp2_with (first
      | (go_at_call 118; refine kL.mono ?_; rintro e w2 ⟨rfl, hm2, hc2⟩; rw [HW.out] at hc2; have H2 := hidden hm2; have C2 := hidden hc2; have HX := hidden (HBX.out w2 hc2); have z0 := fun X => (HX.out.1.alloc X).cell 0; have z1 := fun X => (HX.out.1.alloc X).cell 1; have z2 := fun X => (HX.out.1.alloc X).cell 2; have u0 := fun X => (HX.out.2.1.alloc X).cell 0; have u1 := fun X => (HX.out.2.1.alloc X).cell 1; have u2 := fun X => (HX.out.2.1.alloc X).cell 2; have z0' := HX.out.1.cell 0; have z1' := HX.out.1.cell 1; have z2' := HX.out.1.cell 2; have u0' := HX.out.2.1.cell 0; have u1' := HX.out.2.1.cell 1; have u2' := HX.out.2.1.cell 2; simp only [esC, List.getElem?_cons_zero, List.getElem?_cons_succ] at z0 z1 z2 u0 u1 u2 z0' z1' z2' u0' u1' u2'; clear kL hm2 hc2)
      | (refine wpList_store_blk (l := esC R) rfl 163 (.tmp 6) (.tmp 41) rfl rfl (w.heap.size + 1 + 1) (HX.out.2.2.alloc _) rfl (by rw [← HR.out]; rfl) rfl info52 (esC_one _) ?_))
    refine bodyPost_ret (res_chain _ _ (w.heap.size + 1 + 1) R rfl (HFIN.out w2 _ R H2.out C2.out).1) rfl ?_
    exact ⟨rfl, (HFIN.out w2 _ R H2.out C2.out).2⟩

set_option maxRecDepth 100000 in
set_option maxHeartbeats 8000000 in
theorem repeatedP (F : Nat → Prop) (w : World) (r : Nat) (E : Es) (M : List Sp) (o : Option Nat) (a : Es) (s : Nat) (ha : a.b64) (hM : Mch F w r E M o) (hlen : M.length ≤ 64) :
    Calls Tryz.prog 108 #[.pointer (some ⟨r, 0, none⟩), esV a, .int .u8 (s : Int)] w fun e w' => e = .returned (esV (repM a M s).1) ∧ Mch F w' r E (repM a M s).2 o ∧ Mv F F w w' r o o := by
  obtain ⟨af, al, ae⟩ := a
  obtain ⟨W, hW⟩ : ∃ W, ((w.alloc (.cells #[.int .u64 (af : Int), .int .u64 (al : Int), .bool ae] 163)).alloc (.cells #[.int .u64 0, .int .u64 0, .bool false] 163)) = W := ⟨_, rfl⟩
  have hs1 : (w.alloc (.cells #[.int .u64 (af : Int), .int .u64 (al : Int), .bool ae] 163)).heap.size = w.heap.size + 1 := by simp
  have hal : Below w.heap.size w W := by
    have h1 := (Below.refl w.heap.size w).alloc (Nat.le_refl _) (.cells #[.int .u64 (af : Int), .int .u64 (al : Int), .bool ae] 163)
    rw [← hW]
    exact h1.alloc h1.size _
  have B1 : Blk W w.heap.size 163 (esC ⟨af, al, ae⟩) := by rw [← hW]; exact ((Blk.new w 163 (esC ⟨af, al, ae⟩)).alloc _)
  have B3 : Blk W (w.heap.size + 1) 163 (esC ⟨0, 0, false⟩) := by
    have := Blk.new (w.alloc (.cells #[.int .u64 (af : Int), .int .u64 (al : Int), .bool ae] 163)) 163 (esC ⟨0, 0, false⟩)
    rw [hs1] at this
    rw [← hW]
    exact this
  have kL := linkP F W r E M o al af (hM.later hal) ha.2 ha.1 hlen
  have y1 : W.cell? ⟨w.heap.size, 1, none⟩ = some (.int .u64 (al : Int)) := B1.cell 1
  have y2 : W.cell? ⟨w.heap.size, 0, none⟩ = some (.int .u64 (af : Int)) := B1.cell 0
  have HOL : Hid (∀ k, w.heap.size ≤ k → ¬ o = some k) := hidden (fun k hk e => by have := hM.olt k e; omega)
  have HAL := hidden hal
  have HB1 := hidden B1
  have HB3 := hidden B3
  have HRL := hidden hM.rlt
  have HM := hidden hM
  have HFL : Hid (∀ b, F b → b < w.heap.size) := hidden (by obtain ⟨_, _, _, h, _⟩ := hM; exact h.lt)
  rw [← hW] at kL y1 y2
  have HW := hidden hW
  clear hal ha B1 B3 hM hs1 hW
  have HFIN : Hid (∀ (w2 w3 : World) (e : Es), Mch F w2 r E (lnkM M al af) o → Chg (fun b => o = some b) W w2 → Chg (fun b => b = w.heap.size) w2 w3 → Blk (w3.setCells (w.heap.size + 1) 0 (esC e)) (w.heap.size + 1) 163 (esC e) ∧ Mch F (w3.setCells (w.heap.size + 1) 0 (esC e)) r E (lnkM M al af) o ∧ Mv F F w (w3.setCells (w.heap.size + 1) 0 (esC e)) r o o) := hidden (fun w2 w3 e h1 h2 h3 => by
    have hcs := Chg.sets (w.heap.size + 1) (esC e) 0 w3
    have hRL := HRL.out
    have hc3 : Chg (fun b => b = w.heap.size ∨ b = w.heap.size + 1) w2 (w3.setCells (w.heap.size + 1) 0 (esC e)) := (h3.mono (G := fun b => b = w.heap.size ∨ b = w.heap.size + 1) (fun i _ h => .inl h)).trans hcs (fun i _ h => .inr h)
    refine ⟨blk_stored (h3.blk (h2.blk HB3.out (HOL.out _ (by omega))) (fun e => by have e' : w.heap.size + 1 = w.heap.size := e; omega)) rfl, ?_, ?_⟩
    · exact h1.keep hc3 (fun e => by rcases e with e | e <;> omega) (fun b hb e => HOL.out b (by rcases e with e | e <;> omega) hb) (fun b hb e => by have := HFL.out b hb; rcases e with e | e <;> omega)
    · have c1 : Chg (fun b => b = r ∨ o = some b) w W := Chg.of_below HAL.out
      have c2 := c1.trans h2 (fun i _ h => .inr h)
      exact ⟨c2.trans hc3 (fun i hi e => by rcases e with e | e <;> omega), .inl rfl, fun _ h => h, fun _ h => .inl h⟩)
  have HBX : Hid (∀ (w2 : World), Chg (fun b => o = some b) W w2 → Blk w2 w.heap.size 163 (esC ⟨af, al, ae⟩) ∧ Blk w2 (w.heap.size + 1) 163 (esC ⟨0, 0, false⟩)) := hidden (fun w2 h => ⟨h.blk HB1.out (HOL.out _ (by omega)), h.blk HB3.out (HOL.out _ (by omega))⟩)
  have HNL : Hid (∀ (X Y : Obj), Mch F ((w.alloc X).alloc Y) r E M o ∧ Mv F F w ((w.alloc X).alloc Y) r o o) := hidden (fun X Y => by
    have h1 := (Below.refl w.heap.size w).alloc (Nat.le_refl _) X
    have h2 := h1.alloc h1.size Y
    exact ⟨HM.out.later h2, Mv.below h2⟩)
  clear HB1 HB3 HM
  by_cases h63 : s = 63
  · subst h63
    have e1 : repM ⟨af, al, ae⟩ M 63 = (⟨af, al, true⟩, M) := rfl
    rw [e1]
    clear e1 kL y1 y2
    have HBN : Hid (Blk ((w.alloc (.cells #[.int .u64 (af : Int), .int .u64 (al : Int), .bool true] 163)).alloc (.cells #[.int .u64 (af : Int), .int .u64 (al : Int), .bool true] 163)) (w.heap.size + 1) 163 (esC ⟨af, al, true⟩)) := hidden (by
      have := Blk.new (w.alloc (.cells #[.int .u64 (af : Int), .int .u64 (al : Int), .bool true] 163)) 163 (esC ⟨af, al, true⟩)
      rw [show (w.alloc (.cells #[.int .u64 (af : Int), .int .u64 (al : Int), .bool true] 163)).heap.size = w.heap.size + 1 by simp] at this
      exact this)
    show Calls Tryz.prog 108 #[.pointer (some ⟨r, 0, none⟩), .agg #[.int .u64 (af : Int), .int .u64 (al : Int), .bool ae], .int .u8 63] w fun e w' => e = .returned (esV ⟨af, al, true⟩) ∧ Mch F w' r E M o ∧ Mv F F w w' r o o
    go_enter Tryz.func108, Tryz.ntmps108
    go_wp2
    refine bodyPost_ret (res_rep _ _ (w.heap.size + 1) ⟨af, al, true⟩ rfl HBN.out) rfl ?_
    exact ⟨rfl, HNL.out _ _⟩
  · have h63z : ((s : Int) != 63) = true := by simp; omega
    by_cases h43 : s = 43
    · subst h43
      have e1 : repM ⟨af, al, ae⟩ M 43 = (⟨af, al, ae⟩, lnkM M al af) := rfl
      rw [e1]
      clear e1
      show Calls Tryz.prog 108 #[.pointer (some ⟨r, 0, none⟩), .agg #[.int .u64 (af : Int), .int .u64 (al : Int), .bool ae], .int .u8 43] w fun e w' => e = .returned (esV ⟨af, al, ae⟩) ∧ Mch F w' r E (lnkM M al af) o ∧ Mv F F w w' r o o
      go_enter Tryz.func108, Tryz.ntmps108
      go_wp2_with (first
        | (go_at_call 118; refine kL.mono ?_; rintro e w2 ⟨rfl, hm2, hc2⟩; rw [HW.out] at hc2; have H2 := hidden hm2; have C2 := hidden hc2; have HX := hidden (HBX.out w2 hc2); clear kL hm2 hc2)
        | (refine wpList_load_blk rfl 163 (.tmp 4) rfl w.heap.size HX.out.1 rfl Tryz.underlying163 rfl info52 ?_)
        | (refine wpList_store_blk (l := esC ⟨af, al, ae⟩) rfl 163 (.tmp 6) (.tmp 18) rfl rfl (w.heap.size + 1) HX.out.2 rfl rfl rfl info52 (esC_one _) ?_))
      have hf := HFIN.out w2 w2 ⟨af, al, ae⟩ H2.out C2.out (Chg.refl _ _)
      refine bodyPost_ret (res_rep _ _ (w.heap.size + 1) ⟨af, al, ae⟩ rfl hf.1) rfl ?_
      exact ⟨rfl, hf.2⟩
    · have h43z : ((s : Int) != 43) = true := by simp; omega
      have e1 : repM ⟨af, al, ae⟩ M s = (⟨af, al, true⟩, lnkM M al af) := by simp [repM, h63, h43]
      rw [e1]
      clear e1
      show Calls Tryz.prog 108 #[.pointer (some ⟨r, 0, none⟩), .agg #[.int .u64 (af : Int), .int .u64 (al : Int), .bool ae], .int .u8 (s : Int)] w fun e w' => e = .returned (esV ⟨af, al, true⟩) ∧ Mch F w' r E (lnkM M al af) o ∧ Mv F F w w' r o o
      go_enter Tryz.func108, Tryz.ntmps108
      go_wp2_with (first
        | (go_at_call 118; refine kL.mono ?_; rintro e w2 ⟨rfl, hm2, hc2⟩; rw [HW.out] at hc2; have H2 := hidden hm2; have C2 := hidden hc2; have HX := hidden (HBX.out w2 hc2); have HS : Hid (Blk (w2.setCell ⟨w.heap.size, 2, none⟩ (.bool true)) w.heap.size 163 (esC ⟨af, al, true⟩)) := hidden (HX.out.1.set 2 (.bool true)); have HS2 : Hid (Blk (w2.setCell ⟨w.heap.size, 2, none⟩ (.bool true)) (w.heap.size + 1) 163 (esC ⟨0, 0, false⟩)) := hidden (HX.out.2.setOff _ _ (by simp)); have z2 : w2.cell? ⟨w.heap.size, 2, none⟩ = some (.bool ae) := HX.out.1.cell 2; have z3 := HX.out.1.frozen 2; clear kL hm2 hc2)
        | (refine wpList_load_blk rfl 163 (.tmp 4) rfl w.heap.size HS.out rfl Tryz.underlying163 rfl info52 ?_)
        | (refine wpList_store_blk (l := esC ⟨af, al, true⟩) rfl 163 (.tmp 6) (.tmp 18) rfl rfl (w.heap.size + 1) HS2.out rfl rfl rfl info52 (esC_one _) ?_))
      have hf := HFIN.out w2 (w2.setCell ⟨w.heap.size, 2, none⟩ (.bool true)) ⟨af, al, true⟩ H2.out C2.out (Chg.set ⟨w.heap.size, 2, none⟩ (.bool true) w2)
      refine bodyPost_ret (res_rep _ _ (w.heap.size + 1) ⟨af, al, true⟩ rfl hf.1) rfl ?_
      exact ⟨rfl, hf.2⟩

end Go.Proofs.YtanlgplgplncdaaGreatDoor

/-
  Patterns, purely: how many spots there are, and that a machine's sets have room in 64 bits.
-/
namespace Go.Proofs.YtanlgplgplncdaaGreatDoor
open Go
set_option linter.unusedVariables false
set_option linter.unusedSimpArgs false

mutual
def Pt.cnt : Pt → Nat
  | .grp l => rowsCnt l
  | .rep a _ => a.cnt
  | _ => 1
def rowCnt : List Pt → Nat
  | [] => 0
  | p :: t => p.cnt + rowCnt t
def rowsCnt : List (List Pt) → Nat
  | [] => 0
  | r :: t => rowCnt r + rowsCnt t
end
mutual
/-- As it is read: classes are short, signs are signs. -/
def Pt.fine : Pt → Prop
  | .cls _ l => l.length ≤ 1000 ∧ l ≠ []
  | .grp l => rowsFine l ∧ l.length ≤ 1000
  | .rep a s => a.fine ∧ (s = 42 ∨ s = 43 ∨ s = 63)
  | _ => True
def rowFine : List Pt → Prop
  | [] => True
  | p :: t => p.fine ∧ rowFine t
def rowsFine : List (List Pt) → Prop
  | [] => True
  | r :: t => rowFine r ∧ r.length ≤ 1000 ∧ rowsFine t
end
mutual
theorem Pt.add_len : ∀ (p : Pt) (m : List Sp), (p.add m).2.length = m.length + p.cnt
  | .chr c, m => by simp [Pt.add, spotM, Pt.cnt]
  | .any, m => by simp [Pt.add, spotM, Pt.cnt]
  | .cls neg l, m => by simp [Pt.add, spotM, Pt.cnt]
  | .grp l, m => by simp only [Pt.add, Pt.cnt]; exact rowsAdd_len l _ m
  | .rep a s, m => by
    simp only [Pt.add, Pt.cnt, repM]
    have := Pt.add_len a m
    split
    · exact this
    · rw [lnk_length]; exact this
theorem rowAdd_len : ∀ (r : List Pt) (e : Es) (m : List Sp), (rowAdd r e m).2.length = m.length + rowCnt r
  | [], e, m => by simp [rowAdd, rowCnt]
  | p :: t, e, m => by
    simp only [rowAdd, rowCnt]
    rw [rowAdd_len t, lnk_length, Pt.add_len p m]
    omega
theorem rowsAdd_len : ∀ (l : List (List Pt)) (e : Es) (m : List Sp), (rowsAdd l e m).2.length = m.length + rowsCnt l
  | [], e, m => by simp [rowsAdd, rowsCnt]
  | r :: t, e, m => by
    simp only [rowsAdd, rowsCnt]
    rw [rowsAdd_len t, rowAdd_len r]
    omega
end
theorem Es.b64.chain {a b : Es} (ha : a.b64) (hb : b.b64) : (a.chain b).b64 := by
  unfold Es.chain Es.b64
  constructor
  · simp only; split
    · exact or_lt ha.1 hb.1
    · exact ha.1
  · simp only; split
    · exact or_lt hb.2 ha.2
    · exact hb.2
theorem Es.b64.either {a b : Es} (ha : a.b64) (hb : b.b64) : (a.either b).b64 := ⟨or_lt ha.1 hb.1, or_lt ha.2 hb.2⟩
theorem Es.b64.zero (b : Bool) : (⟨0, 0, b⟩ : Es).b64 := ⟨by simp, by simp⟩
theorem spot_b64 (m : List Sp) (l : Sn) (h : m.length + 1 ≤ 64) : (spotM m l).1.b64 := by
  have h1 : 2 ^ m.length < 2 ^ 64 := Nat.pow_lt_pow_right (by omega) (by omega)
  have h2 : (2 : Nat) ^ 64 = 18446744073709551616 := by decide
  exact ⟨by simp only [spotM]; omega, by simp only [spotM]; omega⟩
mutual
theorem Pt.add_b64 : ∀ (p : Pt) (m : List Sp), m.length + p.cnt ≤ 64 → (p.add m).1.b64
  | .chr c, m, h => by simp only [Pt.add]; exact spot_b64 m _ (by simpa [Pt.cnt] using h)
  | .any, m, h => by simp only [Pt.add]; exact spot_b64 m _ (by simpa [Pt.cnt] using h)
  | .cls neg l, m, h => by simp only [Pt.add]; exact spot_b64 m _ (by simpa [Pt.cnt] using h)
  | .grp l, m, h => by simp only [Pt.add]; simp only [Pt.cnt] at h; exact rowsAdd_b64 l _ m h (Es.b64.zero _)
  | .rep a s, m, h => by
    simp only [Pt.add, repM]
    simp only [Pt.cnt] at h
    have := Pt.add_b64 a m h
    split <;> exact this
theorem rowAdd_b64 : ∀ (r : List Pt) (e : Es) (m : List Sp), m.length + rowCnt r ≤ 64 → e.b64 → (rowAdd r e m).1.b64
  | [], e, m, h, he => by simp only [rowAdd]; exact he
  | p :: t, e, m, h, he => by
    simp only [rowAdd]
    simp only [rowCnt] at h
    exact rowAdd_b64 t _ _ (by rw [lnk_length, Pt.add_len]; omega) (he.chain (Pt.add_b64 p m (by omega)))
theorem rowsAdd_b64 : ∀ (l : List (List Pt)) (e : Es) (m : List Sp), m.length + rowsCnt l ≤ 64 → e.b64 → (rowsAdd l e m).1.b64
  | [], e, m, h, he => by simp only [rowsAdd]; exact he
  | r :: t, e, m, h, he => by
    simp only [rowsAdd]
    simp only [rowsCnt] at h
    exact rowsAdd_b64 t _ _ (by rw [rowAdd_len]; omega) (he.either (rowAdd_b64 r _ m (by omega) (Es.b64.zero _)))
end

theorem withF_cnt : ∀ (l : Sn) (x : Nat × Nat) (ah be : Sn), (withF l x ah be).length ≤ ah.length + l.length + be.length + 1 ∧ withF l x ah be ≠ []
  | [], x, ah, be => by rw [withF]; simp; omega
  | o :: t, x, ah, be => by
    rw [withF]
    split
    · have := withF_cnt t x (ah ++ [o]) be; simp at this ⊢; exact ⟨by omega, this.2⟩
    · split
      · have := withF_cnt t x ah (be ++ [o]); simp at this ⊢; exact ⟨by omega, this.2⟩
      · have := withF_cnt t (min o.1 x.1, max o.2 x.2) ah be; simp at this ⊢; exact ⟨by omega, this.2⟩
theorem cls_cnt {S : List UInt8} : ∀ (f a : Nat) (acc : Sn), a ≤ S.length → ∀ l b, clsF S f a acc = .ok l b → l.length + a ≤ acc.length + b ∧ l ≠ []
  | 0, a, acc, ha, l, b, h => by rw [clsF] at h; cases h
  | f + 1, a, acc, ha, l, b, h => by
    rw [clsF] at h
    by_cases h93 : acc ≠ [] ∧ S[a]? = some 93
    · rw [if_pos h93] at h
      injection h with e1 e2
      subst e1
      exact ⟨by omega, h93.1⟩
    · rw [if_neg h93] at h
      cases h1 : spanF S a with
      | bad k => rw [h1] at h; cases h
      | out => rw [h1] at h; cases h
      | ok x b1 =>
        rw [h1] at h
        have k1 := span_bd ha h1
        have := cls_cnt f b1 (withS acc x) k1.2 l b h
        have k2 := withF_cnt acc x [] []
        simp at k2
        exact ⟨by have := this.1; unfold withS at this; omega, this.2⟩

theorem read_cnt (S : List UInt8) (hS : S.length ≤ 999) : ∀ (f d a : Nat), a ≤ S.length →
    (∀ l b, rowsF S f d a = .ok l b → rowsCnt l + a ≤ b ∧ rowsFine l ∧ l ≠ [] ∧ l.length + a ≤ b + 1) ∧ (∀ l b, rowF S f d a = .ok l b → rowCnt l + a ≤ b ∧ rowFine l ∧ l.length + a ≤ b) ∧
    (∀ p b, itemF S f d a = .ok p b → p.cnt + a ≤ b ∧ p.fine) ∧ (∀ p b, atomF S f d a = .ok p b → p.cnt + a ≤ b ∧ p.fine)
  | 0, d, a, ha => by
    refine ⟨fun l b h => ?_, fun l b h => ?_, fun l b h => ?_, fun l b h => ?_⟩
    · rw [rowsF] at h; cases h
    · rw [rowF] at h; cases h
    · rw [itemF] at h; cases h
    · rw [atomF] at h; cases h
  | f + 1, d, a, ha => by
    have ih := read_cnt S hS f
    have bd := read_bd S f
    obtain ⟨_, r1, i1, t1⟩ := ih d a ha
    obtain ⟨_, ⟨R1, _⟩, ⟨I1, _⟩, ⟨T1, _⟩⟩ := bd d a ha
    refine ⟨fun l b h => ?_, fun l b h => ?_, fun p b h => ?_, fun p b h => ?_⟩
    · rw [rowsF] at h
      cases h1 : rowF S f d a with
      | bad k => rw [h1] at h; cases h
      | out => rw [h1] at h; cases h
      | ok r b1 =>
        rw [h1] at h
        simp only at h
        have k1 := r1 r b1 h1
        have k2 := R1 r b1 h1
        by_cases h124 : S[b1]? = some 124
        · rw [if_pos h124] at h
          have hl := (List.getElem?_eq_some_iff.1 h124).1
          cases h2 : rowsF S f d (b1 + 1) with
          | bad k => rw [h2] at h; cases h
          | out => rw [h2] at h; cases h
          | ok t b2 =>
            rw [h2] at h
            injection h with e1 e2
            subst e1 e2
            have k3 := (ih d (b1 + 1) hl).1 t b2 h2
            simp only [rowsCnt, rowsFine]
            exact ⟨by omega, ⟨k1.2.1, by omega, k3.2.1⟩, by simp, by simp only [List.length_cons]; omega⟩
        · rw [if_neg h124] at h
          injection h with e1 e2
          subst e1 e2
          simp only [rowsCnt, rowsFine]
          exact ⟨by omega, ⟨k1.2.1, by omega, trivial⟩, by simp, by simp only [List.length_cons, List.length_nil]; omega⟩
    · rw [rowF] at h
      by_cases hst : S[a]? = none ∨ S[a]? = some 124 ∨ S[a]? = some 41
      · rw [if_pos hst] at h
        injection h with e1 e2
        subst e1 e2
        simp only [rowCnt, rowFine]
        exact ⟨by omega, trivial, by simp⟩
      · rw [if_neg hst] at h
        cases h1 : itemF S f d a with
        | bad k => rw [h1] at h; cases h
        | out => rw [h1] at h; cases h
        | ok q b1 =>
          rw [h1] at h
          simp only at h
          have k1 := i1 q b1 h1
          have k2 := I1 q b1 h1
          cases h2 : rowF S f d b1 with
          | bad k => rw [h2] at h; cases h
          | out => rw [h2] at h; cases h
          | ok t b2 =>
            rw [h2] at h
            injection h with e1 e2
            subst e1 e2
            have k3 := (ih d b1 k2.2).2.1 t b2 h2
            simp only [rowCnt, rowFine]
            exact ⟨by omega, ⟨k1.2, k3.2.1⟩, by simp only [List.length_cons]; omega⟩
    · rw [itemF] at h
      cases h1 : atomF S f d a with
      | bad k => rw [h1] at h; cases h
      | out => rw [h1] at h; cases h
      | ok q b1 =>
        rw [h1] at h
        simp only at h
        have k1 := t1 q b1 h1
        split at h
        · injection h with e1 e2
          subst e1 e2
          simp only [Pt.cnt, Pt.fine]
          exact ⟨by omega, k1.2, by simp⟩
        · split at h
          · injection h with e1 e2
            subst e1 e2
            simp only [Pt.cnt, Pt.fine]
            exact ⟨by omega, k1.2, by simp⟩
          · split at h
            · injection h with e1 e2
              subst e1 e2
              simp only [Pt.cnt, Pt.fine]
              exact ⟨by omega, k1.2, by simp⟩
            · injection h with e1 e2
              subst e1 e2
              exact k1
    · rw [atomF] at h
      by_cases h46 : S[a]? = some 46
      · rw [if_pos h46] at h
        injection h with e1 e2
        subst e1 e2
        simp only [Pt.cnt, Pt.fine]
        exact ⟨by omega, trivial⟩
      · rw [if_neg h46] at h
        by_cases h91 : S[a]? = some 91
        · rw [if_pos h91] at h
          have hl := (List.getElem?_eq_some_iff.1 h91).1
          have hle : (if S[a + 1]? = some 94 then a + 2 else a + 1) ≤ S.length ∧ a < (if S[a + 1]? = some 94 then a + 2 else a + 1) := by
            split
            · rename_i h94; have := (List.getElem?_eq_some_iff.1 h94).1; omega
            · omega
          cases h2 : clsF S (S.length + 2) (if S[a + 1]? = some 94 then a + 2 else a + 1) [] with
          | bad k => rw [h2] at h; cases h
          | out => rw [h2] at h; cases h
          | ok t b2 =>
            rw [h2] at h
            injection h with e1 e2
            subst e1 e2
            have k2 := cls_cnt _ _ [] hle.1 t b2 h2
            have k3 := (cls_bd (S.length + 2) _ [] hle.1).1 t b2 h2
            simp only [Pt.cnt, Pt.fine]
            have k4 := k2.1
            simp at k4
            exact ⟨by omega, by omega, k2.2⟩
        · rw [if_neg h91] at h
          by_cases h40 : d < 16 ∧ S[a]? = some 40
          · rw [if_pos h40] at h
            have hl := (List.getElem?_eq_some_iff.1 h40.2).1
            cases h2 : rowsF S f (d + 1) (a + 1) with
            | bad k => rw [h2] at h; cases h
            | out => rw [h2] at h; cases h
            | ok t b2 =>
              rw [h2] at h
              simp only at h
              have k2 := (ih (d + 1) (a + 1) hl).1 t b2 h2
              split at h
              · injection h with e1 e2
                subst e1 e2
                simp only [Pt.cnt, Pt.fine]
                have k5 := ((bd (d + 1) (a + 1) hl).1.1 t b2 h2).2
                exact ⟨by omega, k2.2.1, by omega⟩
              · cases h
          · rw [if_neg h40] at h
            cases h2 : charF S a with
            | bad k => rw [h2] at h; cases h
            | out => rw [h2] at h; cases h
            | ok c b2 =>
              rw [h2] at h
              injection h with e1 e2
              subst e1 e2
              have k2 := char_bd ha h2
              simp only [Pt.cnt, Pt.fine]
              exact ⟨by omega, trivial⟩

end Go.Proofs.YtanlgplgplncdaaGreatDoor
