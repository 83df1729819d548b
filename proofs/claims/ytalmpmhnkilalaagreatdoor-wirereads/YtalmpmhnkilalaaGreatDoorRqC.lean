/-
  Package wire: the closures that read fields. By genrqb19.py.
-/
import Derived.Test.YtalmpmhnkilalaaGreatDoorRqB
namespace Go.Proofs.YtalmpmhnkilalaaGreatDoor
open Go.RowKit
set_option linter.unusedVariables false

/-- What a closure that reads a field leaves. -/
structure TcP (w : World) (p K q : Nat) (ty : TypeId) (vals : List Value) (j : Nat) (kd : Kd) (st : Option (List Int)) (v : Value) (w' : World) : Prop where
  rt : Rt w' p K ((st.bind (rdV kd)).map (·.2))
  blk : Blk w' q ty (vals.set j v)
  chg : Chg (fun i => i = p ∨ i = q) w w'
  yes : ∀ x t, st.bind (rdV kd) = some (x, t) → ∃ m : FM, m.fv = x ∧ v = m.val ∧ FO w.heap.size K w' m
  one : v.oneCell' = true
theorem TkP.store {w w1 : World} {p K q : Nat} {ty : TypeId} {vals : List Value} {kd : Kd} {st : Option (List Int)} {v : Value} (h : TkP w p K kd st v w1) (hq : Blk w q ty vals) (hpq : q ≠ p) (hK : K ≠ q) (hty : ty = 26 ∨ ty = 57) (j : Nat) (h1 : v.oneCell' = true) : TcP w p K q ty vals j kd st v (w1.setCell ⟨q, j, none⟩ v) := by
  have hq1 := h.chg.blk hq (fun e => hpq e)
  have hc := Chg.set ⟨q, j, none⟩ v w1
  refine ⟨h.rt.chg hc (fun e => hpq e.symm) (fun e => hK e), hq1.set j v, (h.chg.mono (fun i _ e => .inl e)).trans hc (fun i _ e => .inr e), fun x t e => ?_, h1⟩
  obtain ⟨m, e1, e2, e3⟩ := h.yes x t e
  refine ⟨m, e1, e2, e3.chg hc (fun e => hK e) (fun i hi => ?_)⟩
  have hi : i = q := hi
  subst hi
  have ht := ty_blk hq1
  rcases hty with rfl | rfl <;>
    exact ⟨fun e => absurd (ht.ne e) (by decide), fun e => absurd (ht.ne e) (by decide), fun e => absurd (ht.ne e) (by decide), fun e => absurd (ht.ne e) (by decide), fun e => absurd (ht.ne e) (by decide), fun e => absurd (ht.ne e) (by decide)⟩

theorem take90 (p K : Nat) (st : Option (List Int)) (q bx : Nat) (vals : List Value) (w : World) (h : Rt w p K st) (hG : Gv w) (h2p : 2 ≤ p) (hq : Blk w q 26 vals) (hb : Blk w bx 93 [.pointer (some ⟨q, 0, none⟩)]) (hl : vals.length = 13) (hK : K ≠ q) :
    Calls Tryz.prog 90 #[.pointer (some ⟨p, 0, none⟩), .pointer (some ⟨bx, 0, none⟩)] w fun e w' => e = .returned (.tuple #[]) ∧ ∃ v, TcP w p K q 26 vals 1 .tx st v w' := by
  have hpq : q ≠ p := fun e => by obtain ⟨u, v, hB⟩ := h.blk; subst e; exact absurd ((ty_blk hq).ne (ty_blk hB)) (by decide)
  have hpb : bx ≠ p := fun e => by obtain ⟨u, v, hB⟩ := h.blk; subst e; exact absurd ((ty_blk hb).ne (ty_blk hB)) (by decide)
  have HC : Hid (∀ wx, wx.heap = w.heap → Below w.heap.size w wx → Calls Tryz.prog 91 #[.pointer (some ⟨p, 0, none⟩)] wx fun e w1 => ∃ v, e = .returned v ∧ (∃ d, v = .string d) ∧ TkP w p K .tx st v w1) := hidden (fun wx hx hl => call_tx p K st w wx h hG h2p hx hl)
  have HQB := hidden hq
  have HBB := hidden hb
  have cb : w.cell? ⟨bx, 0, none⟩ = some (.pointer (some ⟨q, 0, none⟩)) := hb.cell 0
  have cb' : w.drew.cell? ⟨bx, 0, none⟩ = some (.pointer (some ⟨q, 0, none⟩)) := hb.cell 0
  obtain ⟨u, hu⟩ : ∃ u, vals[1]? = some u := ⟨vals[1], by simp⟩
  have HU := hidden hu
  clear h hG hq hb hu
  go_enter Tryz.func90, Tryz.ntmps90
  go_wp2_with fail
  go_region_with (refine (HC.out w.drew rfl ((Below.refl _ _).drew)).mono ?_; rintro e w1 ⟨v, rfl, ⟨d, rfl⟩, hT⟩; have HT := hidden hT; have hq1 := hT.chg.blk HQB.out hpq; have hb1 := hT.chg.blk HBB.out hpb; have f1 := hq1.frozen 1; have c1 := hq1.cell 1; rw [HU.out] at c1; have cb1 := hb1.cell 0; simp only [List.getElem?_cons_zero] at cb1; clear hT hq1 hb1)
  all_goals
    go_wp2_with fail
    go_end0
    exact ⟨rfl, _, HT.out.store HQB.out hpq hK (by decide) 1 rfl⟩

theorem take94 (p K : Nat) (st : Option (List Int)) (q bx : Nat) (vals : List Value) (w : World) (h : Rt w p K st) (hG : Gv w) (h2p : 2 ≤ p) (hq : Blk w q 26 vals) (hb : Blk w bx 93 [.pointer (some ⟨q, 0, none⟩)]) (hl : vals.length = 13) (hK : K ≠ q) :
    Calls Tryz.prog 94 #[.pointer (some ⟨p, 0, none⟩), .pointer (some ⟨bx, 0, none⟩)] w fun e w' => e = .returned (.tuple #[]) ∧ ∃ v, TcP w p K q 26 vals 2 .tk st v w' := by
  have hpq : q ≠ p := fun e => by obtain ⟨u, v, hB⟩ := h.blk; subst e; exact absurd ((ty_blk hq).ne (ty_blk hB)) (by decide)
  have hpb : bx ≠ p := fun e => by obtain ⟨u, v, hB⟩ := h.blk; subst e; exact absurd ((ty_blk hb).ne (ty_blk hB)) (by decide)
  have HC : Hid (∀ wx, wx.heap = w.heap → Below w.heap.size w wx → Calls Tryz.prog 95 #[.pointer (some ⟨p, 0, none⟩)] wx fun e w1 => ∃ v, e = .returned v ∧ (∃ ad n c, v = .slice ad n c) ∧ TkP w p K .tk st v w1) := hidden (fun wx hx hl => call_tk p K st w wx h hG h2p hx hl)
  have HQB := hidden hq
  have HBB := hidden hb
  have cb : w.cell? ⟨bx, 0, none⟩ = some (.pointer (some ⟨q, 0, none⟩)) := hb.cell 0
  have cb' : w.drew.cell? ⟨bx, 0, none⟩ = some (.pointer (some ⟨q, 0, none⟩)) := hb.cell 0
  obtain ⟨u, hu⟩ : ∃ u, vals[2]? = some u := ⟨vals[2], by simp⟩
  have HU := hidden hu
  clear h hG hq hb hu
  go_enter Tryz.func94, Tryz.ntmps94
  go_wp2_with fail
  go_region_with (refine (HC.out w.drew rfl ((Below.refl _ _).drew)).mono ?_; rintro e w1 ⟨v, rfl, ⟨ad, n, c, rfl⟩, hT⟩; have HT := hidden hT; have hq1 := hT.chg.blk HQB.out hpq; have hb1 := hT.chg.blk HBB.out hpb; have f1 := hq1.frozen 2; have c1 := hq1.cell 2; rw [HU.out] at c1; have cb1 := hb1.cell 0; simp only [List.getElem?_cons_zero] at cb1; clear hT hq1 hb1)
  all_goals
    go_wp2_with fail
    go_end0
    exact ⟨rfl, _, HT.out.store HQB.out hpq hK (by decide) 2 rfl⟩

theorem take98 (p K : Nat) (st : Option (List Int)) (q bx : Nat) (vals : List Value) (w : World) (h : Rt w p K st) (hG : Gv w) (h2p : 2 ≤ p) (hq : Blk w q 26 vals) (hb : Blk w bx 93 [.pointer (some ⟨q, 0, none⟩)]) (hl : vals.length = 13) (hK : K ≠ q) :
    Calls Tryz.prog 98 #[.pointer (some ⟨p, 0, none⟩), .pointer (some ⟨bx, 0, none⟩)] w fun e w' => e = .returned (.tuple #[]) ∧ ∃ v, TcP w p K q 26 vals 3 .ws st v w' := by
  have hpq : q ≠ p := fun e => by obtain ⟨u, v, hB⟩ := h.blk; subst e; exact absurd ((ty_blk hq).ne (ty_blk hB)) (by decide)
  have hpb : bx ≠ p := fun e => by obtain ⟨u, v, hB⟩ := h.blk; subst e; exact absurd ((ty_blk hb).ne (ty_blk hB)) (by decide)
  have HC : Hid (∀ wx, wx.heap = w.heap → Below w.heap.size w wx → Calls Tryz.prog 99 #[.pointer (some ⟨p, 0, none⟩)] wx fun e w1 => ∃ v, e = .returned v ∧ (∃ ad n c, v = .slice ad n c) ∧ TkP w p K .ws st v w1) := hidden (fun wx hx hl => call_ws p K st w wx h hG h2p hx hl)
  have HQB := hidden hq
  have HBB := hidden hb
  have cb : w.cell? ⟨bx, 0, none⟩ = some (.pointer (some ⟨q, 0, none⟩)) := hb.cell 0
  have cb' : w.drew.cell? ⟨bx, 0, none⟩ = some (.pointer (some ⟨q, 0, none⟩)) := hb.cell 0
  obtain ⟨u, hu⟩ : ∃ u, vals[3]? = some u := ⟨vals[3], by simp⟩
  have HU := hidden hu
  clear h hG hq hb hu
  go_enter Tryz.func98, Tryz.ntmps98
  go_wp2_with fail
  go_region_with (refine (HC.out w.drew rfl ((Below.refl _ _).drew)).mono ?_; rintro e w1 ⟨v, rfl, ⟨ad, n, c, rfl⟩, hT⟩; have HT := hidden hT; have hq1 := hT.chg.blk HQB.out hpq; have hb1 := hT.chg.blk HBB.out hpb; have f1 := hq1.frozen 3; have c1 := hq1.cell 3; rw [HU.out] at c1; have cb1 := hb1.cell 0; simp only [List.getElem?_cons_zero] at cb1; clear hT hq1 hb1)
  all_goals
    go_wp2_with fail
    go_end0
    exact ⟨rfl, _, HT.out.store HQB.out hpq hK (by decide) 3 rfl⟩

theorem take102 (p K : Nat) (st : Option (List Int)) (q bx : Nat) (vals : List Value) (w : World) (h : Rt w p K st) (hG : Gv w) (h2p : 2 ≤ p) (hq : Blk w q 26 vals) (hb : Blk w bx 93 [.pointer (some ⟨q, 0, none⟩)]) (hl : vals.length = 13) (hK : K ≠ q) :
    Calls Tryz.prog 102 #[.pointer (some ⟨p, 0, none⟩), .pointer (some ⟨bx, 0, none⟩)] w fun e w' => e = .returned (.tuple #[]) ∧ ∃ v, TcP w p K q 26 vals 4 .ms st v w' := by
  have hpq : q ≠ p := fun e => by obtain ⟨u, v, hB⟩ := h.blk; subst e; exact absurd ((ty_blk hq).ne (ty_blk hB)) (by decide)
  have hpb : bx ≠ p := fun e => by obtain ⟨u, v, hB⟩ := h.blk; subst e; exact absurd ((ty_blk hb).ne (ty_blk hB)) (by decide)
  have HC : Hid (∀ wx, wx.heap = w.heap → Below w.heap.size w wx → Calls Tryz.prog 103 #[.pointer (some ⟨p, 0, none⟩)] wx fun e w1 => ∃ v, e = .returned v ∧ (∃ ad n c, v = .slice ad n c) ∧ TkP w p K .ms st v w1) := hidden (fun wx hx hl => call_ms p K st w wx h hG h2p hx hl)
  have HQB := hidden hq
  have HBB := hidden hb
  have cb : w.cell? ⟨bx, 0, none⟩ = some (.pointer (some ⟨q, 0, none⟩)) := hb.cell 0
  have cb' : w.drew.cell? ⟨bx, 0, none⟩ = some (.pointer (some ⟨q, 0, none⟩)) := hb.cell 0
  obtain ⟨u, hu⟩ : ∃ u, vals[4]? = some u := ⟨vals[4], by simp⟩
  have HU := hidden hu
  clear h hG hq hb hu
  go_enter Tryz.func102, Tryz.ntmps102
  go_wp2_with fail
  go_region_with (refine (HC.out w.drew rfl ((Below.refl _ _).drew)).mono ?_; rintro e w1 ⟨v, rfl, ⟨ad, n, c, rfl⟩, hT⟩; have HT := hidden hT; have hq1 := hT.chg.blk HQB.out hpq; have hb1 := hT.chg.blk HBB.out hpb; have f1 := hq1.frozen 4; have c1 := hq1.cell 4; rw [HU.out] at c1; have cb1 := hb1.cell 0; simp only [List.getElem?_cons_zero] at cb1; clear hT hq1 hb1)
  all_goals
    go_wp2_with fail
    go_end0
    exact ⟨rfl, _, HT.out.store HQB.out hpq hK (by decide) 4 rfl⟩

theorem take106 (p K : Nat) (st : Option (List Int)) (q bx : Nat) (vals : List Value) (w : World) (h : Rt w p K st) (hG : Gv w) (h2p : 2 ≤ p) (hq : Blk w q 26 vals) (hb : Blk w bx 93 [.pointer (some ⟨q, 0, none⟩)]) (hl : vals.length = 13) (hK : K ≠ q) :
    Calls Tryz.prog 106 #[.pointer (some ⟨p, 0, none⟩), .pointer (some ⟨bx, 0, none⟩)] w fun e w' => e = .returned (.tuple #[]) ∧ ∃ v, TcP w p K q 26 vals 5 .tm st v w' := by
  have hpq : q ≠ p := fun e => by obtain ⟨u, v, hB⟩ := h.blk; subst e; exact absurd ((ty_blk hq).ne (ty_blk hB)) (by decide)
  have hpb : bx ≠ p := fun e => by obtain ⟨u, v, hB⟩ := h.blk; subst e; exact absurd ((ty_blk hb).ne (ty_blk hB)) (by decide)
  have HC : Hid (∀ wx, wx.heap = w.heap → Below w.heap.size w wx → Calls Tryz.prog 107 #[.pointer (some ⟨p, 0, none⟩)] wx fun e w1 => ∃ v, e = .returned v ∧ (∃ n, v = .int .i64 n) ∧ TkP w p K .tm st v w1) := hidden (fun wx hx hl => call_tm p K st w wx h hG h2p hx hl)
  have HQB := hidden hq
  have HBB := hidden hb
  have cb : w.cell? ⟨bx, 0, none⟩ = some (.pointer (some ⟨q, 0, none⟩)) := hb.cell 0
  have cb' : w.drew.cell? ⟨bx, 0, none⟩ = some (.pointer (some ⟨q, 0, none⟩)) := hb.cell 0
  obtain ⟨u, hu⟩ : ∃ u, vals[5]? = some u := ⟨vals[5], by simp⟩
  have HU := hidden hu
  clear h hG hq hb hu
  go_enter Tryz.func106, Tryz.ntmps106
  go_wp2_with fail
  go_region_with (refine (HC.out w.drew rfl ((Below.refl _ _).drew)).mono ?_; rintro e w1 ⟨v, rfl, ⟨n, rfl⟩, hT⟩; have HT := hidden hT; have hq1 := hT.chg.blk HQB.out hpq; have hb1 := hT.chg.blk HBB.out hpb; have f1 := hq1.frozen 5; have c1 := hq1.cell 5; rw [HU.out] at c1; have cb1 := hb1.cell 0; simp only [List.getElem?_cons_zero] at cb1; clear hT hq1 hb1)
  all_goals
    go_wp2_with fail
    go_end0
    exact ⟨rfl, _, HT.out.store HQB.out hpq hK (by decide) 5 rfl⟩

theorem take109 (p K : Nat) (st : Option (List Int)) (q bx : Nat) (vals : List Value) (w : World) (h : Rt w p K st) (hG : Gv w) (h2p : 2 ≤ p) (hq : Blk w q 26 vals) (hb : Blk w bx 93 [.pointer (some ⟨q, 0, none⟩)]) (hl : vals.length = 13) (hK : K ≠ q) :
    Calls Tryz.prog 109 #[.pointer (some ⟨p, 0, none⟩), .pointer (some ⟨bx, 0, none⟩)] w fun e w' => e = .returned (.tuple #[]) ∧ ∃ v, TcP w p K q 26 vals 6 .tm st v w' := by
  have hpq : q ≠ p := fun e => by obtain ⟨u, v, hB⟩ := h.blk; subst e; exact absurd ((ty_blk hq).ne (ty_blk hB)) (by decide)
  have hpb : bx ≠ p := fun e => by obtain ⟨u, v, hB⟩ := h.blk; subst e; exact absurd ((ty_blk hb).ne (ty_blk hB)) (by decide)
  have HC : Hid (∀ wx, wx.heap = w.heap → Below w.heap.size w wx → Calls Tryz.prog 107 #[.pointer (some ⟨p, 0, none⟩)] wx fun e w1 => ∃ v, e = .returned v ∧ (∃ n, v = .int .i64 n) ∧ TkP w p K .tm st v w1) := hidden (fun wx hx hl => call_tm p K st w wx h hG h2p hx hl)
  have HQB := hidden hq
  have HBB := hidden hb
  have cb : w.cell? ⟨bx, 0, none⟩ = some (.pointer (some ⟨q, 0, none⟩)) := hb.cell 0
  have cb' : w.drew.cell? ⟨bx, 0, none⟩ = some (.pointer (some ⟨q, 0, none⟩)) := hb.cell 0
  obtain ⟨u, hu⟩ : ∃ u, vals[6]? = some u := ⟨vals[6], by simp⟩
  have HU := hidden hu
  clear h hG hq hb hu
  go_enter Tryz.func109, Tryz.ntmps109
  go_wp2_with fail
  go_region_with (refine (HC.out w.drew rfl ((Below.refl _ _).drew)).mono ?_; rintro e w1 ⟨v, rfl, ⟨n, rfl⟩, hT⟩; have HT := hidden hT; have hq1 := hT.chg.blk HQB.out hpq; have hb1 := hT.chg.blk HBB.out hpb; have f1 := hq1.frozen 6; have c1 := hq1.cell 6; rw [HU.out] at c1; have cb1 := hb1.cell 0; simp only [List.getElem?_cons_zero] at cb1; clear hT hq1 hb1)
  all_goals
    go_wp2_with fail
    go_end0
    exact ⟨rfl, _, HT.out.store HQB.out hpq hK (by decide) 6 rfl⟩

theorem take112 (p K : Nat) (st : Option (List Int)) (q bx : Nat) (vals : List Value) (w : World) (h : Rt w p K st) (hG : Gv w) (h2p : 2 ≤ p) (hq : Blk w q 26 vals) (hb : Blk w bx 93 [.pointer (some ⟨q, 0, none⟩)]) (hl : vals.length = 13) (hK : K ≠ q) :
    Calls Tryz.prog 112 #[.pointer (some ⟨p, 0, none⟩), .pointer (some ⟨bx, 0, none⟩)] w fun e w' => e = .returned (.tuple #[]) ∧ ∃ v, TcP w p K q 26 vals 7 .qu st v w' := by
  have hpq : q ≠ p := fun e => by obtain ⟨u, v, hB⟩ := h.blk; subst e; exact absurd ((ty_blk hq).ne (ty_blk hB)) (by decide)
  have hpb : bx ≠ p := fun e => by obtain ⟨u, v, hB⟩ := h.blk; subst e; exact absurd ((ty_blk hb).ne (ty_blk hB)) (by decide)
  have HC : Hid (∀ wx, wx.heap = w.heap → Below w.heap.size w wx → Calls Tryz.prog 113 #[.pointer (some ⟨p, 0, none⟩)] wx fun e w1 => ∃ v, e = .returned v ∧ (∃ d, v = .string d) ∧ TkP w p K .qu st v w1) := hidden (fun wx hx hl => call_qu p K st w wx h hG h2p hx hl)
  have HQB := hidden hq
  have HBB := hidden hb
  have cb : w.cell? ⟨bx, 0, none⟩ = some (.pointer (some ⟨q, 0, none⟩)) := hb.cell 0
  have cb' : w.drew.cell? ⟨bx, 0, none⟩ = some (.pointer (some ⟨q, 0, none⟩)) := hb.cell 0
  obtain ⟨u, hu⟩ : ∃ u, vals[7]? = some u := ⟨vals[7], by simp⟩
  have HU := hidden hu
  clear h hG hq hb hu
  go_enter Tryz.func112, Tryz.ntmps112
  go_wp2_with fail
  go_region_with (refine (HC.out w.drew rfl ((Below.refl _ _).drew)).mono ?_; rintro e w1 ⟨v, rfl, ⟨d, rfl⟩, hT⟩; have HT := hidden hT; have hq1 := hT.chg.blk HQB.out hpq; have hb1 := hT.chg.blk HBB.out hpb; have f1 := hq1.frozen 7; have c1 := hq1.cell 7; rw [HU.out] at c1; have cb1 := hb1.cell 0; simp only [List.getElem?_cons_zero] at cb1; clear hT hq1 hb1)
  all_goals
    go_wp2_with fail
    go_end0
    exact ⟨rfl, _, HT.out.store HQB.out hpq hK (by decide) 7 rfl⟩

theorem take115 (p K : Nat) (st : Option (List Int)) (q bx : Nat) (vals : List Value) (w : World) (h : Rt w p K st) (hG : Gv w) (h2p : 2 ≤ p) (hq : Blk w q 26 vals) (hb : Blk w bx 93 [.pointer (some ⟨q, 0, none⟩)]) (hl : vals.length = 13) (hK : K ≠ q) :
    Calls Tryz.prog 115 #[.pointer (some ⟨p, 0, none⟩), .pointer (some ⟨bx, 0, none⟩)] w fun e w' => e = .returned (.tuple #[]) ∧ ∃ v, TcP w p K q 26 vals 8 .tx st v w' := by
  have hpq : q ≠ p := fun e => by obtain ⟨u, v, hB⟩ := h.blk; subst e; exact absurd ((ty_blk hq).ne (ty_blk hB)) (by decide)
  have hpb : bx ≠ p := fun e => by obtain ⟨u, v, hB⟩ := h.blk; subst e; exact absurd ((ty_blk hb).ne (ty_blk hB)) (by decide)
  have HC : Hid (∀ wx, wx.heap = w.heap → Below w.heap.size w wx → Calls Tryz.prog 91 #[.pointer (some ⟨p, 0, none⟩)] wx fun e w1 => ∃ v, e = .returned v ∧ (∃ d, v = .string d) ∧ TkP w p K .tx st v w1) := hidden (fun wx hx hl => call_tx p K st w wx h hG h2p hx hl)
  have HQB := hidden hq
  have HBB := hidden hb
  have cb : w.cell? ⟨bx, 0, none⟩ = some (.pointer (some ⟨q, 0, none⟩)) := hb.cell 0
  have cb' : w.drew.cell? ⟨bx, 0, none⟩ = some (.pointer (some ⟨q, 0, none⟩)) := hb.cell 0
  obtain ⟨u, hu⟩ : ∃ u, vals[8]? = some u := ⟨vals[8], by simp⟩
  have HU := hidden hu
  clear h hG hq hb hu
  go_enter Tryz.func115, Tryz.ntmps115
  go_wp2_with fail
  go_region_with (refine (HC.out w.drew rfl ((Below.refl _ _).drew)).mono ?_; rintro e w1 ⟨v, rfl, ⟨d, rfl⟩, hT⟩; have HT := hidden hT; have hq1 := hT.chg.blk HQB.out hpq; have hb1 := hT.chg.blk HBB.out hpb; have f1 := hq1.frozen 8; have c1 := hq1.cell 8; rw [HU.out] at c1; have cb1 := hb1.cell 0; simp only [List.getElem?_cons_zero] at cb1; clear hT hq1 hb1)
  all_goals
    go_wp2_with fail
    go_end0
    exact ⟨rfl, _, HT.out.store HQB.out hpq hK (by decide) 8 rfl⟩

theorem take118 (p K : Nat) (st : Option (List Int)) (q bx : Nat) (vals : List Value) (w : World) (h : Rt w p K st) (hG : Gv w) (h2p : 2 ≤ p) (hq : Blk w q 26 vals) (hb : Blk w bx 93 [.pointer (some ⟨q, 0, none⟩)]) (hl : vals.length = 13) (hK : K ≠ q) :
    Calls Tryz.prog 118 #[.pointer (some ⟨p, 0, none⟩), .pointer (some ⟨bx, 0, none⟩)] w fun e w' => e = .returned (.tuple #[]) ∧ ∃ v, TcP w p K q 26 vals 9 .am st v w' := by
  have hpq : q ≠ p := fun e => by obtain ⟨u, v, hB⟩ := h.blk; subst e; exact absurd ((ty_blk hq).ne (ty_blk hB)) (by decide)
  have hpb : bx ≠ p := fun e => by obtain ⟨u, v, hB⟩ := h.blk; subst e; exact absurd ((ty_blk hb).ne (ty_blk hB)) (by decide)
  have HC : Hid (∀ wx, wx.heap = w.heap → Below w.heap.size w wx → Calls Tryz.prog 119 #[.pointer (some ⟨p, 0, none⟩)] wx fun e w1 => ∃ v, e = .returned v ∧ (∃ n, v = .int .i64 n) ∧ TkP w p K .am st v w1) := hidden (fun wx hx hl => call_am p K st w wx h hG h2p hx hl)
  have HQB := hidden hq
  have HBB := hidden hb
  have cb : w.cell? ⟨bx, 0, none⟩ = some (.pointer (some ⟨q, 0, none⟩)) := hb.cell 0
  have cb' : w.drew.cell? ⟨bx, 0, none⟩ = some (.pointer (some ⟨q, 0, none⟩)) := hb.cell 0
  obtain ⟨u, hu⟩ : ∃ u, vals[9]? = some u := ⟨vals[9], by simp⟩
  have HU := hidden hu
  clear h hG hq hb hu
  go_enter Tryz.func118, Tryz.ntmps118
  go_wp2_with fail
  go_region_with (refine (HC.out w.drew rfl ((Below.refl _ _).drew)).mono ?_; rintro e w1 ⟨v, rfl, ⟨n, rfl⟩, hT⟩; have HT := hidden hT; have hq1 := hT.chg.blk HQB.out hpq; have hb1 := hT.chg.blk HBB.out hpb; have f1 := hq1.frozen 9; have c1 := hq1.cell 9; rw [HU.out] at c1; have cb1 := hb1.cell 0; simp only [List.getElem?_cons_zero] at cb1; clear hT hq1 hb1)
  all_goals
    go_wp2_with fail
    go_end0
    exact ⟨rfl, _, HT.out.store HQB.out hpq hK (by decide) 9 rfl⟩

theorem take121 (p K : Nat) (st : Option (List Int)) (q bx : Nat) (vals : List Value) (w : World) (h : Rt w p K st) (hG : Gv w) (h2p : 2 ≤ p) (hq : Blk w q 26 vals) (hb : Blk w bx 93 [.pointer (some ⟨q, 0, none⟩)]) (hl : vals.length = 13) (hK : K ≠ q) :
    Calls Tryz.prog 121 #[.pointer (some ⟨p, 0, none⟩), .pointer (some ⟨bx, 0, none⟩)] w fun e w' => e = .returned (.tuple #[]) ∧ ∃ v, TcP w p K q 26 vals 10 .am st v w' := by
  have hpq : q ≠ p := fun e => by obtain ⟨u, v, hB⟩ := h.blk; subst e; exact absurd ((ty_blk hq).ne (ty_blk hB)) (by decide)
  have hpb : bx ≠ p := fun e => by obtain ⟨u, v, hB⟩ := h.blk; subst e; exact absurd ((ty_blk hb).ne (ty_blk hB)) (by decide)
  have HC : Hid (∀ wx, wx.heap = w.heap → Below w.heap.size w wx → Calls Tryz.prog 119 #[.pointer (some ⟨p, 0, none⟩)] wx fun e w1 => ∃ v, e = .returned v ∧ (∃ n, v = .int .i64 n) ∧ TkP w p K .am st v w1) := hidden (fun wx hx hl => call_am p K st w wx h hG h2p hx hl)
  have HQB := hidden hq
  have HBB := hidden hb
  have cb : w.cell? ⟨bx, 0, none⟩ = some (.pointer (some ⟨q, 0, none⟩)) := hb.cell 0
  have cb' : w.drew.cell? ⟨bx, 0, none⟩ = some (.pointer (some ⟨q, 0, none⟩)) := hb.cell 0
  obtain ⟨u, hu⟩ : ∃ u, vals[10]? = some u := ⟨vals[10], by simp⟩
  have HU := hidden hu
  clear h hG hq hb hu
  go_enter Tryz.func121, Tryz.ntmps121
  go_wp2_with fail
  go_region_with (refine (HC.out w.drew rfl ((Below.refl _ _).drew)).mono ?_; rintro e w1 ⟨v, rfl, ⟨n, rfl⟩, hT⟩; have HT := hidden hT; have hq1 := hT.chg.blk HQB.out hpq; have hb1 := hT.chg.blk HBB.out hpb; have f1 := hq1.frozen 10; have c1 := hq1.cell 10; rw [HU.out] at c1; have cb1 := hb1.cell 0; simp only [List.getElem?_cons_zero] at cb1; clear hT hq1 hb1)
  all_goals
    go_wp2_with fail
    go_end0
    exact ⟨rfl, _, HT.out.store HQB.out hpq hK (by decide) 10 rfl⟩

theorem take123 (p K : Nat) (st : Option (List Int)) (q bx : Nat) (vals : List Value) (w : World) (h : Rt w p K st) (hG : Gv w) (h2p : 2 ≤ p) (hq : Blk w q 26 vals) (hb : Blk w bx 93 [.pointer (some ⟨q, 0, none⟩)]) (hl : vals.length = 13) (hK : K ≠ q) :
    Calls Tryz.prog 123 #[.pointer (some ⟨p, 0, none⟩), .pointer (some ⟨bx, 0, none⟩)] w fun e w' => e = .returned (.tuple #[]) ∧ ∃ v, TcP w p K q 26 vals 11 .am st v w' := by
  have hpq : q ≠ p := fun e => by obtain ⟨u, v, hB⟩ := h.blk; subst e; exact absurd ((ty_blk hq).ne (ty_blk hB)) (by decide)
  have hpb : bx ≠ p := fun e => by obtain ⟨u, v, hB⟩ := h.blk; subst e; exact absurd ((ty_blk hb).ne (ty_blk hB)) (by decide)
  have HC : Hid (∀ wx, wx.heap = w.heap → Below w.heap.size w wx → Calls Tryz.prog 119 #[.pointer (some ⟨p, 0, none⟩)] wx fun e w1 => ∃ v, e = .returned v ∧ (∃ n, v = .int .i64 n) ∧ TkP w p K .am st v w1) := hidden (fun wx hx hl => call_am p K st w wx h hG h2p hx hl)
  have HQB := hidden hq
  have HBB := hidden hb
  have cb : w.cell? ⟨bx, 0, none⟩ = some (.pointer (some ⟨q, 0, none⟩)) := hb.cell 0
  have cb' : w.drew.cell? ⟨bx, 0, none⟩ = some (.pointer (some ⟨q, 0, none⟩)) := hb.cell 0
  obtain ⟨u, hu⟩ : ∃ u, vals[11]? = some u := ⟨vals[11], by simp⟩
  have HU := hidden hu
  clear h hG hq hb hu
  go_enter Tryz.func123, Tryz.ntmps123
  go_wp2_with fail
  go_region_with (refine (HC.out w.drew rfl ((Below.refl _ _).drew)).mono ?_; rintro e w1 ⟨v, rfl, ⟨n, rfl⟩, hT⟩; have HT := hidden hT; have hq1 := hT.chg.blk HQB.out hpq; have hb1 := hT.chg.blk HBB.out hpb; have f1 := hq1.frozen 11; have c1 := hq1.cell 11; rw [HU.out] at c1; have cb1 := hb1.cell 0; simp only [List.getElem?_cons_zero] at cb1; clear hT hq1 hb1)
  all_goals
    go_wp2_with fail
    go_end0
    exact ⟨rfl, _, HT.out.store HQB.out hpq hK (by decide) 11 rfl⟩

theorem take125 (p K : Nat) (st : Option (List Int)) (q bx : Nat) (vals : List Value) (w : World) (h : Rt w p K st) (hG : Gv w) (h2p : 2 ≤ p) (hq : Blk w q 26 vals) (hb : Blk w bx 93 [.pointer (some ⟨q, 0, none⟩)]) (hl : vals.length = 13) (hK : K ≠ q) :
    Calls Tryz.prog 125 #[.pointer (some ⟨p, 0, none⟩), .pointer (some ⟨bx, 0, none⟩)] w fun e w' => e = .returned (.tuple #[]) ∧ ∃ v, TcP w p K q 26 vals 12 .tk st v w' := by
  have hpq : q ≠ p := fun e => by obtain ⟨u, v, hB⟩ := h.blk; subst e; exact absurd ((ty_blk hq).ne (ty_blk hB)) (by decide)
  have hpb : bx ≠ p := fun e => by obtain ⟨u, v, hB⟩ := h.blk; subst e; exact absurd ((ty_blk hb).ne (ty_blk hB)) (by decide)
  have HC : Hid (∀ wx, wx.heap = w.heap → Below w.heap.size w wx → Calls Tryz.prog 95 #[.pointer (some ⟨p, 0, none⟩)] wx fun e w1 => ∃ v, e = .returned v ∧ (∃ ad n c, v = .slice ad n c) ∧ TkP w p K .tk st v w1) := hidden (fun wx hx hl => call_tk p K st w wx h hG h2p hx hl)
  have HQB := hidden hq
  have HBB := hidden hb
  have cb : w.cell? ⟨bx, 0, none⟩ = some (.pointer (some ⟨q, 0, none⟩)) := hb.cell 0
  have cb' : w.drew.cell? ⟨bx, 0, none⟩ = some (.pointer (some ⟨q, 0, none⟩)) := hb.cell 0
  obtain ⟨u, hu⟩ : ∃ u, vals[12]? = some u := ⟨vals[12], by simp⟩
  have HU := hidden hu
  clear h hG hq hb hu
  go_enter Tryz.func125, Tryz.ntmps125
  go_wp2_with fail
  go_region_with (refine (HC.out w.drew rfl ((Below.refl _ _).drew)).mono ?_; rintro e w1 ⟨v, rfl, ⟨ad, n, c, rfl⟩, hT⟩; have HT := hidden hT; have hq1 := hT.chg.blk HQB.out hpq; have hb1 := hT.chg.blk HBB.out hpb; have f1 := hq1.frozen 12; have c1 := hq1.cell 12; rw [HU.out] at c1; have cb1 := hb1.cell 0; simp only [List.getElem?_cons_zero] at cb1; clear hT hq1 hb1)
  all_goals
    go_wp2_with fail
    go_end0
    exact ⟨rfl, _, HT.out.store HQB.out hpq hK (by decide) 12 rfl⟩

theorem take132 (p K : Nat) (st : Option (List Int)) (q bx : Nat) (vals : List Value) (w : World) (h : Rt w p K st) (hG : Gv w) (h2p : 2 ≤ p) (hq : Blk w q 57 vals) (hb : Blk w bx 103 [.pointer (some ⟨q, 0, none⟩)]) (hl : vals.length = 6) (hK : K ≠ q) :
    Calls Tryz.prog 132 #[.pointer (some ⟨p, 0, none⟩), .pointer (some ⟨bx, 0, none⟩)] w fun e w' => e = .returned (.tuple #[]) ∧ ∃ v, TcP w p K q 57 vals 2 .se st v w' := by
  have hpq : q ≠ p := fun e => by obtain ⟨u, v, hB⟩ := h.blk; subst e; exact absurd ((ty_blk hq).ne (ty_blk hB)) (by decide)
  have hpb : bx ≠ p := fun e => by obtain ⟨u, v, hB⟩ := h.blk; subst e; exact absurd ((ty_blk hb).ne (ty_blk hB)) (by decide)
  have HC : Hid (∀ wx, wx.heap = w.heap → Below w.heap.size w wx → Calls Tryz.prog 133 #[.pointer (some ⟨p, 0, none⟩)] wx fun e w1 => ∃ v, e = .returned v ∧ (∃ ad n c, v = .slice ad n c) ∧ TkP w p K .se st v w1) := hidden (fun wx hx hl => call_se p K st w wx h hG h2p hx hl)
  have HQB := hidden hq
  have HBB := hidden hb
  have cb : w.cell? ⟨bx, 0, none⟩ = some (.pointer (some ⟨q, 0, none⟩)) := hb.cell 0
  have cb' : w.drew.cell? ⟨bx, 0, none⟩ = some (.pointer (some ⟨q, 0, none⟩)) := hb.cell 0
  obtain ⟨u, hu⟩ : ∃ u, vals[2]? = some u := ⟨vals[2], by simp⟩
  have HU := hidden hu
  clear h hG hq hb hu
  go_enter Tryz.func132, Tryz.ntmps132
  go_wp2_with fail
  go_region_with (refine (HC.out w.drew rfl ((Below.refl _ _).drew)).mono ?_; rintro e w1 ⟨v, rfl, ⟨ad, n, c, rfl⟩, hT⟩; have HT := hidden hT; have hq1 := hT.chg.blk HQB.out hpq; have hb1 := hT.chg.blk HBB.out hpb; have f1 := hq1.frozen 2; have c1 := hq1.cell 2; rw [HU.out] at c1; have cb1 := hb1.cell 0; simp only [List.getElem?_cons_zero] at cb1; clear hT hq1 hb1)
  all_goals
    go_wp2_with fail
    go_end0
    exact ⟨rfl, _, HT.out.store HQB.out hpq hK (by decide) 2 rfl⟩

theorem take136 (p K : Nat) (st : Option (List Int)) (q bx : Nat) (vals : List Value) (w : World) (h : Rt w p K st) (hG : Gv w) (h2p : 2 ≤ p) (hq : Blk w q 57 vals) (hb : Blk w bx 103 [.pointer (some ⟨q, 0, none⟩)]) (hl : vals.length = 6) (hK : K ≠ q) :
    Calls Tryz.prog 136 #[.pointer (some ⟨p, 0, none⟩), .pointer (some ⟨bx, 0, none⟩)] w fun e w' => e = .returned (.tuple #[]) ∧ ∃ v, TcP w p K q 57 vals 3 .ro st v w' := by
  have hpq : q ≠ p := fun e => by obtain ⟨u, v, hB⟩ := h.blk; subst e; exact absurd ((ty_blk hq).ne (ty_blk hB)) (by decide)
  have hpb : bx ≠ p := fun e => by obtain ⟨u, v, hB⟩ := h.blk; subst e; exact absurd ((ty_blk hb).ne (ty_blk hB)) (by decide)
  have HC : Hid (∀ wx, wx.heap = w.heap → Below w.heap.size w wx → Calls Tryz.prog 137 #[.pointer (some ⟨p, 0, none⟩)] wx fun e w1 => ∃ v, e = .returned v ∧ (∃ ad n c, v = .slice ad n c) ∧ TkP w p K .ro st v w1) := hidden (fun wx hx hl => call_ro p K st w wx h hG h2p hx hl)
  have HQB := hidden hq
  have HBB := hidden hb
  have cb : w.cell? ⟨bx, 0, none⟩ = some (.pointer (some ⟨q, 0, none⟩)) := hb.cell 0
  have cb' : w.drew.cell? ⟨bx, 0, none⟩ = some (.pointer (some ⟨q, 0, none⟩)) := hb.cell 0
  obtain ⟨u, hu⟩ : ∃ u, vals[3]? = some u := ⟨vals[3], by simp⟩
  have HU := hidden hu
  clear h hG hq hb hu
  go_enter Tryz.func136, Tryz.ntmps136
  go_wp2_with fail
  go_region_with (refine (HC.out w.drew rfl ((Below.refl _ _).drew)).mono ?_; rintro e w1 ⟨v, rfl, ⟨ad, n, c, rfl⟩, hT⟩; have HT := hidden hT; have hq1 := hT.chg.blk HQB.out hpq; have hb1 := hT.chg.blk HBB.out hpb; have f1 := hq1.frozen 3; have c1 := hq1.cell 3; rw [HU.out] at c1; have cb1 := hb1.cell 0; simp only [List.getElem?_cons_zero] at cb1; clear hT hq1 hb1)
  all_goals
    go_wp2_with fail
    go_end0
    exact ⟨rfl, _, HT.out.store HQB.out hpq hK (by decide) 3 rfl⟩

theorem take140 (p K : Nat) (st : Option (List Int)) (q bx : Nat) (vals : List Value) (w : World) (h : Rt w p K st) (hG : Gv w) (h2p : 2 ≤ p) (hq : Blk w q 57 vals) (hb : Blk w bx 103 [.pointer (some ⟨q, 0, none⟩)]) (hl : vals.length = 6) (hK : K ≠ q) :
    Calls Tryz.prog 140 #[.pointer (some ⟨p, 0, none⟩), .pointer (some ⟨bx, 0, none⟩)] w fun e w' => e = .returned (.tuple #[]) ∧ ∃ v, TcP w p K q 57 vals 4 .nu st v w' := by
  have hpq : q ≠ p := fun e => by obtain ⟨u, v, hB⟩ := h.blk; subst e; exact absurd ((ty_blk hq).ne (ty_blk hB)) (by decide)
  have hpb : bx ≠ p := fun e => by obtain ⟨u, v, hB⟩ := h.blk; subst e; exact absurd ((ty_blk hb).ne (ty_blk hB)) (by decide)
  have HC : Hid (∀ wx, wx.heap = w.heap → Below w.heap.size w wx → Calls Tryz.prog 141 #[.pointer (some ⟨p, 0, none⟩)] wx fun e w1 => ∃ v, e = .returned v ∧ (∃ n, v = .int .i64 n) ∧ TkP w p K .nu st v w1) := hidden (fun wx hx hl => call_nu p K st w wx h hG h2p hx hl)
  have HQB := hidden hq
  have HBB := hidden hb
  have cb : w.cell? ⟨bx, 0, none⟩ = some (.pointer (some ⟨q, 0, none⟩)) := hb.cell 0
  have cb' : w.drew.cell? ⟨bx, 0, none⟩ = some (.pointer (some ⟨q, 0, none⟩)) := hb.cell 0
  obtain ⟨u, hu⟩ : ∃ u, vals[4]? = some u := ⟨vals[4], by simp⟩
  have HU := hidden hu
  clear h hG hq hb hu
  go_enter Tryz.func140, Tryz.ntmps140
  go_wp2_with fail
  go_region_with (refine (HC.out w.drew rfl ((Below.refl _ _).drew)).mono ?_; rintro e w1 ⟨v, rfl, ⟨n, rfl⟩, hT⟩; have HT := hidden hT; have hq1 := hT.chg.blk HQB.out hpq; have hb1 := hT.chg.blk HBB.out hpb; have f1 := hq1.frozen 4; have c1 := hq1.cell 4; rw [HU.out] at c1; have cb1 := hb1.cell 0; simp only [List.getElem?_cons_zero] at cb1; clear hT hq1 hb1)
  all_goals
    go_wp2_with fail
    go_end0
    exact ⟨rfl, _, HT.out.store HQB.out hpq hK (by decide) 4 rfl⟩

theorem take144 (p K : Nat) (st : Option (List Int)) (q bx : Nat) (vals : List Value) (w : World) (h : Rt w p K st) (hG : Gv w) (h2p : 2 ≤ p) (hq : Blk w q 57 vals) (hb : Blk w bx 103 [.pointer (some ⟨q, 0, none⟩)]) (hl : vals.length = 6) (hK : K ≠ q) :
    Calls Tryz.prog 144 #[.pointer (some ⟨p, 0, none⟩), .pointer (some ⟨bx, 0, none⟩)] w fun e w' => e = .returned (.tuple #[]) ∧ ∃ v, TcP w p K q 57 vals 5 .ts st v w' := by
  have hpq : q ≠ p := fun e => by obtain ⟨u, v, hB⟩ := h.blk; subst e; exact absurd ((ty_blk hq).ne (ty_blk hB)) (by decide)
  have hpb : bx ≠ p := fun e => by obtain ⟨u, v, hB⟩ := h.blk; subst e; exact absurd ((ty_blk hb).ne (ty_blk hB)) (by decide)
  have HC : Hid (∀ wx, wx.heap = w.heap → Below w.heap.size w wx → Calls Tryz.prog 145 #[.pointer (some ⟨p, 0, none⟩)] wx fun e w1 => ∃ v, e = .returned v ∧ (∃ ad n c, v = .slice ad n c) ∧ TkP w p K .ts st v w1) := hidden (fun wx hx hl => call_ts p K st w wx h hG h2p hx hl)
  have HQB := hidden hq
  have HBB := hidden hb
  have cb : w.cell? ⟨bx, 0, none⟩ = some (.pointer (some ⟨q, 0, none⟩)) := hb.cell 0
  have cb' : w.drew.cell? ⟨bx, 0, none⟩ = some (.pointer (some ⟨q, 0, none⟩)) := hb.cell 0
  obtain ⟨u, hu⟩ : ∃ u, vals[5]? = some u := ⟨vals[5], by simp⟩
  have HU := hidden hu
  clear h hG hq hb hu
  go_enter Tryz.func144, Tryz.ntmps144
  go_wp2_with fail
  go_region_with (refine (HC.out w.drew rfl ((Below.refl _ _).drew)).mono ?_; rintro e w1 ⟨v, rfl, ⟨ad, n, c, rfl⟩, hT⟩; have HT := hidden hT; have hq1 := hT.chg.blk HQB.out hpq; have hb1 := hT.chg.blk HBB.out hpb; have f1 := hq1.frozen 5; have c1 := hq1.cell 5; rw [HU.out] at c1; have cb1 := hb1.cell 0; simp only [List.getElem?_cons_zero] at cb1; clear hT hq1 hb1)
  all_goals
    go_wp2_with fail
    go_end0
    exact ⟨rfl, _, HT.out.store HQB.out hpq hK (by decide) 5 rfl⟩

end Go.Proofs.YtalmpmhnkilalaaGreatDoor
