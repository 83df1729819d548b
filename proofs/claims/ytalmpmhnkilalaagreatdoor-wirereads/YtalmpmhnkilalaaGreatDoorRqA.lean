/-
  Package wire: a field in memory, and the closures that write fields. By genrqa19.py.
-/
import Derived.Test.YtalmpmhnkilalaaGreatDoorRrF
import Derived.Test.YtalmpmhnkilalaaGreatDoorRwC
namespace Go.Proofs.YtalmpmhnkilalaaGreatDoor
open Go.RowKit
set_option linter.unusedVariables false
set_option linter.unusedSimpArgs false

/-- A field, and where it lies. -/
inductive FM where
  | tx (d : ByteArray)
  | qu (d : ByteArray)
  | tk (ad : Option Addr) (n c : Nat) (l : List Int)
  | ws (ad : Option Addr) (c : Nat) (xs : List Ser)
  | ms (ad : Option Addr) (c : Nat) (l : List Ma)
  | tm (n : Int)
  | am (n : Int)
  | se (ad : Option Addr) (c : Nat) (xs : List Ser)
  | ro (ad : Option Addr) (c : Nat) (xs : List Ror)
  | nu (n : Int)
  | ts (ad : Option Addr) (c : Nat) (l : List ByteArray)
def FM.val : FM → Value
  | .tx d => .string d | .qu d => .string d | .tk ad n c _ => .slice ad n c | .ws ad c xs => .slice ad xs.length c | .ms ad c l => .slice ad l.length c | .tm n => .int .i64 n | .am n => .int .i64 n
  | .se ad c xs => .slice ad xs.length c | .ro ad c xs => .slice ad xs.length c | .nu n => .int .i64 n | .ts ad c l => .slice ad l.length c
def FM.fv : FM → FV
  | .tx d => .tx d | .qu d => .qu d | .tk _ _ _ l => .tk l | .ws _ _ xs => .ws (xs.map prS) | .ms _ _ l => .ms l | .tm n => .tm n | .am n => .am n
  | .se _ _ xs => .se (xs.map prS) | .ro _ _ xs => .ro (xs.map prR) | .nu n => .nu n | .ts _ _ l => .ts l
/-- A series' lists in memory. -/
def SerN (w : World) (x : Ser) : Prop := Es w x.la 2 (x.L.map La.cells) ∧ x.L.length = x.ln ∧ x.ln ≤ 9223372036854775807 ∧ Ss w x.sa x.S ∧ x.S.length = x.sn ∧ x.sn ≤ 281474976710656
theorem SerN.m {w : World} {x : Ser} (h : SerN w x) (hG : Gv w) : SerM w x := ⟨h.1, h.2.1, h.2.2.1, h.2.2.2.1, h.2.2.2.2.1, h.2.2.2.2.2, hG⟩
def I64n (n : Int) : Prop := -9223372036854775808 ≤ n ∧ n ≤ 9223372036854775807
def FM.mem (w : World) : FM → Prop
  | .tx _ => True | .qu _ => True | .tk ad n c l => Sl w ad n l ∧ n ≤ 9223372036854775807 | .ws ad c xs => xs.length ≤ 9223372036854775807 ∧ Es w ad 2 (xs.map Ser.cells) ∧ ∀ x ∈ xs, SerN w x
  | .ms ad c l => l.length ≤ 9223372036854775807 ∧ Es w ad 3 (l.map Ma.cells) ∧ ∀ x ∈ l, I64n x.op
  | .tm n => I64n n | .am n => I64n n | .se ad c xs => xs.length ≤ 9223372036854775807 ∧ Es w ad 2 (xs.map Ser.cells) ∧ ∀ x ∈ xs, SerN w x
  | .ro ad c xs => xs.length ≤ 9223372036854775807 ∧ Es w ad 2 (xs.map Ror.cells) ∧ ∀ x ∈ xs, RorM w x
  | .nu n => I64n n | .ts ad c l => l.length ≤ 9223372036854775807 ∧ Es w ad 1 (l.map (fun d => [Value.string d]))
theorem Es.later {w w' : World} {ad : Option Addr} {k : Nat} {L : List (List Value)} (h : Es w ad k L) (hb : Below w.heap.size w w') : Es w' ad k L := h.chg (Chg.of_below (F := fun _ => False) hb) (fun _ _ _ e => e)
theorem SerN.later {w w' : World} {x : Ser} (h : SerN w x) (hb : Below w.heap.size w w') : SerN w' x := ⟨h.1.later hb, h.2.1, h.2.2.1, h.2.2.2.1.later hb, h.2.2.2.2.1, h.2.2.2.2.2⟩
theorem RorM.later {w w' : World} {x : Ror} (h : RorM w x) (hb : Below w.heap.size w w') : RorM w' x := ⟨h.1.later hb, h.2.1, h.2.2.1, h.2.2.2⟩
theorem FM.mem.later {w w' : World} {m : FM} (h : m.mem w) (hb : Below w.heap.size w w') : m.mem w' := by
  cases m with
  | tk ad n c l => exact ⟨(Chg.of_below (F := fun _ => False) hb).sl h.1 (fun _ _ _ e => e), h.2⟩
  | ws ad c xs => exact ⟨h.1, h.2.1.later hb, fun x hx => (h.2.2 x hx).later hb⟩
  | se ad c xs => exact ⟨h.1, h.2.1.later hb, fun x hx => (h.2.2 x hx).later hb⟩
  | ms ad c l => exact ⟨h.1, h.2.1.later hb, h.2.2⟩
  | ro ad c xs => exact ⟨h.1, h.2.1.later hb, fun x hx => (h.2.2 x hx).later hb⟩
  | ts ad c l => exact ⟨h.1, h.2.later hb⟩
  | _ => exact h
theorem FM.mem.good {w : World} {m : FM} (h : m.mem w) : Good m.fv := by
  cases m with
  | tk ad n c l => exact h.1.byte
  | ws ad c xs =>
    intro x hx y hy
    obtain ⟨z, hz, rfl⟩ := List.mem_map.1 hx
    exact (h.2.2 z hz).2.2.2.1.sz y hy
  | se ad c xs =>
    intro x hx y hy
    obtain ⟨z, hz, rfl⟩ := List.mem_map.1 hx
    exact (h.2.2 z hz).2.2.2.1.sz y hy
  | tm n => exact h
  | am n => exact h
  | nu n => exact h
  | _ => trivial
/-- What must not change under a writer. -/
theorem Wt.keepBlk {w w' : World} {p : Nat} {rb : Option Nat} {s : Ws} (h : Wt w p rb s) (hc : Chg (fpt p rb) w w') {g : Nat} {ty : TypeId} {l : List Value} (hB : Blk w g ty l) (h1 : ty ≠ 72) (h2 : ty ≠ 5) : Blk w' g ty l := by
  refine hc.blk hB (fun e => ?_)
  obtain ⟨v, h⟩ := h
  rcases e with rfl | e
  · exact h1 ((ty_blk hB).ne (ty_blk h.blk))
  · exact h2 ((ty_blk hB).ne (ty_owns h.row (by rw [h.own]; exact e)))

theorem eachS_map {α β : Type} (pr : α → β) (st : Ws → α → Ws) (st' : Ws → β → Ws) (h : ∀ s x, st s x = st' s (pr x)) (l : List α) (s : Ws) : eachS st l s = eachS st' (l.map pr) s := by
  unfold eachS
  rw [List.foldl_map]
  congr 1
  funext s x
  rw [h]
theorem each_map {α β : Type} (pr : α → β) (st : Ws → α → Ws) (st' : Ws → β → Ws) (h : ∀ s x, st s x = st' s (pr x)) (m : Nat) (l : List α) (s : Ws) : s.each m st l = s.each m st' (l.map pr) := by
  unfold Ws.each
  rw [eachS_map pr st st' h, List.length_map]
theorem es_te (l : List ByteArray) : (l.map (fun d => Te.mk d)).map Te.cells = l.map (fun d => [Value.string d]) := by rw [List.map_map]; rfl

theorem put88 (p : Nat) (rb : Option Nat) (s : Ws) (q bx : Nat) (vals : List Value) (m : FM) (w : World) (h : Wt w p rb s) (hq : Blk w q 26 vals) (hb : Blk w bx 93 [.pointer (some ⟨q, 0, none⟩)]) (hv : vals[1]? = some m.val) (hk : m.fv.kd = .tx) (hm : ∀ wx, Chg (fpt p rb) w wx → m.mem wx ∧ Gv wx) :
    Calls Tryz.prog 88 #[.pointer (some ⟨p, 0, none⟩), .pointer (some ⟨bx, 0, none⟩)] w (WQ w p rb (putV m.fv s)) := by
  obtain ⟨d, rfl⟩ : ∃ d, m = .tx d := by
    cases m <;> first | (cases hk; done) | exact ⟨_, rfl⟩
  have HM := hidden hm
  have HW := hidden h
  have cv : w.cell? ⟨q, 1, none⟩ = some (.string d) := by rw [hq.cell, hv]; rfl
  have cb : w.cell? ⟨bx, 0, none⟩ = some (.pointer (some ⟨q, 0, none⟩)) := hb.cell 0
  clear hk hm h hq hb hv
  go_enter Tryz.func88, Tryz.ntmps88
  go_wp2_with fail
  refine (textW p rb s d w HW.out).mono ?_
  rintro e w3 hQ
  have HQ := hidden hQ
  obtain ⟨rfl, hQ⟩ := hQ
  clear hQ
  go_wp2_with fail
  go_end0
  exact HQ.out

theorem put92 (p : Nat) (rb : Option Nat) (s : Ws) (q bx : Nat) (vals : List Value) (m : FM) (w : World) (h : Wt w p rb s) (hq : Blk w q 26 vals) (hb : Blk w bx 93 [.pointer (some ⟨q, 0, none⟩)]) (hv : vals[2]? = some m.val) (hk : m.fv.kd = .tk) (hm : ∀ wx, Chg (fpt p rb) w wx → m.mem wx ∧ Gv wx) :
    Calls Tryz.prog 92 #[.pointer (some ⟨p, 0, none⟩), .pointer (some ⟨bx, 0, none⟩)] w (WQ w p rb (putV m.fv s)) := by
  obtain ⟨ad, n, c, l, rfl⟩ : ∃ ad n c l, m = .tk ad n c l := by
    cases m <;> first | (cases hk; done) | exact ⟨_, _, _, _, rfl⟩
  have HM := hidden hm
  have HW := hidden h
  have cv : w.cell? ⟨q, 2, none⟩ = some (.slice ad n c) := by rw [hq.cell, hv]; rfl
  have cb : w.cell? ⟨bx, 0, none⟩ = some (.pointer (some ⟨q, 0, none⟩)) := hb.cell 0
  clear hk hm h hq hb hv
  go_enter Tryz.func92, Tryz.ntmps92
  go_wp2_with fail
  refine (tokenW p rb s ad n c l w HW.out (HM.out w (Chg.refl _ _)).1.1).mono ?_
  rintro e w3 hQ
  have HQ := hidden hQ
  obtain ⟨rfl, hQ⟩ := hQ
  clear hQ
  go_wp2_with fail
  go_end0
  exact HQ.out

theorem put96 (p : Nat) (rb : Option Nat) (s : Ws) (q bx : Nat) (vals : List Value) (m : FM) (w : World) (h : Wt w p rb s) (hq : Blk w q 26 vals) (hb : Blk w bx 93 [.pointer (some ⟨q, 0, none⟩)]) (hv : vals[3]? = some m.val) (hk : m.fv.kd = .ws) (hm : ∀ wx, Chg (fpt p rb) w wx → m.mem wx ∧ Gv wx) :
    Calls Tryz.prog 96 #[.pointer (some ⟨p, 0, none⟩), .pointer (some ⟨bx, 0, none⟩)] w (WQ w p rb (putV m.fv s)) := by
  obtain ⟨ad, c, xs, rfl⟩ : ∃ ad c xs, m = .ws ad c xs := by
    cases m <;> first | (cases hk; done) | exact ⟨_, _, _, rfl⟩
  have HM := hidden hm
  have HW := hidden h
  obtain ⟨N, hL⟩ : ∃ N, xs.length = N := ⟨_, rfl⟩
  have HL := hidden hL
  have cv : w.cell? ⟨q, 3, none⟩ = some (.slice ad N c) := by rw [hq.cell, hv, ← hL]; rfl
  clear hL
  have cb : w.cell? ⟨bx, 0, none⟩ = some (.pointer (some ⟨q, 0, none⟩)) := hb.cell 0
  clear hk hm h hq hb hv
  have e0 : s.writes xs = putV (FM.ws ad c xs).fv s := by
    show s.writes xs = s.writes' (xs.map prS)
    unfold Ws.writes Ws.writes'
    rw [areS_areW (fun x hx => ((HM.out w (Chg.refl _ _)).1.2.2 x hx).2.2.2.2.1)]
    split
    · exact each_map prS stepE stepE' (fun _ _ => rfl) _ xs s
    · rfl
  rw [← e0]
  go_enter Tryz.func96, Tryz.ntmps96
  go_wp2_with fail
  refine (writesW p rb s ad N c xs w HW.out HL.out (by rw [← HL.out]; exact (HM.out w (Chg.refl _ _)).1.1) (fun wx hx => (HM.out wx hx).1.2.1) (fun x hx wx hc => ((HM.out wx hc).1.2.2 x hx).m (HM.out wx hc).2)).mono ?_
  rintro e w3 hQ
  have HQ := hidden hQ
  obtain ⟨rfl, hQ⟩ := hQ
  clear hQ
  go_wp2_with fail
  go_end0
  exact HQ.out

theorem put100 (p : Nat) (rb : Option Nat) (s : Ws) (q bx : Nat) (vals : List Value) (m : FM) (w : World) (h : Wt w p rb s) (hq : Blk w q 26 vals) (hb : Blk w bx 93 [.pointer (some ⟨q, 0, none⟩)]) (hv : vals[4]? = some m.val) (hk : m.fv.kd = .ms) (hm : ∀ wx, Chg (fpt p rb) w wx → m.mem wx ∧ Gv wx) :
    Calls Tryz.prog 100 #[.pointer (some ⟨p, 0, none⟩), .pointer (some ⟨bx, 0, none⟩)] w (WQ w p rb (putV m.fv s)) := by
  obtain ⟨ad, c, l, rfl⟩ : ∃ ad c l, m = .ms ad c l := by
    cases m <;> first | (cases hk; done) | exact ⟨_, _, _, rfl⟩
  have HM := hidden hm
  have HW := hidden h
  obtain ⟨N, hL⟩ : ∃ N, l.length = N := ⟨_, rfl⟩
  have HL := hidden hL
  have cv : w.cell? ⟨q, 4, none⟩ = some (.slice ad N c) := by rw [hq.cell, hv, ← hL]; rfl
  clear hL
  have cb : w.cell? ⟨bx, 0, none⟩ = some (.pointer (some ⟨q, 0, none⟩)) := hb.cell 0
  clear hk hm h hq hb hv
  go_enter Tryz.func100, Tryz.ntmps100
  go_wp2_with fail
  refine (matchersW p rb s ad N c l w HW.out HL.out (by rw [← HL.out]; exact (HM.out w (Chg.refl _ _)).1.1) (fun wx hx => (HM.out wx hx).1.2.1) (HM.out w (Chg.refl _ _)).1.2.2).mono ?_
  rintro e w3 hQ
  have HQ := hidden hQ
  obtain ⟨rfl, hQ⟩ := hQ
  clear hQ
  go_wp2_with fail
  go_end0
  exact HQ.out

theorem put104 (p : Nat) (rb : Option Nat) (s : Ws) (q bx : Nat) (vals : List Value) (m : FM) (w : World) (h : Wt w p rb s) (hq : Blk w q 26 vals) (hb : Blk w bx 93 [.pointer (some ⟨q, 0, none⟩)]) (hv : vals[5]? = some m.val) (hk : m.fv.kd = .tm) (hm : ∀ wx, Chg (fpt p rb) w wx → m.mem wx ∧ Gv wx) :
    Calls Tryz.prog 104 #[.pointer (some ⟨p, 0, none⟩), .pointer (some ⟨bx, 0, none⟩)] w (WQ w p rb (putV m.fv s)) := by
  obtain ⟨n, rfl⟩ : ∃ n, m = .tm n := by
    cases m <;> first | (cases hk; done) | exact ⟨_, rfl⟩
  have HM := hidden hm
  have HW := hidden h
  have cv : w.cell? ⟨q, 5, none⟩ = some (.int .i64 n) := by rw [hq.cell, hv]; rfl
  have cb : w.cell? ⟨bx, 0, none⟩ = some (.pointer (some ⟨q, 0, none⟩)) := hb.cell 0
  clear hk hm h hq hb hv
  go_enter Tryz.func104, Tryz.ntmps104
  go_wp2_with fail
  refine (timeW p rb s n w HW.out (HM.out w (Chg.refl _ _)).1.1 (HM.out w (Chg.refl _ _)).1.2).mono ?_
  rintro e w3 hQ
  have HQ := hidden hQ
  obtain ⟨rfl, hQ⟩ := hQ
  clear hQ
  go_wp2_with fail
  go_end0
  exact HQ.out

theorem put108 (p : Nat) (rb : Option Nat) (s : Ws) (q bx : Nat) (vals : List Value) (m : FM) (w : World) (h : Wt w p rb s) (hq : Blk w q 26 vals) (hb : Blk w bx 93 [.pointer (some ⟨q, 0, none⟩)]) (hv : vals[6]? = some m.val) (hk : m.fv.kd = .tm) (hm : ∀ wx, Chg (fpt p rb) w wx → m.mem wx ∧ Gv wx) :
    Calls Tryz.prog 108 #[.pointer (some ⟨p, 0, none⟩), .pointer (some ⟨bx, 0, none⟩)] w (WQ w p rb (putV m.fv s)) := by
  obtain ⟨n, rfl⟩ : ∃ n, m = .tm n := by
    cases m <;> first | (cases hk; done) | exact ⟨_, rfl⟩
  have HM := hidden hm
  have HW := hidden h
  have cv : w.cell? ⟨q, 6, none⟩ = some (.int .i64 n) := by rw [hq.cell, hv]; rfl
  have cb : w.cell? ⟨bx, 0, none⟩ = some (.pointer (some ⟨q, 0, none⟩)) := hb.cell 0
  clear hk hm h hq hb hv
  go_enter Tryz.func108, Tryz.ntmps108
  go_wp2_with fail
  refine (timeW p rb s n w HW.out (HM.out w (Chg.refl _ _)).1.1 (HM.out w (Chg.refl _ _)).1.2).mono ?_
  rintro e w3 hQ
  have HQ := hidden hQ
  obtain ⟨rfl, hQ⟩ := hQ
  clear hQ
  go_wp2_with fail
  go_end0
  exact HQ.out

theorem put110 (p : Nat) (rb : Option Nat) (s : Ws) (q bx : Nat) (vals : List Value) (m : FM) (w : World) (h : Wt w p rb s) (hq : Blk w q 26 vals) (hb : Blk w bx 93 [.pointer (some ⟨q, 0, none⟩)]) (hv : vals[7]? = some m.val) (hk : m.fv.kd = .qu) (hm : ∀ wx, Chg (fpt p rb) w wx → m.mem wx ∧ Gv wx) :
    Calls Tryz.prog 110 #[.pointer (some ⟨p, 0, none⟩), .pointer (some ⟨bx, 0, none⟩)] w (WQ w p rb (putV m.fv s)) := by
  obtain ⟨d, rfl⟩ : ∃ d, m = .qu d := by
    cases m <;> first | (cases hk; done) | exact ⟨_, rfl⟩
  have HM := hidden hm
  have HW := hidden h
  have cv : w.cell? ⟨q, 7, none⟩ = some (.string d) := by rw [hq.cell, hv]; rfl
  have cb : w.cell? ⟨bx, 0, none⟩ = some (.pointer (some ⟨q, 0, none⟩)) := hb.cell 0
  clear hk hm h hq hb hv
  go_enter Tryz.func110, Tryz.ntmps110
  go_wp2_with fail
  refine (questionW p rb s d w HW.out).mono ?_
  rintro e w3 hQ
  have HQ := hidden hQ
  obtain ⟨rfl, hQ⟩ := hQ
  clear hQ
  go_wp2_with fail
  go_end0
  exact HQ.out

theorem put114 (p : Nat) (rb : Option Nat) (s : Ws) (q bx : Nat) (vals : List Value) (m : FM) (w : World) (h : Wt w p rb s) (hq : Blk w q 26 vals) (hb : Blk w bx 93 [.pointer (some ⟨q, 0, none⟩)]) (hv : vals[8]? = some m.val) (hk : m.fv.kd = .tx) (hm : ∀ wx, Chg (fpt p rb) w wx → m.mem wx ∧ Gv wx) :
    Calls Tryz.prog 114 #[.pointer (some ⟨p, 0, none⟩), .pointer (some ⟨bx, 0, none⟩)] w (WQ w p rb (putV m.fv s)) := by
  obtain ⟨d, rfl⟩ : ∃ d, m = .tx d := by
    cases m <;> first | (cases hk; done) | exact ⟨_, rfl⟩
  have HM := hidden hm
  have HW := hidden h
  have cv : w.cell? ⟨q, 8, none⟩ = some (.string d) := by rw [hq.cell, hv]; rfl
  have cb : w.cell? ⟨bx, 0, none⟩ = some (.pointer (some ⟨q, 0, none⟩)) := hb.cell 0
  clear hk hm h hq hb hv
  go_enter Tryz.func114, Tryz.ntmps114
  go_wp2_with fail
  refine (textW p rb s d w HW.out).mono ?_
  rintro e w3 hQ
  have HQ := hidden hQ
  obtain ⟨rfl, hQ⟩ := hQ
  clear hQ
  go_wp2_with fail
  go_end0
  exact HQ.out

theorem put116 (p : Nat) (rb : Option Nat) (s : Ws) (q bx : Nat) (vals : List Value) (m : FM) (w : World) (h : Wt w p rb s) (hq : Blk w q 26 vals) (hb : Blk w bx 93 [.pointer (some ⟨q, 0, none⟩)]) (hv : vals[9]? = some m.val) (hk : m.fv.kd = .am) (hm : ∀ wx, Chg (fpt p rb) w wx → m.mem wx ∧ Gv wx) :
    Calls Tryz.prog 116 #[.pointer (some ⟨p, 0, none⟩), .pointer (some ⟨bx, 0, none⟩)] w (WQ w p rb (putV m.fv s)) := by
  obtain ⟨n, rfl⟩ : ∃ n, m = .am n := by
    cases m <;> first | (cases hk; done) | exact ⟨_, rfl⟩
  have HM := hidden hm
  have HW := hidden h
  have cv : w.cell? ⟨q, 9, none⟩ = some (.int .i64 n) := by rw [hq.cell, hv]; rfl
  have cb : w.cell? ⟨bx, 0, none⟩ = some (.pointer (some ⟨q, 0, none⟩)) := hb.cell 0
  clear hk hm h hq hb hv
  go_enter Tryz.func116, Tryz.ntmps116
  go_wp2_with fail
  refine (amountW p rb s n w HW.out (HM.out w (Chg.refl _ _)).1.1 (HM.out w (Chg.refl _ _)).1.2).mono ?_
  rintro e w3 hQ
  have HQ := hidden hQ
  obtain ⟨rfl, hQ⟩ := hQ
  clear hQ
  go_wp2_with fail
  go_end0
  exact HQ.out

theorem put120 (p : Nat) (rb : Option Nat) (s : Ws) (q bx : Nat) (vals : List Value) (m : FM) (w : World) (h : Wt w p rb s) (hq : Blk w q 26 vals) (hb : Blk w bx 93 [.pointer (some ⟨q, 0, none⟩)]) (hv : vals[10]? = some m.val) (hk : m.fv.kd = .am) (hm : ∀ wx, Chg (fpt p rb) w wx → m.mem wx ∧ Gv wx) :
    Calls Tryz.prog 120 #[.pointer (some ⟨p, 0, none⟩), .pointer (some ⟨bx, 0, none⟩)] w (WQ w p rb (putV m.fv s)) := by
  obtain ⟨n, rfl⟩ : ∃ n, m = .am n := by
    cases m <;> first | (cases hk; done) | exact ⟨_, rfl⟩
  have HM := hidden hm
  have HW := hidden h
  have cv : w.cell? ⟨q, 10, none⟩ = some (.int .i64 n) := by rw [hq.cell, hv]; rfl
  have cb : w.cell? ⟨bx, 0, none⟩ = some (.pointer (some ⟨q, 0, none⟩)) := hb.cell 0
  clear hk hm h hq hb hv
  go_enter Tryz.func120, Tryz.ntmps120
  go_wp2_with fail
  refine (amountW p rb s n w HW.out (HM.out w (Chg.refl _ _)).1.1 (HM.out w (Chg.refl _ _)).1.2).mono ?_
  rintro e w3 hQ
  have HQ := hidden hQ
  obtain ⟨rfl, hQ⟩ := hQ
  clear hQ
  go_wp2_with fail
  go_end0
  exact HQ.out

theorem put122 (p : Nat) (rb : Option Nat) (s : Ws) (q bx : Nat) (vals : List Value) (m : FM) (w : World) (h : Wt w p rb s) (hq : Blk w q 26 vals) (hb : Blk w bx 93 [.pointer (some ⟨q, 0, none⟩)]) (hv : vals[11]? = some m.val) (hk : m.fv.kd = .am) (hm : ∀ wx, Chg (fpt p rb) w wx → m.mem wx ∧ Gv wx) :
    Calls Tryz.prog 122 #[.pointer (some ⟨p, 0, none⟩), .pointer (some ⟨bx, 0, none⟩)] w (WQ w p rb (putV m.fv s)) := by
  obtain ⟨n, rfl⟩ : ∃ n, m = .am n := by
    cases m <;> first | (cases hk; done) | exact ⟨_, rfl⟩
  have HM := hidden hm
  have HW := hidden h
  have cv : w.cell? ⟨q, 11, none⟩ = some (.int .i64 n) := by rw [hq.cell, hv]; rfl
  have cb : w.cell? ⟨bx, 0, none⟩ = some (.pointer (some ⟨q, 0, none⟩)) := hb.cell 0
  clear hk hm h hq hb hv
  go_enter Tryz.func122, Tryz.ntmps122
  go_wp2_with fail
  refine (amountW p rb s n w HW.out (HM.out w (Chg.refl _ _)).1.1 (HM.out w (Chg.refl _ _)).1.2).mono ?_
  rintro e w3 hQ
  have HQ := hidden hQ
  obtain ⟨rfl, hQ⟩ := hQ
  clear hQ
  go_wp2_with fail
  go_end0
  exact HQ.out

theorem put124 (p : Nat) (rb : Option Nat) (s : Ws) (q bx : Nat) (vals : List Value) (m : FM) (w : World) (h : Wt w p rb s) (hq : Blk w q 26 vals) (hb : Blk w bx 93 [.pointer (some ⟨q, 0, none⟩)]) (hv : vals[12]? = some m.val) (hk : m.fv.kd = .tk) (hm : ∀ wx, Chg (fpt p rb) w wx → m.mem wx ∧ Gv wx) :
    Calls Tryz.prog 124 #[.pointer (some ⟨p, 0, none⟩), .pointer (some ⟨bx, 0, none⟩)] w (WQ w p rb (putV m.fv s)) := by
  obtain ⟨ad, n, c, l, rfl⟩ : ∃ ad n c l, m = .tk ad n c l := by
    cases m <;> first | (cases hk; done) | exact ⟨_, _, _, _, rfl⟩
  have HM := hidden hm
  have HW := hidden h
  have cv : w.cell? ⟨q, 12, none⟩ = some (.slice ad n c) := by rw [hq.cell, hv]; rfl
  have cb : w.cell? ⟨bx, 0, none⟩ = some (.pointer (some ⟨q, 0, none⟩)) := hb.cell 0
  clear hk hm h hq hb hv
  go_enter Tryz.func124, Tryz.ntmps124
  go_wp2_with fail
  refine (tokenW p rb s ad n c l w HW.out (HM.out w (Chg.refl _ _)).1.1).mono ?_
  rintro e w3 hQ
  have HQ := hidden hQ
  obtain ⟨rfl, hQ⟩ := hQ
  clear hQ
  go_wp2_with fail
  go_end0
  exact HQ.out

theorem put130 (p : Nat) (rb : Option Nat) (s : Ws) (q bx : Nat) (vals : List Value) (m : FM) (w : World) (h : Wt w p rb s) (hq : Blk w q 57 vals) (hb : Blk w bx 103 [.pointer (some ⟨q, 0, none⟩)]) (hv : vals[2]? = some m.val) (hk : m.fv.kd = .se) (hm : ∀ wx, Chg (fpt p rb) w wx → m.mem wx ∧ Gv wx) :
    Calls Tryz.prog 130 #[.pointer (some ⟨p, 0, none⟩), .pointer (some ⟨bx, 0, none⟩)] w (WQ w p rb (putV m.fv s)) := by
  obtain ⟨ad, c, xs, rfl⟩ : ∃ ad c xs, m = .se ad c xs := by
    cases m <;> first | (cases hk; done) | exact ⟨_, _, _, rfl⟩
  have HM := hidden hm
  have HW := hidden h
  obtain ⟨N, hL⟩ : ∃ N, xs.length = N := ⟨_, rfl⟩
  have HL := hidden hL
  have cv : w.cell? ⟨q, 2, none⟩ = some (.slice ad N c) := by rw [hq.cell, hv, ← hL]; rfl
  clear hL
  have cb : w.cell? ⟨bx, 0, none⟩ = some (.pointer (some ⟨q, 0, none⟩)) := hb.cell 0
  clear hk hm h hq hb hv
  have e0 : s.each 18446744073709551615 stepE xs = putV (FM.se ad c xs).fv s := each_map prS stepE stepE' (fun _ _ => rfl) _ xs s
  rw [← e0]
  go_enter Tryz.func130, Tryz.ntmps130
  go_wp2_with fail
  refine (seriesW p rb s ad N c xs w HW.out HL.out (by rw [← HL.out]; exact (HM.out w (Chg.refl _ _)).1.1) (fun wx hx => (HM.out wx hx).1.2.1) (fun x hx wx hc => ((HM.out wx hc).1.2.2 x hx).m (HM.out wx hc).2)).mono ?_
  rintro e w3 hQ
  have HQ := hidden hQ
  obtain ⟨rfl, hQ⟩ := hQ
  clear hQ
  go_wp2_with fail
  go_end0
  exact HQ.out

theorem put134 (p : Nat) (rb : Option Nat) (s : Ws) (q bx : Nat) (vals : List Value) (m : FM) (w : World) (h : Wt w p rb s) (hq : Blk w q 57 vals) (hb : Blk w bx 103 [.pointer (some ⟨q, 0, none⟩)]) (hv : vals[3]? = some m.val) (hk : m.fv.kd = .ro) (hm : ∀ wx, Chg (fpt p rb) w wx → m.mem wx ∧ Gv wx) :
    Calls Tryz.prog 134 #[.pointer (some ⟨p, 0, none⟩), .pointer (some ⟨bx, 0, none⟩)] w (WQ w p rb (putV m.fv s)) := by
  obtain ⟨ad, c, xs, rfl⟩ : ∃ ad c xs, m = .ro ad c xs := by
    cases m <;> first | (cases hk; done) | exact ⟨_, _, _, rfl⟩
  have HM := hidden hm
  have HW := hidden h
  obtain ⟨N, hL⟩ : ∃ N, xs.length = N := ⟨_, rfl⟩
  have HL := hidden hL
  have cv : w.cell? ⟨q, 3, none⟩ = some (.slice ad N c) := by rw [hq.cell, hv, ← hL]; rfl
  clear hL
  have cb : w.cell? ⟨bx, 0, none⟩ = some (.pointer (some ⟨q, 0, none⟩)) := hb.cell 0
  clear hk hm h hq hb hv
  have e0 : s.each 18446744073709551615 stepR xs = putV (FM.ro ad c xs).fv s := each_map prR stepR stepR' (fun _ _ => rfl) _ xs s
  rw [← e0]
  go_enter Tryz.func134, Tryz.ntmps134
  go_wp2_with fail
  refine (rowsW p rb s ad N c xs w HW.out HL.out (by rw [← HL.out]; exact (HM.out w (Chg.refl _ _)).1.1) (fun wx hx => (HM.out wx hx).1.2.1) (fun x hx wx hc => (HM.out wx hc).1.2.2 x hx)).mono ?_
  rintro e w3 hQ
  have HQ := hidden hQ
  obtain ⟨rfl, hQ⟩ := hQ
  clear hQ
  go_wp2_with fail
  go_end0
  exact HQ.out

theorem put138 (p : Nat) (rb : Option Nat) (s : Ws) (q bx : Nat) (vals : List Value) (m : FM) (w : World) (h : Wt w p rb s) (hq : Blk w q 57 vals) (hb : Blk w bx 103 [.pointer (some ⟨q, 0, none⟩)]) (hv : vals[4]? = some m.val) (hk : m.fv.kd = .nu) (hm : ∀ wx, Chg (fpt p rb) w wx → m.mem wx ∧ Gv wx) :
    Calls Tryz.prog 138 #[.pointer (some ⟨p, 0, none⟩), .pointer (some ⟨bx, 0, none⟩)] w (WQ w p rb (putV m.fv s)) := by
  obtain ⟨n, rfl⟩ : ∃ n, m = .nu n := by
    cases m <;> first | (cases hk; done) | exact ⟨_, rfl⟩
  have HM := hidden hm
  have HW := hidden h
  have cv : w.cell? ⟨q, 4, none⟩ = some (.int .i64 n) := by rw [hq.cell, hv]; rfl
  have cb : w.cell? ⟨bx, 0, none⟩ = some (.pointer (some ⟨q, 0, none⟩)) := hb.cell 0
  clear hk hm h hq hb hv
  go_enter Tryz.func138, Tryz.ntmps138
  go_wp2_with fail
  refine (countW p rb s n w HW.out (HM.out w (Chg.refl _ _)).1.1 (HM.out w (Chg.refl _ _)).1.2).mono ?_
  rintro e w3 hQ
  have HQ := hidden hQ
  obtain ⟨rfl, hQ⟩ := hQ
  clear hQ
  go_wp2_with fail
  go_end0
  exact HQ.out

theorem put142 (p : Nat) (rb : Option Nat) (s : Ws) (q bx : Nat) (vals : List Value) (m : FM) (w : World) (h : Wt w p rb s) (hq : Blk w q 57 vals) (hb : Blk w bx 103 [.pointer (some ⟨q, 0, none⟩)]) (hv : vals[5]? = some m.val) (hk : m.fv.kd = .ts) (hm : ∀ wx, Chg (fpt p rb) w wx → m.mem wx ∧ Gv wx) :
    Calls Tryz.prog 142 #[.pointer (some ⟨p, 0, none⟩), .pointer (some ⟨bx, 0, none⟩)] w (WQ w p rb (putV m.fv s)) := by
  obtain ⟨ad, c, l, rfl⟩ : ∃ ad c l, m = .ts ad c l := by
    cases m <;> first | (cases hk; done) | exact ⟨_, _, _, rfl⟩
  have HM := hidden hm
  have HW := hidden h
  obtain ⟨N, hL⟩ : ∃ N, l.length = N := ⟨_, rfl⟩
  have HL := hidden hL
  have cv : w.cell? ⟨q, 5, none⟩ = some (.slice ad N c) := by rw [hq.cell, hv, ← hL]; rfl
  clear hL
  have cb : w.cell? ⟨bx, 0, none⟩ = some (.pointer (some ⟨q, 0, none⟩)) := hb.cell 0
  clear hk hm h hq hb hv
  have e0 : s.each 18446744073709551615 stepT (l.map (fun d => Te.mk d)) = putV (FM.ts ad c l).fv s := by
    rw [each_map (fun x : Te => x.t) stepT (fun s x => s.limited x 64) (fun _ _ => rfl), List.map_map]
    show s.each _ _ (l.map id) = _
    rw [List.map_id]
    rfl
  rw [← e0]
  go_enter Tryz.func142, Tryz.ntmps142
  go_wp2_with fail
  refine (textsW p rb s ad N c (l.map (fun d => Te.mk d)) w HW.out (by rw [List.length_map]; exact HL.out) (by rw [← HL.out]; exact (HM.out w (Chg.refl _ _)).1.1) (fun wx hx => by rw [es_te]; exact (HM.out wx hx).1.2)).mono ?_
  rintro e w3 hQ
  have HQ := hidden hQ
  obtain ⟨rfl, hQ⟩ := hQ
  clear hQ
  go_wp2_with fail
  go_end0
  exact HQ.out

end Go.Proofs.YtalmpmhnkilalaaGreatDoor
