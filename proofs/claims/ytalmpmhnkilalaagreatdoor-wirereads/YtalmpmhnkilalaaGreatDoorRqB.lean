/-
  Package wire: fields that were read, and the closures that read them. By genrqb19.py.
-/
import Derived.Test.YtalmpmhnkilalaaGreatDoorRqA
import Derived.Deep.CutRange
namespace Go.Proofs.YtalmpmhnkilalaaGreatDoor
open Go.RowKit
set_option linter.unusedVariables false
set_option linter.unusedSimpArgs false

/-- A field that was read: rows of its own; a token is a piece of what was read. -/
def FO (B K : Nat) (w : World) : FM → Prop
  | .tx _ => True | .qu _ => True
  | .tk ad n c l => c = n ∧ Sl w ad n l ∧ (∀ y, ad = some y → 0 < n → y.block = K ∧ y.spot = none) ∧ (ad = none → n = 0) ∧ n ≤ 1048576
  | .ws ad c xs => w.ownsRow B 45 2 (.slice ad xs.length c) xs.length (xs.flatMap Ser.cells) ∧ ∀ x ∈ xs, SrO B x w ∧ x.sn ≤ 281474976710656
  | .se ad c xs => w.ownsRow B 45 2 (.slice ad xs.length c) xs.length (xs.flatMap Ser.cells) ∧ ∀ x ∈ xs, SrO B x w ∧ x.sn ≤ 281474976710656
  | .ms ad c l => w.ownsRow B 52 3 (.slice ad l.length c) l.length (l.flatMap Ma.cells) ∧ ∀ x ∈ l, I64n x.op
  | .ro ad c xs => w.ownsRow B 59 2 (.slice ad xs.length c) xs.length (xs.flatMap Ror.cells) ∧ ∀ x ∈ xs, RwO B x w
  | .ts ad c l => w.ownsRow B 9 1 (.slice ad l.length c) l.length (l.flatMap (fun d => [Value.string d]))
  | .tm n => I64n n | .am n => I64n n | .nu n => I64n n
theorem FO.chg {B K : Nat} {w w' : World} {m : FM} {F : Nat → Prop} (h : FO B K w m) (hc : Chg F w w') (hK : ¬ F K) (hF : ∀ i, F i → ¬ Ty w i 45 ∧ ¬ Ty w i 47 ∧ ¬ Ty w i 50 ∧ ¬ Ty w i 52 ∧ ¬ Ty w i 59 ∧ ¬ Ty w i 9) : FO B K w' m := by
  cases m with
  | tk ad n c l => exact ⟨h.1, hc.sl h.2.1 (fun x hx hn => by rw [(h.2.2.1 x hx hn).1]; exact hK), h.2.2.1, h.2.2.2⟩
  | ws ad c xs => exact ⟨hc.owns h.1 (fun g hg hf => (hF g hf).1 (ty_owns h.1 hg)), fun x hx => ⟨(h.2 x hx).1.chg hc (fun i hi => ⟨(hF i hi).2.1, (hF i hi).2.2.1⟩), (h.2 x hx).2⟩⟩
  | se ad c xs => exact ⟨hc.owns h.1 (fun g hg hf => (hF g hf).1 (ty_owns h.1 hg)), fun x hx => ⟨(h.2 x hx).1.chg hc (fun i hi => ⟨(hF i hi).2.1, (hF i hi).2.2.1⟩), (h.2 x hx).2⟩⟩
  | ms ad c l => exact ⟨hc.owns h.1 (fun g hg hf => (hF g hf).2.2.2.1 (ty_owns h.1 hg)), h.2⟩
  | ro ad c xs => exact ⟨hc.owns h.1 (fun g hg hf => (hF g hf).2.2.2.2.1 (ty_owns h.1 hg)), fun x hx => ⟨(h.2 x hx).1, (h.2 x hx).2.1, hc.owns (h.2 x hx).2.2 (fun g hg hf => (hF g hf).2.1 (ty_owns (h.2 x hx).2.2 hg))⟩⟩
  | ts ad c l => exact hc.owns h (fun g hg hf => (hF g hf).2.2.2.2.2 (ty_owns h hg))
  | _ => exact h
theorem FO.mono {B B' K : Nat} {w : World} {m : FM} (hB : B ≤ B') (h : FO B' K w m) : FO B K w m := by
  have ow : ∀ {e k : Nat} {v : Value} {n : Nat} {xs : List Value}, w.ownsRow B' e k v n xs → w.ownsRow B e k v n xs := fun h => owns_base h (fun g hg => by have := (h.lt g hg).1; omega)
  cases m with
  | ws ad c xs => exact ⟨ow h.1, fun x hx => ⟨(h.2 x hx).1.mono hB, (h.2 x hx).2⟩⟩
  | se ad c xs => exact ⟨ow h.1, fun x hx => ⟨(h.2 x hx).1.mono hB, (h.2 x hx).2⟩⟩
  | ms ad c l => exact ⟨ow h.1, h.2⟩
  | ro ad c xs => exact ⟨ow h.1, fun x hx => ⟨(h.2 x hx).1, (h.2 x hx).2.1, ow (h.2 x hx).2.2⟩⟩
  | ts ad c l => exact ow h
  | _ => exact h
theorem owns_len9 {w : World} {B e k : Nat} {ad : Option Addr} {n m c : Nat} {xs : List Value} (h : w.ownsRow B e k (.slice ad n c) m xs) : n ≤ 9223372036854775807 ∧ m = n := by
  obtain ⟨_, _, e, _, _, h1, h2⟩ := owns_formS h
  injection e with e1 e2 e3
  subst e3
  unfold maxLen at h2
  exact ⟨by omega, e2.symm⟩
/-- What was read lies in memory. -/
theorem FO.mem {B K : Nat} {w : World} {m : FM} (h : FO B K w m) : m.mem w := by
  have hs : ∀ x, SrO B x w → x.sn ≤ 281474976710656 → SerN w x := fun x h hn => ⟨es_owns (cells := La.cells) (k := 2) (fun _ => rfl) h.2.2.1 h.1, h.1, (owns_len9 h.2.2.1).1, ss_of_owns h.2.2.2.1 h.2.2.2.2, h.2.1, hn⟩
  cases m with
  | tk ad n c l => exact ⟨h.2.1, by have := h.2.2.2.2; omega⟩
  | ws ad c xs => exact ⟨(owns_len9 h.1).1, es_owns (cells := Ser.cells) (k := 2) (fun _ => rfl) h.1 rfl, fun x hx => hs x (h.2 x hx).1 (h.2 x hx).2⟩
  | se ad c xs => exact ⟨(owns_len9 h.1).1, es_owns (cells := Ser.cells) (k := 2) (fun _ => rfl) h.1 rfl, fun x hx => hs x (h.2 x hx).1 (h.2 x hx).2⟩
  | ms ad c l => exact ⟨(owns_len9 h.1).1, es_owns (cells := Ma.cells) (k := 3) (fun _ => rfl) h.1 rfl, h.2⟩
  | ro ad c xs => exact ⟨(owns_len9 h.1).1, es_owns (cells := Ror.cells) (k := 2) (fun _ => rfl) h.1 rfl, fun x hx => ⟨es_owns (cells := La.cells) (k := 2) (fun _ => rfl) (h.2 x hx).2.2 (h.2 x hx).1, (h.2 x hx).1, (owns_len9 (h.2 x hx).2.2).1, (h.2 x hx).2.1⟩⟩
  | ts ad c l => exact ⟨(owns_len9 h).1, es_owns (cells := fun d => [Value.string d]) (k := 1) (fun _ => rfl) h rfl⟩
  | _ => exact h
/-- What a reader's call of a field leaves. -/
structure TkP (w : World) (p K : Nat) (kd : Kd) (st : Option (List Int)) (v : Value) (w1 : World) : Prop where
  rt : Rt w1 p K ((st.bind (rdV kd)).map (·.2))
  chg : Chg (fpr p) w w1
  yes : ∀ x t, st.bind (rdV kd) = some (x, t) → ∃ m : FM, m.fv = x ∧ v = m.val ∧ FO w.heap.size K w1 m
theorem TkP.of {α : Type} {w wx w1 : World} {p K : Nat} {kd : Kd} {st : Option (List Int)} {v : Value} {r : Rdr α} {f : α → FV} {V : α → Value → World → Prop} {Z : Value → Prop} (hr : rdV kd = rMap f r) (hx : wx.heap = w.heap) (hl : Below w.heap.size w wx) (h : RQ' wx p K (st.bind r) V Z v w1)
    (hm : ∀ x t, st.bind r = some (x, t) → V x v w1 → ∃ m : FM, m.fv = f x ∧ v = m.val ∧ FO w.heap.size K w1 m) : TkP w p K kd st v w1 := by
  refine ⟨?_, (Chg.of_below hl).trans h.chg (fun _ _ e => e), fun x t e => ?_⟩
  · rw [hr, bind_map, map_snd]
    exact h.rt
  · rw [hr, bind_map] at e
    obtain ⟨y, hy, rfl⟩ := map_yes e
    exact hm y t hy (h.yes y t hy)
theorem ok_of_bind {α : Type} {r : Rdr α} {ok : α → Prop} {en : α → List Int} (hc : Cod r ok en) {w : World} {p K : Nat} {st : Option (List Int)} (h : Rt w p K st) {x : α} {t : List Int} (e : st.bind r = some (x, t)) : ok x := by
  cases st with
  | none => cases e
  | some b => exact (hc.forth b x t h.byte.1 h.byte.2 e).1
theorem srs_fo {B : Nat} {l : List Se} {v : Value} {w : World} (h : SsO B l v w) (hk : okEs l) : ∃ ad c xs, xs.map prS = l ∧ v = .slice ad (List.length xs) c ∧ (w.ownsRow B 45 2 (.slice ad xs.length c) xs.length (xs.flatMap Ser.cells) ∧ ∀ x ∈ xs, SrO B x w ∧ x.sn ≤ 281474976710656) := by
  obtain ⟨xs, rfl, ⟨ad, c, rfl⟩, o, m⟩ := h
  refine ⟨ad, c, xs, rfl, rfl, o, fun x hx => ⟨m x hx, ?_⟩⟩
  have h1 := (hk.2 (prS x) (List.mem_map_of_mem hx)).2.2.1
  have h2 := (m x hx).2.1
  have h3 : (prS x).2.length = x.S.length := rfl
  omega
theorem flat_te (xs : List Te) : (xs.map (fun x : Te => x.t)).flatMap (fun d => [Value.string d]) = xs.flatMap Te.cells := by
  rw [List.flatMap_map]
  rfl
theorem cod_rt {st : Option (List Int)} {w : World} {p K : Nat} (h : Rt w p K st) : True := trivial

theorem call_tx (p K : Nat) (st : Option (List Int)) (w wx : World) (hR : Rt w p K st) (hG : Gv w) (h2p : 2 ≤ p) (hx : wx.heap = w.heap) (hl : Below w.heap.size w wx) :
    Calls Tryz.prog 91 #[.pointer (some ⟨p, 0, none⟩)] wx fun e w1 => ∃ v, e = .returned v ∧ (∃ d, v = .string d) ∧ TkP w p K .tx st v w1 := by
  refine (textR p K st wx (hR.later hl)).mono ?_
  rintro e w1 ⟨v, rfl, hQ⟩
  refine ⟨v, rfl, ?_, TkP.of rfl hx hl hQ (fun x t e hv => ⟨.tx x, rfl, hv, trivial⟩)⟩
  · obtain ⟨d, hd⟩ := hQ.str; exact ⟨d, hd⟩

theorem call_qu (p K : Nat) (st : Option (List Int)) (w wx : World) (hR : Rt w p K st) (hG : Gv w) (h2p : 2 ≤ p) (hx : wx.heap = w.heap) (hl : Below w.heap.size w wx) :
    Calls Tryz.prog 113 #[.pointer (some ⟨p, 0, none⟩)] wx fun e w1 => ∃ v, e = .returned v ∧ (∃ d, v = .string d) ∧ TkP w p K .qu st v w1 := by
  refine (questionR p K st wx (hR.later hl)).mono ?_
  rintro e w1 ⟨v, rfl, hQ⟩
  refine ⟨v, rfl, ?_, TkP.of rfl hx hl hQ (fun x t e hv => ⟨.qu x, rfl, hv, trivial⟩)⟩
  · obtain ⟨d, hd⟩ := hQ.str; exact ⟨d, hd⟩

theorem call_tk (p K : Nat) (st : Option (List Int)) (w wx : World) (hR : Rt w p K st) (hG : Gv w) (h2p : 2 ≤ p) (hx : wx.heap = w.heap) (hl : Below w.heap.size w wx) :
    Calls Tryz.prog 95 #[.pointer (some ⟨p, 0, none⟩)] wx fun e w1 => ∃ v, e = .returned v ∧ (∃ ad n c, v = .slice ad n c) ∧ TkP w p K .tk st v w1 := by
  refine (tokenR p K st wx (hR.later hl)).mono ?_
  rintro e w1 ⟨v, rfl, hQ⟩
  refine ⟨v, rfl, ?_, TkP.of rfl hx hl hQ (fun x t e hv => by obtain ⟨ad, m, rfl, hs, hn, ha, hm⟩ := hv; exact ⟨.tk ad m m x, rfl, rfl, rfl, hs, ha, hn, hm⟩)⟩
  · cases ho : st.bind (rLim 64) with
    | none => exact ⟨_, _, _, hQ.no ho⟩
    | some q => obtain ⟨ad, m, e, _⟩ := hQ.yes q.1 q.2 ho; exact ⟨_, _, _, e⟩

theorem call_ws (p K : Nat) (st : Option (List Int)) (w wx : World) (hR : Rt w p K st) (hG : Gv w) (h2p : 2 ≤ p) (hx : wx.heap = w.heap) (hl : Below w.heap.size w wx) :
    Calls Tryz.prog 99 #[.pointer (some ⟨p, 0, none⟩)] wx fun e w1 => ∃ v, e = .returned v ∧ (∃ ad n c, v = .slice ad n c) ∧ TkP w p K .ws st v w1 := by
  refine (writesR p K st wx (hR.later hl) (hG.later hl) h2p).mono ?_
  rintro e w1 ⟨v, rfl, hQ⟩
  refine ⟨v, rfl, ?_, TkP.of rfl hx hl hQ (fun x t e hv => by obtain ⟨ad, c, xs, rfl, rfl, ho⟩ := srs_fo hv (ok_of_bind cod_wrs hR e).1; rw [← hx] ; exact ⟨.ws ad c xs, rfl, rfl, ho⟩)⟩
  · cases ho : st.bind (rWrs) with
    | none => exact hQ.no ho
    | some q => obtain ⟨ad, c, e⟩ := (hQ.yes q.1 q.2 ho).slc; exact ⟨_, _, _, e⟩

theorem call_ms (p K : Nat) (st : Option (List Int)) (w wx : World) (hR : Rt w p K st) (hG : Gv w) (h2p : 2 ≤ p) (hx : wx.heap = w.heap) (hl : Below w.heap.size w wx) :
    Calls Tryz.prog 103 #[.pointer (some ⟨p, 0, none⟩)] wx fun e w1 => ∃ v, e = .returned v ∧ (∃ ad n c, v = .slice ad n c) ∧ TkP w p K .ms st v w1 := by
  refine (matchersR p K st wx (hR.later hl)).mono ?_
  rintro e w1 ⟨v, rfl, hQ⟩
  refine ⟨v, rfl, ?_, TkP.of rfl hx hl hQ (fun x t e hv => by obtain ⟨xs, rfl, ⟨ad, c, rfl⟩, ho, _⟩ := hv; rw [← hx]; have hk := ok_of_bind cod_mats hR e; refine ⟨.ms ad c xs, by show FV.ms xs = _; rw [List.map_id], rfl, ho, fun y hy => ?_⟩; have := (hk.2 y (by simpa using hy)).1.2; unfold I64n; omega)⟩
  · cases ho : st.bind (rMats) with
    | none => exact ⟨_, _, _, hQ.no ho⟩
    | some q => obtain ⟨ad, c, e⟩ := (hQ.yes q.1 q.2 ho).slc; exact ⟨_, _, _, e⟩

theorem call_tm (p K : Nat) (st : Option (List Int)) (w wx : World) (hR : Rt w p K st) (hG : Gv w) (h2p : 2 ≤ p) (hx : wx.heap = w.heap) (hl : Below w.heap.size w wx) :
    Calls Tryz.prog 107 #[.pointer (some ⟨p, 0, none⟩)] wx fun e w1 => ∃ v, e = .returned v ∧ (∃ n, v = .int .i64 n) ∧ TkP w p K .tm st v w1 := by
  refine (timeR p K st wx (hR.later hl)).mono ?_
  rintro e w1 ⟨v, rfl, hQ⟩
  refine ⟨v, rfl, ?_, TkP.of rfl hx hl hQ (fun x t e hv => ⟨.tm x, rfl, hv, (ok_of_bind cod_time hR e)⟩)⟩
  · cases ho : st.bind (rTime) with
    | none => exact ⟨_, hQ.no ho⟩
    | some q => exact ⟨_, hQ.yes q.1 q.2 ho⟩

theorem call_am (p K : Nat) (st : Option (List Int)) (w wx : World) (hR : Rt w p K st) (hG : Gv w) (h2p : 2 ≤ p) (hx : wx.heap = w.heap) (hl : Below w.heap.size w wx) :
    Calls Tryz.prog 119 #[.pointer (some ⟨p, 0, none⟩)] wx fun e w1 => ∃ v, e = .returned v ∧ (∃ n, v = .int .i64 n) ∧ TkP w p K .am st v w1 := by
  refine (amountR p K st wx (hR.later hl)).mono ?_
  rintro e w1 ⟨v, rfl, hQ⟩
  refine ⟨v, rfl, ?_, TkP.of rfl hx hl hQ (fun x t e hv => ⟨.am (x : Int), rfl, hv, by have := rNum_le e; show I64n _; unfold I64n; omega⟩)⟩
  · cases ho : st.bind (rNum 1099511627775) with
    | none => exact ⟨_, hQ.no ho⟩
    | some q => exact ⟨_, hQ.yes q.1 q.2 ho⟩

theorem call_se (p K : Nat) (st : Option (List Int)) (w wx : World) (hR : Rt w p K st) (hG : Gv w) (h2p : 2 ≤ p) (hx : wx.heap = w.heap) (hl : Below w.heap.size w wx) :
    Calls Tryz.prog 133 #[.pointer (some ⟨p, 0, none⟩)] wx fun e w1 => ∃ v, e = .returned v ∧ (∃ ad n c, v = .slice ad n c) ∧ TkP w p K .se st v w1 := by
  refine (seriesR p K st wx (hR.later hl) (hG.later hl) h2p).mono ?_
  rintro e w1 ⟨v, rfl, hQ⟩
  refine ⟨v, rfl, ?_, TkP.of rfl hx hl hQ (fun x t e hv => by obtain ⟨ad, c, xs, rfl, rfl, ho⟩ := srs_fo hv (ok_of_bind cod_sers hR e); rw [← hx] ; exact ⟨.se ad c xs, rfl, rfl, ho⟩)⟩
  · cases ho : st.bind (rSers) with
    | none => exact ⟨_, _, _, hQ.no ho⟩
    | some q => obtain ⟨ad, c, e⟩ := (hQ.yes q.1 q.2 ho).slc; exact ⟨_, _, _, e⟩

theorem call_ro (p K : Nat) (st : Option (List Int)) (w wx : World) (hR : Rt w p K st) (hG : Gv w) (h2p : 2 ≤ p) (hx : wx.heap = w.heap) (hl : Below w.heap.size w wx) :
    Calls Tryz.prog 137 #[.pointer (some ⟨p, 0, none⟩)] wx fun e w1 => ∃ v, e = .returned v ∧ (∃ ad n c, v = .slice ad n c) ∧ TkP w p K .ro st v w1 := by
  refine (rowsR p K st wx (hR.later hl)).mono ?_
  rintro e w1 ⟨v, rfl, hQ⟩
  refine ⟨v, rfl, ?_, TkP.of rfl hx hl hQ (fun x t e hv => by obtain ⟨xs, rfl, ⟨ad, c, rfl⟩, ho, hm⟩ := hv; rw [← hx]; exact ⟨.ro ad c xs, rfl, rfl, ho, hm⟩)⟩
  · cases ho : st.bind (rRows) with
    | none => exact ⟨_, _, _, hQ.no ho⟩
    | some q => obtain ⟨ad, c, e⟩ := (hQ.yes q.1 q.2 ho).slc; exact ⟨_, _, _, e⟩

theorem call_nu (p K : Nat) (st : Option (List Int)) (w wx : World) (hR : Rt w p K st) (hG : Gv w) (h2p : 2 ≤ p) (hx : wx.heap = w.heap) (hl : Below w.heap.size w wx) :
    Calls Tryz.prog 141 #[.pointer (some ⟨p, 0, none⟩)] wx fun e w1 => ∃ v, e = .returned v ∧ (∃ n, v = .int .i64 n) ∧ TkP w p K .nu st v w1 := by
  refine (countR p K st wx (hR.later hl)).mono ?_
  rintro e w1 ⟨v, rfl, hQ⟩
  refine ⟨v, rfl, ?_, TkP.of rfl hx hl hQ (fun x t e hv => ⟨.nu (x : Int), rfl, hv, by have := rNum_le e; show I64n _; unfold I64n; omega⟩)⟩
  · cases ho : st.bind (rNum 9223372036854775807) with
    | none => exact ⟨_, hQ.no ho⟩
    | some q => exact ⟨_, hQ.yes q.1 q.2 ho⟩

theorem call_ts (p K : Nat) (st : Option (List Int)) (w wx : World) (hR : Rt w p K st) (hG : Gv w) (h2p : 2 ≤ p) (hx : wx.heap = w.heap) (hl : Below w.heap.size w wx) :
    Calls Tryz.prog 145 #[.pointer (some ⟨p, 0, none⟩)] wx fun e w1 => ∃ v, e = .returned v ∧ (∃ ad n c, v = .slice ad n c) ∧ TkP w p K .ts st v w1 := by
  refine (textsR p K st wx (hR.later hl)).mono ?_
  rintro e w1 ⟨v, rfl, hQ⟩
  refine ⟨v, rfl, ?_, TkP.of rfl hx hl hQ (fun x t e hv => by obtain ⟨xs, rfl, ⟨ad, c, rfl⟩, ho, _⟩ := hv; rw [← hx]; refine ⟨.ts ad c (xs.map (fun x => x.t)), rfl, by show _ = Value.slice ad (xs.map _).length c; rw [List.length_map], ?_⟩; show World.ownsRow _ _ _ _ (.slice ad (xs.map _).length c) (xs.map _).length _; rw [List.length_map]; rw [flat_te]; exact ho)⟩
  · cases ho : st.bind (rTxts) with
    | none => exact ⟨_, _, _, hQ.no ho⟩
    | some q => obtain ⟨ad, c, e⟩ := (hQ.yes q.1 q.2 ho).slc; exact ⟨_, _, _, e⟩

end Go.Proofs.YtalmpmhnkilalaaGreatDoor
