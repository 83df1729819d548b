import Derived.Test.YtalmpmhnkilalaaGreatDoorDyR
import Derived.Test.YtalmpmhnkilalaaGreatDoorRqM
/-
  WireReads: what came out is written over by its owner.
-/
namespace Go.Proofs.YtalmpmhnkilalaaGreatDoor
open Go.RowKit
set_option linter.unusedVariables false
set_option linter.unusedSimpArgs false

/-- A store in a row that is owned, whatever its elements are. -/
theorem owns_put {w : World} {base : Nat} {e : TypeId} {k g n cap : Nat} {xs : List Value} (hO : w.ownsRow base e k (.slice (some ⟨g, 0, none⟩) n cap) n xs) (q : Nat) (u : Value) :
    (w.setCell ⟨g, q, none⟩ u).ownsRow base e k (.slice (some ⟨g, 0, none⟩) n cap) n (xs.set q u) := by
  have hl := hO.1
  rcases hO.2 with ⟨h0, _⟩ | ⟨g', cap', cur, hv, hb, hh, hn, hc, hs, ht⟩
  · cases h0
  · simp only [Value.slice.injEq, Option.some.injEq, Addr.mk.injEq] at hv
    obtain ⟨⟨rfl, _⟩, _, rfl⟩ := hv
    refine ⟨by rw [List.length_set]; exact hl, .inr ⟨g, cap, cur.setIfInBounds q u, rfl, hb, ?_, hn, hc, by simpa using hs, ?_⟩⟩
    · simp [World.setCell, Array.getElem?_modify, hh]
    · rw [Array.toList_setIfInBounds, List.take_set, ht]
/-- A row that is owned, whatever it holds. -/
def Ow (w : World) (B : Nat) (e : TypeId) (k : Nat) (v : Value) (n : Nat) : Prop := ∃ xs, w.ownsRow B e k v n xs
theorem Ow.put {w : World} {B : Nat} {e : TypeId} {k g n cap : Nat} (h : Ow w B e k (.slice (some ⟨g, 0, none⟩) n cap) n) (q : Nat) (u : Value) : Ow (w.setCell ⟨g, q, none⟩ u) B e k (.slice (some ⟨g, 0, none⟩) n cap) n := by
  obtain ⟨xs, h⟩ := h
  exact ⟨_, owns_put h q u⟩
theorem Ow.chg {w w' : World} {F : Nat → Prop} {B : Nat} {e : TypeId} {k n : Nat} {v : Value} (h : Ow w B e k v n) (hc : Chg F w w') (hF : ∀ i, v.ownBlock = some i → ¬ F i) : Ow w' B e k v n := by
  obtain ⟨xs, h⟩ := h
  exact ⟨xs, hc.owns h hF⟩
theorem Ow.later {w w' : World} {B : Nat} {e : TypeId} {k n : Nat} {v : Value} (h : Ow w B e k v n) (hb : Below w.heap.size w w') : Ow w' B e k v n := h.chg (Chg.of_below (F := fun _ => False) hb) (fun _ _ e => e)
/-- Where it lies, if it holds anything. -/
theorem Ow.at {w : World} {B : Nat} {e : TypeId} {k n : Nat} {v : Value} (h : Ow w B e k v n) (hn : 0 < n) : ∃ g cap, v = .slice (some ⟨g, 0, none⟩) n cap ∧ B ≤ g ∧ g < w.heap.size ∧ n ≤ cap ∧ cap ≤ 9223372036854775807 ∧ (∀ q, q < n * k → ∃ u, w.cell? ⟨g, q, none⟩ = some u) ∧ ∀ q, w.frozen? ⟨g, q, none⟩ = false := by
  obtain ⟨xs, h⟩ := h
  rcases h.2 with ⟨_, h0⟩ | ⟨g, cap, cur, rfl, hb, hh, hnc, hcm, hs, ht⟩
  · omega
  · refine ⟨g, cap, rfl, hb, (Array.getElem?_eq_some_iff.1 hh).1, hnc, by unfold maxLen at hcm; omega, fun q hq => ?_, fun q => ?_⟩
    · have hqx : q < xs.length := by rw [h.1]; exact hq
      have := h.cells rfl q xs[q] (by simp [hqx])
      exact ⟨_, by simpa [Addr.add_lit] using this⟩
    · simp [World.frozen?, hh]
/-- What is behind a bound is not met by what is written ahead of it. -/
theorem FD.behind {B E : Nat} {w w' : World} {m : FM} (h : FD E w m) (hE : 0 < E) (hc : Chg (fun i => B ≤ i ∧ i < E) w w') (hB : 0 < B) : FD E w' m := by
  have ow : ∀ {e k : Nat} {v : Value} {n : Nat} {xs : List Value}, w.ownsRow E e k v n xs → w'.ownsRow E e k v n xs := fun h => hc.owns h (fun g hg e => by have := (h.lt g hg).1; omega)
  have sr : ∀ x, SrO E x w → SrO E x w' := fun x h => ⟨h.1, h.2.1, ow h.2.2.1, ow h.2.2.2.1, h.2.2.2.2⟩
  cases m with
  | tk ad n c l => exact ⟨hc.sl h.1 (fun y hy hn e => by have := h.2.1 y hy hn; omega), h.2⟩
  | ws ad c xs => exact ⟨ow h.1, fun x hx => ⟨sr x (h.2 x hx).1, (h.2 x hx).2⟩⟩
  | se ad c xs => exact ⟨ow h.1, fun x hx => ⟨sr x (h.2 x hx).1, (h.2 x hx).2⟩⟩
  | ms ad c l => exact ⟨ow h.1, h.2⟩
  | ro ad c xs => exact ⟨ow h.1, fun x hx => ⟨(h.2 x hx).1, (h.2 x hx).2.1, ow (h.2 x hx).2.2⟩⟩
  | ts ad c l => exact ow h
  | tx d => exact h
  | qu d => exact h
  | tm n => exact h
  | am n => exact h
  | nu n => exact h
/-- What the code's Decode tells lies behind. -/
theorem FD.of {B K : Nat} {w : World} {m : FM} (h : FO B K w m) (hK : B ≤ K ∨ ∀ ad n c l, m = .tk ad n c l → n = 0) : FD B w m := by
  cases m with
  | tk ad n c l =>
    refine ⟨h.2.1, fun y hy hn => ?_, h.2.2.2.2⟩
    rcases hK with hK | hK
    · rw [(h.2.2.1 y hy hn).1]; exact hK
    · have := hK ad n c l rfl; omega
  | tx d => exact h
  | qu d => exact h
  | ws ad c xs => exact h
  | ms ad c l => exact h
  | tm n => exact h
  | am n => exact h
  | se ad c xs => exact h
  | ro ad c xs => exact h
  | nu n => exact h
  | ts ad c l => exact h
end Go.Proofs.YtalmpmhnkilalaaGreatDoor

/-
  WireReads' walk.
-/
namespace Go.Proofs.YtalmpmhnkilalaaGreatDoor
open Go.RowKit
set_option linter.unusedVariables false
set_option linter.unusedSimpArgs false

/-- What a Decode told: the request, and whether it is one. -/
def rqV (o : Option (Int × (Nat → FV))) : Int × (Nat → FV) := o.getD (0, zQ)
theorem decP_form {w w' : World} {b : List Int} {e : Ending} (h : DecP w b (decQ b) e w') :
    Below w.heap.size w w' ∧ ∃ fm : Nat → FM, e = .returned (.tuple #[.agg (cQ (rqV (decQ b)).1 fm).toArray, if (decQ b).isSome then .nilIface else errW]) ∧ ∀ j, j < 12 → (fm j).fv = (rqV (decQ b)).2 j ∧ FD w.heap.size w' (fm j) := by
  unfold rqV
  cases hd : decQ b with
  | none =>
    rw [hd] at h
    exact ⟨h.1, fun i => zM (kdQ i), h.2, fun j hj => ⟨zM_fv _, zM_fd _ _ _⟩⟩
  | some q =>
    rw [hd] at h
    obtain ⟨k, f⟩ := q
    obtain ⟨h1, K, fm, h2, h3, h4⟩ := h
    refine ⟨h1, fm, h2, fun j hj => ⟨(h4 j hj).1, FD.of (h4 j hj).2 ?_⟩⟩
    rcases h3 with h3 | h3
    · exact .inl h3.1
    · subst h3
      cases hd
theorem docP_form {w w' : World} {b : List Int} {e : Ending} (h : DocP w (decQ b) e w') :
    Below w.heap.size w w' ∧ ∃ fm : Nat → FM, e = .returned (.tuple #[.agg (cQ (rqV (decQ b)).1 fm).toArray, .int .i64 (if (decQ b).isSome then 0 else 180)]) ∧ ∀ j, j < 12 → (fm j).fv = (rqV (decQ b)).2 j ∧ FD w.heap.size w' (fm j) := by
  unfold rqV
  cases hd : decQ b with
  | none =>
    rw [hd] at h
    exact ⟨h.1, fun i => zM (kdQ i), h.2, fun j hj => ⟨zM_fv _, zM_fd _ _ _⟩⟩
  | some q =>
    rw [hd] at h
    obtain ⟨k, f⟩ := q
    obtain ⟨h1, fm, h2, h3⟩ := h
    exact ⟨h1, fm, h2, h3⟩
theorem rqV_kd {b : List Int} (hb : Byte b) (i : Nat) : ((rqV (decQ b)).2 i).kd = kdQ i := by
  unfold rqV
  cases hd : decQ b with
  | none => exact zeroV_kd _
  | some q =>
    obtain ⟨k, f⟩ := q
    exact (enc_decQ hb hd).1.kd i
end Go.Proofs.YtalmpmhnkilalaaGreatDoor

/-
  WireReads: rows that may be written, whatever they hold.
-/
namespace Go.Proofs.YtalmpmhnkilalaaGreatDoor
open Go.RowKit
set_option linter.unusedVariables false
set_option linter.unusedSimpArgs false

/-- A block that may be written, of at least so many cells. -/
def Pl (w : World) (g : Nat) (t : TypeId) (m : Nat) : Prop := ∃ l, Blk w g t l ∧ m ≤ l.length
theorem Pl.set {w : World} {g : Nat} {t : TypeId} {m : Nat} (h : Pl w g t m) (c o : Nat) (v : Value) : Pl (w.setCell ⟨c, o, none⟩ v) g t m := by
  obtain ⟨l, h, hm⟩ := h
  by_cases e : g = c
  · subst e
    exact ⟨_, h.set o v, by rw [List.length_set]; exact hm⟩
  · exact ⟨l, h.setOff _ _ e, hm⟩
theorem Pl.sets {g : Nat} {t : TypeId} {m : Nat} : ∀ (vs : List Value) (c o : Nat) (w : World), Pl w g t m → Pl (w.setCells c o vs) g t m
  | [], c, o, w, h => h
  | v :: r, c, o, w, h => by
    rw [World.setCells]
    exact Pl.sets r c (o + 1) _ (h.set c o v)
theorem Pl.later {w w' : World} {g : Nat} {t : TypeId} {m : Nat} (h : Pl w g t m) (hb : Below w.heap.size w w') : Pl w' g t m := by
  obtain ⟨l, h, hm⟩ := h
  exact ⟨l, h.later hb, hm⟩
theorem Pl.chg {w w' : World} {F : Nat → Prop} {g : Nat} {t : TypeId} {m : Nat} (h : Pl w g t m) (hc : Chg F w w') (hF : ¬ F g) : Pl w' g t m := by
  obtain ⟨l, h, hm⟩ := h
  exact ⟨l, hc.blk h hF, hm⟩
theorem Pl.there {w : World} {g : Nat} {t : TypeId} {m : Nat} (h : Pl w g t m) (o n : Nat) (hn : o + n ≤ m) : w.there g o n := by
  obtain ⟨l, h, hm⟩ := h
  exact h.there o n (by omega)

/-- A row that may be written. -/
def Rww (w : World) (B E : Nat) (t k : Nat) (ad : Option Addr) (n c : Nat) : Prop :=
  (n ≤ c ∧ c ≤ 9223372036854775807) ∧ (0 < n → ∃ g off, ad = some ⟨g, off, none⟩ ∧ B ≤ g ∧ g < E ∧ Pl w g t (off + n * k))
theorem Rww.sets {w : World} {B E t k n c : Nat} {ad : Option Addr} (h : Rww w B E t k ad n c) (x o : Nat) (vs : List Value) : Rww (w.setCells x o vs) B E t k ad n c := by
  refine ⟨h.1, fun hn => ?_⟩
  obtain ⟨g, off, h1, h2, h3, h4⟩ := h.2 hn
  exact ⟨g, off, h1, h2, h3, h4.sets vs x o w⟩
theorem Rww.set {w : World} {B E t k n c : Nat} {ad : Option Addr} (h : Rww w B E t k ad n c) (x o : Nat) (v : Value) : Rww (w.setCell ⟨x, o, none⟩ v) B E t k ad n c := by
  refine ⟨h.1, fun hn => ?_⟩
  obtain ⟨g, off, h1, h2, h3, h4⟩ := h.2 hn
  exact ⟨g, off, h1, h2, h3, h4.set x o v⟩
theorem Rww.chg {w w' : World} {F : Nat → Prop} {B E t k n c : Nat} {ad : Option Addr} (h : Rww w B E t k ad n c) (hc : Chg F w w') (hF : ∀ i, B ≤ i → i < E → ¬ F i) : Rww w' B E t k ad n c := by
  refine ⟨h.1, fun hn => ?_⟩
  obtain ⟨g, off, h1, h2, h3, h4⟩ := h.2 hn
  exact ⟨g, off, h1, h2, h3, h4.chg hc (hF g h2 h3)⟩
theorem owns_capK {w : World} {B t k n c : Nat} {ad : Option Addr} {xs : List Value} (h : w.ownsRow B t k (.slice ad n c) n xs) : n ≤ c ∧ c ≤ 9223372036854775807 := by
  rcases h.2 with ⟨h0, h1⟩ | ⟨g, cap, cur, hv, hb, hh, hnc, hcm, hs, ht⟩
  · injection h0 with e1 e2 e3
    omega
  · injection hv with e1 e2 e3
    unfold maxLen at hcm
    omega
theorem Rww.of {w : World} {B t k n c : Nat} {ad : Option Addr} {xs : List Value} (h : w.ownsRow B t k (.slice ad n c) n xs) : Rww w B w.heap.size t k ad n c := by
  refine ⟨owns_capK h, fun hn => ?_⟩
  rcases h.2 with ⟨_, h0⟩ | ⟨g, cap, cur, hv, hb, hh, hnc, hcm, hs, ht⟩
  · omega
  · injection hv with h1 h2 h3
    subst h1
    refine ⟨g, 0, rfl, hb, (Array.getElem?_eq_some_iff.1 hh).1, cur.toList, hh, ?_⟩
    have hx := h.1
    have h9 : (cur.toList.take (n * k)).length = n * k := by rw [ht]; exact hx
    rw [List.length_take] at h9
    omega
/-- What Decode told, as its owner may write it: the rows of its writes, of its matchers, of its tokens. -/
structure Tw where
  aw : Option Addr
  cw : Nat
  xs : List Ser
  am : Option Addr
  cm : Nat
  ms : List Ma
  ta : Option Addr
  nt : Nat
  ct : Nat
  tl : List Int
  ab : Option Addr
  nb : Nat
  cb : Nat
  bl : List Int
structure Wto (w : World) (B E : Nat) (fm : Nat → FM) (T : Tw) (i : Nat) : Prop where
  e2 : fm 2 = .ws T.aw T.cw T.xs
  e3 : fm 3 = .ms T.am T.cm T.ms
  e1 : fm 1 = .tk T.ta T.nt T.ct T.tl
  e11 : fm 11 = .tk T.ab T.nb T.cb T.bl
  bw : T.xs.length ≤ T.cw ∧ T.cw ≤ 9223372036854775807
  row : 0 < T.xs.length → ∃ g l, T.aw = some ⟨g, 0, none⟩ ∧ B ≤ g ∧ g < E ∧ Blk w g 45 l ∧ 2 * T.xs.length ≤ l.length ∧ ∀ j x, i ≤ j → T.xs[j]? = some x → l[2 * j]? = some (.slice x.la x.ln x.lc) ∧ l[2 * j + 1]? = some (.slice x.sa x.sn x.sc)
  rows : ∀ x ∈ T.xs, Rww w B E 47 2 x.la x.ln x.lc ∧ Rww w B E 50 2 x.sa x.sn x.sc
  rm : Rww w B E 52 3 T.am T.ms.length T.cm
  rt : Rww w B E 5 1 T.ta T.nt T.ct
  rb : Rww w B E 5 1 T.ab T.nb T.cb

theorem Wto.chg {w w' : World} {F : Nat → Prop} {B E i : Nat} {fm : Nat → FM} {T : Tw} (h : Wto w B E fm T i) (hc : Chg F w w') (hF : ∀ i, B ≤ i → i < E → ¬ F i) : Wto w' B E fm T i := by
  refine ⟨h.e2, h.e3, h.e1, h.e11, h.bw, fun hn => ?_, fun x hx => ⟨(h.rows x hx).1.chg hc hF, (h.rows x hx).2.chg hc hF⟩, h.rm.chg hc hF, h.rt.chg hc hF, h.rb.chg hc hF⟩
  obtain ⟨g, l, h1, h2, h3, h4, h5, h6⟩ := h.row hn
  exact ⟨g, l, h1, h2, h3, hc.blk h4 (hF g h2 h3), h5, h6⟩
theorem Wto.sets {w : World} {B E i : Nat} {fm : Nat → FM} {T : Tw} (h : Wto w B E fm T i) (x o : Nat) (vs : List Value) {t m : Nat} (hx : Pl w x t m) (ht : t ≠ 45) : Wto (w.setCells x o vs) B E fm T i := by
  refine ⟨h.e2, h.e3, h.e1, h.e11, h.bw, fun hn => ?_, fun y hy => ⟨(h.rows y hy).1.sets x o vs, (h.rows y hy).2.sets x o vs⟩, h.rm.sets x o vs, h.rt.sets x o vs, h.rb.sets x o vs⟩
  obtain ⟨g, l, h1, h2, h3, h4, h5, h6⟩ := h.row hn
  refine ⟨g, l, h1, h2, h3, Blk.setsOff vs o x w l h4 (fun e => ?_), h5, h6⟩
  subst e
  obtain ⟨l2, hl2, _⟩ := hx
  unfold Blk at hl2 h4
  rw [hl2] at h4
  injection h4 with h4
  injection h4 with _ h4
  exact ht h4
theorem Wto.next {w : World} {B E i g : Nat} {fm : Nat → FM} {T : Tw} (h : Wto w B E fm T i) (u v : Value) (hi : i < T.xs.length) (hg : T.aw = some ⟨g, 0, none⟩) : Wto (w.setCells g (2 * i) [u, v]) B E fm T (i + 1) := by
  refine ⟨h.e2, h.e3, h.e1, h.e11, h.bw, fun hn => ?_, fun y hy => ⟨(h.rows y hy).1.sets _ _ _, (h.rows y hy).2.sets _ _ _⟩, h.rm.sets _ _ _, h.rt.sets _ _ _, h.rb.sets _ _ _⟩
  obtain ⟨g', l, h1, h2, h3, h4, h5, h6⟩ := h.row hn
  rw [hg] at h1
  injection h1 with h1
  injection h1 with h1
  subst h1
  refine ⟨g, _, hg, h2, h3, (h4.set (2 * i) u).set (2 * i + 1) v, by simpa using h5, fun j x hj hx => ?_⟩
  obtain ⟨q1, q2⟩ := h6 j x (by omega) hx
  rw [List.getElem?_set_ne (by omega), List.getElem?_set_ne (by omega), List.getElem?_set_ne (by omega), List.getElem?_set_ne (by omega)]
  exact ⟨q1, q2⟩

/-- The cells of a row of series. -/
theorem ser_cells : ∀ (xs : List Ser) (j : Nat) (x : Ser), xs[j]? = some x → (xs.flatMap Ser.cells)[2 * j]? = some (.slice x.la x.ln x.lc) ∧ (xs.flatMap Ser.cells)[2 * j + 1]? = some (.slice x.sa x.sn x.sc)
  | [], j, x, h => by simp at h
  | y :: r, 0, x, h => by
    simp at h
    subst h
    simp [Ser.cells]
  | y :: r, j + 1, x, h => by
    have := ser_cells r j x (by simpa using h)
    rw [show 2 * (j + 1) = 2 * j + 2 by omega, show 2 * j + 2 + 1 = 2 * j + 1 + 2 by omega]
    simpa [Ser.cells] using this

theorem tk_of {m : FM} (h : m.fv.kd = .tk) : ∃ ad n c l, m = .tk ad n c l := by
  cases m <;> first | exact ⟨_, _, _, _, rfl⟩ | cases h
theorem ws_of {m : FM} (h : m.fv.kd = .ws) : ∃ ad c xs, m = .ws ad c xs := by
  cases m <;> first | exact ⟨_, _, _, rfl⟩ | cases h
theorem ms_of {m : FM} (h : m.fv.kd = .ms) : ∃ ad c l, m = .ms ad c l := by
  cases m <;> first | exact ⟨_, _, _, rfl⟩ | cases h

theorem wto_of {w : World} {B K : Nat} {fm : Nat → FM} (hk : ∀ j, j < 12 → (fm j).fv.kd = kdQ j) (h : ∀ j, j < 12 → FO B K w (fm j)) (hK : (B ≤ K ∧ ∃ cur, w.heap[K]? = some (.cells cur 5 (0, 0))) ∨ ∀ j ad n c l, j < 12 → fm j = .tk ad n c l → n = 0) :
    ∃ T : Tw, Wto w B w.heap.size fm T 0 := by
  obtain ⟨at', nt, ct, tl, e1⟩ := tk_of (hk 1 (by omega))
  obtain ⟨aw, cw, xs, e2⟩ := ws_of (hk 2 (by omega))
  obtain ⟨am, cm, ms, e3⟩ := ms_of (hk 3 (by omega))
  obtain ⟨ab, nb, cb, bl, e11⟩ := tk_of (hk 11 (by omega))
  have h1 := h 1 (by omega)
  have h2 := h 2 (by omega)
  have h3 := h 3 (by omega)
  have h11 := h 11 (by omega)
  rw [e1] at h1
  rw [e2] at h2
  rw [e3] at h3
  rw [e11] at h11
  have tok : ∀ ad n c l, (c = n ∧ Sl w ad n l ∧ (∀ y, ad = some y → 0 < n → y.block = K ∧ y.spot = none) ∧ (ad = none → n = 0) ∧ n ≤ 1048576) → ((B ≤ K ∧ ∃ cur, w.heap[K]? = some (.cells cur 5 (0, 0))) ∨ n = 0) → Rww w B w.heap.size 5 1 ad n c := by
    intro ad n c l hh hk
    refine ⟨⟨by omega, by omega⟩, fun hn => ?_⟩
    obtain ⟨b, off, rfl, hb, hc⟩ := hh.2.1.at hn
    obtain rfl : b = K := (hh.2.2.1 _ rfl hn).1
    rcases hk with ⟨hBK, cur, hcur⟩ | hk
    · refine ⟨b, off, rfl, hBK, hb, cur.toList, hcur, ?_⟩
      have h9 := hc (n - 1) (by omega)
      have hB9 : Blk w b 5 cur.toList := hcur
      rw [hB9.cell] at h9
      have := (List.getElem?_eq_some_iff.1 h9).1
      omega
    · omega
  refine ⟨⟨aw, cw, xs, am, cm, ms, at', nt, ct, tl, ab, nb, cb, bl⟩, e2, e3, e1, e11, owns_capK h2.1, fun hn => ?_, fun x hx => ?_, Rww.of h3.1, tok _ _ _ _ h1 ?_, tok _ _ _ _ h11 ?_⟩
  · have hX := h2.1
    have hn : 0 < xs.length := hn
    rcases hX.2 with ⟨_, h0⟩ | ⟨g, cap, cur, hv, hb, hh, hnc, hcm, hs, ht⟩
    · omega
    · injection hv with q1 q2 q3
      subst q1
      refine ⟨g, cur.toList, rfl, hb, (Array.getElem?_eq_some_iff.1 hh).1, hh, ?_, fun j x _ hx => ?_⟩
      · have hx := hX.1
        have h9 : (cur.toList.take (xs.length * 2)).length = xs.length * 2 := by rw [ht]; exact hx
        rw [List.length_take] at h9
        show 2 * xs.length ≤ cur.toList.length
        omega
      · have hj : j < xs.length := (List.getElem?_eq_some_iff.1 hx).1
        have hx : xs[j]? = some x := hx
        obtain ⟨s1, s2⟩ := ser_cells xs j x hx
        rw [← ht] at s1 s2
        rw [List.getElem?_take, if_pos (by omega)] at s1 s2
        exact ⟨s1, s2⟩
  · obtain ⟨s1, s2, s3, s4, s5⟩ := (h2.2 x hx).1
    exact ⟨Rww.of s3, Rww.of s4⟩
  · rcases hK with hK | hK
    · exact .inl hK
    · exact .inr (hK 1 _ _ _ _ (by omega) e1)
  · rcases hK with hK | hK
    · exact .inl hK
    · exact .inr (hK 11 _ _ _ _ (by omega) e11)

/-- Its owner writes: what else there is stays. -/
structure RW (B E g5 : Nat) (k : Int) (fm : Nat → FM) (T : Tw) (wA : World) (i : Nat) (ws : World) : Prop where
  chg : Chg (fun j => B ≤ j ∧ j < E) wA ws
  var : Blk ws g5 26 (cQ k fm)
  wt : Wto ws B E fm T i
theorem RW.put {B E g5 : Nat} {k : Int} {fm : Nat → FM} {T : Tw} {wA ws : World} {i : Nat} (h : RW B E g5 k fm T wA i ws) (hE : E ≤ g5) (x o : Nat) (vs : List Value) {t m : Nat} (h1 : B ≤ x) (h2 : x < E) (hx : Pl ws x t m) (ht : t ≠ 45) : RW B E g5 k fm T wA i (ws.setCells x o vs) :=
  ⟨h.chg.trans (Chg.sets x vs o ws) (fun j _ e => by have e : j = x := e; omega), Blk.setsOff vs o x ws _ h.var (by omega), h.wt.sets x o vs hx ht⟩
theorem RW.next {B E g5 g : Nat} {k : Int} {fm : Nat → FM} {T : Tw} {wA ws : World} {i : Nat} (h : RW B E g5 k fm T wA i ws) (hE : E ≤ g5) (u v : Value) (hi : i < T.xs.length) (hg : T.aw = some ⟨g, 0, none⟩) : RW B E g5 k fm T wA (i + 1) (ws.setCells g (2 * i) [u, v]) := by
  obtain ⟨g', l, h1, h2, h3, _⟩ := h.wt.row (by omega)
  rw [hg] at h1
  injection h1 with h1
  injection h1 with h1
  subst h1
  exact ⟨h.chg.trans (Chg.sets g _ _ ws) (fun j _ e => by have e : j = g := e; omega), Blk.setsOff _ _ g ws _ h.var (by omega), h.wt.next u v hi hg⟩
theorem RW.c3 {B E g5 : Nat} {k : Int} {fm : Nat → FM} {T : Tw} {wA ws : World} {i : Nat} (h : RW B E g5 k fm T wA i ws) : ws.cell? ⟨g5, 3, none⟩ = some (.slice T.aw T.xs.length T.cw) := by
  rw [h.var.cell, cQ_at k fm 2 (by omega), h.wt.e2]; rfl
theorem RW.c4 {B E g5 : Nat} {k : Int} {fm : Nat → FM} {T : Tw} {wA ws : World} {i : Nat} (h : RW B E g5 k fm T wA i ws) : ws.cell? ⟨g5, 4, none⟩ = some (.slice T.am T.ms.length T.cm) := by
  rw [h.var.cell, cQ_at k fm 3 (by omega), h.wt.e3]; rfl
theorem RW.c2 {B E g5 : Nat} {k : Int} {fm : Nat → FM} {T : Tw} {wA ws : World} {i : Nat} (h : RW B E g5 k fm T wA i ws) : ws.cell? ⟨g5, 2, none⟩ = some (.slice T.ta T.nt T.ct) := by
  rw [h.var.cell, cQ_at k fm 1 (by omega), h.wt.e1]; rfl
theorem RW.c12 {B E g5 : Nat} {k : Int} {fm : Nat → FM} {T : Tw} {wA ws : World} {i : Nat} (h : RW B E g5 k fm T wA i ws) : ws.cell? ⟨g5, 12, none⟩ = some (.slice T.ab T.nb T.cb) := by
  rw [h.var.cell, cQ_at k fm 11 (by omega), h.wt.e11]; rfl
/-- The rows of a series that was not written over yet. -/
theorem RW.ser {B E g5 : Nat} {k : Int} {fm : Nat → FM} {T : Tw} {wA ws : World} {i : Nat} (h : RW B E g5 k fm T wA i ws) (hi : i < T.xs.length) : ∃ g x, T.aw = some ⟨g, 0, none⟩ ∧ B ≤ g ∧ g < E ∧ ws.there g (2 * i) 2 ∧ x ∈ T.xs ∧ T.xs[i]? = some x ∧ ws.cell? ⟨g, 2 * i, none⟩ = some (.slice x.la x.ln x.lc) ∧ ws.cell? ⟨g, 2 * i + 1, none⟩ = some (.slice x.sa x.sn x.sc) := by
  obtain ⟨g, l, h1, h2, h3, h4, h5, h6⟩ := h.wt.row (by omega)
  obtain ⟨x, hx⟩ : ∃ x, T.xs[i]? = some x := ⟨T.xs[i], by simp [hi]⟩
  obtain ⟨q1, q2⟩ := h6 i x (Nat.le_refl _) hx
  refine ⟨g, x, h1, h2, h3, h4.there _ _ (by omega), List.mem_of_getElem? hx, hx, ?_, ?_⟩
  · rw [h4.cell]; exact q1
  · rw [h4.cell]; exact q2
/-- The same cells, where its rows were written. -/
theorem RW.serAt {B E g5 : Nat} {k : Int} {fm : Nat → FM} {T : Tw} {wA ws : World} {i g : Nat} {x : Ser} (h : RW B E g5 k fm T wA i ws) (hi : i < T.xs.length) (hg : T.aw = some ⟨g, 0, none⟩) (hx : T.xs[i]? = some x) : ws.there g (2 * i) 2 ∧ ws.cell? ⟨g, 2 * i, none⟩ = some (.slice x.la x.ln x.lc) ∧ ws.cell? ⟨g, 2 * i + 1, none⟩ = some (.slice x.sa x.sn x.sc) := by
  obtain ⟨g', x', h1, h2, h3, h4, h5, h6, h7, h8⟩ := h.ser hi
  rw [hg] at h1
  injection h1 with h1
  injection h1 with h1
  subst h1
  rw [hx] at h6
  injection h6 with h6
  subst h6
  exact ⟨h4, h7, h8⟩

end Go.Proofs.YtalmpmhnkilalaaGreatDoor

/-
  WireReads: what the code's Decode told, as its owner may write it.
-/
namespace Go.Proofs.YtalmpmhnkilalaaGreatDoor
open Go.RowKit
set_option linter.unusedVariables false
set_option linter.unusedSimpArgs false

theorem decP_formW {w w' : World} {b : List Int} {e : Ending} (hb : Byte b) (h : DecP w b (decQ b) e w') :
    Below w.heap.size w w' ∧ ∃ fm : Nat → FM, e = .returned (.tuple #[.agg (cQ (rqV (decQ b)).1 fm).toArray, if (decQ b).isSome then .nilIface else errW]) ∧ (∀ j, j < 12 → (fm j).fv = (rqV (decQ b)).2 j ∧ FD w.heap.size w' (fm j)) ∧ ∃ T, Wto w' w.heap.size w'.heap.size fm T 0 := by
  unfold rqV
  cases hd : decQ b with
  | none =>
    rw [hd] at h
    refine ⟨h.1, fun i => zM (kdQ i), h.2, fun j hj => ⟨zM_fv _, zM_fd _ _ _⟩, wto_of (K := 0) (fun j _ => by rw [zM_fv]; exact zeroV_kd _) (fun j hj => zM_fo _ _ _ _) (.inr (fun j ad n c l _ he => ?_))⟩
    have he : zM (kdQ j) = FM.tk ad n c l := he
    cases hk : kdQ j <;> rw [hk] at he <;> first | (cases he; done) | (injection he with _ h2; exact h2.symm)
  | some q =>
    rw [hd] at h
    obtain ⟨k, f⟩ := q
    obtain ⟨h1, K, fm, h2, h3, h4⟩ := h
    have h3' := h3.resolve_right (fun e => by subst e; cases hd)
    refine ⟨h1, fm, h2, fun j hj => ⟨(h4 j hj).1, FD.of (h4 j hj).2 (.inl h3'.1)⟩, wto_of (fun j hj => by rw [(h4 j hj).1]; exact (enc_decQ hb hd).1.kd j) (fun j hj => (h4 j hj).2) (.inl h3')⟩
/-- A row that is known whole, read as bytes. -/
theorem sl_blk {w : World} {g : Nat} {l : List Int} (h : Blk w g 5 (cells8 l)) (hb : Byte l) (n : Nat) (hn : n ≤ l.length) : Sl w (some ⟨g, 0, none⟩) n (l.take n) := by
  refine ⟨by rw [List.length_take]; omega, fun x hx => hb x (List.mem_of_mem_take hx), fun j hj => ⟨_, rfl, ?_⟩⟩
  have := h.cell j
  rw [show (⟨g, 0, none⟩ : Addr).add j = ⟨g, j, none⟩ by simp [Addr.add_lit], this]
  simp [cells8, List.getD, List.getElem?_take, hj, show j < l.length by omega]
theorem neq180nil (w : World) : (binOp .neq 36 (.iface 30 (.int .i64 180)) .nilIface).run Tryz.prog w = .ok (.bool true) w := by kernel_rfl
theorem neqnilnil (w : World) : (binOp .neq 36 .nilIface .nilIface).run Tryz.prog w = .ok (.bool false) w := by kernel_rfl
theorem neq180 (w : World) : (binOp .neq 36 (.iface 30 (.int .i64 180)) (.iface 30 (.int .i64 180))).run Tryz.prog w = .ok (.bool false) w := by kernel_rfl
end Go.Proofs.YtalmpmhnkilalaaGreatDoor
