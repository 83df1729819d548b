/-
  PostWalks: lists of lists that the statement makes; what it writes over.
-/
import Derived.Test.YtjpelnbffodaiaaPwD
import Derived.Test.YtjpelnbffodaiaaPoL
namespace Go.Proofs.Ytjpelnbffodaiaa
open Go Go.RowKit
set_option linter.unusedVariables false
set_option linter.unusedSimpArgs false

def entv (xs : List Lst) : List Value := xs.map Lst.v
theorem entv_length (xs : List Lst) : (entv xs).length = xs.length := by simp [entv]
theorem entv_append (l m : List Lst) : entv (l ++ m) = entv l ++ entv m := by simp [entv]
theorem entv_get {xs : List Lst} {k : Nat} {x : Lst} (h : xs[k]? = some x) : (entv xs)[k]? = some (.slice x.1 x.2.1 x.2.2.1) := by simp [entv, h, Lst.v]
theorem info22 : (Try.prog.info? 22).map (fun i => (i.zero, i.size, i.bytes)) = some (some (.slice none 0 0), 1, 24) := by kernel_rfl
/-- 'append(v, l)', v the call's own list of lists. -/
theorem wpList_pushL (w : World) {ops : Array Oper} {rest : List Oper} {o : Oper} {a : Act} {Q : Exit → Act → World → Prop} (hgd : o.guard = none) (s x : Operand)
    (ho : o.op = .call { callee := .builtin .append, args := #[s, x], argTypes := #[33, 33] }) (base : Nat) (v : Value) (n : Nat) (xs : List Lst) (hs : a.eval s = v) (w0 : World) (hown : w0.ownsRow base 22 1 v n (entv xs)) (p : Lst)
    (hw : w = w0.alloc (.cells #[.slice p.1 p.2.1 p.2.2.1] 22)) (hx : a.eval x = .slice (some ⟨w0.heap.size, 0, none⟩) 1 1) (hn : n ≤ 1000000000) (hbase : base ≤ w0.heap.size)
    (h : ∀ g' c' w', w'.ownsRow base 22 1 (.slice (some ⟨g', 0, none⟩) (n + 1) c') (n + 1) (entv (xs ++ [p])) → (w0.heap.size ≤ g' ∨ v.ownBlock = some g') → Chg (fun i => v.ownBlock = some i) w0 w' → wpList Try.prog ops Q rest (a.put o.dst (.slice (some ⟨g', 0, none⟩) (n + 1) c')) w') : wpList Try.prog ops Q (o :: rest) a w := by
  subst hw
  obtain ⟨i, hi, hz, hsize, hby⟩ := info_parts info22
  have hal : (w0.alloc (.cells #[.slice p.1 p.2.1 p.2.2.1] 22)).ownsRow base 22 1 v n (entv xs) := hown.alloc _
  refine wpList_push _ hgd s x 33 ho 22 i _ 24 Try.underlying33 hi hz hsize hby rfl base v n (entv xs) hs hal ⟨w0.heap.size, 0, none⟩ (.slice p.1 p.2.1 p.2.2.1) hx (by rw [World.cell?_alloc_mark]; rfl) rfl (by unfold maxLen; omega) (by omega) (by simp; omega) ?_
  intro g' c' w' ho' hp'
  have hc := Pushed.chg hp'
  refine h g' c' w' (by rw [entv_append]; exact ho') ?_ hc.1
  rcases hc.2 with h1 | ⟨g, h1, h2⟩
  · exact .inr h1.symm
  · injection h1 with h1
    subst h1
    exact .inl h2

theorem Chg.sw {F : Nat → Prop} {a b : World} {ad : Option Addr} {n : Nat} {l : List Nat} (h : Chg F a b) (hS : Sw a ad n l) (hF : ∀ x, ad = some x → 0 < n → ¬ F x.block) : Sw b ad n l := by
  refine ⟨hS.len, hS.bd, fun j hj => ?_⟩
  obtain ⟨x, hx, hc⟩ := hS.cell j hj
  refine ⟨x, hx, ?_⟩
  have hlt := hS.lt x hx (by omega)
  rw [← hc]
  exact World.cell?_of_block (by rw [add_block]; exact h.block _ hlt (hF x hx (by omega)))
theorem Chg.cellS {F : Nat → Prop} {a b : World} (h : Chg F a b) {p : Addr} {v : Value} (hc : a.cell? p = some v) (hF : ¬ F p.block) : b.cell? p = some v := by
  have hlt : p.block < a.heap.size := by
    rcases Nat.lt_or_ge p.block a.heap.size with hh | hh
    · exact hh
    · exfalso
      simp [World.cell?, Array.getElem?_eq_none hh] at hc
  unfold World.cell? at *
  rw [h.block _ hlt hF]
  exact hc

/-- A list's beginning. -/
def sh (x : Lst) : Lst := (x.1, min x.2.1 400, x.2.2.1, x.2.2.2.take (min x.2.1 400))
theorem sh_ar {w : World} {x : Lst} (h : Ar w x.1 x.2.1 x.2.2.1 x.2.2.2) : Ar w (sh x).1 (sh x).2.1 (sh x).2.2.1 (sh x).2.2.2 := by
  refine ⟨h.sw.take (Nat.min_le_left _ _), fun e => ?_, Nat.le_trans (Nat.min_le_left _ _) h.le, h.cm⟩
  obtain ⟨h1, h2⟩ := h.no e
  exact ⟨by show min x.2.1 400 = 0; omega, h2⟩

/-- A list that is lent, owned. -/
def Lo (B : Nat) (w : World) (g n c : Nat) (l : List Nat) : Prop :=
  w.ownsRow B 23 1 (.slice (some ⟨g, 0, none⟩) (n + 3) c) (n + 3) (cells32 (l ++ tri)) ∧ Wrd l ∧ l.length = n ∧ n + 3 ≤ c ∧ c ≤ maxLen ∧ B ≤ g
theorem Lo.lt {B : Nat} {w : World} {g n c : Nat} {l : List Nat} (h : Lo B w g n c l) : Lt w g n c l := ⟨sw_of_owns h.1 (h.2.1.append tri_wrd), h.2.2.1, h.2.2.2.1, h.2.2.2.2.1⟩
theorem Lo.chg {B : Nat} {F : Nat → Prop} {w w' : World} {g n c : Nat} {l : List Nat} (h : Lo B w g n c l) (hc : Chg F w w') (hF : ¬ F g) : Lo B w' g n c l :=
  ⟨hc.owns h.1 (fun g' hg => by injection hg with hg; subst hg; exact hF), h.2⟩
theorem Lo.base {B B' : Nat} {w : World} {g n c : Nat} {l : List Nat} (h : Lo B w g n c l) (hb : B' ≤ B) : Lo B' w g n c l := ⟨owns_base h.1 hb, h.2.1, h.2.2.1, h.2.2.2.1, h.2.2.2.2.1, Nat.le_trans hb h.2.2.2.2.2⟩
theorem Lo.size {B : Nat} {w : World} {g n c : Nat} {l : List Nat} (h : Lo B w g n c l) : g < w.heap.size := owns_lt h.1 g rfl
theorem Lo.tg {B : Nat} {w : World} {g n c : Nat} {l : List Nat} (h : Lo B w g n c l) : Tg w g 23 := owns_tg h.1 g rfl

set_option maxRecDepth 100000 in
theorem lentO (w : World) (ad : Option Addr) (n c : Nat) (l : List Nat) (h : Ar w ad n c l) (hn : n ≤ 1000000) :
    Calls Try.prog 9 #[.slice ad n c] w fun e w' => ∃ g c', e = .returned (.slice (some ⟨g, 0, none⟩) n c') ∧ Lo w.heap.size w' g n c' l ∧ Below w.heap.size w w' := by
  have H := hidden h
  have hl := h.sw.len
  have hwd := h.sw.bd
  clear h
  go_enter Try.func9, Try.ntmps9
  go_wp2_with (first
    | (refine wpList_appW _ rfl (.tmp 4) (.tmp 5) rfl w.heap.size (.slice none 0 0) 0 [] rfl (World.ownsRow_nil _ _ _ _) ad n c l rfl H.out.sw H.out.no (by omega) (Nat.le_refl _) ?_; intro a1 c1 w1 o1 b1; rw [Nat.zero_add, List.nil_append] at o1; have O1 := hidden o1; have B1 := hidden b1; clear o1 b1)
    | (refine wpList_appW _ rfl (.tmp 7) (.tmp 8) rfl w.heap.size (.slice a1 n c1) n l rfl (O1.out.alloc _) _ 3 3 tri rfl (sw_lit w1 tri tri_wrd 23 (0, 0) 3 rfl _ rfl _ rfl) (fun e => absurd e (by simp)) (by omega) (by have := B1.out.size; simp; omega) ?_; intro a2 c2 w2 o2 b2; obtain ⟨g, rfl, hg⟩ := owns_at o2 (by omega); obtain ⟨_, hc1, hc2, _⟩ := owns_cap o2; have hcm := hc2; unfold maxLen at hcm; have O2 := hidden o2; have B2 := hidden ((B1.out.alloc B1.out.size _).trans b2); clear o2 b2))
  go_ret
  exact ⟨g, c2, by simp, ⟨O2.out, hwd, hl, hc1, hc2, hg⟩, B2.out⟩

/-- Lists that are lent, beside those that they are copied from. -/
structure LA (S2 : Nat) (wx : World) (cs ls : List Lst) : Prop where
  len : ls.length = cs.length
  each : ∀ (k : Nat) (x y : Lst), ls[k]? = some x → cs[k]? = some y → ∃ g, x.1 = some ⟨g, 0, none⟩ ∧ x.2.1 = y.2.1 ∧ x.2.2.2 = y.2.2.2 ∧ Lo S2 wx g x.2.1 x.2.2.1 x.2.2.2
  apart : ∀ (j k : Nat) (x y : Lst), j < k → ls[j]? = some x → ls[k]? = some y → x.1 ≠ y.1
theorem LA.nil (S2 : Nat) (wx : World) : LA S2 wx [] [] := ⟨rfl, fun k x y h => by simp at h, fun j k x y _ h => by simp at h⟩
theorem LA.chg {S2 : Nat} {F : Nat → Prop} {w w' : World} {cs ls : List Lst} (h : LA S2 w cs ls) (hc : Chg F w w') (hF : ∀ g, Tg w g 23 → ¬ F g) : LA S2 w' cs ls :=
  ⟨h.len, fun k x y hx hy => by
    obtain ⟨g, h1, h2, h3, h4⟩ := h.each k x y hx hy
    exact ⟨g, h1, h2, h3, h4.chg hc (hF g h4.tg)⟩, h.apart⟩
theorem LA.below {S2 : Nat} {w w' : World} {cs ls : List Lst} (h : LA S2 w cs ls) (hb : Below w.heap.size w w') : LA S2 w' cs ls := h.chg (Chg.of_below (F := fun _ => False) hb) (fun _ _ h => h)
/-- Another one. -/
theorem LA.snoc {S2 : Nat} {w0 w : World} {cs ls : List Lst} (h : LA S2 w0 cs ls) (hb : Below w0.heap.size w0 w) (hS : S2 ≤ w0.heap.size) {g n c c0 : Nat} {l : List Nat} {a0 : Option Addr} (hL : Lo w0.heap.size w g n c l) : LA S2 w (cs ++ [(a0, n, c0, l)]) (ls ++ [(some ⟨g, 0, none⟩, n, c, l)]) := by
  have h' := h.below hb
  refine ⟨by simp [h.len], fun k x y hx hy => ?_, fun j k x y hjk hx hy => ?_⟩
  · rw [List.getElem?_append] at hx hy
    rw [h.len] at hx
    split at hx
    · rename_i hk
      rw [if_pos hk] at hy
      exact h'.each k x y hx hy
    · rename_i hk
      rw [if_neg hk] at hy
      obtain ⟨hz, hx⟩ : k - cs.length = 0 ∧ x = (some ⟨g, 0, none⟩, n, c, l) := by
        cases hq : k - cs.length with
        | zero => rw [hq] at hx; simp at hx; exact ⟨rfl, hx.symm⟩
        | succ q => rw [hq] at hx; simp at hx
      rw [hz] at hy
      simp at hy
      subst hx hy
      exact ⟨g, rfl, rfl, rfl, hL.base hS⟩
  · rw [List.getElem?_append] at hx hy
    split at hy
    · rename_i hk
      rw [if_pos (by omega)] at hx
      exact h.apart j k x y hjk hx hy
    · rename_i hk
      have e : y = (some ⟨g, 0, none⟩, n, c, l) := by
        cases hq : k - ls.length with
        | zero => rw [hq] at hy; simp at hy; exact hy.symm
        | succ q => rw [hq] at hy; simp at hy
      subst e
      split at hx
      · rename_i hj
        obtain ⟨y, hy⟩ : ∃ y, cs[j]? = some y := ⟨cs[j]'(by rw [← h.len]; exact hj), by simp⟩
        obtain ⟨g', h1, _, _, h4⟩ := h.each j x y hx hy
        rw [h1]
        intro e
        injection e with e
        injection e with e
        have e2 : g' = g := e
        have q1 := h4.size
        have q2 := hL.2.2.2.2.2
        omega
      · rename_i hj
        have : k - ls.length = 0 := by
          cases hq : k - ls.length with
          | zero => rfl
          | succ q => rw [hq] at hy; simp at hy
        omega
/-- Rows of lists, read. -/
theorem lsw_of {w : World} {B : Nat} {ad : Option Addr} {K c : Nat} {xs : List Lst} (h : w.ownsRow B 22 1 (.slice ad K c) K (entv xs)) (hA : ∀ x ∈ xs, Ar w x.1 x.2.1 x.2.2.1 x.2.2.2) : Lsw w ad xs := by
  intro i x hx
  have hi := (List.getElem?_eq_some_iff.1 hx).1
  have hK : xs.length = K := by have := h.1; rw [entv_length] at this; omega
  obtain ⟨g, rfl, hg⟩ := owns_at h (by omega)
  refine ⟨⟨g, 0, rfl, owns_lt h g rfl, ?_⟩, hA x (List.mem_of_getElem? hx)⟩
  rw [h.cellAt (0 + i) (by omega), Nat.zero_add]
  exact entv_get hx
theorem LA.lsw {S2 : Nat} {w : World} {cs ls : List Lst} (h : LA S2 w cs ls) {B : Nat} {ad : Option Addr} {K c : Nat} (ho : w.ownsRow B 22 1 (.slice ad K c) K (entv ls)) : Lsw w ad ls :=
  lsw_of ho (fun x hx => by
    obtain ⟨k, hk⟩ := List.mem_iff_getElem?.1 hx
    have hkl := (List.getElem?_eq_some_iff.1 hk).1
    obtain ⟨y, hy⟩ : ∃ y, cs[k]? = some y := ⟨cs[k]'(by rw [← h.len]; exact hkl), by simp⟩
    obtain ⟨g, h1, _, _, h4⟩ := h.each k x y hk hy
    rw [h1]
    exact h4.lt.ar)
theorem LA.same {S2 : Nat} {w : World} {cs ls : List Lst} (h : LA S2 w cs ls) : lss ls = lss cs := by
  unfold lss
  refine List.ext_getElem? fun k => ?_
  rw [List.getElem?_map, List.getElem?_map]
  cases hx : ls[k]? with
  | none =>
    have : cs[k]? = none := by rw [List.getElem?_eq_none_iff] at hx ⊢; have := h.len; omega
    rw [this]
  | some x =>
    have hkl := (List.getElem?_eq_some_iff.1 hx).1
    obtain ⟨y, hy⟩ : ∃ y, cs[k]? = some y := ⟨cs[k]'(by rw [← h.len]; exact hkl), by simp⟩
    obtain ⟨g, _, _, h3, _⟩ := h.each k x y hx hy
    rw [hy]
    simp [h3]
theorem lensum_bd : ∀ (xs : List Lst), (∀ x ∈ xs, x.2.1 ≤ 400) → lensum xs ≤ 400 * xs.length
  | [], _ => by simp [lensum]
  | x :: xs, h => by
    have h1 := lensum_bd xs (fun y hy => h y (by simp [hy]))
    have h2 := h x (by simp)
    simp only [lensum, List.map_cons, List.sum_cons, List.length_cons] at h1 ⊢
    omega
theorem LA.bd {S2 : Nat} {w : World} {cs ls : List Lst} (h : LA S2 w cs ls) (hc : ∀ x ∈ cs, x.2.1 ≤ 400) : ∀ x ∈ ls, x.2.1 ≤ 400 := fun x hx => by
  obtain ⟨k, hk⟩ := List.mem_iff_getElem?.1 hx
  have hkl := (List.getElem?_eq_some_iff.1 hk).1
  obtain ⟨y, hy⟩ : ∃ y, cs[k]? = some y := ⟨cs[k]'(by rw [← h.len]; exact hkl), by simp⟩
  obtain ⟨g, _, h2, _, _⟩ := h.each k x y hk hy
  rw [h2]
  exact hc y (List.mem_of_getElem? hy)
theorem wantF_same {S2 : Nat} {w : World} {cs ls : List Lst} (h : LA S2 w cs ls) : wantF (lss ls) = wantF (lss cs) := by rw [h.same]
theorem entv_set (xs : List Lst) (j : Nat) : (entv xs).set j (.slice none 0 0) = entv (xs.set j (none, 0, 0, [])) := by
  unfold entv
  rw [List.map_set]
  rfl
/-- What lies there while its owner writes over the lists: those from j on are as they were. -/
structure LC (S2 Z : Nat) (w5 wx : World) (a6 a7 : Option Addr) (K c6 c7 : Nat) (cs ls : List Lst) (j : Nat) : Prop where
  ch : Chg (fun b => S2 ≤ b ∧ b < Z) w5 wx
  row : ∃ ms : List Lst, wx.ownsRow S2 22 1 (.slice a6 K c6) K (entv ms) ∧ ∀ k, j ≤ k → ms[k]? = ls[k]?
  cop : wx.ownsRow S2 22 1 (.slice a7 K c7) K (entv cs)
  each : ∀ (k : Nat) (x y : Lst), j ≤ k → ls[k]? = some x → cs[k]? = some y → ∃ g, x.1 = some ⟨g, 0, none⟩ ∧ x.2.1 = y.2.1 ∧ x.2.2.2 = y.2.2.2 ∧ Lo S2 wx g x.2.1 x.2.2.1 x.2.2.2
theorem LC.below {S2 Z : Nat} {w5 wx wy : World} {a6 a7 : Option Addr} {K c6 c7 : Nat} {cs ls : List Lst} {j : Nat} (h : LC S2 Z w5 wx a6 a7 K c6 c7 cs ls j) (hb : Below wx.heap.size wx wy) : LC S2 Z w5 wy a6 a7 K c6 c7 cs ls j := by
  have hc : Chg (fun _ => False) wx wy := Chg.of_below hb
  obtain ⟨ms, h1, h2⟩ := h.row
  exact ⟨h.ch.trans hc (fun _ _ h => h.elim), ⟨ms, owns_later h1 hb, h2⟩, owns_later h.cop hb, fun k x y hj hx hy => by
    obtain ⟨g, q1, q2, q3, q4⟩ := h.each k x y hj hx hy
    exact ⟨g, q1, q2, q3, q4.chg hc (fun h => h)⟩⟩
/-- The next one: its list is written over, then let go. -/
theorem LC.next {S2 Z : Nat} {w5 wr wx : World} {r6 : Nat} {a7 : Option Addr} {K c6 c7 : Nat} {cs ls : List Lst} {j g : Nat} {x : Lst} (h : LC S2 Z w5 wr (some ⟨r6, 0, none⟩) a7 K c6 c7 cs ls j) (hx : ls[j]? = some x) (hg : x.1 = some ⟨g, 0, none⟩)
    (hne : ∀ q, Value.ownBlock (.slice a7 K c7) = some q → r6 ≠ q) (hr6 : S2 ≤ r6 ∧ r6 < Z) (hgz : S2 ≤ g ∧ g < Z) (hgt : Tg wr g 23) (hap : ∀ k y, j < k → ls[k]? = some y → x.1 ≠ y.1) (hc : Chg (fun b => b = g) wr wx) :
    LC S2 Z w5 (wx.setCell ⟨r6, j, none⟩ (.slice none 0 0)) (some ⟨r6, 0, none⟩) a7 K c6 c7 cs ls (j + 1) := by
  obtain ⟨ms, h1, h2⟩ := h.row
  have hrg : r6 ≠ g := fun e => absurd ((owns_tg h1 r6 rfl).one (by rw [e]; exact hgt)) (by decide)
  have h1x := hc.owns h1 (fun q hq e => by injection hq with hq; exact hrg (hq.trans e))
  have hs := Chg.set ⟨r6, j, none⟩ (.slice none 0 0) wx
  refine ⟨(h.ch.trans hc (fun i _ e => by rw [show i = g from e]; exact hgz)).trans hs (fun i _ e => by rw [show i = r6 from e]; exact hr6), ⟨ms.set j (none, 0, 0, []), ?_, fun k hk => ?_⟩, ?_, fun k y z hk hy hz => ?_⟩
  · rw [← entv_set]
    exact (h1x.stored j (.slice none 0 0)).1
  · rw [List.getElem?_set_ne (by omega)]
    exact h2 k (by omega)
  · refine hs.owns (hc.owns h.cop (fun q hq e => ?_)) (fun q hq e => ?_)
    · exact absurd ((owns_tg h.cop q hq).one (by rw [show q = g from e]; exact hgt)) (by decide)
    · exact hne q hq e.symm
  · obtain ⟨g', q1, q2, q3, q4⟩ := h.each k y z (by omega) hy hz
    have hgg : g' ≠ g := fun e => hap k y (by omega) hy (by rw [hg, q1, e])
    refine ⟨g', q1, q2, q3, (q4.chg hc (fun e => hgg e)).chg hs (fun e => ?_)⟩
    have ht := (q4.chg hc (fun e => hgg e)).tg
    rw [show g' = r6 from e] at ht
    exact absurd ((owns_tg h1x r6 rfl).one ht) (by decide)
end Go.Proofs.Ytjpelnbffodaiaa
