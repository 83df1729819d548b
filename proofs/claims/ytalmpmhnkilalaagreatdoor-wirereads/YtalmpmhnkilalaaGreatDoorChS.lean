/-
  Lists of samples in memory: rows of two cells each.
-/
import Derived.Test.YtalmpmhnkilalaaGreatDoorChI
import Derived.Test.YtalmpmhnkilalaaGreatDoorBlk
import Derived.Deep.CutRange
namespace Go.Proofs.YtalmpmhnkilalaaGreatDoor
open Go.RowKit
set_option linter.unusedVariables false
set_option linter.unusedSimpArgs false

theorem info32 : (Tryz.prog.info? 50).map (fun i => (i.zero, i.size, i.bytes)) = some (some (.agg #[.int .i64 0, .int .u64 0]), 2, 16) := by kernel_rfl

/-- A slice's labels: where they lie. -/
structure Ss (w : World) (ad : Option Addr) (l : List Sm) : Prop where
  sz : ∀ x ∈ l, OkS x
  at' : l ≠ [] → ∃ b off, ad = some ⟨b, off, none⟩ ∧ b < w.heap.size ∧ ∀ i x, l[i]? = some x → w.cell? ⟨b, off + i * 2, none⟩ = some (.int .i64 x.t) ∧ w.cell? ⟨b, off + i * 2 + 1, none⟩ = some (.int .u64 (x.v : Int))
theorem Ss.later {w w' : World} {ad : Option Addr} {l : List Sm} (h : Ss w ad l) (hb : Below w.heap.size w w') : Ss w' ad l := by
  refine ⟨h.sz, fun h0 => ?_⟩
  obtain ⟨b, off, e, hlt, hc⟩ := h.at' h0
  refine ⟨b, off, e, Nat.lt_of_lt_of_le hlt hb.size, fun i x hx => ?_⟩
  rw [hb.cell (p := ⟨b, off + i * 2, none⟩) hlt, hb.cell (p := ⟨b, off + i * 2 + 1, none⟩) hlt]
  exact hc i x hx
theorem Ss.nil (w : World) (ad : Option Addr) : Ss w ad [] := ⟨by simp, fun h => absurd rfl h⟩
theorem Ss.get {w : World} {ad : Option Addr} {l : List Sm} (h : Ss w ad l) {i : Nat} (hi : i < l.length) : ∃ b off x, ad = some ⟨b, off, none⟩ ∧ b < w.heap.size ∧ l[i]? = some x ∧ l[i] = x ∧ w.cell? ⟨b, off + i * 2, none⟩ = some (.int .i64 x.t) ∧ w.cell? ⟨b, off + i * 2 + 1, none⟩ = some (.int .u64 (x.v : Int)) ∧ OkS x := by
  obtain ⟨b, off, e, hlt, hc⟩ := h.at' (by intro h0; rw [h0] at hi; simp at hi)
  have hx : l[i]? = some l[i] := by simp [hi]
  exact ⟨b, off, l[i], e, hlt, hx, rfl, (hc i _ hx).1, (hc i _ hx).2, h.sz _ (by simp)⟩

def encS (x : Sm) : List Value := [.int .i64 x.t, .int .u64 (x.v : Int)]
def cS (l : List Sm) : List Value := l.flatMap encS
theorem cS_cons (x : Sm) (l : List Sm) : cS (x :: l) = .int .i64 x.t :: .int .u64 (x.v : Int) :: cS l := by simp [cS, encS]
theorem cS_length : ∀ l : List Sm, (cS l).length = l.length * 2
  | [] => rfl
  | x :: t => by rw [cS_cons]; simp only [List.length_cons]; rw [cS_length t]; omega
theorem cS_append (l m : List Sm) : cS (l ++ m) = cS l ++ cS m := by simp [cS]
theorem cS_get : ∀ (l : List Sm) (i : Nat) (x : Sm), l[i]? = some x → (cS l)[i * 2]? = some (.int .i64 x.t) ∧ (cS l)[i * 2 + 1]? = some (.int .u64 (x.v : Int))
  | [], i, x, h => by simp at h
  | y :: t, 0, x, h => by simp at h; subst h; rw [cS_cons]; exact ⟨rfl, rfl⟩
  | y :: t, i + 1, x, h => by
    rw [cS_cons, show (i + 1) * 2 = i * 2 + 1 + 1 by omega, show i * 2 + 1 + 1 + 1 = (i * 2 + 1) + 1 + 1 by omega]
    simp only [List.getElem?_cons_succ] at h ⊢
    exact cS_get t i x h
theorem cS_one (l : List Sm) : ∀ u ∈ cS l, u.oneCell' = true := by
  intro u hu
  obtain ⟨x, _, hx⟩ := List.mem_flatMap.1 hu
  simp [encS] at hx
  rcases hx with rfl | rfl <;> rfl
def Bd (l : List Sm) : Prop := ∀ x ∈ l, OkS x
theorem Bd.perm {l m : List Sm} (h : Bd l) (hp : m.Perm l) : Bd m := fun x hx => h x (hp.mem_iff.1 hx)
theorem owns_lenS {w : World} {base : Nat} {v : Value} {n : Nat} {l : List Sm} (h : w.ownsRow base 50 2 v n (cS l)) : l.length = n := by
  have := h.1; rw [cS_length] at this; omega
theorem owns_formS {w : World} {base : Nat} {e s : Nat} {v : Value} {n : Nat} {xs : List Value} (h : w.ownsRow base e s v n xs) : ∃ ad c, v = .slice ad n c ∧ (ad = none → n = 0 ∧ c = 0) ∧ (∀ x, ad = some x → x.off = 0 ∧ x.spot = none) ∧ n ≤ c ∧ c ≤ maxLen := by
  rcases h.2 with ⟨rfl, rfl⟩ | ⟨g, cap, cur, rfl, _, _, h1, h2, _⟩
  · exact ⟨none, 0, rfl, fun _ => ⟨rfl, rfl⟩, (fun x e => by cases e), Nat.le_refl _, by unfold maxLen; omega⟩
  · exact ⟨_, cap, rfl, (fun e => by cases e), (fun x e => by cases e; exact ⟨rfl, rfl⟩), h1, h2⟩
theorem ss_of_owns {w : World} {base : Nat} {ad : Option Addr} {n m c : Nat} {l : List Sm} (h : w.ownsRow base 50 2 (.slice ad n c) m (cS l)) (hz : Bd l) : Ss w ad l := by
  refine ⟨hz, fun h0 => ?_⟩
  have hl := owns_lenS h
  rcases h.2 with ⟨_, h1⟩ | ⟨g, cap, cur, e, _, hg, _⟩
  · rw [h1] at hl; exact absurd (List.eq_nil_of_length_eq_zero hl) h0
  · injection e with e1 e2 e3
    subst e1
    refine ⟨g, 0, rfl, (Array.getElem?_eq_some_iff.1 hg).1, fun i x hx => ?_⟩
    have hc := cS_get l i x hx
    have k0 := h.cells (g := g) rfl _ _ hc.1
    have k1 := h.cells (g := g) rfl _ _ hc.2
    rw [Addr.add_lit] at k0 k1
    simp only [Nat.zero_add] at k0 k1 ⊢
    exact ⟨k0, k1⟩
theorem Ss.cells {w : World} {b off : Nat} {l : List Sm} (h : Ss w (some ⟨b, off, none⟩) l) : ∀ j u, (cS l)[j]? = some u → w.cell? ((⟨b, off, none⟩ : Addr).add j) = some u := by
  intro j u hu
  have hj : j < l.length * 2 := by rw [← cS_length]; exact (List.getElem?_eq_some_iff.1 hu).1
  obtain ⟨b', off', e, _, hc⟩ := h.at' (by intro e; rw [e] at hj; simp at hj)
  injection e with e; injection e with e1 e2; subst e1; subst e2
  have hx : l[j / 2]? = some (l[j / 2]'(by omega)) := by simp
  have k := hc _ _ hx
  have g := cS_get l _ _ hx
  rw [Addr.add_lit]
  rcases Nat.mod_two_eq_zero_or_one j with hm | hm
  · have e : j = j / 2 * 2 := by omega
    rw [← e] at k g
    rw [hu] at g
    rw [k.1]; exact g.1.symm
  · have e : j = j / 2 * 2 + 1 := by omega
    have e2 : off + j / 2 * 2 + 1 = off + j := by omega
    rw [e2] at k
    rw [← e, hu] at g
    rw [k.2]; exact g.2.symm

theorem Ss.cells' {w : World} {x : Addr} {l : List Sm} (h : Ss w (some x) l) : ∀ j u, (cS l)[j]? = some u → w.cell? (x.add j) = some u := by
  intro j u hu
  by_cases h0 : l = []
  · rw [h0] at hu; simp [cS] at hu
  · obtain ⟨b, off, e, _⟩ := h.at' h0
    injection e with e
    subst e
    exact h.cells j u hu

/-! ### one label behind a row -/
theorem run_push2 {P : Program} (w : World) (t ty e : TypeId) (i : TypeInfo) (z : Value) (bytes : Nat) (ht : P.underlying t = some (.slice e)) (hi : P.info? e = some i) (hz : i.zero = some z)
    (hsize : i.size = 2) (hby : i.bytes = bytes) (hzs : z.cells.size = 2) (base : Nat) (v : Value) (n : Nat) (xs : List Value) (hown : w.ownsRow base e 2 v n xs)
    (ad : Addr) (news : List Value) (hl : news.length = 2) (hnews : ∀ j u, news[j]? = some u → w.cell? (ad.add j) = some u) (hone : ∀ x ∈ news, x.oneCell' = true) (h63 : n + 1 ≤ maxLen) (hbytes : (n + 1) * bytes ≤ 140737488355328) (hbase : base ≤ w.heap.size) :
    ∃ g' c' w', (Builtin.append_ #[t, t] ty #[v, .slice (some ad) 1 1]).run P w = .ok (.slice (some ⟨g', 0, none⟩) (n + 1) c') w' ∧
      w'.ownsRow base e 2 (.slice (some ⟨g', 0, none⟩) (n + 1) c') (n + 1) (xs ++ news) ∧ Pushed w w' v g' := by
  rcases hown.2 with ⟨rfl, rfl⟩ | ⟨g, cap, cur, rfl, hbg, hg, hnc, hcm, hcs, htake⟩
  · have hxs : xs = [] := List.eq_nil_of_length_eq_zero (by simpa using hown.1)
    subst hxs
    obtain ⟨v', w', hr, ho, hgr, hiff⟩ := run_append_own (P := P) w w.heap.size t ty e i z 2 bytes ht hi hz hsize hby hzs (by omega) (.slice none 0 0) 0 [] (World.ownsRow_nil _ _ _ _) ad 1 1 news (by omega) hnews hone h63 hbytes (Nat.le_refl _)
    rcases ho.2 with ⟨_, h0⟩ | ⟨g', c', cur', rfl, hb', hh, hrest⟩
    · omega
    · exact ⟨g', c', w', by simpa using hr, ⟨by simp [hl], .inr ⟨g', c', cur', rfl, by omega, hh, by simpa using hrest⟩⟩, .inr ⟨hb', by simpa [Value.ownBlock] using hgr⟩⟩
  · by_cases hroom : n + 1 ≤ cap
    · obtain ⟨w', hr, ho, hgr⟩ := run_append_fits (P := P) w base t ty e i 2 ht hi hsize g n cap xs hown ad 1 1 news (by omega) hnews hone hroom
      exact ⟨g, cap, w', hr, ho, .inl ⟨rfl, hgr⟩⟩
    · obtain ⟨v', w', hr, ho, hgr⟩ := run_append_arg_grows (P := P) w t ty e i z 2 bytes ht hi hz hsize hby hzs (by omega) ⟨g, 0, none⟩ n cap xs hown.1 (hown.cells rfl) ad 1 1 news (by omega) hnews (by omega) h63 hbytes
      rcases ho.2 with ⟨_, h0⟩ | ⟨g', c', cur', rfl, hb', hh, hrest⟩
      · omega
      · exact ⟨g', c', w', hr, ⟨by simp [hown.1, hl]; omega, .inr ⟨g', c', cur', rfl, by omega, hh, hrest⟩⟩, .inr ⟨hb', hgr⟩⟩
theorem wp_push2 {P : Program} (w : World) {o : Oper} {a : Act} {K : Act → World → Prop} {Q : Exit → Act → World → Prop} (s x : Operand) (t : TypeId)
    (ho : o.op = .call { callee := .builtin .append, args := #[s, x], argTypes := #[t, t] }) (e : TypeId) (i : TypeInfo) (z : Value) (bytes : Nat) (ht : P.underlying t = some (.slice e)) (hi : P.info? e = some i) (hz : i.zero = some z)
    (hsize : i.size = 2) (hby : i.bytes = bytes) (hzs : z.cells.size = 2) (base : Nat) (v : Value) (n : Nat) (xs : List Value) (hs : a.eval s = v) (hown : w.ownsRow base e 2 v n xs)
    (ad : Addr) (news : List Value) (hx : a.eval x = .slice (some ad) 1 1) (hl : news.length = 2) (hnews : ∀ j u, news[j]? = some u → w.cell? (ad.add j) = some u) (hone : ∀ x ∈ news, x.oneCell' = true) (h63 : n + 1 ≤ maxLen) (hbytes : (n + 1) * bytes ≤ 140737488355328) (hbase : base ≤ w.heap.size)
    (h : ∀ g' c' w', w'.ownsRow base e 2 (.slice (some ⟨g', 0, none⟩) (n + 1) c') (n + 1) (xs ++ news) → Pushed w w' v g' → K (a.put o.dst (.slice (some ⟨g', 0, none⟩) (n + 1) c')) w') : o.wp P a w K Q := by
  obtain ⟨g', c', w', hr, h2, h3⟩ := run_push2 (P := P) w t o.type e i z bytes ht hi hz hsize hby hzs base v n xs hown ad news hl hnews hone h63 hbytes hbase
  unfold Oper.wp
  simp [execOp, ho, resolve, invoke, builtin, hs, hx, hr, Result.andThen]
  exact h g' c' w' h2 h3
theorem wpList_push2 {P : Program} (w : World) {ops : Array Oper} {rest : List Oper} {o : Oper} {a : Act} {Q : Exit → Act → World → Prop} (hgd : o.guard = none) (s x : Operand) (t : TypeId)
    (ho : o.op = .call { callee := .builtin .append, args := #[s, x], argTypes := #[t, t] }) (e : TypeId) (i : TypeInfo) (z : Value) (bytes : Nat) (ht : P.underlying t = some (.slice e)) (hi : P.info? e = some i) (hz : i.zero = some z)
    (hsize : i.size = 2) (hby : i.bytes = bytes) (hzs : z.cells.size = 2) (base : Nat) (v : Value) (n : Nat) (xs : List Value) (hs : a.eval s = v) (hown : w.ownsRow base e 2 v n xs)
    (ad : Addr) (news : List Value) (hx : a.eval x = .slice (some ad) 1 1) (hl : news.length = 2) (hnews : ∀ j u, news[j]? = some u → w.cell? (ad.add j) = some u) (hone : ∀ x ∈ news, x.oneCell' = true) (h63 : n + 1 ≤ maxLen) (hbytes : (n + 1) * bytes ≤ 140737488355328) (hbase : base ≤ w.heap.size)
    (h : ∀ g' c' w', w'.ownsRow base e 2 (.slice (some ⟨g', 0, none⟩) (n + 1) c') (n + 1) (xs ++ news) → Pushed w w' v g' → wpList P ops Q rest (a.put o.dst (.slice (some ⟨g', 0, none⟩) (n + 1) c')) w') : wpList P ops Q (o :: rest) a w :=
  wpList_plain hgd fun _ hK => wp_push2 w s x t ho e i z bytes ht hi hz hsize hby hzs base v n xs hs hown ad news hx hl hnews hone h63 hbytes hbase fun g' c' w' h2 h3 => hK _ _ (h g' c' w' h2 h3)
theorem step_push2 {P : Program} (w : World) {ops : Array Oper} {o : Oper} {a : Act} {K : Act → World → Prop} {Q : Exit → Act → World → Prop} {E : Prop} (hgd : o.guard = none) (s x : Operand) (t : TypeId)
    (ho : o.op = .call { callee := .builtin .append, args := #[s, x], argTypes := #[t, t] }) (e : TypeId) (i : TypeInfo) (z : Value) (bytes : Nat) (ht : P.underlying t = some (.slice e)) (hi : P.info? e = some i) (hz : i.zero = some z)
    (hsize : i.size = 2) (hby : i.bytes = bytes) (hzs : z.cells.size = 2) (base : Nat) (v : Value) (n : Nat) (xs : List Value) (hs : a.eval s = v) (hown : w.ownsRow base e 2 v n xs)
    (ad : Addr) (news : List Value) (hx : a.eval x = .slice (some ad) 1 1) (hl : news.length = 2) (hnews : ∀ j u, news[j]? = some u → w.cell? (ad.add j) = some u) (hone : ∀ x ∈ news, x.oneCell' = true) (h63 : n + 1 ≤ maxLen) (hbytes : (n + 1) * bytes ≤ 140737488355328) (hbase : base ≤ w.heap.size)
    (h : ∀ g' c' w', w'.ownsRow base e 2 (.slice (some ⟨g', 0, none⟩) (n + 1) c') (n + 1) (xs ++ news) → Pushed w w' v g' → K (a.put o.dst (.slice (some ⟨g', 0, none⟩) (n + 1) c')) w') :
    if Region.wanted o (yielded ops a.tmps) = true then Oper.wp P o a w K Q else E := by
  have hw : Region.wanted o (yielded ops a.tmps) = true := by simp [Region.wanted, hgd]
  rw [if_pos hw]
  exact wp_push2 w s x t ho e i z bytes ht hi hz hsize hby hzs base v n xs hs hown ad news hx hl hnews hone h63 hbytes hbase h

theorem ss_blk {w : World} {g : Nat} {l : List Sm} (h : Blk w g 50 (cS l)) (hz : Bd l) : Ss w (some ⟨g, 0, none⟩) l := by
  refine ⟨hz, fun h0 => ⟨g, 0, rfl, h.lt, fun i x hx => ?_⟩⟩
  have hc := cS_get l i x hx
  rw [Nat.zero_add, h.cell, h.cell]
  exact hc
theorem owl {w w' : World} {b e s : Nat} {v : Value} {n : Nat} {xs : List Value} (h : w.ownsRow b e s v n xs) (hb : Below w.heap.size w w') : w'.ownsRow b e s v n xs := (Chg.of_below (F := fun _ => False) hb).owns h (fun _ _ h => h)
theorem owns_base {w : World} {b b' : Nat} {e sz : Nat} {v : Value} {n : Nat} {xs : List Value} (h : w.ownsRow b e sz v n xs) (hb : ∀ g, v.ownBlock = some g → b' ≤ g) : w.ownsRow b' e sz v n xs := by
  refine ⟨h.1, ?_⟩
  rcases h.2 with h0 | ⟨g, cap, cur, rfl, _, r⟩
  · exact .inl h0
  · exact .inr ⟨g, cap, cur, rfl, hb g rfl, r⟩
theorem wpList_appS (w : World) {ops : Array Oper} {rest : List Oper} {o : Oper} {a : Act} {Q : Exit → Act → World → Prop} (hgd : o.guard = none) (s x : Operand)
    (ho : o.op = .call { callee := .builtin .append, args := #[s, x], argTypes := #[43, 43] }) (base : Nat) (v : Value) (n : Nat) (xs : List Sm) (hs : a.eval s = v) (hown : w.ownsRow base 50 2 v n (cS xs))
    (ad : Option Addr) (m c : Nat) (l : List Sm) (hx : a.eval x = .slice ad m c) (hL : Ss w ad l) (hm : l.length = m) (hno : ad = none → l = [] ∧ c = 0) (k : Nat) (hk : n + m = k) (hb : k * 16 ≤ 140737488355328) (hbase : base ≤ w.heap.size)
    (h : ∀ a' c' w', w'.ownsRow base 50 2 (.slice a' k c') k (cS (xs ++ l)) → Below base w w' → wpList Tryz.prog ops Q rest (a.put o.dst (.slice a' k c')) w') : wpList Tryz.prog ops Q (o :: rest) a w := by
  subst hk
  obtain ⟨i0, hi0, hz0, hz1, hz2⟩ := info_parts info32
  cases ad with
  | none =>
    obtain ⟨rfl, rfl⟩ := hno rfl
    obtain rfl : m = 0 := hm.symm
    refine wpList_append_own_none hgd s x 43 ho base 50 i0 2 Tryz.underlying43 hi0 v n _ hs hown hx ?_
    obtain ⟨a', c', rfl, _⟩ := owns_formS hown
    exact h a' c' w (by simpa using hown) (Below.refl _ _)
  | some ad =>
    refine wpList_append_own w hgd s x 43 ho base 50 i0 (.agg #[.int .i64 0, .int .u64 0]) 2 16 Tryz.underlying43 hi0 hz0 hz1 hz2 rfl (by decide) v n (cS xs) hs hown ad m c (cS l) hx (by rw [cS_length, hm]) hL.cells' (cS_one l) (by unfold maxLen; omega) hb hbase ?_
    intro v' w' h1 h2 h3
    obtain ⟨a', c', rfl, _⟩ := owns_formS h1
    exact h a' c' w' (by rw [cS_append]; exact h1) ((Below.refl _ _).grown h2 hbase (fun k hk => (hown.lt k hk).1))

theorem ss_one (w : World) (x : Sm) (h : OkS x) : Ss (w.alloc (.cells #[.int .i64 x.t, .int .u64 (x.v : Int)] 50)) (some ⟨w.heap.size, 0, none⟩) [x] :=
  ss_blk (Blk.new w 50 (cS [x])) (fun y hy => by simp at hy; subst hy; exact h)

theorem wpList_pushM (w : World) {ops : Array Oper} {rest : List Oper} {o : Oper} {a : Act} {Q : Exit → Act → World → Prop} (hgd : o.guard = none) (s x : Operand)
    (ho : o.op = .call { callee := .builtin .append, args := #[s, x], argTypes := #[43, 43] }) (base : Nat) (v : Value) (n : Nat) (xs : List Sm) (hs : a.eval s = v) (w0 : World) (hown : w0.ownsRow base 50 2 v n (cS xs)) (y : Sm)
    (hw : w = w0.alloc (.cells #[.int .i64 y.t, .int .u64 (y.v : Int)] 50)) (hx : a.eval x = .slice (some ⟨w0.heap.size, 0, none⟩) 1 1) (hn : n ≤ 1000000000) (hbase : base ≤ w0.heap.size)
    (h : ∀ g' c' w', w'.ownsRow base 50 2 (.slice (some ⟨g', 0, none⟩) (n + 1) c') (n + 1) (cS (xs ++ [y])) → Below base w0 w' → Chg (fun i => v.ownBlock = some i) w0 w' → wpList Tryz.prog ops Q rest (a.put o.dst (.slice (some ⟨g', 0, none⟩) (n + 1) c')) w') : wpList Tryz.prog ops Q (o :: rest) a w := by
  subst hw
  obtain ⟨i0, hi0, hz0, hz1, hz2⟩ := info_parts info32
  refine wpList_push2 _ hgd s x 43 ho 50 i0 (.agg #[.int .i64 0, .int .u64 0]) 16 Tryz.underlying43 hi0 hz0 hz1 hz2 rfl base v n (cS xs) hs (hown.alloc _) ⟨w0.heap.size, 0, none⟩ [.int .i64 y.t, .int .u64 (y.v : Int)] hx rfl (fun j u hu => by
    have := (Blk.new w0 50 [.int .i64 y.t, .int .u64 (y.v : Int)]).cell (0 + j)
    rw [Addr.add_lit, this, Nat.zero_add]
    exact hu) (by intro u hu; simp at hu; rcases hu with rfl | rfl <;> rfl) (by unfold maxLen; omega) (by omega) (by simp; omega) ?_
  intro g' c' w' ho' hp'
  exact h g' c' w' (by rw [cS_append]; exact ho') (hp'.chg.1.below hbase (fun q hq => (hown.lt q hq).1)) hp'.chg.1

/-- The reader's bits. -/
theorem nm_ub {l : List Int} {t n V : Nat} (h : Nm V n (fun i => bt l (t + i))) (hn : t + n ≤ 8 * l.length) : V = vl (((ub l).drop t).take n) := by
  have e : low V n = ((ub l).drop t).take n := by
    refine list_ext (by rw [low_len, List.length_take, List.length_drop, ub_len]; omega) (fun i hi => ?_)
    rw [low_len] at hi
    have h2 := h (n - 1 - i)
    rw [low_at, decide_eq_true hi, Bool.true_and, h2, decide_eq_true (by omega), Bool.true_and]
    have h3 := ub_at l (t + i)
    simp only [List.getD_eq_getElem?_getD] at h3 ⊢
    rw [List.getElem?_take, if_pos hi, List.getElem?_drop, h3]
    congr 1
    omega
  have h1 := h.lt
  rw [← e, low_id h1]

end Go.Proofs.YtalmpmhnkilalaaGreatDoor
