import Derived.Test.YtlppibigceeimaaDoorChI
import Derived.Test.YtlppibigceeimaaDoorChK
import Derived.Test.YtlppibigceeimaaDoorBlk
import Derived.Deep.CutRange
import Derived.Test.YtlppibigceeimaaDoorGetM
/-
  Lists of samples in memory: rows of two cells each.
-/
namespace Go.Proofs.YtlppibigceeimaaDoor
open Go.RowKit
set_option linter.unusedVariables false
set_option linter.unusedSimpArgs false

theorem info32 : (Tryd.prog.info? 35).map (fun i => (i.zero, i.size, i.bytes)) = some (some (.agg #[.int .i64 0, .int .u64 0]), 2, 16) := by kernel_rfl

/-- A slice's labels: where they lie. -/
structure Ss (w : World) (ad : Option Addr) (l : List Sm) : Prop where
  sz : ∀ x ∈ l, OkS x
  at' : l ≠ [] → ∃ b off, ad = some ⟨b, off, none⟩ ∧ b < w.heap.size ∧ ∀ i x, l[i]? = some x → w.cell? ⟨b, off + i * 2, none⟩ = some (.int .i64 x.t) ∧ w.cell? ⟨b, off + i * 2 + 1, none⟩ = some (.int .u64 (x.v : Int))
theorem Ss.later {w w' : World} {ad : Option Addr} {l : List Sm} (h : Ss w ad l) (hb : Below w.heap.size w w') : Ss w' ad l := by
  refine ⟨h.sz, fun h0 => ?_⟩
  obtain ⟨b, off, e, hlt, hc⟩ := h.at' h0
  refine ⟨b, off, e, Nat.lt_of_lt_of_le hlt hb.size, fun i x hx => ?_⟩
  rw [hb.cell (p := ⟨b, off + i * 2, none⟩) hlt, hb.cell (p := ⟨b, off + i * 2 + 1, none⟩) hlt]
  exact hc i x hx
theorem Ss.nil (w : World) (ad : Option Addr) : Ss w ad [] := ⟨by simp, fun h => absurd rfl h⟩
theorem Ss.get {w : World} {ad : Option Addr} {l : List Sm} (h : Ss w ad l) {i : Nat} (hi : i < l.length) : ∃ b off x, ad = some ⟨b, off, none⟩ ∧ b < w.heap.size ∧ l[i]? = some x ∧ l[i] = x ∧ w.cell? ⟨b, off + i * 2, none⟩ = some (.int .i64 x.t) ∧ w.cell? ⟨b, off + i * 2 + 1, none⟩ = some (.int .u64 (x.v : Int)) ∧ OkS x := by
  obtain ⟨b, off, e, hlt, hc⟩ := h.at' (by intro h0; rw [h0] at hi; simp at hi)
  have hx : l[i]? = some l[i] := by simp [hi]
  exact ⟨b, off, l[i], e, hlt, hx, rfl, (hc i _ hx).1, (hc i _ hx).2, h.sz _ (by simp)⟩

def encS (x : Sm) : List Value := [.int .i64 x.t, .int .u64 (x.v : Int)]
def cS (l : List Sm) : List Value := l.flatMap encS
theorem cS_cons (x : Sm) (l : List Sm) : cS (x :: l) = .int .i64 x.t :: .int .u64 (x.v : Int) :: cS l := by simp [cS, encS]
theorem cS_length : ∀ l : List Sm, (cS l).length = l.length * 2
  | [] => rfl
  | x :: t => by rw [cS_cons]; simp only [List.length_cons]; rw [cS_length t]; omega
theorem cS_append (l m : List Sm) : cS (l ++ m) = cS l ++ cS m := by simp [cS]
theorem cS_get : ∀ (l : List Sm) (i : Nat) (x : Sm), l[i]? = some x → (cS l)[i * 2]? = some (.int .i64 x.t) ∧ (cS l)[i * 2 + 1]? = some (.int .u64 (x.v : Int))
  | [], i, x, h => by simp at h
  | y :: t, 0, x, h => by simp at h; subst h; rw [cS_cons]; exact ⟨rfl, rfl⟩
  | y :: t, i + 1, x, h => by
    rw [cS_cons, show (i + 1) * 2 = i * 2 + 1 + 1 by omega, show i * 2 + 1 + 1 + 1 = (i * 2 + 1) + 1 + 1 by omega]
    simp only [List.getElem?_cons_succ] at h ⊢
    exact cS_get t i x h
theorem cS_one (l : List Sm) : ∀ u ∈ cS l, u.oneCell' = true := by
  intro u hu
  obtain ⟨x, _, hx⟩ := List.mem_flatMap.1 hu
  simp [encS] at hx
  rcases hx with rfl | rfl <;> rfl
def Bd (l : List Sm) : Prop := ∀ x ∈ l, OkS x
theorem Bd.perm {l m : List Sm} (h : Bd l) (hp : m.Perm l) : Bd m := fun x hx => h x (hp.mem_iff.1 hx)
theorem owns_lenS {w : World} {base : Nat} {v : Value} {n : Nat} {l : List Sm} (h : w.ownsRow base 35 2 v n (cS l)) : l.length = n := by
  have := h.1; rw [cS_length] at this; omega
theorem owns_formS {w : World} {base : Nat} {e s : Nat} {v : Value} {n : Nat} {xs : List Value} (h : w.ownsRow base e s v n xs) : ∃ ad c, v = .slice ad n c ∧ (ad = none → n = 0 ∧ c = 0) ∧ (∀ x, ad = some x → x.off = 0 ∧ x.spot = none) ∧ n ≤ c ∧ c ≤ maxLen := by
  rcases h.2 with ⟨rfl, rfl⟩ | ⟨g, cap, cur, rfl, _, _, h1, h2, _⟩
  · exact ⟨none, 0, rfl, fun _ => ⟨rfl, rfl⟩, (fun x e => by cases e), Nat.le_refl _, by unfold maxLen; omega⟩
  · exact ⟨_, cap, rfl, (fun e => by cases e), (fun x e => by cases e; exact ⟨rfl, rfl⟩), h1, h2⟩
theorem ss_of_owns {w : World} {base : Nat} {ad : Option Addr} {n m c : Nat} {l : List Sm} (h : w.ownsRow base 35 2 (.slice ad n c) m (cS l)) (hz : Bd l) : Ss w ad l := by
  refine ⟨hz, fun h0 => ?_⟩
  have hl := owns_lenS h
  rcases h.2 with ⟨_, h1⟩ | ⟨g, cap, cur, e, _, hg, _⟩
  · rw [h1] at hl; exact absurd (List.eq_nil_of_length_eq_zero hl) h0
  · injection e with e1 e2 e3
    subst e1
    refine ⟨g, 0, rfl, (Array.getElem?_eq_some_iff.1 hg).1, fun i x hx => ?_⟩
    have hc := cS_get l i x hx
    have k0 := h.cells (g := g) rfl _ _ hc.1
    have k1 := h.cells (g := g) rfl _ _ hc.2
    rw [Addr.add_lit] at k0 k1
    simp only [Nat.zero_add] at k0 k1 ⊢
    exact ⟨k0, k1⟩
theorem Ss.cells {w : World} {b off : Nat} {l : List Sm} (h : Ss w (some ⟨b, off, none⟩) l) : ∀ j u, (cS l)[j]? = some u → w.cell? ((⟨b, off, none⟩ : Addr).add j) = some u := by
  intro j u hu
  have hj : j < l.length * 2 := by rw [← cS_length]; exact (List.getElem?_eq_some_iff.1 hu).1
  obtain ⟨b', off', e, _, hc⟩ := h.at' (by intro e; rw [e] at hj; simp at hj)
  injection e with e; injection e with e1 e2; subst e1; subst e2
  have hx : l[j / 2]? = some (l[j / 2]'(by omega)) := by simp
  have k := hc _ _ hx
  have g := cS_get l _ _ hx
  rw [Addr.add_lit]
  rcases Nat.mod_two_eq_zero_or_one j with hm | hm
  · have e : j = j / 2 * 2 := by omega
    rw [← e] at k g
    rw [hu] at g
    rw [k.1]; exact g.1.symm
  · have e : j = j / 2 * 2 + 1 := by omega
    have e2 : off + j / 2 * 2 + 1 = off + j := by omega
    rw [e2] at k
    rw [← e, hu] at g
    rw [k.2]; exact g.2.symm

theorem Ss.cells' {w : World} {x : Addr} {l : List Sm} (h : Ss w (some x) l) : ∀ j u, (cS l)[j]? = some u → w.cell? (x.add j) = some u := by
  intro j u hu
  by_cases h0 : l = []
  · rw [h0] at hu; simp [cS] at hu
  · obtain ⟨b, off, e, _⟩ := h.at' h0
    injection e with e
    subst e
    exact h.cells j u hu

/-! ### one label behind a row -/
theorem run_push2 {P : Program} (w : World) (t ty e : TypeId) (i : TypeInfo) (z : Value) (bytes : Nat) (ht : P.underlying t = some (.slice e)) (hi : P.info? e = some i) (hz : i.zero = some z)
    (hsize : i.size = 2) (hby : i.bytes = bytes) (hzs : z.cells.size = 2) (base : Nat) (v : Value) (n : Nat) (xs : List Value) (hown : w.ownsRow base e 2 v n xs)
    (ad : Addr) (news : List Value) (hl : news.length = 2) (hnews : ∀ j u, news[j]? = some u → w.cell? (ad.add j) = some u) (hone : ∀ x ∈ news, x.oneCell' = true) (h63 : n + 1 ≤ maxLen) (hbytes : (n + 1) * bytes ≤ 140737488355328) (hbase : base ≤ w.heap.size) :
    ∃ g' c' w', (Builtin.append_ #[t, t] ty #[v, .slice (some ad) 1 1]).run P w = .ok (.slice (some ⟨g', 0, none⟩) (n + 1) c') w' ∧
      w'.ownsRow base e 2 (.slice (some ⟨g', 0, none⟩) (n + 1) c') (n + 1) (xs ++ news) ∧ Pushed w w' v g' := by
  rcases hown.2 with ⟨rfl, rfl⟩ | ⟨g, cap, cur, rfl, hbg, hg, hnc, hcm, hcs, htake⟩
  · have hxs : xs = [] := List.eq_nil_of_length_eq_zero (by simpa using hown.1)
    subst hxs
    obtain ⟨v', w', hr, ho, hgr, hiff⟩ := run_append_own (P := P) w w.heap.size t ty e i z 2 bytes ht hi hz hsize hby hzs (by omega) (.slice none 0 0) 0 [] (World.ownsRow_nil _ _ _ _) ad 1 1 news (by omega) hnews hone h63 hbytes (Nat.le_refl _)
    rcases ho.2 with ⟨_, h0⟩ | ⟨g', c', cur', rfl, hb', hh, hrest⟩
    · omega
    · exact ⟨g', c', w', by simpa using hr, ⟨by simp [hl], .inr ⟨g', c', cur', rfl, by omega, hh, by simpa using hrest⟩⟩, .inr ⟨hb', by simpa [Value.ownBlock] using hgr⟩⟩
  · by_cases hroom : n + 1 ≤ cap
    · obtain ⟨w', hr, ho, hgr⟩ := run_append_fits (P := P) w base t ty e i 2 ht hi hsize g n cap xs hown ad 1 1 news (by omega) hnews hone hroom
      exact ⟨g, cap, w', hr, ho, .inl ⟨rfl, hgr⟩⟩
    · obtain ⟨v', w', hr, ho, hgr⟩ := run_append_arg_grows (P := P) w t ty e i z 2 bytes ht hi hz hsize hby hzs (by omega) ⟨g, 0, none⟩ n cap xs hown.1 (hown.cells rfl) ad 1 1 news (by omega) hnews (by omega) h63 hbytes
      rcases ho.2 with ⟨_, h0⟩ | ⟨g', c', cur', rfl, hb', hh, hrest⟩
      · omega
      · exact ⟨g', c', w', hr, ⟨by simp [hown.1, hl]; omega, .inr ⟨g', c', cur', rfl, by omega, hh, hrest⟩⟩, .inr ⟨hb', hgr⟩⟩
theorem wp_push2 {P : Program} (w : World) {o : Oper} {a : Act} {K : Act → World → Prop} {Q : Exit → Act → World → Prop} (s x : Operand) (t : TypeId)
    (ho : o.op = .call { callee := .builtin .append, args := #[s, x], argTypes := #[t, t] }) (e : TypeId) (i : TypeInfo) (z : Value) (bytes : Nat) (ht : P.underlying t = some (.slice e)) (hi : P.info? e = some i) (hz : i.zero = some z)
    (hsize : i.size = 2) (hby : i.bytes = bytes) (hzs : z.cells.size = 2) (base : Nat) (v : Value) (n : Nat) (xs : List Value) (hs : a.eval s = v) (hown : w.ownsRow base e 2 v n xs)
    (ad : Addr) (news : List Value) (hx : a.eval x = .slice (some ad) 1 1) (hl : news.length = 2) (hnews : ∀ j u, news[j]? = some u → w.cell? (ad.add j) = some u) (hone : ∀ x ∈ news, x.oneCell' = true) (h63 : n + 1 ≤ maxLen) (hbytes : (n + 1) * bytes ≤ 140737488355328) (hbase : base ≤ w.heap.size)
    (h : ∀ g' c' w', w'.ownsRow base e 2 (.slice (some ⟨g', 0, none⟩) (n + 1) c') (n + 1) (xs ++ news) → Pushed w w' v g' → K (a.put o.dst (.slice (some ⟨g', 0, none⟩) (n + 1) c')) w') : o.wp P a w K Q := by
  obtain ⟨g', c', w', hr, h2, h3⟩ := run_push2 (P := P) w t o.type e i z bytes ht hi hz hsize hby hzs base v n xs hown ad news hl hnews hone h63 hbytes hbase
  unfold Oper.wp
  simp [execOp, ho, resolve, invoke, builtin, hs, hx, hr, Result.andThen]
  exact h g' c' w' h2 h3
theorem wpList_push2 {P : Program} (w : World) {ops : Array Oper} {rest : List Oper} {o : Oper} {a : Act} {Q : Exit → Act → World → Prop} (hgd : o.guard = none) (s x : Operand) (t : TypeId)
    (ho : o.op = .call { callee := .builtin .append, args := #[s, x], argTypes := #[t, t] }) (e : TypeId) (i : TypeInfo) (z : Value) (bytes : Nat) (ht : P.underlying t = some (.slice e)) (hi : P.info? e = some i) (hz : i.zero = some z)
    (hsize : i.size = 2) (hby : i.bytes = bytes) (hzs : z.cells.size = 2) (base : Nat) (v : Value) (n : Nat) (xs : List Value) (hs : a.eval s = v) (hown : w.ownsRow base e 2 v n xs)
    (ad : Addr) (news : List Value) (hx : a.eval x = .slice (some ad) 1 1) (hl : news.length = 2) (hnews : ∀ j u, news[j]? = some u → w.cell? (ad.add j) = some u) (hone : ∀ x ∈ news, x.oneCell' = true) (h63 : n + 1 ≤ maxLen) (hbytes : (n + 1) * bytes ≤ 140737488355328) (hbase : base ≤ w.heap.size)
    (h : ∀ g' c' w', w'.ownsRow base e 2 (.slice (some ⟨g', 0, none⟩) (n + 1) c') (n + 1) (xs ++ news) → Pushed w w' v g' → wpList P ops Q rest (a.put o.dst (.slice (some ⟨g', 0, none⟩) (n + 1) c')) w') : wpList P ops Q (o :: rest) a w :=
  wpList_plain hgd fun _ hK => wp_push2 w s x t ho e i z bytes ht hi hz hsize hby hzs base v n xs hs hown ad news hx hl hnews hone h63 hbytes hbase fun g' c' w' h2 h3 => hK _ _ (h g' c' w' h2 h3)
theorem step_push2 {P : Program} (w : World) {ops : Array Oper} {o : Oper} {a : Act} {K : Act → World → Prop} {Q : Exit → Act → World → Prop} {E : Prop} (hgd : o.guard = none) (s x : Operand) (t : TypeId)
    (ho : o.op = .call { callee := .builtin .append, args := #[s, x], argTypes := #[t, t] }) (e : TypeId) (i : TypeInfo) (z : Value) (bytes : Nat) (ht : P.underlying t = some (.slice e)) (hi : P.info? e = some i) (hz : i.zero = some z)
    (hsize : i.size = 2) (hby : i.bytes = bytes) (hzs : z.cells.size = 2) (base : Nat) (v : Value) (n : Nat) (xs : List Value) (hs : a.eval s = v) (hown : w.ownsRow base e 2 v n xs)
    (ad : Addr) (news : List Value) (hx : a.eval x = .slice (some ad) 1 1) (hl : news.length = 2) (hnews : ∀ j u, news[j]? = some u → w.cell? (ad.add j) = some u) (hone : ∀ x ∈ news, x.oneCell' = true) (h63 : n + 1 ≤ maxLen) (hbytes : (n + 1) * bytes ≤ 140737488355328) (hbase : base ≤ w.heap.size)
    (h : ∀ g' c' w', w'.ownsRow base e 2 (.slice (some ⟨g', 0, none⟩) (n + 1) c') (n + 1) (xs ++ news) → Pushed w w' v g' → K (a.put o.dst (.slice (some ⟨g', 0, none⟩) (n + 1) c')) w') :
    if Region.wanted o (yielded ops a.tmps) = true then Oper.wp P o a w K Q else E := by
  have hw : Region.wanted o (yielded ops a.tmps) = true := by simp [Region.wanted, hgd]
  rw [if_pos hw]
  exact wp_push2 w s x t ho e i z bytes ht hi hz hsize hby hzs base v n xs hs hown ad news hx hl hnews hone h63 hbytes hbase h

theorem ss_blk {w : World} {g : Nat} {l : List Sm} (h : Blk w g 35 (cS l)) (hz : Bd l) : Ss w (some ⟨g, 0, none⟩) l := by
  refine ⟨hz, fun h0 => ⟨g, 0, rfl, h.lt, fun i x hx => ?_⟩⟩
  have hc := cS_get l i x hx
  rw [Nat.zero_add, h.cell, h.cell]
  exact hc
theorem owl {w w' : World} {b e s : Nat} {v : Value} {n : Nat} {xs : List Value} (h : w.ownsRow b e s v n xs) (hb : Below w.heap.size w w') : w'.ownsRow b e s v n xs := (Chg.of_below (F := fun _ => False) hb).owns h (fun _ _ h => h)
theorem owns_base {w : World} {b b' : Nat} {e sz : Nat} {v : Value} {n : Nat} {xs : List Value} (h : w.ownsRow b e sz v n xs) (hb : ∀ g, v.ownBlock = some g → b' ≤ g) : w.ownsRow b' e sz v n xs := by
  refine ⟨h.1, ?_⟩
  rcases h.2 with h0 | ⟨g, cap, cur, rfl, _, r⟩
  · exact .inl h0
  · exact .inr ⟨g, cap, cur, rfl, hb g rfl, r⟩
theorem wpList_appS (w : World) {ops : Array Oper} {rest : List Oper} {o : Oper} {a : Act} {Q : Exit → Act → World → Prop} (hgd : o.guard = none) (s x : Operand)
    (ho : o.op = .call { callee := .builtin .append, args := #[s, x], argTypes := #[22, 22] }) (base : Nat) (v : Value) (n : Nat) (xs : List Sm) (hs : a.eval s = v) (hown : w.ownsRow base 35 2 v n (cS xs))
    (ad : Option Addr) (m c : Nat) (l : List Sm) (hx : a.eval x = .slice ad m c) (hL : Ss w ad l) (hm : l.length = m) (hno : ad = none → l = [] ∧ c = 0) (k : Nat) (hk : n + m = k) (hb : k * 16 ≤ 140737488355328) (hbase : base ≤ w.heap.size)
    (h : ∀ a' c' w', w'.ownsRow base 35 2 (.slice a' k c') k (cS (xs ++ l)) → Below base w w' → wpList Tryd.prog ops Q rest (a.put o.dst (.slice a' k c')) w') : wpList Tryd.prog ops Q (o :: rest) a w := by
  subst hk
  obtain ⟨i0, hi0, hz0, hz1, hz2⟩ := info_parts info32
  cases ad with
  | none =>
    obtain ⟨rfl, rfl⟩ := hno rfl
    obtain rfl : m = 0 := hm.symm
    refine wpList_append_own_none hgd s x 22 ho base 35 i0 2 Tryd.underlying22 hi0 v n _ hs hown hx ?_
    obtain ⟨a', c', rfl, _⟩ := owns_formS hown
    exact h a' c' w (by simpa using hown) (Below.refl _ _)
  | some ad =>
    refine wpList_append_own w hgd s x 22 ho base 35 i0 (.agg #[.int .i64 0, .int .u64 0]) 2 16 Tryd.underlying22 hi0 hz0 hz1 hz2 rfl (by decide) v n (cS xs) hs hown ad m c (cS l) hx (by rw [cS_length, hm]) hL.cells' (cS_one l) (by unfold maxLen; omega) hb hbase ?_
    intro v' w' h1 h2 h3
    obtain ⟨a', c', rfl, _⟩ := owns_formS h1
    exact h a' c' w' (by rw [cS_append]; exact h1) ((Below.refl _ _).grown h2 hbase (fun k hk => (hown.lt k hk).1))

theorem ss_one (w : World) (x : Sm) (h : OkS x) : Ss (w.alloc (.cells #[.int .i64 x.t, .int .u64 (x.v : Int)] 35)) (some ⟨w.heap.size, 0, none⟩) [x] :=
  ss_blk (Blk.new w 35 (cS [x])) (fun y hy => by simp at hy; subst hy; exact h)

theorem wpList_pushM (w : World) {ops : Array Oper} {rest : List Oper} {o : Oper} {a : Act} {Q : Exit → Act → World → Prop} (hgd : o.guard = none) (s x : Operand)
    (ho : o.op = .call { callee := .builtin .append, args := #[s, x], argTypes := #[22, 22] }) (base : Nat) (v : Value) (n : Nat) (xs : List Sm) (hs : a.eval s = v) (w0 : World) (hown : w0.ownsRow base 35 2 v n (cS xs)) (y : Sm)
    (hw : w = w0.alloc (.cells #[.int .i64 y.t, .int .u64 (y.v : Int)] 35)) (hx : a.eval x = .slice (some ⟨w0.heap.size, 0, none⟩) 1 1) (hn : n ≤ 1000000000) (hbase : base ≤ w0.heap.size)
    (h : ∀ g' c' w', w'.ownsRow base 35 2 (.slice (some ⟨g', 0, none⟩) (n + 1) c') (n + 1) (cS (xs ++ [y])) → Below base w0 w' → Chg (fun i => v.ownBlock = some i) w0 w' → wpList Tryd.prog ops Q rest (a.put o.dst (.slice (some ⟨g', 0, none⟩) (n + 1) c')) w') : wpList Tryd.prog ops Q (o :: rest) a w := by
  subst hw
  obtain ⟨i0, hi0, hz0, hz1, hz2⟩ := info_parts info32
  refine wpList_push2 _ hgd s x 22 ho 35 i0 (.agg #[.int .i64 0, .int .u64 0]) 16 Tryd.underlying22 hi0 hz0 hz1 hz2 rfl base v n (cS xs) hs (hown.alloc _) ⟨w0.heap.size, 0, none⟩ [.int .i64 y.t, .int .u64 (y.v : Int)] hx rfl (fun j u hu => by
    have := (Blk.new w0 35 [.int .i64 y.t, .int .u64 (y.v : Int)]).cell (0 + j)
    rw [Addr.add_lit, this, Nat.zero_add]
    exact hu) (by intro u hu; simp at hu; rcases hu with rfl | rfl <;> rfl) (by unfold maxLen; omega) (by omega) (by simp; omega) ?_
  intro g' c' w' ho' hp'
  exact h g' c' w' (by rw [cS_append]; exact ho') (hp'.chg.1.below hbase (fun q hq => (hown.lt q hq).1)) hp'.chg.1

/-- The reader's bits. -/
theorem nm_ub {l : List Int} {t n V : Nat} (h : Nm V n (fun i => bt l (t + i))) (hn : t + n ≤ 8 * l.length) : V = vl (((ub l).drop t).take n) := by
  have e : low V n = ((ub l).drop t).take n := by
    refine list_ext (by rw [low_len, List.length_take, List.length_drop, ub_len]; omega) (fun i hi => ?_)
    rw [low_len] at hi
    have h2 := h (n - 1 - i)
    rw [low_at, decide_eq_true hi, Bool.true_and, h2, decide_eq_true (by omega), Bool.true_and]
    have h3 := ub_at l (t + i)
    simp only [List.getD_eq_getElem?_getD] at h3 ⊢
    rw [List.getElem?_take, if_pos hi, List.getElem?_drop, h3]
    congr 1
    omega
  have h1 := h.lt
  rw [← e, low_id h1]

end Go.Proofs.YtlppibigceeimaaDoor

/-
  Runs of samples, purely: one sample more.
-/
namespace Go.Proofs.YtlppibigceeimaaDoor
open Go.RowKit
set_option linter.unusedVariables false
set_option linter.unusedSimpArgs false

/-- What the next one is told by. -/
def tl : List Sm → Tr
  | [] => ⟨0, 0, 0⟩
  | s :: t => trE (tr0 s) t
theorem rowB_on (l : List Sm) (s : Sm) : rowB (l ++ [s]) = rowB l ++ onB l.length (tl l) s := by
  cases l with
  | nil => simp [rowB, onB, moB]
  | cons x t => rw [rowB_more]; unfold onB tl; rw [if_neg (by simp)]
theorem tl_on (l : List Sm) (s : Sm) : tl (l ++ [s]) = onT l.length (tl l) s := by
  cases l with
  | nil => simp [tl, onT, trE]
  | cons x t =>
    unfold onT
    rw [if_neg (by simp)]
    show trE (tr0 x) (t ++ [s]) = _
    rw [trE_append]
    rfl
theorem trE_ok : ∀ (l : List Sm) (a : Tr), Ok a → (∀ x ∈ l, OkS x) → Ok (trE a l)
  | [], a, ha, _ => ha
  | s :: t, a, ha, h => trE_ok t _ (next_ok (h s (by simp))) (fun x hx => h x (by simp [hx]))
theorem tl_ok {l : List Sm} (h : ∀ x ∈ l, OkS x) : Ok (tl l) := by
  cases l with
  | nil => exact ⟨by show I64 0; unfold I64; omega, by show (0 : Nat) < _; omega, by show I64 0; unfold I64; omega⟩
  | cons s t => exact trE_ok t _ (tr0_ok (h s (by simp))) (fun x hx => h x (by simp [hx]))
theorem encC_len {l : List Sm} (h : l ≠ []) : (encC l).length = Q.grp l.length + 1 + ((rowB l).length + 7) / 8 := by
  unfold encC
  rw [if_neg h, List.length_append, Q.enc_length, pk_len]
theorem room_enc {l : List Sm} (h : l ≠ []) (most : Int) : room most l.length (rowB l) ↔ ((encC l).length : Int) ≤ most := by
  unfold room
  rw [encC_len h]
theorem room_on (l : List Sm) (s : Sm) (most : Int) : room most (l.length + 1) (rowB l ++ onB l.length (tl l) s) ↔ ((encC (l ++ [s])).length : Int) ≤ most := by
  rw [← room_enc (by simp), rowB_on]
  simp
theorem grpF_mono : ∀ f m n, m ≤ n → Q.grpF f m ≤ Q.grpF f n
  | 0, m, n, h => Nat.le_refl _
  | f + 1, m, n, h => by
    rw [Q.grpF, Q.grpF]
    have := grpF_mono f (m / 128) (n / 128) (by omega)
    split <;> split <;> omega
theorem grpF_one : ∀ f n, n < 128 → Q.grpF f n = 0
  | 0, _, _ => rfl
  | f + 1, n, h => by rw [Q.grpF, if_pos h]
theorem grpF_next : ∀ f n, Q.grpF f (n + 1) ≤ Q.grpF f n + 1
  | 0, n => by simp [Q.grpF]
  | f + 1, n => by
    rw [Q.grpF, Q.grpF]
    have h1 := grpF_next f (n / 128)
    have h2 := grpF_mono f ((n + 1) / 128) (n / 128 + 1) (by omega)
    have h3 := grpF_one f ((n + 1) / 128)
    split <;> split
    · omega
    · omega
    · have := h3 (by omega); omega
    · omega
theorem encC_mono {l : List Sm} {s : Sm} (hl : ∀ x ∈ l, OkS x) (hs : OkS s) : (encC l).length ≤ (encC (l ++ [s])).length ∧ (encC (l ++ [s])).length ≤ (encC l).length + 20 := by
  have h2 := onB_len (n := l.length) (tl_ok hl) hs
  rw [encC_len (l := l ++ [s]) (by simp), rowB_on]
  simp only [List.length_append, List.length_cons, List.length_nil, Nat.zero_add]
  by_cases h : l = []
  · subst h
    have : (onB 0 (tl []) s).length = 128 := by simp [onB, fiB, low_len]
    simp only [rowB, List.length_nil, this, encC, if_pos]
    rw [Q.grp_small _ (by omega)]
    omega
  · rw [encC_len h]
    have h3 := grpF_next 9 l.length
    have h4 := grpF_mono 9 l.length (l.length + 1) (by omega)
    unfold Q.grp
    omega
theorem encC_one (s : Sm) : (encC [s]).length = 17 := by
  rw [encC_len (by simp)]
  have : (rowB [s]).length = 128 := by simp [rowB, moB, fiB, low_len]
  rw [this, List.length_singleton, Q.grp_small _ (by omega)]
theorem encC_pre {l m : List Sm} (h : ∀ x ∈ l ++ m, OkS x) : (encC l).length ≤ (encC (l ++ m)).length := by
  induction m generalizing l with
  | nil => simp
  | cons s t ih =>
    have h1 := encC_mono (l := l) (s := s) (fun x hx => h x (by simp [hx])) (h s (by simp))
    have h2 := ih (l := l ++ [s]) (fun x hx => h x (by simpa using hx))
    simp only [List.append_assoc, List.singleton_append] at h2
    omega
theorem rev_ind {P : List Sm → Prop} (h0 : P []) (h1 : ∀ l s, P l → P (l ++ [s])) (l : List Sm) : P l := by
  have h : ∀ l : List Sm, P l.reverse := by
    intro l
    induction l with
    | nil => exact h0
    | cons x t ih => rw [List.reverse_cons]; exact h1 _ _ ih
  have := h l.reverse
  rwa [List.reverse_reverse] at this
theorem encC_le : ∀ {l : List Sm}, (∀ x ∈ l, OkS x) → (encC l).length ≤ 20 * l.length := by
  intro l
  refine rev_ind (P := fun l => (∀ x ∈ l, OkS x) → (encC l).length ≤ 20 * l.length) ?_ ?_ l
  · intro _; simp [encC]
  · intro l s ih h
    have h1 := encC_mono (l := l) (s := s) (fun x hx => h x (by simp [hx])) (h s (by simp))
    have h2 := ih (fun x hx => h x (by simp [hx]))
    simp only [List.length_append, List.length_singleton]
    omega
theorem rowB_le : ∀ {l : List Sm}, (∀ x ∈ l, OkS x) → (rowB l).length ≤ 145 * l.length := by
  intro l
  refine rev_ind (P := fun l => (∀ x ∈ l, OkS x) → (rowB l).length ≤ 145 * l.length) ?_ ?_ l
  · intro _; simp [rowB]
  · intro l s ih h
    have h1 := onB_len (n := l.length) (tl_ok (l := l) (fun x hx => h x (by simp [hx]))) (h s (by simp))
    have h2 := ih (fun x hx => h x (by simp [hx]))
    rw [rowB_on]
    simp only [List.length_append, List.length_singleton]
    omega
theorem drB_ge (d : Int) : 1 ≤ (drB d).length := by
  unfold drB
  repeat' split
  all_goals simp
theorem flB_ge (x : Nat) : 1 ≤ (flB x).length := by
  unfold flB
  split <;> simp
theorem moB_ge : ∀ (l : List Sm) (a : Tr), 2 * l.length ≤ (moB a l).length
  | [], a => by simp
  | s :: t, a => by
    have h1 := moB_ge t (a.next s)
    have h2 := drB_ge (a.drift s)
    have h3 := flB_ge (a.flips s)
    rw [moB]
    simp only [List.length_append, List.length_cons]
    omega
theorem pow_lit : (2 : Nat) ^ 64 = 18446744073709551616 := by decide

end Go.Proofs.YtlppibigceeimaaDoor

/-
  Package chunk: the reader's take, driftOf.
-/
namespace Go.Proofs.YtlppibigceeimaaDoor
open Go.RowKit
set_option linter.unusedVariables false
set_option linter.unusedSimpArgs false

/-- A reader in memory: the bits that are left, whether something was wrong. -/
structure XS (w : World) (r p : Nat) (B : List Bool) (wg : Bool) : Prop where
  blk : Blk w r 123 [.pointer (some ⟨p, 0, none⟩), .bool wg]
  rs : ∃ l t, RS w p l t ∧ l.length ≤ 100000000 ∧ B = (ub l).drop t
  lt : p < r
def F2 (r p : Nat) : Nat → Prop := fun i => i = r ∨ i = p
theorem XS.later {w w' : World} {r p : Nat} {B : List Bool} {wg : Bool} (h : XS w r p B wg) (hb : Below w.heap.size w w') : XS w' r p B wg := by
  obtain ⟨l, t, h1, h2, h3⟩ := h.rs
  exact ⟨h.blk.later hb, ⟨l, t, h1.same (Chg.of_below hb), h2, h3⟩, h.lt⟩
theorem XS.len {w : World} {r p : Nat} {B : List Bool} {wg : Bool} (h : XS w r p B wg) : B.length ≤ 800000000 := by
  obtain ⟨l, t, h1, h2, h3⟩ := h.rs
  rw [h3, List.length_drop, ub_len]
  omega
theorem rs_ne {w : World} {p t g : Nat} {l : List Int} {ty : TypeId} {vs : List Value} (h : RS w p l t) (hB : Blk w g ty vs) (ht : ty ≠ 138) : g ≠ p := by
  obtain ⟨_, ad, c, h1, _⟩ := h
  rintro rfl
  have := h1.symm.trans hB
  injection this with this
  injection this with _ h2 _
  exact ht h2.symm
theorem sl_ne {w : World} {ad : Option Addr} {l : List Int} {n g : Nat} {ty : TypeId} {vs : List Value} {x : Addr} (h : Sl w ad n l) (hB : Blk w g ty vs) (hu : ∀ v ∈ vs, ∀ y, v ≠ .int .u8 y) (hx : ad = some x) (h0 : 0 < n) : x.block ≠ g := by
  obtain ⟨b, off, e, hlt, hc⟩ := h.at h0
  rw [e] at hx
  injection hx with hx
  subst hx
  rintro rfl
  have h1 := hc 0 h0
  have h2 := hB.cell (off + 0)
  rw [h1] at h2
  exact hu _ (List.mem_of_getElem? h2.symm) _ rfl
/-- A reader's memory lies below what is new since. -/
theorem XS.bel {w w' : World} {r p b : Nat} {B : List Bool} {wg : Bool} (h : XS w r p B wg) (hr : r < b) (hb : Below b w w') : XS w' r p B wg := by
  obtain ⟨l, t, ⟨k1, ad, c, k2, k3, k4⟩, h2, h3⟩ := h.rs
  have hp := h.lt
  have hc : Chg (fun i => b ≤ i) w w' := ⟨hb.os, hb.tape, hb.output, hb.size, fun i hi hn => hb.block i (by omega)⟩
  exact ⟨hc.blk h.blk (by omega), ⟨l, t, ⟨k1, ad, c, hc.blk k2 (by omega), hc.sl k3 (fun x hx h0 e => by have := k4 x hx h0; omega), k4⟩, h2, h3⟩, h.lt⟩
theorem XS.wrong {w : World} {r p : Nat} {B : List Bool} {wg : Bool} (h : XS w r p B wg) : XS (w.setCell ⟨r, 1, none⟩ (.bool true)) r p B true := by
  obtain ⟨l, t, h1, h2, h3⟩ := h.rs
  have hne := rs_ne h1 h.blk (by decide)
  refine ⟨by simpa using h.blk.set 1 (.bool true), ⟨l, t, ?_, h2, h3⟩, h.lt⟩
  obtain ⟨k1, ad, c, k2, k3, k4⟩ := h1
  have hc := chg_set w r 1 (.bool true)
  exact ⟨k1, ad, c, hc.blk k2 (fun e => hne e.symm), hc.sl k3 (fun x hx h0 e => sl_ne k3 h.blk (by intro v hv y; simp at hv; rcases hv with rfl | rfl <;> simp) hx h0 e), k4⟩

def tkV (n : Nat) (B : List Bool) : Nat := if n ≤ B.length then vl (B.take n) else 0
def tkB (n : Nat) (B : List Bool) : List Bool := if n ≤ B.length then B.drop n else B
def tkW (n : Nat) (B : List Bool) (wg : Bool) : Bool := if n ≤ B.length then wg else true
theorem tkV_lt {n : Nat} {B : List Bool} (h : n ≤ 64) : tkV n B < 18446744073709551616 := by
  unfold tkV
  split
  · have := take_lt (B := B) (k := n)
    have h2 : 2 ^ n ≤ 2 ^ 64 := Nat.pow_le_pow_right (by omega) h
    omega
  · omega

set_option maxRecDepth 100000 in
set_option maxHeartbeats 4000000 in
theorem takeP (w : World) (r p : Nat) (B : List Bool) (wg : Bool) (n : Nat) (h : XS w r p B wg) (hn : n ≤ 64) :
    Calls Tryd.prog 74 #[.pointer (some ⟨r, 0, none⟩), .int .i64 (n : Int)] w fun e w' => e = .returned (.int .u64 (tkV n B : Int)) ∧ XS w' r p (tkB n B) (tkW n B wg) ∧ Chg (F2 r p) w w' := by
  obtain ⟨l, t, h1, h2, h3⟩ := h.rs
  have ht := h1.1
  have hlen : B.length = 8 * l.length - t := by rw [h3, List.length_drop, ub_len]
  have c0 := h.blk.cell 0
  simp at c0
  have hne := rs_ne h1 h.blk (by decide)
  have HX := hidden h
  have HR := hidden h1
  have H3 := hidden h3
  have HLEN := hidden hlen
  clear h h1 h3 hlen
  go_enter Tryd.func74, Tryd.ntmps74
  go_wp2_with fail
  by_cases hb : n ≤ B.length
  · refine (get_any p t l (n : Int) w HR.out (by omega) (by omega) (by omega) (by have := HLEN.out; omega)).mono ?_
    rintro e w1 ⟨V, rfl, hV, hR, hC⟩
    rw [Int.toNat_natCast] at hV hR
    have hVe := nm_ub hV (by have := HLEN.out; omega)
    have HXX := hidden (show XS w1 r p (tkB n B) (tkW n B wg) from ⟨by unfold tkW; rw [if_pos hb]; exact hC.blk HX.out.blk hne, ⟨l, t + n, hR, h2, by unfold tkB; rw [if_pos hb, H3.out, List.drop_drop]⟩, HX.out.lt⟩)
    have HV := hidden (show V = tkV n B by unfold tkV; rw [if_pos hb, hVe, H3.out])
    have HC := hidden (hC.mono (G := F2 r p) (fun i _ hi => .inr hi))
    clear hV hR hVe hC
    go_wp2
    go_ret
    exact ⟨by rw [HV.out]; rfl, HXX.out, HC.out⟩
  · refine (get_bad p t l (n : Int) w HR.out (by omega) (by have := HLEN.out; omega)).mono ?_
    rintro e w1 ⟨rfl, hR, hC⟩
    have X1 : XS w1 r p B wg := ⟨hC.blk HX.out.blk (fun e => e), ⟨l, t, hR, h2, H3.out⟩, HX.out.lt⟩
    have f1 := X1.blk.frozen 1
    have d1 := X1.blk.cell 1
    simp at d1
    have HX1 := hidden X1
    have HC := hidden (hC.mono (G := F2 r p) (fun i _ hi => hi.elim))
    clear X1 hR hC
    go_wp2_with fail
    first | go_region | skip
    go_wp2
    go_ret
    refine ⟨by unfold tkV; rw [if_neg hb]; rfl, ?_, ?_⟩
    · unfold tkB tkW
      rw [if_neg hb, if_neg hb]
      exact HX1.out.wrong
    · exact HC.out.trans ((chg_set w1 r 1 (.bool true)).mono (G := F2 r p) (fun i _ hi => .inl hi)) (fun i _ hi => hi)

theorem sg_i64 {V w : Nat} (hw : w = 0 ∧ V = 0 ∨ (w = 7 ∨ w = 9 ∨ w = 12 ∨ w = 64) ∧ V < 2 ^ w) : I64 (sg V w) := by
  rcases hw with ⟨rfl, rfl⟩ | ⟨h1, h2⟩
  · unfold I64 sg wr; simp
  · exact (un_sg h2 h1).2.1
theorem tkV_pow {n : Nat} {B : List Bool} : tkV n B < 2 ^ n := by
  unfold tkV
  split
  · exact take_lt
  · exact Nat.two_pow_pos _
theorem XS.or {w w' : World} {r p : Nat} {B : List Bool} {wg b : Bool} (h : XS w r p B wg) (hb : b = true → w' = w.setCell ⟨r, 1, none⟩ (.bool true)) (hf : b = false → w' = w) : XS w' r p B (wg || b) := by
  cases b with
  | true => rw [hb rfl, Bool.or_true]; exact h.wrong
  | false => rw [hf rfl, Bool.or_false]; exact h
/-- What is wrong with a drift of so many bits. -/
def bdD (w : Nat) (short : Int) (B : List Bool) : Bool := decide (0 ≤ short) && decide (fit (sg (tkV w B) w) short.toNat)

set_option maxRecDepth 100000 in
set_option maxHeartbeats 4000000 in
theorem driftOfP (w : World) (r p : Nat) (B : List Bool) (wg : Bool) (n : Nat) (short : Int) (h : XS w r p B wg) (hn : n = 0 ∨ n = 7 ∨ n = 9 ∨ n = 12 ∨ n = 64) (hs : short = -1 ∨ short = 0 ∨ short = 7 ∨ short = 9 ∨ short = 12) :
    Calls Tryd.prog 81 #[.pointer (some ⟨r, 0, none⟩), .int .i64 (n : Int), .int .i64 short] w fun e w' => e = .returned (.int .i64 (sg (tkV n B) n)) ∧ XS w' r p (tkB n B) (tkW n B wg || bdD n short B) ∧ Chg (F2 r p) w w' := by
  have HT := hidden (takeP w r p B wg n h (by omega))
  have hV := tkV_lt (n := n) (B := B) (by omega)
  have hi : I64 (sg (tkV n B) n) := sg_i64 (by
    rcases hn with rfl | hn
    · exact .inl ⟨rfl, by have := tkV_pow (n := 0) (B := B); omega⟩
    · exact .inr ⟨hn, tkV_pow⟩)
  have HS := hidden (fun w1 => signedP (tkV n B) n w1 hV hn)
  have HF := hidden (fun w1 (k : Nat) (hk : k = 0 ∨ k = 7 ∨ k = 9 ∨ k = 12) => fitsP (sg (tkV n B) n) k w1 hi hk)
  obtain ⟨b, hb⟩ : ∃ b, bdD n short B = b := ⟨_, rfl⟩
  rw [hb]
  have HB := hidden hb
  unfold bdD at HB
  have hi' := hi
  unfold I64 at hi'
  generalize sg (tkV n B) n = d at *
  generalize tkV n B = V at *
  generalize tkB n B = B' at *
  generalize tkW n B wg = wg' at *
  clear h hb hi
  go_enter Tryd.func81, Tryd.ntmps81
  go_wp2_with fail
  refine HT.out.mono ?_
  rintro e w1 ⟨rfl, h1, hc1⟩
  have H1 := hidden h1
  have HC1 := hidden hc1
  clear h1 hc1
  go_wp2_with fail
  refine (HS.out w1).mono ?_
  rintro e w2 ⟨rfl, rfl⟩
  have f1 := H1.out.blk.frozen 1
  have d1 := H1.out.blk.cell 1
  simp at d1
  by_cases hs0 : short = -1
  · subst hs0
    have hb0 : b = false := by rw [← HB.out]; rfl
    subst hb0
    go_wp2
    go_ret
    exact ⟨rfl, by rw [Bool.or_false]; exact H1.out, HC1.out⟩
  · obtain ⟨k, hk⟩ : ∃ k : Nat, short = (k : Int) := ⟨short.toNat, by omega⟩
    subst hk
    have hk4 : k = 0 ∨ k = 7 ∨ k = 9 ∨ k = 12 := by omega
    have hbf : b = decide (fit d k) := by rw [← HB.out]; simp
    go_wp2_with fail
    refine (HF.out w2 k hk4).mono ?_
    rintro e w3 ⟨rfl, rfl⟩
    rw [← hbf]
    clear hbf HB
    cases b with
    | false =>
      go_wp2
      go_ret
      exact ⟨rfl, by rw [Bool.or_false]; exact H1.out, HC1.out⟩
    | true =>
      go_wp2_with fail
      first | go_region | skip
      go_wp2
      go_ret
      refine ⟨rfl, by rw [Bool.or_true]; exact H1.out.wrong, ?_⟩
      exact HC1.out.trans ((chg_set _ r 1 (.bool true)).mono (G := F2 r p) (fun i _ hi => .inl hi)) (fun i _ hi => hi)

end Go.Proofs.YtlppibigceeimaaDoor
