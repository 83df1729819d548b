/-
  Rows of labels that a call owns; the library's sort over them.
-/
import Derived.Test.YtpdffdoogobhfaaDoorLbS
import Derived.Test.YtpdffdoogobhfaaDoorShelf
namespace Go.Proofs.YtpdffdoogobhfaaDoor
open Go.RowKit
set_option linter.unusedVariables false

def encL (x : Lb) : List Value := [.string x.n, .string x.v]
def cL (l : List Lb) : List Value := l.flatMap encL
theorem cL_cons (x : Lb) (l : List Lb) : cL (x :: l) = .string x.n :: .string x.v :: cL l := by simp [cL, encL]
theorem cL_length : ∀ l : List Lb, (cL l).length = l.length * 2
  | [] => rfl
  | x :: t => by rw [cL_cons]; simp only [List.length_cons]; rw [cL_length t]; omega
theorem cL_append (l m : List Lb) : cL (l ++ m) = cL l ++ cL m := by simp [cL]
theorem cL_get : ∀ (l : List Lb) (i : Nat) (x : Lb), l[i]? = some x → (cL l)[i * 2]? = some (.string x.n) ∧ (cL l)[i * 2 + 1]? = some (.string x.v)
  | [], i, x, h => by simp at h
  | y :: t, 0, x, h => by simp at h; subst h; rw [cL_cons]; exact ⟨rfl, rfl⟩
  | y :: t, i + 1, x, h => by
    rw [cL_cons, show (i + 1) * 2 = i * 2 + 1 + 1 by omega, show i * 2 + 1 + 1 + 1 = (i * 2 + 1) + 1 + 1 by omega]
    simp only [List.getElem?_cons_succ] at h ⊢
    exact cL_get t i x h
theorem cL_one (l : List Lb) : ∀ u ∈ cL l, u.oneCell' = true := by
  intro u hu
  obtain ⟨x, _, hx⟩ := List.mem_flatMap.1 hu
  simp [encL] at hx
  rcases hx with rfl | rfl <;> rfl
def Szs (l : List Lb) : Prop := ∀ x ∈ l, x.n.size ≤ 9223372036854775807 ∧ x.v.size ≤ 9223372036854775807
theorem Szs.perm {l m : List Lb} (h : Szs l) (hp : m.Perm l) : Szs m := fun x hx => h x (hp.mem_iff.1 hx)
theorem owns_len {w : World} {base : Nat} {v : Value} {n : Nat} {l : List Lb} (h : w.ownsRow base 35 2 v n (cL l)) : l.length = n := by
  have := h.1; rw [cL_length] at this; omega
theorem owns_formL {w : World} {base : Nat} {e s : Nat} {v : Value} {n : Nat} {xs : List Value} (h : w.ownsRow base e s v n xs) : ∃ ad c, v = .slice ad n c ∧ (ad = none → n = 0 ∧ c = 0) ∧ (∀ x, ad = some x → x.off = 0 ∧ x.spot = none) ∧ n ≤ c ∧ c ≤ maxLen := by
  rcases h.2 with ⟨rfl, rfl⟩ | ⟨g, cap, cur, rfl, _, _, h1, h2, _⟩
  · exact ⟨none, 0, rfl, fun _ => ⟨rfl, rfl⟩, (fun x e => by cases e), Nat.le_refl _, by unfold maxLen; omega⟩
  · exact ⟨_, cap, rfl, (fun e => by cases e), (fun x e => by cases e; exact ⟨rfl, rfl⟩), h1, h2⟩
theorem ls_of_owns {w : World} {base : Nat} {ad : Option Addr} {n m c : Nat} {l : List Lb} (h : w.ownsRow base 35 2 (.slice ad n c) m (cL l)) (hz : Szs l) : Ls w ad l := by
  refine ⟨hz, fun h0 => ?_⟩
  have hl := owns_len h
  rcases h.2 with ⟨_, h1⟩ | ⟨g, cap, cur, e, _, hg, _⟩
  · rw [h1] at hl; exact absurd (List.eq_nil_of_length_eq_zero hl) h0
  · injection e with e1 e2 e3
    subst e1
    refine ⟨g, 0, rfl, (Array.getElem?_eq_some_iff.1 hg).1, fun i x hx => ?_⟩
    have hc := cL_get l i x hx
    have k0 := h.cells (g := g) rfl _ _ hc.1
    have k1 := h.cells (g := g) rfl _ _ hc.2
    rw [Addr.add_lit] at k0 k1
    simp only [Nat.zero_add] at k0 k1 ⊢
    exact ⟨k0, k1⟩
theorem Ls.cells {w : World} {b off : Nat} {l : List Lb} (h : Ls w (some ⟨b, off, none⟩) l) : ∀ j u, (cL l)[j]? = some u → w.cell? ((⟨b, off, none⟩ : Addr).add j) = some u := by
  intro j u hu
  have hj : j < l.length * 2 := by rw [← cL_length]; exact (List.getElem?_eq_some_iff.1 hu).1
  obtain ⟨b', off', e, _, hc⟩ := h.at' (by intro e; rw [e] at hj; simp at hj)
  injection e with e; injection e with e1 e2; subst e1; subst e2
  have hx : l[j / 2]? = some (l[j / 2]'(by omega)) := by simp
  have k := hc _ _ hx
  have g := cL_get l _ _ hx
  rw [Addr.add_lit]
  rcases Nat.mod_two_eq_zero_or_one j with hm | hm
  · have e : j = j / 2 * 2 := by omega
    rw [← e] at k g
    rw [hu] at g
    rw [k.1]; exact g.1.symm
  · have e : j = j / 2 * 2 + 1 := by omega
    have e2 : off + j / 2 * 2 + 1 = off + j := by omega
    rw [e2] at k
    rw [← e, hu] at g
    rw [k.2]; exact g.2.symm

theorem Ls.cells' {w : World} {x : Addr} {l : List Lb} (h : Ls w (some x) l) : ∀ j u, (cL l)[j]? = some u → w.cell? (x.add j) = some u := by
  intro j u hu
  by_cases h0 : l = []
  · rw [h0] at hu; simp [cL] at hu
  · obtain ⟨b, off, e, _⟩ := h.at' h0
    injection e with e
    subst e
    exact h.cells j u hu

/-! ### one label behind a row -/
theorem run_push2 {P : Program} (w : World) (t ty e : TypeId) (i : TypeInfo) (z : Value) (bytes : Nat) (ht : P.underlying t = some (.slice e)) (hi : P.info? e = some i) (hz : i.zero = some z)
    (hsize : i.size = 2) (hby : i.bytes = bytes) (hzs : z.cells.size = 2) (base : Nat) (v : Value) (n : Nat) (xs : List Value) (hown : w.ownsRow base e 2 v n xs)
    (ad : Addr) (news : List Value) (hl : news.length = 2) (hnews : ∀ j u, news[j]? = some u → w.cell? (ad.add j) = some u) (hone : ∀ x ∈ news, x.oneCell' = true) (h63 : n + 1 ≤ maxLen) (hbytes : (n + 1) * bytes ≤ 140737488355328) (hbase : base ≤ w.heap.size) :
    ∃ g' c' w', (Builtin.append_ #[t, t] ty #[v, .slice (some ad) 1 1]).run P w = .ok (.slice (some ⟨g', 0, none⟩) (n + 1) c') w' ∧
      w'.ownsRow base e 2 (.slice (some ⟨g', 0, none⟩) (n + 1) c') (n + 1) (xs ++ news) ∧ Pushed w w' v g' := by
  rcases hown.2 with ⟨rfl, rfl⟩ | ⟨g, cap, cur, rfl, hbg, hg, hnc, hcm, hcs, htake⟩
  · have hxs : xs = [] := List.eq_nil_of_length_eq_zero (by simpa using hown.1)
    subst hxs
    obtain ⟨v', w', hr, ho, hgr, hiff⟩ := run_append_own (P := P) w w.heap.size t ty e i z 2 bytes ht hi hz hsize hby hzs (by omega) (.slice none 0 0) 0 [] (World.ownsRow_nil _ _ _ _) ad 1 1 news (by omega) hnews hone h63 hbytes (Nat.le_refl _)
    rcases ho.2 with ⟨_, h0⟩ | ⟨g', c', cur', rfl, hb', hh, hrest⟩
    · omega
    · exact ⟨g', c', w', by simpa using hr, ⟨by simp [hl], .inr ⟨g', c', cur', rfl, by omega, hh, by simpa using hrest⟩⟩, .inr ⟨hb', by simpa [Value.ownBlock] using hgr⟩⟩
  · by_cases hroom : n + 1 ≤ cap
    · obtain ⟨w', hr, ho, hgr⟩ := run_append_fits (P := P) w base t ty e i 2 ht hi hsize g n cap xs hown ad 1 1 news (by omega) hnews hone hroom
      exact ⟨g, cap, w', hr, ho, .inl ⟨rfl, hgr⟩⟩
    · obtain ⟨v', w', hr, ho, hgr⟩ := run_append_arg_grows (P := P) w t ty e i z 2 bytes ht hi hz hsize hby hzs (by omega) ⟨g, 0, none⟩ n cap xs hown.1 (hown.cells rfl) ad 1 1 news (by omega) hnews (by omega) h63 hbytes
      rcases ho.2 with ⟨_, h0⟩ | ⟨g', c', cur', rfl, hb', hh, hrest⟩
      · omega
      · exact ⟨g', c', w', hr, ⟨by simp [hown.1, hl]; omega, .inr ⟨g', c', cur', rfl, by omega, hh, hrest⟩⟩, .inr ⟨hb', hgr⟩⟩
theorem wp_push2 {P : Program} (w : World) {o : Oper} {a : Act} {K : Act → World → Prop} {Q : Exit → Act → World → Prop} (s x : Operand) (t : TypeId)
    (ho : o.op = .call { callee := .builtin .append, args := #[s, x], argTypes := #[t, t] }) (e : TypeId) (i : TypeInfo) (z : Value) (bytes : Nat) (ht : P.underlying t = some (.slice e)) (hi : P.info? e = some i) (hz : i.zero = some z)
    (hsize : i.size = 2) (hby : i.bytes = bytes) (hzs : z.cells.size = 2) (base : Nat) (v : Value) (n : Nat) (xs : List Value) (hs : a.eval s = v) (hown : w.ownsRow base e 2 v n xs)
    (ad : Addr) (news : List Value) (hx : a.eval x = .slice (some ad) 1 1) (hl : news.length = 2) (hnews : ∀ j u, news[j]? = some u → w.cell? (ad.add j) = some u) (hone : ∀ x ∈ news, x.oneCell' = true) (h63 : n + 1 ≤ maxLen) (hbytes : (n + 1) * bytes ≤ 140737488355328) (hbase : base ≤ w.heap.size)
    (h : ∀ g' c' w', w'.ownsRow base e 2 (.slice (some ⟨g', 0, none⟩) (n + 1) c') (n + 1) (xs ++ news) → Pushed w w' v g' → K (a.put o.dst (.slice (some ⟨g', 0, none⟩) (n + 1) c')) w') : o.wp P a w K Q := by
  obtain ⟨g', c', w', hr, h2, h3⟩ := run_push2 (P := P) w t o.type e i z bytes ht hi hz hsize hby hzs base v n xs hown ad news hl hnews hone h63 hbytes hbase
  unfold Oper.wp
  simp [execOp, ho, resolve, invoke, builtin, hs, hx, hr, Result.andThen]
  exact h g' c' w' h2 h3
theorem wpList_push2 {P : Program} (w : World) {ops : Array Oper} {rest : List Oper} {o : Oper} {a : Act} {Q : Exit → Act → World → Prop} (hgd : o.guard = none) (s x : Operand) (t : TypeId)
    (ho : o.op = .call { callee := .builtin .append, args := #[s, x], argTypes := #[t, t] }) (e : TypeId) (i : TypeInfo) (z : Value) (bytes : Nat) (ht : P.underlying t = some (.slice e)) (hi : P.info? e = some i) (hz : i.zero = some z)
    (hsize : i.size = 2) (hby : i.bytes = bytes) (hzs : z.cells.size = 2) (base : Nat) (v : Value) (n : Nat) (xs : List Value) (hs : a.eval s = v) (hown : w.ownsRow base e 2 v n xs)
    (ad : Addr) (news : List Value) (hx : a.eval x = .slice (some ad) 1 1) (hl : news.length = 2) (hnews : ∀ j u, news[j]? = some u → w.cell? (ad.add j) = some u) (hone : ∀ x ∈ news, x.oneCell' = true) (h63 : n + 1 ≤ maxLen) (hbytes : (n + 1) * bytes ≤ 140737488355328) (hbase : base ≤ w.heap.size)
    (h : ∀ g' c' w', w'.ownsRow base e 2 (.slice (some ⟨g', 0, none⟩) (n + 1) c') (n + 1) (xs ++ news) → Pushed w w' v g' → wpList P ops Q rest (a.put o.dst (.slice (some ⟨g', 0, none⟩) (n + 1) c')) w') : wpList P ops Q (o :: rest) a w :=
  wpList_plain hgd fun _ hK => wp_push2 w s x t ho e i z bytes ht hi hz hsize hby hzs base v n xs hs hown ad news hx hl hnews hone h63 hbytes hbase fun g' c' w' h2 h3 => hK _ _ (h g' c' w' h2 h3)
theorem step_push2 {P : Program} (w : World) {ops : Array Oper} {o : Oper} {a : Act} {K : Act → World → Prop} {Q : Exit → Act → World → Prop} {E : Prop} (hgd : o.guard = none) (s x : Operand) (t : TypeId)
    (ho : o.op = .call { callee := .builtin .append, args := #[s, x], argTypes := #[t, t] }) (e : TypeId) (i : TypeInfo) (z : Value) (bytes : Nat) (ht : P.underlying t = some (.slice e)) (hi : P.info? e = some i) (hz : i.zero = some z)
    (hsize : i.size = 2) (hby : i.bytes = bytes) (hzs : z.cells.size = 2) (base : Nat) (v : Value) (n : Nat) (xs : List Value) (hs : a.eval s = v) (hown : w.ownsRow base e 2 v n xs)
    (ad : Addr) (news : List Value) (hx : a.eval x = .slice (some ad) 1 1) (hl : news.length = 2) (hnews : ∀ j u, news[j]? = some u → w.cell? (ad.add j) = some u) (hone : ∀ x ∈ news, x.oneCell' = true) (h63 : n + 1 ≤ maxLen) (hbytes : (n + 1) * bytes ≤ 140737488355328) (hbase : base ≤ w.heap.size)
    (h : ∀ g' c' w', w'.ownsRow base e 2 (.slice (some ⟨g', 0, none⟩) (n + 1) c') (n + 1) (xs ++ news) → Pushed w w' v g' → K (a.put o.dst (.slice (some ⟨g', 0, none⟩) (n + 1) c')) w') :
    if Region.wanted o (yielded ops a.tmps) = true then Oper.wp P o a w K Q else E := by
  have hw : Region.wanted o (yielded ops a.tmps) = true := by simp [Region.wanted, hgd]
  rw [if_pos hw]
  exact wp_push2 w s x t ho e i z bytes ht hi hz hsize hby hzs base v n xs hs hown ad news hx hl hnews hone h63 hbytes hbase h

/-! ### the library's sort -/
theorem swo : Go.Sort.SWO ltN where
  irrefl := fun x => lss_irr _
  trans := fun x y z h1 h2 => lss_trans h1 h2
  ntrans := fun x y z h1 h2 => by
    cases h : ltN x z
    · rfl
    · by_cases h3 : ltN y x = true
      · have := lss_trans h3 h
        rw [show lss (bts y.n) (bts z.n) = ltN y z from rfl, h2] at this; cases this
      · have := lss_tri (x := bts x.n) (y := bts y.n) h1 (by simpa [ltN] using h3)
        unfold ltN at h h2; rw [this, h2] at h; cases h
theorem flat_size (l : List Lb) : (Go.Sort.flatK encL 2 l.toArray).size = l.length * 2 := by simp [Go.Sort.flatK]
theorem flat_get (l : List Lb) (j : Nat) (h : j < l.length * 2) : (cL l)[j]? = some ((Go.Sort.flatK encL 2 l.toArray)[j]!) := by
  rw [Go.Sort.get_flatK _ _ _ _ (by simpa using h)]
  have hx : l[j / 2]? = some (l[j / 2]'(by omega)) := by simp
  have g := cL_get l _ _ hx
  have e0 : l.toArray[j / 2]! = l[j / 2]'(by omega) := by
    rw [getElem!_pos _ _ (by simp; omega)]; simp
  rw [e0]
  rcases Nat.mod_two_eq_zero_or_one j with hm | hm
  · have e : j = j / 2 * 2 := by omega
    rw [← e] at g; rw [hm, g.1]; simp [encL]
  · have e : j = j / 2 * 2 + 1 := by omega
    rw [← e] at g; rw [hm, g.2]; simp [encL]
theorem holds_of_owns {w : World} {base g n c : Nat} {l : List Lb} (h : w.ownsRow base 35 2 (.slice (some ⟨g, 0, none⟩) n c) n (cL l)) : Go.Sort.HoldsK encL 2 w g 0 l.toArray := by
  intro j hj
  rw [flat_size] at hj
  have k := h.cells (g := g) rfl j _ (flat_get l j hj)
  rw [Addr.add_lit] at k
  refine ⟨k, ?_⟩
  rcases h.2 with ⟨e, _⟩ | ⟨g', cap, cur, e, _, hg, _⟩
  · cases e
  · injection e with e1 e2 e3
    injection e1 with e1; injection e1 with e1
    subst e1
    exact frozen_of_row w g _ _ 35 hg
theorem owns_of_put {w : World} {base g n c q : Nat} {l m : List Lb} {os : Array Obj} (h : w.ownsRow base 35 2 (.slice (some ⟨g, 0, none⟩) n c) n (cL l)) (hm : m.length = n) :
    (Go.Sort.grow (Go.Sort.putRowK encL 2 (Go.Sort.ahead w q) g 0 m.toArray) os).ownsRow base 35 2 (.slice (some ⟨g, 0, none⟩) n c) n (cL m) := by
  rcases h.2 with ⟨e, _⟩ | ⟨g', cap, cur, e, hb, hg, hnc, hcm, hcs, htake⟩
  · cases e
  · injection e with e1 e2 e3
    injection e1 with e1; injection e1 with e1
    subst e1; subst e3
    have hlt : g < w.heap.size := (Array.getElem?_eq_some_iff.1 hg).1
    refine ⟨by rw [cL_length, hm], .inr ⟨g, c, Go.Sort.putCells id 0 (Go.Sort.flatK encL 2 m.toArray) cur, rfl, hb, ?_, hnc, hcm, ?_, ?_⟩⟩
    · have : (Go.Sort.putRowK encL 2 (Go.Sort.ahead w q) g 0 m.toArray).heap[g]? = some (.cells (Go.Sort.putCells id 0 (Go.Sort.flatK encL 2 m.toArray) cur) 35 (0, 0)) := by
        have hg' : (Go.Sort.ahead w q).heap[g]? = some (.cells cur 35 (0, 0)) := hg
        simp only [Go.Sort.putRowK, Go.Sort.putRow, Go.Sort.mapBlock, Array.getElem?_modify, hg']
        rfl
      show ((Go.Sort.putRowK encL 2 (Go.Sort.ahead w q) g 0 m.toArray).heap ++ os)[g]? = _
      rw [Array.getElem?_append_left (by rw [show (Go.Sort.putRowK encL 2 (Go.Sort.ahead w q) g 0 m.toArray).heap.size = (Go.Sort.ahead w q).heap.size from Go.Sort.size_putRow ..]; exact hlt)]
      exact this
    · simp [Go.Sort.putCells, hcs]
    · refine List.ext_getElem? fun j => ?_
      rw [List.getElem?_take]
      split
      · rename_i hj
        rw [flat_get m j (by rw [hm]; exact hj)]
        have hjc : j < cur.size := by rw [hcs]; omega
        simp only [Go.Sort.putCells, Array.getElem?_toList, Array.getElem?_mapIdx, Array.getElem?_eq_getElem hjc]
        have : (0 ≤ j ∧ j < 0 + (Go.Sort.flatK encL 2 m.toArray).size) := ⟨Nat.zero_le _, by rw [flat_size, hm]; omega⟩
        simp [this]
        intro hh; omega
      · rename_i hj
        rw [List.getElem?_eq_none (by rw [cL_length, hm]; omega)]
theorem below_put {w : World} {B g q : Nat} {d : Array Lb} {os : Array Obj} (hg : B ≤ g) (hB : B ≤ w.heap.size) : Below B w (Go.Sort.grow (Go.Sort.putRowK encL 2 (Go.Sort.ahead w q) g 0 d) os) := by
  refine ⟨rfl, rfl, rfl, ?_, fun k hk => ?_⟩
  · show w.heap.size ≤ ((Go.Sort.putRowK encL 2 (Go.Sort.ahead w q) g 0 d).heap ++ os).size
    rw [Array.size_append, show (Go.Sort.putRowK encL 2 (Go.Sort.ahead w q) g 0 d).heap.size = (Go.Sort.ahead w q).heap.size from Go.Sort.size_putRow ..]
    exact Nat.le_add_right _ _
  · show ((Go.Sort.putRowK encL 2 (Go.Sort.ahead w q) g 0 d).heap ++ os)[k]? = _
    rw [Array.getElem?_append_left (by rw [show (Go.Sort.putRowK encL 2 (Go.Sort.ahead w q) g 0 d).heap.size = (Go.Sort.ahead w q).heap.size from Go.Sort.size_putRow ..]; exact Nat.lt_of_lt_of_le hk hB)]
    simp only [Go.Sort.putRowK, Go.Sort.putRow, Go.Sort.mapBlock, Array.getElem?_modify]
    rw [if_neg (by omega)]; rfl
theorem chg_put {w : World} {g q k : Nat} {d : Array Lb} {os : Array Obj} (hk : k < w.heap.size) (hg : k ≠ g) : (Go.Sort.grow (Go.Sort.putRowK encL 2 (Go.Sort.ahead w q) g 0 d) os).heap[k]? = w.heap[k]? := by
  show ((Go.Sort.putRowK encL 2 (Go.Sort.ahead w q) g 0 d).heap ++ os)[k]? = _
  rw [Array.getElem?_append_left (by rw [show (Go.Sort.putRowK encL 2 (Go.Sort.ahead w q) g 0 d).heap.size = (Go.Sort.ahead w q).heap.size from Go.Sort.size_putRow ..]; exact hk)]
  simp only [Go.Sort.putRowK, Go.Sort.putRow, Go.Sort.mapBlock, Array.getElem?_modify]
  rw [if_neg (fun e => hg e.symm)]; rfl
theorem perm_of {l : List Lb} {d' : Array Lb} (hp : Go.Sort.PermIn 0 l.toArray.size l.toArray d') (hs : Go.Sort.SortedIn ltN 0 l.toArray.size d') : d'.toList.Perm l ∧ Srt d'.toList ∧ d'.toList.length = l.length := by
  obtain ⟨h1, _, h3⟩ := hp
  refine ⟨?_, ?_, by simpa using h1⟩
  · have e1 : d'.extract 0 l.toArray.size = d' := by rw [← h1]; simp
    have e2 : l.toArray.extract 0 l.toArray.size = l.toArray := by simp
    rw [e1, e2] at h3
    simpa using h3
  · unfold Srt
    rw [List.pairwise_iff_getElem]
    intro i j hi hj hij
    have hi' : i < d'.size := by simpa using hi
    have hj' : j < d'.size := by simpa using hj
    have := hs i j (Nat.zero_le _) hij (by rw [← h1]; exact hj')
    rw [getElem!_pos d' i hi', getElem!_pos d' j hj'] at this
    simpa using this

end Go.Proofs.YtpdffdoogobhfaaDoor
