import Derived.Test.YtcgjmioncbihhaaDoorLwC
import Derived.BigQuiet
/-
  ChunkBack: what was appended is read as it was.
-/
namespace Go.Proofs.YtcgjmioncbihhaaDoor
open Go.RowKit
set_option linter.unusedVariables false
set_option linter.unusedSimpArgs false

/-- What is handed in: samples, somewhere below. -/
structure In (w : World) (ad : Option Addr) (l : List Sm) : Prop where
  ss : Ss w ad l
theorem Ss.bel {w w' : World} {ad : Option Addr} {l : List Sm} {b : Nat} (h : Ss w ad l) (hb : Below b w w') (hlt : ∀ x, ad = some x → l ≠ [] → x.block < b) : Ss w' ad l := by
  refine ⟨h.sz, fun h0 => ?_⟩
  obtain ⟨g, off, e, hg, hc⟩ := h.at' h0
  have hgb : g < b := hlt _ e h0
  refine ⟨g, off, e, Nat.lt_of_lt_of_le hg hb.size, fun i x hx => ?_⟩
  rw [hb.cell (p := ⟨g, off + i * 2, none⟩) hgb, hb.cell (p := ⟨g, off + i * 2 + 1, none⟩) hgb]
  exact hc i x hx
theorem ss_take {w : World} {ad : Option Addr} {l : List Sm} (h : Ss w ad l) (k : Nat) : Ss w ad (l.take k) := ⟨fun x hx => h.sz x (List.mem_of_mem_take hx), fun h0 => by
  obtain ⟨b, off, e, hb, hc⟩ := h.at' (by intro e; rw [e] at h0; simp at h0)
  refine ⟨b, off, e, hb, fun i x hx => hc i x ?_⟩
  rw [List.getElem?_take] at hx
  split at hx
  · exact hx
  · cases hx⟩

/-- The sizes that are kept. -/
def szL (l : List Sm) (i : Nat) : List Int := (List.range (i + 1)).map (fun k => ((encC (l.take k)).length : Int))
def cI (l : List Int) : List Value := l.map (fun x => .int .i64 x)
theorem szL_len (l : List Sm) (i : Nat) : (szL l i).length = i + 1 := by simp [szL]
theorem szL_next (l : List Sm) (i : Nat) : szL l (i + 1) = szL l i ++ [((encC (l.take (i + 1))).length : Int)] := by
  unfold szL
  rw [List.range_succ, List.map_append]
  rfl
theorem szL_at (l : List Sm) (i k : Nat) (h : k ≤ i) : (cI (szL l i))[k]? = some (.int .i64 ((encC (l.take k)).length : Int)) := by
  have hk : k < i + 1 := by omega
  simp [cI, szL, hk]
theorem info3 : (Tryd.prog.info? 3).map (fun i => (i.zero, i.size, i.bytes)) = some (some (.int .i64 0), 1, 8) := by kernel_rfl

end Go.Proofs.YtcgjmioncbihhaaDoor

/-
  ChunkBack: a chunk and a list of sizes beside it.
-/
namespace Go.Proofs.YtcgjmioncbihhaaDoor
open Go.RowKit
set_option linter.unusedVariables false
set_option linter.unusedSimpArgs false

/-- What the first loop holds: a chunk, all new since w, and the sizes so far. -/
structure B1 (w wx : World) (c p : Nat) (v : Value) (l : List Sm) (i j : Nat) : Prop where
  cs : CB w wx c p 1048576 (l.take i)
  own : wx.ownsRow w.heap.size 3 1 v (j + 1) (cI (szL l j))
theorem B1.later {w wx wy : World} {c p : Nat} {v : Value} {l : List Sm} {i j : Nat} (h : B1 w wx c p v l i j) (hb : Below wx.heap.size wx wy) : B1 w wy c p v l i j := ⟨h.cs.later hb, owl h.own hb⟩
/-- A row of numbers is no part of a chunk. -/
theorem own_ne {w : World} {c p b n : Nat} {rb : Option Nat} {most : Int} {l : List Sm} {v : Value} {xs : List Value} (h : CS w c p rb most l) (ho : w.ownsRow b 3 1 v n xs) : ∀ g, v.ownBlock = some g → ¬ FC c p rb g := by
  intro g hg hF
  rcases ho.2 with ⟨rfl, _⟩ | ⟨g', cap, cur, rfl, _, hh, _⟩
  · exact absurd hg (by simp [Value.ownBlock])
  · simp [Value.ownBlock] at hg
    subst hg
    have hB : Blk w g' 3 cur.toList := by unfold Blk; simpa using hh
    rcases hF with hF | rfl
    · exact ws_ne h.ws hB (by decide) (by decide) hF
    · have := h.blk.symm.trans hB
      injection this with this
      injection this with _ h2 _
      exact absurd h2 (by decide)
theorem take_next {l : List Sm} {i : Nat} {x : Sm} (h : l[i]? = some x) : l.take i ++ [x] = l.take (i + 1) := by
  rw [List.take_add_one, h]; rfl
theorem b1_app {w wx wy : World} {c p : Nat} {v : Value} {l : List Sm} {i : Nat} {x : Sm} (h : B1 w wx c p v l i i) (hG : Gv w) (hx : l[i]? = some x) (hok : ∀ y ∈ l, OkS y) (hi : i ≤ 2000) (hb : Below wx.heap.size wx wy) :
    Calls Tryd.prog 8 #[.pointer (some ⟨c, 0, none⟩), .int .i64 x.t, .int .u64 (x.v : Int)] wy fun e w' => e = .returned (.bool true) ∧ B1 w w' c p v l (i + 1) i := by
  have h' := h.later hb
  obtain ⟨rb, h1, h2, h3⟩ := h'.cs
  have hxm : x ∈ l := List.mem_of_getElem? hx
  have hlen : (l.take i).length ≤ i := by rw [List.length_take]; omega
  have hfit : ((encC (l.take i ++ [x])).length : Int) ≤ 1048576 := by
    rw [take_next hx]
    have := encC_le (l := l.take (i + 1)) (fun y hy => hok y (List.mem_of_mem_take hy))
    have h5 : (l.take (i + 1)).length ≤ i + 1 := by rw [List.length_take]; omega
    omega
  refine (cappendP wy c p rb 1048576 (l.take i) x h1 (hG.later h3) (hok x hxm) (by omega)).mono ?_
  rintro e w' ⟨rfl, rb', k1, k2, k3⟩
  rw [if_pos hfit, take_next hx] at k1
  refine ⟨by rw [decide_eq_true hfit], ⟨rb', k1, ⟨h2.1, h2.2.1, ?_⟩, h3.trans (k2.below h3.size (fun i hi => ?_))⟩, k2.owns h'.own (own_ne h1 h'.own)⟩
  · rcases k3 with rfl | ⟨g, rfl, hg⟩
    · exact h2.2.2
    · intro i hi
      injection hi with hi
      have := h3.size
      omega
  · rcases hi with (rfl | hi) | rfl
    · exact h2.2.1
    · exact h2.2.2 i hi
    · exact h2.1
theorem b1_push {w wx w' : World} {c p g : Nat} {v : Value} {l : List Sm} {i : Nat} {o : Obj} {cp : Nat} (h : B1 w wx c p v l (i + 1) i) (ho : w'.ownsRow w.heap.size 3 1 (.slice (some ⟨g, 0, none⟩) (i + 1 + 1) cp) (i + 1 + 1) (cI (szL l i) ++ [.int .i64 ((encC (l.take (i + 1))).length : Int)])) (hp : Pushed (wx.alloc o) w' v g) : B1 w w' c p (.slice (some ⟨g, 0, none⟩) (i + 1 + 1) cp) l (i + 1) (i + 1) := by
  obtain ⟨rb, h1, h2, h3⟩ := h.cs
  have hc := hp.chg.1
  refine ⟨⟨rb, h1.chg hc (fun i hi e => own_ne h1 h.own i e hi), h2, h3.trans (hc.below h3.size (fun i hi => (h.own.lt i hi).1))⟩, ?_⟩
  have e : cI (szL l (i + 1)) = cI (szL l i) ++ [.int .i64 ((encC (l.take (i + 1))).length : Int)] := by rw [szL_next]; simp [cI]
  rw [e]
  exact ho
theorem B1.at {w wx : World} {c p g cp n : Nat} {l : List Sm} {i j : Nat} (h : B1 w wx c p (.slice (some ⟨g, 0, none⟩) n cp) l i j) {k : Nat} (hk : k ≤ j) : wx.cell? ⟨g, k, none⟩ = some (.int .i64 ((encC (l.take k)).length : Int)) := by
  have h1 := h.own.cells rfl k _ (szL_at l j k hk)
  rwa [Addr.add_lit, Nat.zero_add] at h1

theorem wpList_pushI (w : World) {ops : Array Oper} {rest : List Oper} {o : Oper} {a : Act} {Q : Exit → Act → World → Prop} (hgd : o.guard = none) (s x : Operand)
    (ho : o.op = .call { callee := .builtin .append, args := #[s, x], argTypes := #[48, 48] }) (base : Nat) (v : Value) (n : Nat) (xs : List Value) (hs : a.eval s = v) (w0 : World) (hown : w0.ownsRow base 3 1 v n xs) (y : Int)
    (hw : w = w0.alloc (.cells #[.int .i64 y] 3)) (hx : a.eval x = .slice (some ⟨w0.heap.size, 0, none⟩) 1 1) (hn : n ≤ 1000000000) (hbase : base ≤ w0.heap.size)
    (h : ∀ g' c' w', w'.ownsRow base 3 1 (.slice (some ⟨g', 0, none⟩) (n + 1) c') (n + 1) (xs ++ [.int .i64 y]) → Pushed w w' v g' → wpList Tryd.prog ops Q rest (a.put o.dst (.slice (some ⟨g', 0, none⟩) (n + 1) c')) w') : wpList Tryd.prog ops Q (o :: rest) a w := by
  subst hw
  obtain ⟨i0, hi0, hz0, hz1, hz2⟩ := info_parts info3
  exact wpList_push _ hgd s x 48 ho 3 i0 (.int .i64 0) 8 Tryd.underlying48 hi0 hz0 hz1 hz2 rfl base v n xs hs (hown.alloc _) ⟨w0.heap.size, 0, none⟩ (.int .i64 y) hx (by simp) rfl (by unfold maxLen; omega) (by omega) (by simp; omega) h

end Go.Proofs.YtcgjmioncbihhaaDoor
