/-
  ChunkReads: lists of samples that are written over and grow, apart from one another.
-/
import Derived.Test.YtcgjmioncbihhaaDoorDcE
import Derived.Test.YtcgjmioncbihhaaDoorLwA
namespace Go.Proofs.YtcgjmioncbihhaaDoor
open Go.RowKit
set_option linter.unusedVariables false
set_option linter.unusedSimpArgs false

theorem owns_setU {w : World} {base : Nat} {e sz : Nat} {g n cap : Nat} {xs : List Value} (hO : w.ownsRow base e sz (.slice (some ⟨g, 0, none⟩) n cap) n xs) (q : Nat) (u : Value) (hq : q < xs.length) :
    (w.setCell ⟨g, q, none⟩ u).ownsRow base e sz (.slice (some ⟨g, 0, none⟩) n cap) n (xs.set q u) := by
  have hl := hO.1
  rcases hO.2 with ⟨h0, _⟩ | ⟨g', cap', cur, hv, hb, hh, hn, hc, hs, ht⟩
  · cases h0
  · simp only [Value.slice.injEq, Option.some.injEq, Addr.mk.injEq] at hv
    obtain ⟨⟨rfl, _⟩, _, rfl⟩ := hv
    refine ⟨by rw [List.length_set]; omega, .inr ⟨g, cap, cur.setIfInBounds q u, rfl, hb, ?_, hn, hc, by simpa using hs, ?_⟩⟩
    · simp [World.setCell, Array.getElem?_modify, hh]
    · rw [Array.toList_setIfInBounds, List.take_set, ht]
theorem cS_set : ∀ (l : List Sm) (k : Nat) (x : Sm), cS (l.set k x) = ((cS l).set (k * 2) (.int .i64 x.t)).set (k * 2 + 1) (.int .u64 (x.v : Int))
  | [], k, x => by simp [cS]
  | y :: t, 0, x => by simp [cS_cons]
  | y :: t, k + 1, x => by
    rw [List.set_cons_succ, cS_cons, cS_cons, cS_set t k x, show (k + 1) * 2 = k * 2 + 1 + 1 by omega, show k * 2 + 1 + 1 + 1 = (k * 2 + 1) + 1 + 1 by omega]
    simp
theorem owns_setS {w : World} {base g n cap k : Nat} {l : List Sm} {x : Sm} (hO : w.ownsRow base 32 2 (.slice (some ⟨g, 0, none⟩) n cap) n (cS l)) (hk : k < l.length) :
    ((w.setCell ⟨g, k * 2, none⟩ (.int .i64 x.t)).setCell ⟨g, k * 2 + 1, none⟩ (.int .u64 (x.v : Int))).ownsRow base 32 2 (.slice (some ⟨g, 0, none⟩) n cap) n (cS (l.set k x)) := by
  rw [cS_set]
  have h1 := owns_setU hO (k * 2) (.int .i64 x.t) (by rw [cS_length]; omega)
  exact owns_setU h1 (k * 2 + 1) (.int .u64 (x.v : Int)) (by rw [List.length_set, cS_length]; omega)
theorem setS_chg (w : World) (g k : Nat) (x y : Value) : Chg (fun i => i = g) w ((w.setCell ⟨g, k * 2, none⟩ x).setCell ⟨g, k * 2 + 1, none⟩ y) :=
  (Chg.set ⟨g, k * 2, none⟩ _ w).trans (Chg.set ⟨g, k * 2 + 1, none⟩ _ _) (fun _ _ e => e)
theorem own_frozen {w : World} {base g n c m e s : Nat} {xs : List Value} (h : w.ownsRow base e s (.slice (some ⟨g, 0, none⟩) n c) m xs) (k : Nat) : w.frozen? ⟨g, k, none⟩ = false := by
  rcases h.2 with ⟨h0, _⟩ | ⟨g', c', cur, hv, _, hh, _⟩
  · cases h0
  · simp only [Value.slice.injEq, Option.some.injEq, Addr.mk.injEq] at hv
    obtain ⟨⟨rfl, _⟩, _⟩ := hv
    exact frozen_of_row w g k _ e hh

/-- So many of one sample. -/
def sms (n u : Nat) : List Sm := List.replicate n ⟨0, u⟩
theorem sms_len (n u : Nat) : (sms n u).length = n := by simp [sms]
theorem sms_next (n u : Nat) : sms n u ++ [⟨0, u⟩] = sms (n + 1) u := by unfold sms; rw [List.replicate_succ']
theorem sms_at {n u i : Nat} (h : i < n) : (sms n u)[i]? = some ⟨0, u⟩ := by simp [sms, h]
theorem sms_ok {n u : Nat} (hu : u < 100) : ∀ x ∈ sms n u, OkS x := by
  intro x hx
  rw [(List.mem_replicate.1 hx).2]
  exact ⟨by unfold I64; simp, by show u < _; omega⟩
theorem sms_over {L : List Sm} {k u : Nat} (hk : k < L.length) : (sms k u ++ L.drop k).set k ⟨0, u⟩ = sms (k + 1) u ++ L.drop (k + 1) := by
  unfold sms
  rw [List.set_append_right _ _ (by simp), List.length_replicate, Nat.sub_self, List.drop_eq_getElem_cons hk, List.set_cons_zero, List.replicate_succ', List.append_assoc]
  rfl

theorem own_ty {w : World} {b b' e e' s s' n n' : Nat} {v v' : Value} {xs xs' : List Value} (h : w.ownsRow b e s v n xs) (h' : w.ownsRow b' e' s' v' n' xs') (hne : ¬ e = e') : ∀ i, v.ownBlock = some i → ¬ v'.ownBlock = some i := by
  intro i hi hi'
  rcases h.2 with ⟨rfl, _⟩ | ⟨g, cap, cur, rfl, _, hg, _⟩
  · exact absurd hi (by simp [Value.ownBlock])
  · rcases h'.2 with ⟨rfl, _⟩ | ⟨g', cap', cur', rfl, _, hg', _⟩
    · exact absurd hi' (by simp [Value.ownBlock])
    · simp [Value.ownBlock] at hi hi'
      subst hi
      subst hi'
      rw [hg] at hg'
      injection hg' with hg'
      injection hg' with _ h2 _
      exact hne h2
theorem Ss.chg {F : Nat → Prop} {w w' : World} {ad : Option Addr} {l : List Sm} (h : Ss w ad l) (hc : Chg F w w') (hF : ∀ z, ad = some z → ¬ F z.block) : Ss w' ad l := by
  refine ⟨h.sz, fun h0 => ?_⟩
  obtain ⟨b, off, e, hlt, hcc⟩ := h.at' h0
  refine ⟨b, off, e, Nat.lt_of_lt_of_le hlt hc.size, fun i x hx => ?_⟩
  obtain ⟨k1, k2⟩ := hcc i x hx
  have hb := hc.block b hlt (hF _ e)
  exact ⟨by rw [World.cell?_of_block (w := w) (a := ⟨b, _, none⟩) hb]; exact k1, by rw [World.cell?_of_block (w := w) (a := ⟨b, _, none⟩) hb]; exact k2⟩
/-- A list keeps what it holds while another that began as it grows. -/
theorem ss_push {w w' : World} {ad : Option Addr} {n m g' c' base u : Nat} {v : Value} {o : Obj} (h : Ss w ad (sms n u)) (hoff : ∀ x, ad = some x → x.off = 0 ∧ x.spot = none) (hn : n ≤ m + 1) (hu : u < 100)
    (ho : w'.ownsRow base 32 2 (.slice (some ⟨g', 0, none⟩) (m + 1) c') (m + 1) (cS (sms (m + 1) u))) (hp : Pushed (w.alloc o) w' v g') : Ss w' ad (sms n u) := by
  by_cases hb : ∃ z, ad = some z ∧ z.block = g'
  · obtain ⟨⟨b, off, sp⟩, hz, hb⟩ := hb
    obtain ⟨rfl, rfl⟩ := hoff _ hz
    simp only at hb
    subst hb
    have h2 := ss_of_owns ho (sms_ok hu)
    refine ⟨h.sz, fun h0 => ⟨b, 0, hz, ?_, fun i x hx => ?_⟩⟩
    · obtain ⟨b', off', e, hlt, _⟩ := h2.at' (by simp [sms])
      injection e with e
      injection e with e1
      rw [e1]; exact hlt
    · have hi : i < n := by have := (List.getElem?_eq_some_iff.1 hx).1; rwa [sms_len] at this
      obtain ⟨b', off', e, hlt, hcc⟩ := h2.at' (by simp [sms])
      injection e with e
      injection e with e1 e2
      subst e1
      subst e2
      have hx2 : x = ⟨0, u⟩ := by rw [sms_at hi] at hx; exact (Option.some.inj hx).symm
      subst hx2
      exact hcc i _ (sms_at (by omega))
  · exact h.chg hp.rest (fun z hz e => hb ⟨z, hz, e⟩)

/-- A list's samples, and what its block is. -/
structure Sq (w : World) (ad : Option Addr) (l : List Sm) : Prop where
  ss : Ss w ad l
  ty : ∀ z, ad = some z → ∃ cur, w.heap[z.block]? = some (.cells cur 32 (0, 0))
theorem Sq.chg {F : Nat → Prop} {w w' : World} {ad : Option Addr} {l : List Sm} (h : Sq w ad l) (hc : Chg F w w') (hF : ∀ z, ad = some z → ¬ F z.block) : Sq w' ad l := by
  refine ⟨h.ss.chg hc hF, fun z hz => ?_⟩
  obtain ⟨cur, hcur⟩ := h.ty z hz
  exact ⟨cur, by rw [hc.block z.block (Array.getElem?_eq_some_iff.1 hcur).1 (hF z hz)]; exact hcur⟩
theorem sq_of_owns {w : World} {base : Nat} {ad : Option Addr} {n m c : Nat} {l : List Sm} (h : w.ownsRow base 32 2 (.slice ad n c) m (cS l)) (hz : Bd l) : Sq w ad l := by
  refine ⟨ss_of_owns h hz, fun z hz => ?_⟩
  rcases h.2 with ⟨e, _⟩ | ⟨g, cap, cur, e, _, hg, _⟩
  · injection e with e; rw [hz] at e; cases e
  · injection e with e
    rw [hz] at e
    injection e with e
    subst e
    exact ⟨cur, hg⟩
theorem sq_push {w w' : World} {ad : Option Addr} {n m g' c' base u : Nat} {v : Value} {o : Obj} (h : Sq w ad (sms n u)) (hoff : ∀ x, ad = some x → x.off = 0 ∧ x.spot = none) (hn : n ≤ m + 1) (hu : u < 100)
    (ho : w'.ownsRow base 32 2 (.slice (some ⟨g', 0, none⟩) (m + 1) c') (m + 1) (cS (sms (m + 1) u))) (hp : Pushed (w.alloc o) w' v g') : Sq w' ad (sms n u) := by
  refine ⟨ss_push h.ss hoff hn hu ho hp, fun z hz => ?_⟩
  by_cases hb : z.block = g'
  · rw [hb]
    exact (sq_of_owns ho (sms_ok hu)).ty ⟨g', 0, none⟩ rfl
  · obtain ⟨cur, hcur⟩ := h.ty z hz
    exact ⟨cur, by rw [hp.rest.block z.block (Array.getElem?_eq_some_iff.1 hcur).1 hb]; exact hcur⟩
theorem Sq.own_ty {w : World} {ad : Option Addr} {l : List Sm} {b n : Nat} {v : Value} {xs : List Value} (h : Sq w ad l) (hv : w.ownsRow b 40 1 v n xs) : ∀ z, ad = some z → ¬ v.ownBlock = some z.block := by
  intro z hz e
  obtain ⟨cur, hcur⟩ := h.ty z hz
  rcases hv.2 with ⟨rfl, _⟩ | ⟨g, cap, cur', rfl, _, hg, _⟩
  · exact absurd e (by simp [Value.ownBlock])
  · simp [Value.ownBlock] at e
    subst e
    rw [hcur] at hg
    injection hg with hg
    injection hg with _ h2 _
    exact absurd h2 (by decide)

/-- A list of one's own, and where it may lie. -/
structure Rw where
  ad : Option Addr
  c : Nat
  lo : Nat
  hi : Nat
def Rw.v (r : Rw) (n : Nat) : Value := .slice r.ad n r.c
theorem Rw.own {r : Rw} {n : Nat} {z : Addr} (h : r.ad = some z) : (r.v n).ownBlock = some z.block := by simp [Rw.v, h, Value.ownBlock]
theorem Rw.own2 {r : Rw} (n m : Nat) : (r.v n).ownBlock = (r.v m).ownBlock := by
  unfold Rw.v
  cases r.ad <;> rfl

/-- The lists that Read has told so far. -/
structure P1 (w wx : World) (n : Nat) (L : List Sm) (v : Value) (R : List Rw) : Prop where
  all : wx.ownsRow w.heap.size 40 1 v R.length (R.map fun r => r.v n)
  row : ∀ r ∈ R, wx.ownsRow r.lo 32 2 (r.v n) n (cS L) ∧ w.heap.size ≤ r.lo ∧ r.hi ≤ wx.heap.size ∧ ∀ g, (r.v n).ownBlock = some g → g < r.hi
  pw : R.Pairwise fun a b => a.hi ≤ b.lo
  bel : Below w.heap.size w wx
theorem P1.start (w : World) (n : Nat) (L : List Sm) : P1 w w n L (.slice none 0 0) [] := ⟨World.ownsRow_nil _ _ _ _, by simp, List.Pairwise.nil, Below.refl _ _⟩
theorem P1.later {w wx wy : World} {n : Nat} {L : List Sm} {v : Value} {R : List Rw} (h : P1 w wx n L v R) (hb : Below wx.heap.size wx wy) : P1 w wy n L v R :=
  ⟨owl h.all hb, fun r hr => ⟨owl (h.row r hr).1 hb, (h.row r hr).2.1, Nat.le_trans (h.row r hr).2.2.1 hb.size, (h.row r hr).2.2.2⟩, h.pw, h.bel.trans (hb.mono h.bel.size)⟩
theorem P1.next {w wx w2 w3 : World} {n g' c' c : Nat} {L : List Sm} {v : Value} {R : List Rw} {ad : Option Addr} {o : Obj} (h : P1 w wx n L v R) (ho : w2.ownsRow wx.heap.size 32 2 (.slice ad n c) n (cS L)) (hb : Below wx.heap.size wx w2)
    (hp : Pushed (w2.alloc o) w3 v g') (hn : w3.ownsRow w.heap.size 40 1 (.slice (some ⟨g', 0, none⟩) (R.length + 1) c') (R.length + 1) ((R.map fun r => r.v n) ++ [.slice ad n c])) :
    P1 w w3 n L (.slice (some ⟨g', 0, none⟩) (R.length + 1) c') (R ++ [⟨ad, c, wx.heap.size, w2.heap.size⟩]) := by
  have h2 := h.later hb
  obtain ⟨hc, hm⟩ := hp.chg
  refine ⟨by simpa [Rw.v] using hn, fun r hr => ?_, ?_, h2.bel.trans (hc.below h2.bel.size (fun q hq => (h2.all.lt q hq).1))⟩
  · rcases List.mem_append.1 hr with hr | hr
    · obtain ⟨a1, a2, a3, a4⟩ := h2.row r hr
      exact ⟨hc.owns a1 (own_ty a1 h2.all (by decide)), a2, Nat.le_trans a3 hc.size, a4⟩
    · rw [List.mem_singleton.1 hr]
      exact ⟨hc.owns ho (own_ty ho h2.all (by decide)), h.bel.size, hc.size, fun g hg => (ho.lt g hg).2⟩
  · rw [List.pairwise_append]
    refine ⟨h.pw, List.pairwise_singleton _ _, fun a ha b hb' => ?_⟩
    rw [List.mem_singleton.1 hb']
    exact (h.row a ha).2.2.1

/-- Three lists: where they lie. -/
structure RwS (w : World) (t n : Nat) (R : List Rw) : Prop where
  len : R.length = 3
  pw : ∀ (j k : Nat) (r q : Rw), R[j]? = some r → R[k]? = some q → j < k → r.hi ≤ q.lo
  lo : ∀ (k : Nat) (r : Rw), R[k]? = some r → w.heap.size ≤ r.lo ∧ r.hi ≤ t
  blk : ∀ (k : Nat) (r : Rw), R[k]? = some r → ∀ g, (r.v n).ownBlock = some g → r.lo ≤ g ∧ g < r.hi
  wt : w.heap.size ≤ t
theorem P1.rs {w wx : World} {n : Nat} {L : List Sm} {v : Value} {R : List Rw} (h : P1 w wx n L v R) (h3 : R.length = 3) : RwS w wx.heap.size n R := by
  refine ⟨h3, fun j k r q hj hk hjk => ?_, fun k r hr => ?_, fun k r hr g hg => ?_, h.bel.size⟩
  · obtain ⟨a1, a2⟩ := List.getElem?_eq_some_iff.1 hj
    obtain ⟨b1, b2⟩ := List.getElem?_eq_some_iff.1 hk
    have := List.pairwise_iff_getElem.1 h.pw j k a1 b1 hjk
    rwa [a2, b2] at this
  · obtain ⟨_, a2, a3, _⟩ := h.row r (List.mem_of_getElem? hr)
    exact ⟨a2, a3⟩
  · obtain ⟨a1, _, _, a4⟩ := h.row r (List.mem_of_getElem? hr)
    exact ⟨(a1.lt g hg).1, a4 g hg⟩

/-- While the lists are written over and grow: those below i are done, those from j on as they came. -/
structure P0 (w wx : World) (t n : Nat) (L : List Sm) (v11 v15 : Value) (R G : List Rw) (i j : Nat) : Prop where
  all : wx.ownsRow w.heap.size 40 1 v11 3 (R.map fun r => r.v n)
  lng : wx.ownsRow w.heap.size 40 1 v15 i (G.map fun r => r.v (n + 40))
  sep : ∀ g, v11.ownBlock = some g → ¬ v15.ownBlock = some g
  new : ∀ (k : Nat) (r : Rw), R[k]? = some r → j ≤ k → wx.ownsRow r.lo 32 2 (r.v n) n (cS L)
  old : ∀ (k : Nat) (r : Rw), R[k]? = some r → k < i → Sq wx r.ad (sms n (7 + k))
  grown : ∀ (k : Nat) (r : Rw), G[k]? = some r → Sq wx r.ad (sms (n + 40) (7 + k))
  wh : ∀ (k : Nat) (q : Rw), G[k]? = some q → ∀ b, (q.v n).ownBlock = some b → b < wx.heap.size ∧ (t ≤ b ∨ ∃ r : Rw, R[k]? = some r ∧ r.lo ≤ b ∧ b < r.hi)
  bel : Below w.heap.size w wx
  gl : G.length = i
  tx : t ≤ wx.heap.size
theorem P1.go {w wx : World} {n : Nat} {L : List Sm} {v : Value} {R : List Rw} (h : P1 w wx n L v R) (h3 : R.length = 3) : P0 w wx wx.heap.size n L v (.slice none 0 0) R [] 0 0 :=
  ⟨by have := h.all; rwa [h3] at this, World.ownsRow_nil _ _ _ _, fun g _ e => absurd e (by simp [Value.ownBlock]), fun k r hr _ => (h.row r (List.mem_of_getElem? hr)).1, fun k r _ hk => absurd hk (by omega), fun k r hr => absurd hr (by simp), fun k r hr => absurd hr (by simp), h.bel, rfl, Nat.le_refl _⟩
theorem P0.up {w wx : World} {t n : Nat} {L : List Sm} {v11 v15 : Value} {R G : List Rw} {i j : Nat} (h : P0 w wx t n L v11 v15 R G i j) : P0 w wx t n L v11 v15 R G i (j + 1) :=
  ⟨h.all, h.lng, h.sep, fun k r hr hk => h.new k r hr (by omega), h.old, h.grown, h.wh, h.bel, h.gl, h.tx⟩
theorem P0.chg {w wx wy : World} {t n : Nat} {L : List Sm} {v11 v15 : Value} {R G : List Rw} {i : Nat} {F : Nat → Prop} {r : Rw} (hR : RwS w t n R) (hr : R[i]? = some r) (h : P0 w wx t n L v11 v15 R G i (i + 1)) (hc : Chg F wx wy)
    (h40 : ∀ v : Value, (∀ b : Nat, v.ownBlock = some b → ∃ cur, wx.heap[b]? = some (.cells cur 40 (0, 0))) → ∀ b, v.ownBlock = some b → ¬ F b)
    (hF : ∀ b, F b → (r.lo ≤ b ∧ b < r.hi) ∨ (t ≤ b ∧ ∀ (k : Nat) (q : Rw), G[k]? = some q → ¬ (q.v n).ownBlock = some b)) : P0 w wy t n L v11 v15 R G i (i + 1) := by
  have t40 : ∀ {v m xs}, wx.ownsRow w.heap.size 40 1 v m xs → ∀ b, v.ownBlock = some b → ¬ F b := by
    intro v m xs hv
    refine h40 v (fun b hb => ?_)
    rcases hv.2 with ⟨rfl, _⟩ | ⟨g, cap, cur, rfl, _, hg, _⟩
    · exact absurd hb (by simp [Value.ownBlock])
    · simp [Value.ownBlock] at hb
      subst hb
      exact ⟨cur, hg⟩
  have hri := hR.lo i r hr
  have hwt := hR.wt
  have far : ∀ k q, R[k]? = some q → k ≠ i → ∀ b, q.lo ≤ b → b < q.hi → ¬ F b := by
    intro k q hq hk b h1 h2 hb
    have hqt := hR.lo k q hq
    rcases hF b hb with ⟨h3, h4⟩ | ⟨h3, _⟩
    · rcases (by omega : k < i ∨ i < k) with hlt | hlt
      · have := hR.pw k i q r hq hr hlt; omega
      · have := hR.pw i k r q hr hq hlt; omega
    · omega
  refine ⟨hc.owns h.all (t40 h.all), hc.owns h.lng (t40 h.lng), h.sep, fun k q hq hk => ?_, fun k q hq hk => ?_, fun k q hq => ?_, fun k q hq b hb => ?_, ?_, h.gl, Nat.le_trans h.tx hc.size⟩
  · refine hc.owns (h.new k q hq hk) (fun b hb => ?_)
    obtain ⟨h1, h2⟩ := hR.blk k q hq b hb
    exact far k q hq (by omega) b h1 h2
  · refine (h.old k q hq hk).chg hc (fun z hz => ?_)
    obtain ⟨h1, h2⟩ := hR.blk k q hq z.block (Rw.own hz)
    exact far k q hq (by omega) _ h1 h2
  · have hki : k < i := by have := (List.getElem?_eq_some_iff.1 hq).1; rw [h.gl] at this; exact this
    refine (h.grown k q hq).chg hc (fun z hz hb => ?_)
    obtain ⟨_, h1 | ⟨q', hq', h1, h2⟩⟩ := h.wh k q hq z.block (Rw.own hz)
    · rcases hF _ hb with ⟨h3, h4⟩ | ⟨_, h4⟩
      · omega
      · exact h4 k q hq (Rw.own hz)
    · exact far k q' hq' (by omega) _ h1 h2 hb
  · obtain ⟨h1, h2⟩ := h.wh k q hq b hb
    exact ⟨Nat.lt_of_lt_of_le h1 hc.size, h2⟩
  · refine h.bel.trans (hc.below h.bel.size (fun b hb => ?_))
    rcases hF b hb with ⟨h3, _⟩ | ⟨h3, _⟩ <;> omega
theorem P0.still {w wx wy : World} {t n : Nat} {L : List Sm} {v11 v15 : Value} {R G : List Rw} {i j : Nat} (h : P0 w wx t n L v11 v15 R G i j) (hc : Chg (fun _ => False) wx wy) : P0 w wy t n L v11 v15 R G i j :=
  ⟨hc.owns h.all (fun _ _ e => e), hc.owns h.lng (fun _ _ e => e), h.sep, fun k r hr hk => hc.owns (h.new k r hr hk) (fun _ _ e => e), fun k r hr hk => (h.old k r hr hk).chg hc (fun _ _ e => e), fun k r hr => (h.grown k r hr).chg hc (fun _ _ e => e), fun k q hq b hb => ⟨Nat.lt_of_lt_of_le (h.wh k q hq b hb).1 hc.size, (h.wh k q hq b hb).2⟩, h.bel.trans (hc.below h.bel.size (fun _ e => e.elim)), h.gl, Nat.le_trans h.tx hc.size⟩

/-- A list at hand grows. -/
structure P3 (w wx : World) (t n : Nat) (R G : List Rw) (i k : Nat) (r : Rw) (v : Value) : Prop where
  own : wx.ownsRow w.heap.size 32 2 v (n + k) (cS (sms (n + k) (7 + i)))
  here : Sq wx r.ad (sms n (7 + i))
  at' : ∀ b, v.ownBlock = some b → (r.lo ≤ b ∧ b < r.hi) ∨ (t ≤ b ∧ ∀ (k : Nat) (q : Rw), G[k]? = some q → ¬ (q.v n).ownBlock = some b)
theorem P3.push {w wx w' : World} {t n : Nat} {L : List Sm} {v11 v15 : Value} {R G : List Rw} {i k g' c' : Nat} {r : Rw} {v : Value} {o : Obj} (hR : RwS w t n R) (hr : R[i]? = some r) (hi : i < 3) (h0 : P0 w wx t n L v11 v15 R G i (i + 1)) (h : P3 w wx t n R G i k r v) (hoff : ∀ x, r.ad = some x → x.off = 0 ∧ x.spot = none)
    (ho : w'.ownsRow w.heap.size 32 2 (.slice (some ⟨g', 0, none⟩) (n + k + 1) c') (n + k + 1) (cS (sms (n + k) (7 + i) ++ [⟨0, 7 + i⟩]))) (hp : Pushed (wx.alloc o) w' v g') :
    P0 w w' t n L v11 v15 R G i (i + 1) ∧ P3 w w' t n R G i (k + 1) r (.slice (some ⟨g', 0, none⟩) (n + k + 1) c') := by
  obtain ⟨hc, hm⟩ := hp.chg
  rw [sms_next] at ho
  refine ⟨h0.chg hR hr hc (fun u hu b hb hF => ?_) h.at', ho, sq_push h.here hoff (by omega) (by omega) ho hp, fun b hb => ?_⟩
  · obtain ⟨cur, hcur⟩ := hu b hb
    rcases h.own.2 with ⟨e, _⟩ | ⟨g, cap, cur', e, _, hg, _⟩
    · rw [e] at hF; exact absurd hF (by simp [Value.ownBlock])
    · rw [e] at hF
      simp [Value.ownBlock] at hF
      subst hF
      rw [hcur] at hg
      injection hg with hg
      injection hg with _ h2 _
      exact absurd h2 (by decide)
  · simp [Value.ownBlock] at hb
    subst hb
    rcases hm with e2 | ⟨q, e2, hq⟩
    · exact h.at' _ e2.symm
    · injection e2 with e2
      subst e2
      refine .inr ⟨Nat.le_trans h0.tx hq, fun k q' hq' e => ?_⟩
      have := (h0.wh k q' hq' _ e).1
      omega
theorem P0.done {w wx w' : World} {t n : Nat} {L : List Sm} {v11 v15 : Value} {R G : List Rw} {i g' c' c20 : Nat} {a20 : Option Addr} {r : Rw} {o : Obj} (hR : RwS w t n R) (hr : R[i]? = some r) (h0 : P0 w wx t n L v11 v15 R G i (i + 1)) (h : P3 w wx t n R G i 40 r (.slice a20 (n + 40) c20))
    (ho : w'.ownsRow w.heap.size 40 1 (.slice (some ⟨g', 0, none⟩) (i + 1) c') (i + 1) ((G.map fun r => r.v (n + 40)) ++ [.slice a20 (n + 40) c20])) (hp : Pushed (wx.alloc o) w' v15 g') :
    P0 w w' t n L v11 (.slice (some ⟨g', 0, none⟩) (i + 1) c') R (G ++ [⟨a20, c20, 0, 0⟩]) (i + 1) (i + 1) := by
  obtain ⟨hc, hm⟩ := hp.chg
  have h32 : ∀ {b n xs v}, wx.ownsRow b 32 2 v n xs → ∀ g, v.ownBlock = some g → ¬ v15.ownBlock = some g := fun hv => own_ty hv h0.lng (by decide)
  have hi3 : i < 3 := by have := (List.getElem?_eq_some_iff.1 hr).1; rw [hR.len] at this; exact this
  refine ⟨hc.owns h0.all h0.sep, by simpa [Rw.v] using ho, fun g hg e => ?_, fun k q hq hk => hc.owns (h0.new k q hq hk) (h32 (h0.new k q hq hk)), fun k q hq hk => ?_, fun k q hq => ?_, fun k q hq b hb => ?_, h0.bel.trans (hc.below h0.bel.size (fun q hq => (h0.lng.lt q hq).1)), by rw [List.length_append, h0.gl]; rfl, Nat.le_trans h0.tx hc.size⟩
  · simp [Value.ownBlock] at e
    subst e
    rcases hm with e2 | ⟨q, e2, hq⟩
    · exact h0.sep _ hg e2.symm
    · injection e2 with e2
      subst e2
      have := (h0.all.lt _ hg).2
      omega
  · by_cases hki : k = i
    · subst hki
      obtain rfl : q = r := by rw [hr] at hq; exact (Option.some.inj hq).symm
      exact h.here.chg hc (h.here.own_ty h0.lng)
    · have ho := h0.old k q hq (by omega)
      exact ho.chg hc (ho.own_ty h0.lng)
  · by_cases hki : k < i
    · rw [List.getElem?_append_left (by rw [h0.gl]; exact hki)] at hq
      have ho := h0.grown k q hq
      exact ho.chg hc (ho.own_ty h0.lng)
    · have hk2 : k = i := by have := (List.getElem?_eq_some_iff.1 hq).1; rw [List.length_append, h0.gl] at this; simp at this; omega
      subst hk2
      rw [List.getElem?_append_right (by rw [h0.gl]; exact Nat.le_refl _), h0.gl, Nat.sub_self] at hq
      obtain rfl := (Option.some.inj hq).symm
      have ho := sq_of_owns h.own (sms_ok (by omega))
      exact ho.chg hc (ho.own_ty h0.lng)
  · by_cases hki : k < i
    · rw [List.getElem?_append_left (by rw [h0.gl]; exact hki)] at hq
      obtain ⟨h1, h2⟩ := h0.wh k q hq b hb
      exact ⟨Nat.lt_of_lt_of_le h1 hc.size, h2⟩
    · have hk2 : k = i := by have := (List.getElem?_eq_some_iff.1 hq).1; rw [List.length_append, h0.gl] at this; simp at this; omega
      subst hk2
      rw [List.getElem?_append_right (by rw [h0.gl]; exact Nat.le_refl _), h0.gl, Nat.sub_self] at hq
      obtain rfl := (Option.some.inj hq).symm
      have hb2 : (Value.slice a20 (n + 40) c20).ownBlock = some b := by rw [← hb]; exact Rw.own2 (r := ⟨a20, c20, 0, 0⟩) _ _
      refine ⟨Nat.lt_of_lt_of_le (h.own.lt b hb2).2 hc.size, ?_⟩
      rcases h.at' b hb2 with h1 | ⟨h1, _⟩
      · exact .inr ⟨r, hr, h1⟩
      · exact .inl h1

end Go.Proofs.YtcgjmioncbihhaaDoor
