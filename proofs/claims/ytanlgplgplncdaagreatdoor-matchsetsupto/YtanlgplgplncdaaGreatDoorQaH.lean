import Derived.Test.YtanlgplgplncdaaGreatDoorQaG
/-
  The document's reader: row.
-/
namespace Go.Proofs.YtanlgplgplncdaaGreatDoor
open Go.RowKit
set_option linter.unusedVariables false
set_option linter.unusedSimpArgs false

theorem row_stop {S : List UInt8} {f d b : Nat} {acc : List Pt} (h : Stop S b) : appP acc (rowF S (f + 1) d b) = .ok acc b := by
  unfold Stop at h
  rw [rowF, if_pos h, appP, List.append_nil]
theorem row_item {S : List UInt8} {f d b : Nat} (h : ¬ Stop S b) : rowF S (f + 1) d b = match itemF S f d b with
      | .ok p b => (match rowF S f d b with
        | .ok t c => .ok (p :: t) c
        | .bad k => .bad k
        | .out => .out)
      | .bad k => .bad k
      | .out => .out := by
  unfold Stop at h
  rw [rowF, if_neg h]
  cases itemF S f d b with
  | ok p b2 => cases rowF S f d b2 <;> rfl
  | bad k => rfl
  | out => rfl
theorem row_more {S : List UInt8} {f d b : Nat} {acc : List Pt} {p : Pt} {b2 : Nat} (h : ¬ Stop S b) (hi : itemF S f d b = .ok p b2) : appP acc (rowF S (f + 1) d b) = appP (acc ++ [p]) (rowF S f d b2) := by
  rw [row_item h, hi]
  simp only
  cases rowF S f d b2 <;> simp [appP]
theorem row_fail {S : List UInt8} {f d b : Nat} {acc : List Pt} {k : Nat} (h : ¬ Stop S b) (hi : itemF S f d b = .bad k) : appP acc (rowF S (f + 1) d b) = .bad k := by
  rw [row_item h, hi]; rfl
theorem item_bad {S : List UInt8} {f d b k : Nat} (h : atomF S f d b = .bad k) : itemF S (f + 1) d b = .bad k := by rw [itemF, h]
theorem item_rep {S : List UInt8} {f d b b1 : Nat} {p : Pt} (h : atomF S f d b = .ok p b1) (x : UInt8) (hx : x = 42 ∨ x = 43 ∨ x = 63) (hs : S[b1]? = some x) : itemF S (f + 1) d b = .ok (.rep p x.toNat) (b1 + 1) := by
  rw [itemF, h]
  simp only [hs]
  rcases hx with rfl | rfl | rfl <;> rfl
theorem item_one {S : List UInt8} {f d b b1 : Nat} {p : Pt} (h : atomF S f d b = .ok p b1) (h1 : ¬ S[b1]? = some 42) (h2 : ¬ S[b1]? = some 43) (h3 : ¬ S[b1]? = some 63) : itemF S (f + 1) d b = .ok p b1 := by
  rw [itemF, h]
  simp only
  rw [if_neg h1, if_neg h2, if_neg h3]
/-- What is left to be read: with steps enough for a round. -/
theorem row_steps {S : List UInt8} {f d b : Nat} {acc : List Pt} {R : Pr (List Pt)} (h : appP acc (rowF S f d b) = R) (hno : R ≠ .out) : ∃ f1, f = f1 + 1 ∧ (¬ Stop S b → ∃ f2, f1 = f2 + 1 ∧ atomF S f2 d b ≠ .out) := by
  cases f with
  | zero => exact absurd (by rw [← h, rowF]; rfl) hno
  | succ f1 =>
    refine ⟨f1, rfl, fun hs => ?_⟩
    cases f1 with
    | zero => exact absurd (by rw [← h, row_item hs, itemF]; rfl) hno
    | succ f2 =>
      refine ⟨f2, rfl, fun e => hno ?_⟩
      rw [← h, row_item hs, itemF, e]
      rfl

/-- What is held in a round of row (of any): nodes that grow behind one another. -/
structure RJ (K : Nat) {α : Type} (V : (Nat → Prop) → World → α → List Value → Prop) (w wx : World) (g gr gn : Nat) (ad : Option Addr) (n c : Nat) (us : List (List Value)) (F : Nat → Prop) (acc : List α) (P : Prop) : Prop where
  chg : Chg (fun b => b = g) w wx
  res : Blk wx gr 123 (nV 0 0 false 0 sN sN)
  nod : Blk wx gn 123 (nV K 0 false 0 sN (.slice ad n c))
  len : us.length = n
  own : wx.ownsRow w.heap.size 123 6 (.slice ad n c) n (cN us)
  six : ∀ u ∈ us, u.length = 6
  ap : w.heap.size ≤ gr ∧ w.heap.size ≤ gn ∧ gr ≠ gn ∧ (Value.slice ad n c).ownBlock ≠ some gr ∧ (Value.slice ad n c).ownBlock ≠ some gn
  fb : ∀ b, F b → w.heap.size ≤ b ∧ b < wx.heap.size ∧ b ≠ gr ∧ b ≠ gn ∧ (Value.slice ad n c).ownBlock ≠ some b
  nds : P → acc.length = n ∧ ∀ (i : Nat) (p : α) (u : List Value), acc[i]? = some p → us[i]? = some u → V F wx p u
/-- Nodes stay while other blocks change, and may be told of more blocks. -/
structure Vk {α : Type} (V : (Nat → Prop) → World → α → List Value → Prop) : Prop where
  keep : ∀ {F G : Nat → Prop} {w w' : World} {p : α} {u : List Value}, V F w p u → Chg G w w' → (∀ b, F b → ¬ G b) → V F w' p u
  mono : ∀ {F G : Nat → Prop} {w : World} {p : α} {u : List Value}, V F w p u → (∀ b, F b → G b) → V G w p u
theorem vk_nd : Vk NdV := ⟨fun h hc hd => NdV.keep hc hd _ _ h, fun h hFG => NdV.mono hFG _ _ h⟩
theorem vk_rw : Vk RwV := ⟨fun h hc hd => h.keep hc hd, fun h hFG => h.mono hFG⟩

theorem RJ.change {K : Nat} {α : Type} {V : (Nat → Prop) → World → α → List Value → Prop} (hV : Vk V) {w wx wy : World} {g gr gn : Nat} {ad : Option Addr} {n c : Nat} {us : List (List Value)} {F : Nat → Prop} {acc : List α} {P : Prop} (h : RJ K V w wx g gr gn ad n c us F acc P) {G : Nat → Prop} (hc : Chg G wx wy) (hG : ∀ b, G b → b < w.heap.size → b = g) (h1 : ¬ G gr) (h2 : ¬ G gn) (h3 : ∀ b, (Value.slice ad n c).ownBlock = some b → ¬ G b) (h4 : ∀ b, F b → ¬ G b) : RJ K V w wy g gr gn ad n c us F acc P :=
  ⟨h.chg.trans hc (fun i hi e => hG i e hi), hc.blk h.res h1, hc.blk h.nod h2, h.len, hc.owns h.own h3, h.six, h.ap, fun b hb => by have := h.fb b hb; have := hc.size; exact ⟨by omega, by omega, by omega, by omega, (h.fb b hb).2.2.2.2⟩, fun hp => ⟨(h.nds hp).1, fun i p u hi hu => hV.keep ((h.nds hp).2 i p u hi hu) hc h4⟩⟩
theorem RJ.later {K : Nat} {α : Type} {V : (Nat → Prop) → World → α → List Value → Prop} (hV : Vk V) {w wx wy : World} {g gr gn : Nat} {ad : Option Addr} {n c : Nat} {us : List (List Value)} {F : Nat → Prop} {acc : List α} {P : Prop} (h : RJ K V w wx g gr gn ad n c us F acc P) (hg : g < w.heap.size) (hc : Chg (fun b => b = g) wx wy) : RJ K V w wy g gr gn ad n c us F acc P :=
  h.change hV hc (fun b e _ => e) (fun e => by have e' : gr = g := e; have := h.ap.1; omega) (fun e => by have e' : gn = g := e; have := h.ap.2.1; omega) (fun b hb e => by have e' : b = g := e; have := (h.own.lt b hb).1; omega) (fun b hb e => by have e' : b = g := e; have := (h.fb b hb).1; omega)
/-- A node behind the others. -/
theorem RJ.push {K : Nat} {α : Type} {V : (Nat → Prop) → World → α → List Value → Prop} (hV : Vk V) {w wx w6 : World} {g gr gn : Nat} {ad : Option Addr} {n c : Nat} {us : List (List Value)} {F F3 : Nat → Prop} {acc : List α} {P : Prop} (h : RJ K V w wx g gr gn ad n c us F acc P) {o : Obj} {g6 c6 : Nat} {u : List Value} {p : α} {P' : Prop} (hu : u.length = 6) (ho : w6.ownsRow w.heap.size 123 6 (.slice (some ⟨g6, 0, none⟩) (n + 1) c6) (n + 1) (cN us ++ u)) (hp : Pushed (wx.alloc o) w6 (.slice ad n c) g6) (hg : g < w.heap.size)
    (h3 : ∀ b, F3 b → w.heap.size ≤ b ∧ b < wx.heap.size ∧ b ≠ gr ∧ b ≠ gn ∧ (Value.slice ad n c).ownBlock ≠ some b) (hP : P' → P ∧ V F3 wx p u) :
    RJ K V w (w6.setCell ⟨gn, 5, none⟩ (.slice (some ⟨g6, 0, none⟩) (n + 1) c6)) g gr gn (some ⟨g6, 0, none⟩) (n + 1) c6 (us ++ [u]) (fun b => F b ∨ F3 b) (acc ++ [p]) P' ∧ (∀ X i d bad, X.rb < w.heap.size → X.ab < w.heap.size → Rr wx g X i d bad → Rr (w6.setCell ⟨gn, 5, none⟩ (.slice (some ⟨g6, 0, none⟩) (n + 1) c6)) g X i d bad) ∧ w6.cell? ⟨gn, 5, none⟩ = some (.slice ad n c) ∧ w6.frozen? ⟨gn, 5, none⟩ = false := by
  obtain ⟨hch, hmv⟩ := hp.chg
  have hgn := h.ap.2.1
  have own_ge : ∀ x, (Value.slice ad n c).ownBlock = some x → w.heap.size ≤ x := fun x hx => (h.own.lt x hx).1
  have hg6 : w.heap.size ≤ g6 ∧ g6 ≠ gr ∧ g6 ≠ gn ∧ ∀ b, b < wx.heap.size → (Value.slice ad n c).ownBlock ≠ some b → g6 ≠ b := by
    rcases hmv with e | ⟨y, e, hy⟩
    · exact ⟨own_ge g6 e.symm, fun e2 => h.ap.2.2.2.1 (by rw [← e, e2]), fun e2 => h.ap.2.2.2.2 (by rw [← e, e2]), fun b _ hb e2 => hb (by rw [← e, e2])⟩
    · injection e with e
      have := h.chg.size
      have h1 := h.res.lt
      have h2 := h.nod.lt
      exact ⟨by omega, by omega, by omega, fun b hb _ => by omega⟩
  have b2 : Blk w6 gr 123 (nV 0 0 false 0 sN sN) := hch.blk h.res (fun e => h.ap.2.2.2.1 e)
  have b3 : Blk w6 gn 123 (nV K 0 false 0 sN (.slice ad n c)) := hch.blk h.nod (fun e => h.ap.2.2.2.2 e)
  have cs := Chg.set ⟨gn, 5, none⟩ (.slice (some ⟨g6, 0, none⟩) (n + 1) c6) w6
  have hall : ∀ b, F b ∨ F3 b → w.heap.size ≤ b ∧ b < wx.heap.size ∧ b ≠ gr ∧ b ≠ gn ∧ (Value.slice ad n c).ownBlock ≠ some b := fun b hb => by
    rcases hb with hb | hb
    · exact h.fb b hb
    · exact h3 b hb
  have hsz : wx.heap.size ≤ w6.heap.size := hch.size
  refine ⟨⟨?_, cs.blk b2 (fun e => h.ap.2.2.1 e), b3.set 5 _, by simp [h.len], ?_, ?_, ⟨h.ap.1, hgn, h.ap.2.2.1, ?_, ?_⟩, ?_, ?_⟩, ?_, b3.cell 5, b3.frozen 5⟩
  · refine (h.chg.trans hch (fun i hi e => ?_)).trans cs (fun i hi e => ?_)
    · have := own_ge i e; omega
    · have e' : i = gn := e; omega
  · have : cN (us ++ [u]) = cN us ++ u := by simp [cN]
    rw [this]
    exact cs.owns ho (fun x hx e => by simp [Value.ownBlock] at hx; have e' : x = gn := e; omega)
  · intro y hy
    rcases List.mem_append.1 hy with hy | hy
    · exact h.six y hy
    · simp at hy; subst hy; exact hu
  · simp [Value.ownBlock]; omega
  · simp [Value.ownBlock]; omega
  · intro b hb
    obtain ⟨q1, q2, q3, q4, q5⟩ := hall b hb
    refine ⟨q1, by have := cs.size; omega, q3, q4, ?_⟩
    simp [Value.ownBlock]
    exact hg6.2.2.2 b q2 q5
  · intro hp'
    obtain ⟨hp1, hv⟩ := hP hp'
    obtain ⟨hl, hn⟩ := h.nds hp1
    refine ⟨by simp [hl], fun i q v hi hv' => ?_⟩
    have kk : ∀ {FF : Nat → Prop} {q : α} {v : List Value}, V FF wx q v → (∀ b, FF b → F b ∨ F3 b) → V (fun b => F b ∨ F3 b) (w6.setCell ⟨gn, 5, none⟩ (.slice (some ⟨g6, 0, none⟩) (n + 1) c6)) q v := fun hq hFF =>
      hV.mono (hV.keep (hV.keep hq hch (fun b hb e => (hall b (hFF b hb)).2.2.2.2 e)) cs (fun b hb e => (hall b (hFF b hb)).2.2.2.1 e)) hFF
    rcases Nat.lt_or_ge i n with hlt | hge
    · rw [List.getElem?_append_left (by omega)] at hi
      rw [List.getElem?_append_left (by rw [h.len]; exact hlt)] at hv'
      exact kk (hn i q v hi hv') (fun b hb => .inl hb)
    · rw [List.getElem?_append_right (by omega)] at hi
      rw [List.getElem?_append_right (by rw [h.len]; exact hge)] at hv'
      have h0 : i - acc.length = 0 := by
        have := (List.getElem?_eq_some_iff.1 hi).1
        simp at this; omega
      have h0' : i - us.length = 0 := by rw [h.len]; omega
      rw [h0] at hi
      rw [h0'] at hv'
      simp at hi hv'
      subst hi hv'
      exact kk hv (fun b hb => .inr hb)
  · intro X i d bad hr ha hR
    have hR6 := hR.chg hch (fun e => by have := own_ge g e; omega) (fun e => by have := own_ge X.rb e; omega) (fun e => by have := own_ge X.ab e; omega)
    exact hR6.chg cs (fun e => by have e' : g = gn := e; omega) (fun e => by have e' : X.rb = gn := e; omega) (fun e => by have e' : X.ab = gn := e; omega)
/-- Where the row's nodes lie. -/
theorem RJ.spots {K : Nat} {α : Type} {V : (Nat → Prop) → World → α → List Value → Prop} {w wx : World} {g gr gn : Nat} {ad : Option Addr} {n c : Nat} {us : List (List Value)} {F : Nat → Prop} {acc : List α} {P : Prop} (h : RJ K V w wx g gr gn ad n c us F acc P) (h0 : us ≠ []) : ∃ b, ad = some ⟨b, 0, none⟩ ∧ w.heap.size ≤ b ∧ b < wx.heap.size ∧ b ≠ gr ∧ b ≠ gn ∧ ∀ (i : Nat) (u : List Value), us[i]? = some u → Cs wx b (0 + i * 6) u := by
  have hl := h.len
  have hn : 0 < n := by rw [← hl]; exact List.length_pos_iff.2 h0
  rcases h.own.2 with ⟨_, e⟩ | ⟨g', cap, cur, e0, hb, _⟩
  · omega
  · injection e0 with e0 _ _
    subst e0
    have hlt := owns_lt h.own g' (by simp [Value.ownBlock])
    refine ⟨g', rfl, hb, hlt, fun e => h.ap.2.2.2.1 (by simp [Value.ownBlock, e]), fun e => h.ap.2.2.2.2 (by simp [Value.ownBlock, e]), fun i u hu j x hx => ?_⟩
    have k := cN_get us h.six i u hu j x hx
    have := h.own.cells (g := g') (by simp [Value.ownBlock]) _ _ k
    rw [Addr.add_lit] at this
    rw [Nat.zero_add]
    rw [Nat.zero_add] at this
    exact this

end Go.Proofs.YtanlgplgplncdaaGreatDoor

/-
  The document's reader: row's walk.
-/
namespace Go.Proofs.YtanlgplgplncdaaGreatDoor
open Go.RowKit
set_option linter.unusedVariables false
set_option linter.unusedSimpArgs false

theorem RJ.finRow {w wx : World} {g gr gn : Nat} {ad : Option Addr} {n c : Nat} {us : List (List Value)} {F : Nat → Prop} {acc : List Pt} {P : Prop} (h : RJ 6 NdV w wx g gr gn ad n c us F acc P) (hp : P) (v : List Value) : RwV (FW w (wx.setCells gr 0 v)) (wx.setCells gr 0 v) acc (nV 6 0 false 0 sN (.slice ad n c)) := by
  have cs := Chg.sets gr v 0 wx
  obtain ⟨hl, hn⟩ := h.nds hp
  by_cases h0 : us = []
  · have ha : acc = [] := List.eq_nil_of_length_eq_zero (by rw [hl, ← h.len, h0]; rfl)
    subst ha
    exact ⟨ad, c, 0, 0, by rw [← hl], fun e => absurd rfl e, by simp only [NdsV]⟩
  · obtain ⟨b, e, h1, h2, h3, h4, h5⟩ := h.spots h0
    refine ⟨ad, c, b, 0, by rw [hl], fun _ => ⟨e, h1, by have := cs.size; omega⟩, nds_of acc us 0 (by rw [hl, h.len]) (fun i u hu => (h5 i u hu).keep cs h3) (fun i p u hi hu => ?_)⟩
    refine NdV.mono (fun b hb => ?_) p u (NdV.keep cs (fun b hb e => (h.fb b hb).2.2.1 e) p u (hn i p u hi hu))
    have := h.fb b hb
    have := cs.size
    exact ⟨by omega, by omega⟩
/-- How the reader stands in a round of row where all is well. -/
def RG (wx : World) (g : Nat) (X : Rx) (S : List UInt8) (i d n N : Nat) (R : Pr (List Pt)) (acc : List Pt) : Prop :=
  ∃ j b f, Rr wx g X j d (-1) ∧ At X S j b ∧ appP acc (rowF S f d b) = R ∧ f ≤ N ∧ i ≤ j ∧ n ≤ j
def RB {α : Type} (wx : World) (g : Nat) (X : Rx) (d : Nat) (R : Pr α) : Prop := ∃ j k : Nat, Rr wx g X j d (k : Int) ∧ R = .bad k ∧ j < X.al.length

/-- What stands ahead of the append in a round of row. -/
def RA (w wx wr : World) (g g4 : Nat) (X : Rx) (S : List UInt8) (j d f1 : Nat) (ad : Option Addr) (n c : Nat) (us : List (List Value)) (F : Nat → Prop) (R : Pr (List Pt)) (acc : List Pt) : Prop :=
  ∃ u3 F3 p, Sh u3 ∧ Blk wx g4 123 u3 ∧ RJ 6 NdV w wx g w.heap.size (w.heap.size + 1) ad n c us F acc True ∧ (∀ b, F3 b → w.heap.size ≤ b ∧ b < wx.heap.size ∧ b ≠ w.heap.size ∧ b ≠ w.heap.size + 1 ∧ (Value.slice ad n c).ownBlock ≠ some b) ∧ ((∃ j3 b3, Rr wx g X j3 d (-1) ∧ At X S j3 b3 ∧ NdV F3 wx p u3 ∧ appP (acc ++ [p]) (rowF S f1 d b3) = R ∧ j < j3) ∨ RB wx g X d R)

set_option maxRecDepth 100000 in
set_option maxHeartbeats 0 in
theorem row_of_atom (N : Nat) (hAT : ∀ f, f < N → AtC f) : RoC N := by
  intro g X S i d a w h hA hXr hXa hd hno
  have hgw : g < w.heap.size := h.blk.lt
  have hi := h.sz.2.2.1
  have hal := hA.lt
  have hal2 := h.sz.2.1
  obtain ⟨R, hR⟩ : ∃ R, rowF S N d a = R := ⟨_, rfl⟩
  rw [hR] at hno ⊢
  have HNO := hidden hno
  have HAT := hidden hAT
  obtain ⟨w1, hw1, hB2, hB3, hbel, hsz⟩ : ∃ w1, (w.alloc (.cells #[.int .i64 0, .int .i32 0, .bool false, .int .u8 0, .slice none 0 0, .slice none 0 0] 123)).alloc (.cells #[.int .i64 6, .int .i32 0, .bool false, .int .u8 0, .slice none 0 0, .slice none 0 0] 123) = w1 ∧ Blk w1 w.heap.size 123 (nV 0 0 false 0 sN sN) ∧ Blk w1 (w.heap.size + 1) 123 (nV 6 0 false 0 sN sN) ∧ Below w.heap.size w w1 ∧ w1.heap.size = w.heap.size + 2 := two_new w 123 123 (nV 0 0 false 0 sN sN) (nV 6 0 false 0 sN sN)
  have HJ : Hid (RJ 6 NdV w w1 g w.heap.size (w.heap.size + 1) none 0 0 [] (fun _ => False) [] True) := hidden ⟨Chg.of_below hbel, hB2, hB3, rfl, World.ownsRow_nil _ _ _ _, (fun u hu => by cases hu), ⟨Nat.le_refl _, by omega, by omega, by simp [Value.ownBlock], by simp [Value.ownBlock]⟩, (fun b hb => hb.elim), fun _ => ⟨rfl, fun i p u hp => by simp at hp⟩⟩
  have HG : Hid (RG w1 g X S i d 0 N R []) := hidden ⟨i, a, N, h.later hbel, hA, by rw [hR]; cases R <;> rfl, Nat.le_refl _, Nat.le_refl _, Nat.zero_le _⟩
  have HW1 := hidden hw1
  clear hR hno h hA hw1 hB2 hB3 hbel hsz hAT
  obtain ⟨M, hM⟩ : ∃ M, X.al.length = M := ⟨_, rfl⟩
  have HM := hidden hM
  go_enter Tryz.func78, Tryz.ntmps78
  go_wp2_with fail
  rw [HW1.out]
  clear HW1
  go_loopw [] (fun wx => ∃ (ad : Option Addr) (n c : Nat), n ≤ 1002 ∧ Hid (∃ us F acc, (RJ 6 NdV w wx g w.heap.size (w.heap.size + 1) ad n c us F acc True ∧ RG wx g X S i d n N R acc) ∨ (RJ 6 NdV w wx g w.heap.size (w.heap.size + 1) ad n c us F acc False ∧ RB wx g X d R))) (fun wx => rrM g M wx)
  case atStart => exact ⟨none, 0, 0, by omega, hidden ⟨[], _, [], .inl ⟨HJ.out, HG.out⟩⟩⟩
  case round =>
    rename World => wr
    obtain ⟨ad, n, c, hn2, hex⟩ := hrel
    clear HJ HG
    obtain ⟨us, F, acc, hor⟩ := hex.out
    clear hex
    rcases hor with ⟨hJ, j, b, f, r1, r2, r3, r4, r5, r6⟩ | ⟨hJ, j, k, r1, r2, r3⟩
    · have hjl := r2.lt
      have c4 : wr.cell? ⟨g, 4, none⟩ = some (.int .i64 (-1)) := r1.blk.cell 4
      obtain ⟨f1, rfl, hf2⟩ := row_steps r3 HNO.out
      have hsw : w.heap.size + 2 ≤ wr.heap.size := hJ.nod.lt
      have kA := HAT.out (f1 - 1) (by omega) g X S j d b wr r1 r2 (by omega) (by omega) hd (fun hs => by obtain ⟨f2, e, hh⟩ := hf2 hs; rw [e]; exact hh)
      have HM0 : Hid (rrM g M wr = M + 1 - j) := hidden (by rw [r1.m]; simp)
      have HJ := hidden hJ
      have H3 := hidden r3
      have HF2 := hidden hf2
      clear hJ r1 r2 r3 hf2
      go_upto_region 4 with (go_at_call 95; refine kA.mono ?_; rintro e w2 ⟨ch2, u2, is, j2, bad2, rfl, sh2, rr2, or2⟩; have J2 := hidden (HJ.out.later vk_nd hgw ch2); have R2 := hidden rr2; have O2 := hidden or2; have HC2 := hidden ch2; obtain ⟨K, A, N', G, ad1, n1, c1, ad2, n2, c2, hu2⟩ := sh2; have HU2 := hidden hu2; rw [hu2]; simp only [nV]; clear kA ch2 rr2 or2 hu2)
      obtain ⟨w3, hw3, hB4, hb3, hs3⟩ : ∃ w3, w2.alloc (.cells #[.int .i64 (K : Int), .int .i32 (A : Int), .bool N', .int .u8 (G : Int), .slice ad1 n1 c1, .slice ad2 n2 c2] 123) = w3 ∧ Blk w3 w2.heap.size 123 (nV K A N' G (.slice ad1 n1 c1) (.slice ad2 n2 c2)) ∧ Below w2.heap.size w2 w3 ∧ w3.heap.size = w2.heap.size + 1 := one_new w2 123 (nV K A N' G (.slice ad1 n1 c1) (.slice ad2 n2 c2))
      rw [hw3]
      clear hw3
      have J3 := hidden (J2.out.later vk_nd hgw (Chg.of_below hb3))
      have R3 := hidden (R2.out.later hb3)
      have B3 := hidden hB4
      have HB3 := hidden hb3
      have h22 : wr.heap.size ≤ w2.heap.size := HC2.out.size
      clear hB4 hb3 hs3
      cases is with
      | false =>
        have HX : Hid ((R = .ok acc b ∧ bad2 = -1 ∧ At X S j2 b ∧ j ≤ j2) ∨ (∃ k : Nat, R = .bad k ∧ bad2 = (k : Int) ∧ j2 < X.al.length)) := hidden (by
          rcases O2.out with ⟨_, q1, q2, q3, q4⟩ | ⟨q0, _⟩ | ⟨q1, k, q2, q3, q4⟩
          · exact .inl ⟨by rw [← H3.out, row_stop q2], q1, q3, q4⟩
          · cases q0
          · obtain ⟨f2, e, hh⟩ := HF2.out q1
            subst e
            exact .inr ⟨k, H3.out.symm.trans (row_fail q1 (item_bad q2)), q3, q4⟩)
        clear H3 HF2 J2
        go_wp2_with (first
          | (refine wpList_load_blk rfl 123 (.tmp 3) rfl (w.heap.size + 1) J3.out.nod rfl Tryz.underlying123 rfl info70s ?_)
          | (refine wpList_store_blk (l := nV 6 0 false 0 sN (.slice ad n c)) rfl 123 (.tmp 2) (.tmp 20) rfl rfl w.heap.size J3.out.res rfl rfl rfl info70s (sh_nV _ _ _ _ _ _ _ _ _ _).one.2 ?_))
        obtain ⟨y1, y2, y3, y4⟩ := fin_store (u := nV 6 0 false 0 sN (.slice ad n c)) J3.out.chg J3.out.res (Nat.le_refl _) rfl hgw
        refine bodyPost_ret (res_node res29 _ _ w.heap.size _ (sh_nV _ _ _ _ _ _ _ _ _ _) rfl y1) rfl ?_
        refine ⟨y2, _, j2, bad2, rfl, sh_nV _ _ _ _ _ _ _ _ _ _, y4 _ _ _ _ hXr hXa R3.out, ?_⟩
        rcases HX.out with ⟨q1, q2, q3, q4⟩ | ⟨k, q1, q2, q3⟩
        · exact .inl ⟨acc, b, q1, q2, J3.out.finRow trivial _, q3, by omega⟩
        · exact .inr ⟨k, q1, q2, q3⟩
      | true =>
        obtain ⟨c6, hc6⟩ : ∃ c6, pk X j2 bad2 = c6 := ⟨_, rfl⟩
        have k30 := peekR w3 R3.out c6 hc6
        have HC6 := hidden hc6
        clear hc6
        go_upto_region 7 with (go_at_call 79; refine k30.mono ?_; rintro e w4 ⟨rfl, g4⟩; have J4 := hidden (J3.out.later vk_nd hgw (Chg.of_below g4)); have R4 := hidden (R3.out.later g4); have B4 := hidden (B3.out.later g4); have HB4 := hidden (HB3.out.trans (g4.mono HB3.out.size)); clear k30 g4)
        go_cut [32] from 8 to 50 (fun s wx => s = .bool (decide (c6 = 42 ∨ c6 = 43 ∨ c6 = 63)) ∧ wx = w4)
        case first =>
          by_cases h42 : c6 = 42
          · subst h42
            go_wp2_with fail
            go_meet
            exact ⟨by simp, rfl⟩
          · by_cases h43 : c6 = 43
            · subst h43
              go_wp2_with fail
              go_meet
              exact ⟨by simp, rfl⟩
            · by_cases h63 : c6 = 63
              · subst h63
                go_wp2_with fail
                go_meet
                exact ⟨by simp, rfl⟩
              · go_wp2_with fail
                go_meet
                exact ⟨by simp [h42, h43, h63], rfl⟩
        case rest =>
          obtain ⟨rfl, hwc⟩ := hcut
          obtain rfl := hwc.symm
          clear hwc
          obtain ⟨sg, hsg⟩ : ∃ sg, decide (c6 = 42 ∨ c6 = 43 ∨ c6 = 63) = sg := ⟨_, rfl⟩
          rw [hsg]
          have HSG := hidden hsg
          clear hsg
          have hoff : Hid (∀ x, (Value.slice ad n c).ownBlock = some x → x < wr.heap.size) := hidden (fun x hx => owns_lt HJ.out.own x hx)
          have hFW : Hid (∀ b, FW wr w2 b → w.heap.size ≤ b ∧ b < w4.heap.size ∧ b ≠ w.heap.size ∧ b ≠ w.heap.size + 1 ∧ (Value.slice ad n c).ownBlock ≠ some b) := hidden (fun b hb => by
            have h1 := hb.1
            have h2 := hb.2
            have h3 := HB4.out.size
            exact ⟨by omega, by omega, by omega, by omega, fun e => by have := hoff.out b e; omega⟩)
          go_upto_if 32 with fail
          go_cut [] from 8 to 50 (fun wx => Hid (RA w wx wr g w2.heap.size X S j d f1 ad n c us F R acc))
          case first =>
            cases sg with
            | true =>
              have hs3 := of_decide_eq_true HSG.out
              have hbad : bad2 = -1 := by
                rcases O2.out with ⟨q0, _⟩ | ⟨_, q1, _⟩ | ⟨q1, k, q2, q3, q4⟩
                · cases q0
                · exact q1
                · exfalso
                  have := HC6.out
                  unfold pk at this
                  rw [if_pos (by omega)] at this
                  omega
              subst hbad
              obtain ⟨x, hx3, hxc⟩ : ∃ x : UInt8, (x = 42 ∨ x = 43 ∨ x = 63) ∧ c6 = (x.toNat : Int) := by
                rcases hs3 with e | e | e
                · exact ⟨42, .inl rfl, e⟩
                · exact ⟨43, .inr (.inl rfl), e⟩
                · exact ⟨63, .inr (.inr rfl), e⟩
              have hx128 : x.toNat < 128 := by rcases hx3 with rfl | rfl | rfl <;> decide
              have HO : Hid (∃ p b1, NdV (FW wr w2) w2 p u2 ∧ At X S (j2 + 1) (b1 + 1) ∧ j < j2 ∧ appP (acc ++ [.rep p x.toNat]) (rowF S f1 d (b1 + 1)) = R) := hidden (by
                rcases O2.out with ⟨q0, _⟩ | ⟨_, q1, q2, p, b1, q3, q4, q5, q6⟩ | ⟨q1, k, q2, q3, q4⟩
                · cases q0
                · obtain ⟨f2, e, hh⟩ := HF2.out q2
                  subst e
                  have hS : S[b1]? = some x := (q5.pk_eq x hx128).1 (by rw [HC6.out, hxc])
                  exact ⟨p, b1, q4, q5.next x hx128 hS, q6, (row_more q2 (item_rep q3 x hx3 hS)).symm.trans H3.out⟩
                · omega)
              have hj2 : j2 + 1 < X.al.length := by
                obtain ⟨p, b1, q1, q2, q3, q4⟩ := HO.out
                exact q2.lt
              have e2 : w4.cell? ⟨g, 2, none⟩ = some (.int .i64 (j2 : Int)) := R4.out.blk.cell 2
              have f2 := R4.out.blk.frozen 2
              have h42 : w2.heap.size < w4.heap.size := B4.out.lt
              have R5 : Hid (Rr (w4.setCell ⟨g, 2, none⟩ (.int .i64 ((j2 : Int) + 1))) g X (j2 + 1) d (-1)) := hidden (R4.out.setI (j2 + 1) (by omega))
              have C5 : Hid (Chg (fun b => b = g) w4 (w4.setCell ⟨g, 2, none⟩ (.int .i64 ((j2 : Int) + 1)))) := hidden (Chg.set ⟨g, 2, none⟩ _ w4)
              have hg2 : ¬ w2.heap.size = g := by omega
              have B5 : Hid (Blk (w4.setCell ⟨g, 2, none⟩ (.int .i64 ((j2 : Int) + 1))) w2.heap.size 123 (nV K A N' G (.slice ad1 n1 c1) (.slice ad2 n2 c2))) := hidden (B4.out.setOff _ _ hg2)
              have B6 : Hid (Blk ((w4.setCell ⟨g, 2, none⟩ (.int .i64 ((j2 : Int) + 1))).alloc (.cells #[.int .i64 (K : Int), .int .i32 (A : Int), .bool N', .int .u8 (G : Int), .slice ad1 n1 c1, .slice ad2 n2 c2] 123)) w2.heap.size 123 (nV K A N' G (.slice ad1 n1 c1) (.slice ad2 n2 c2))) := hidden (B5.out.alloc _)
              have S6 : Hid (Blk ((w4.setCell ⟨g, 2, none⟩ (.int .i64 ((j2 : Int) + 1))).alloc (.cells #[.int .i64 (K : Int), .int .i32 (A : Int), .bool N', .int .u8 (G : Int), .slice ad1 n1 c1, .slice ad2 n2 c2] 123)) w4.heap.size 123 (nV K A N' G (.slice ad1 n1 c1) (.slice ad2 n2 c2))) := hidden (by
                have := Blk.new (w4.setCell ⟨g, 2, none⟩ (.int .i64 ((j2 : Int) + 1))) 123 (nV K A N' G (.slice ad1 n1 c1) (.slice ad2 n2 c2))
                rw [show (w4.setCell ⟨g, 2, none⟩ (.int .i64 ((j2 : Int) + 1))).heap.size = w4.heap.size by simp] at this
                exact this)
              have HFIN : Hid (∀ v : List Value, v = nV 5 0 false x.toNat sN (.slice (some ⟨w4.heap.size, 0, none⟩) 1 1) → RA w (((w4.setCell ⟨g, 2, none⟩ (.int .i64 ((j2 : Int) + 1))).alloc (.cells #[.int .i64 (K : Int), .int .i32 (A : Int), .bool N', .int .u8 (G : Int), .slice ad1 n1 c1, .slice ad2 n2 c2] 123)).setCells w2.heap.size 0 v) wr g w2.heap.size X S j d f1 ad n c us F R acc) := hidden (by
                rintro v rfl
                have cs := Chg.sets w2.heap.size (nV 5 0 false x.toNat sN (.slice (some ⟨w4.heap.size, 0, none⟩) 1 1)) 0 ((w4.setCell ⟨g, 2, none⟩ (.int .i64 ((j2 : Int) + 1))).alloc (.cells #[.int .i64 (K : Int), .int .i32 (A : Int), .bool N', .int .u8 (G : Int), .slice ad1 n1 c1, .slice ad2 n2 c2] 123))
                have ca : Chg (fun b => b = g) w4 ((w4.setCell ⟨g, 2, none⟩ (.int .i64 ((j2 : Int) + 1))).alloc (.cells #[.int .i64 (K : Int), .int .i32 (A : Int), .bool N', .int .u8 (G : Int), .slice ad1 n1 c1, .slice ad2 n2 c2] 123)) := C5.out.seq (Chg.alloc _ _ _)
                have cc := (ca.mono (G := fun b => b = g ∨ b = w2.heap.size) (fun _ _ h => .inl h)).trans cs (fun _ _ h => .inr h)
                have jj := J4.out.change vk_nd cc (fun b e hb => by rcases e with e | e; exact e; omega) (fun e => by rcases e with e | e <;> omega) (fun e => by rcases e with e | e <;> omega) (fun b hb e => by
                  have h1 := hoff.out b hb
                  have h2 := (HJ.out.own.lt b hb).1
                  rcases e with e | e <;> omega) (fun b hb e => by
                  have h1 := J2.out.fb b hb
                  rcases e with e | e <;> omega)
                have r7 := (R5.out.chg (Chg.alloc (fun _ => False) _ (.cells #[.int .i64 (K : Int), .int .i32 (A : Int), .bool N', .int .u8 (G : Int), .slice ad1 n1 c1, .slice ad2 n2 c2] 123)) (fun h => h) (fun h => h) (fun h => h)).chg cs (fun e => hg2 e.symm) (fun e => by have e' : X.rb = w2.heap.size := e; omega) (fun e => by have e' : X.ab = w2.heap.size := e; omega)
                obtain ⟨p, b1, z1, z2, z3, z4⟩ := HO.out
                have c27 : Chg (fun b => b = g ∨ b = w2.heap.size) w2 _ := (Chg.of_below HB4.out).seq cc
                have hsz := cc.size
                have s7 := cs.blk S6.out (fun e => by have e' : w4.heap.size = w2.heap.size := e; omega)
                have hs7 := s7.lt
                refine ⟨_, fun b => FW wr w2 b ∨ b = w4.heap.size, .rep p x.toNat, sh_nV _ _ _ _ _ _ _ _ _ _, blk_stored B6.out rfl, jj, fun b hb => ?_, .inl ⟨j2 + 1, b1 + 1, r7, z2, ?_, z4, by omega⟩⟩
                · rcases hb with hb | hb
                  · obtain ⟨h1, h2, h3, h4, h5⟩ := hFW.out b hb
                    exact ⟨h1, by omega, h3, h4, h5⟩
                  · subst hb
                    exact ⟨by omega, hs7, by omega, by omega, fun e => by have := hoff.out _ e; omega⟩
                · simp only [NdV]
                  refine ⟨w4.heap.size, 0, 1, u2, rfl, .inr rfl, fun j y hy => ?_, NdV.mono (fun b hb => .inl hb) p u2 (NdV.keep c27 (fun b hb e => ?_) p u2 z1)⟩
                  · rw [HU2.out] at hy
                    rw [Nat.zero_add, s7.cell]
                    exact hy
                  · have h1 := hb.1
                    have h2 := hb.2
                    rcases e with e | e <;> omega)
              rcases hx3 with rfl | rfl | rfl
              · clear hs3
                obtain rfl : c6 = 42 := hxc
                go_wp2_with (first
                  | (refine wpList_load_blk rfl 123 (.tmp 4) rfl w2.heap.size B5.out rfl Tryz.underlying123 rfl info70s ?_; simp only [nV])
                  | (refine wpList_store_blk (l := nV 5 0 false 42 sN (.slice (some ⟨w4.heap.size, 0, none⟩) 1 1)) rfl 123 (.tmp 4) (.tmp 44) rfl rfl w2.heap.size B6.out rfl rfl rfl info70s (sh_nV _ _ _ _ _ _ _ _ _ _).one.2 ?_))
                go_meet
                exact hidden (HFIN.out _ (by rfl))
              · clear hs3
                obtain rfl : c6 = 43 := hxc
                go_wp2_with (first
                  | (refine wpList_load_blk rfl 123 (.tmp 4) rfl w2.heap.size B5.out rfl Tryz.underlying123 rfl info70s ?_; simp only [nV])
                  | (refine wpList_store_blk (l := nV 5 0 false 43 sN (.slice (some ⟨w4.heap.size, 0, none⟩) 1 1)) rfl 123 (.tmp 4) (.tmp 44) rfl rfl w2.heap.size B6.out rfl rfl rfl info70s (sh_nV _ _ _ _ _ _ _ _ _ _).one.2 ?_))
                go_meet
                exact hidden (HFIN.out _ (by rfl))
              · clear hs3
                obtain rfl : c6 = 63 := hxc
                go_wp2_with (first
                  | (refine wpList_load_blk rfl 123 (.tmp 4) rfl w2.heap.size B5.out rfl Tryz.underlying123 rfl info70s ?_; simp only [nV])
                  | (refine wpList_store_blk (l := nV 5 0 false 63 sN (.slice (some ⟨w4.heap.size, 0, none⟩) 1 1)) rfl 123 (.tmp 4) (.tmp 44) rfl rfl w2.heap.size B6.out rfl rfl rfl info70s (sh_nV _ _ _ _ _ _ _ _ _ _).one.2 ?_))
                go_meet
                exact hidden (HFIN.out _ (by rfl))
            | false =>
              have hns : ¬ (c6 = 42 ∨ c6 = 43 ∨ c6 = 63) := of_decide_eq_false HSG.out
              have HRA : Hid (RA w w4 wr g w2.heap.size X S j d f1 ad n c us F R acc) := hidden (by
                rcases O2.out with ⟨q0, _⟩ | ⟨_, q1, q2, p, b1, q3, q4, q5, q6⟩ | ⟨q1, k, q2, q3, q4⟩
                · cases q0
                · obtain ⟨f2, e, hh⟩ := HF2.out q2
                  subst e
                  have hpk : ∀ x : UInt8, x.toNat < 128 → S[b1]? = some x → c6 = (x.toNat : Int) := fun x hx e => by
                    rw [← HC6.out, q1]; exact (q5.pk_eq x hx).2 e
                  refine ⟨u2, FW wr w2, p, q4.sh, by rw [HU2.out]; exact B4.out, J4.out, hFW.out, .inl ⟨j2, b1, by rw [q1] at R4; exact R4.out, q5, ?_, ?_, q6⟩⟩
                  · exact NdV.keep (Chg.of_below (F := fun _ => False) HB4.out) (fun _ _ h => h) p u2 q4
                  · rw [← H3.out]
                    exact (row_more q2 (item_one q3 (fun e => hns (.inl (hpk 42 (by decide) e))) (fun e => hns (.inr (.inl (hpk 43 (by decide) e)))) (fun e => hns (.inr (.inr (hpk 63 (by decide) e)))))).symm
                · obtain ⟨f2, e, hh⟩ := HF2.out q1
                  subst e
                  refine ⟨u2, FW wr w2, .any, by rw [HU2.out]; exact sh_nV _ _ _ _ _ _ _ _ _ _, by rw [HU2.out]; exact B4.out, J4.out, hFW.out, .inr ⟨j2, k, by rw [q3] at R4; exact R4.out, H3.out.symm.trans (row_fail q1 (item_bad q2)), q4⟩⟩)
              clear hns
              go_wp2_with fail
              go_meet
              exact HRA
          case rest =>
            rename World => wc
            obtain ⟨u3, F3, p, sh3, hb3, hj3, hf3, hor3⟩ := hcut.out
            clear hcut
            obtain ⟨K3, A3, N3, G3, a31, n31, c31, a32, n32, c32, rfl⟩ := sh3
            obtain ⟨i0, hi0, hz0, hz1, hz2⟩ := info_parts info70n
            have HI := hidden hi0
            have HOW := hidden hj3.own
            have BC := hidden hb3
            have d5 : wc.cell? ⟨w.heap.size + 1, 5, none⟩ = some (.slice ad n c) := hj3.nod.cell 5
            have HCN : Hid (∀ j u, (nV K3 A3 N3 G3 (.slice a31 n31 c31) (.slice a32 n32 c32))[j]? = some u → (wc.alloc (.cells #[.int .i64 (K3 : Int), .int .i32 (A3 : Int), .bool N3, .int .u8 (G3 : Int), .slice a31 n31 c31, .slice a32 n32 c32] 123)).cell? ((⟨wc.heap.size, 0, none⟩ : Addr).add j) = some u) := hidden (fun j u hu => by
              have := (Blk.new wc 123 (nV K3 A3 N3 G3 (.slice a31 n31 c31) (.slice a32 n32 c32))).cell (0 + j)
              rw [Addr.add_lit]
              refine this.trans ?_
              rw [Nat.zero_add]
              exact hu)
            have HBS : Hid (w.heap.size ≤ wc.heap.size) := hidden hj3.chg.size
            have HPU : Hid (∀ g6 c6 w6, w6.ownsRow w.heap.size 123 6 (.slice (some ⟨g6, 0, none⟩) (n + 1) c6) (n + 1) (cN us ++ nV K3 A3 N3 G3 (.slice a31 n31 c31) (.slice a32 n32 c32)) → Pushed (wc.alloc (.cells #[.int .i64 (K3 : Int), .int .i32 (A3 : Int), .bool N3, .int .u8 (G3 : Int), .slice a31 n31 c31, .slice a32 n32 c32] 123)) w6 (.slice ad n c) g6 → w6.cell? ⟨w.heap.size + 1, 5, none⟩ = some (.slice ad n c) ∧ w6.frozen? ⟨w.heap.size + 1, 5, none⟩ = false ∧ (∃ us F acc, (RJ 6 NdV w (w6.setCell ⟨w.heap.size + 1, 5, none⟩ (.slice (some ⟨g6, 0, none⟩) (n + 1) c6)) g w.heap.size (w.heap.size + 1) (some ⟨g6, 0, none⟩) (n + 1) c6 us F acc True ∧ RG (w6.setCell ⟨w.heap.size + 1, 5, none⟩ (.slice (some ⟨g6, 0, none⟩) (n + 1) c6)) g X S i d (n + 1) N R acc) ∨ (RJ 6 NdV w (w6.setCell ⟨w.heap.size + 1, 5, none⟩ (.slice (some ⟨g6, 0, none⟩) (n + 1) c6)) g w.heap.size (w.heap.size + 1) (some ⟨g6, 0, none⟩) (n + 1) c6 us F acc False ∧ RB (w6.setCell ⟨w.heap.size + 1, 5, none⟩ (.slice (some ⟨g6, 0, none⟩) (n + 1) c6)) g X d R)) ∧ rrM g M (w6.setCell ⟨w.heap.size + 1, 5, none⟩ (.slice (some ⟨g6, 0, none⟩) (n + 1) c6)) < rrM g M wr) := hidden (fun g6 c6 w6 ho hp => by
              rw [HM0.out]
              rcases hor3 with ⟨j3, b3, t1, t2, t3, t4, t5⟩ | ⟨j3, k, t1, t2, t3⟩
              · obtain ⟨y1, y2, y3, y4⟩ := hj3.push vk_nd (P' := True) (p := p) rfl ho hp hgw hf3 (fun _ => ⟨trivial, t3⟩)
                have r9 := y2 _ _ _ _ hXr hXa t1
                refine ⟨y3, y4, ⟨_, _, _, .inl ⟨y1, j3, b3, f1, r9, t2, t4, by omega, by omega, by omega⟩⟩, ?_⟩
                rw [r9.m]
                have := t2.lt
                simp
                omega
              · obtain ⟨y1, y2, y3, y4⟩ := hj3.push vk_nd (P' := False) (p := p) rfl ho hp hgw hf3 (fun h => h.elim)
                have r9 := y2 _ _ _ _ hXr hXa t1
                refine ⟨y3, y4, ⟨_, _, _, .inr ⟨y1, j3, k, r9, t2, t3⟩⟩, ?_⟩
                rw [r9.m, if_neg (by omega)]
                omega)
            clear hi0 hb3 hj3 hor3 hf3 HC6 H3 HF2 J2 J3 J4 R2 R3 R4 O2 B3 B4 HB3 HB4 HC2 HU2
            go_wp2_with (first
              | (refine wpList_load_blk rfl 123 (.tmp 4) rfl w2.heap.size BC.out rfl Tryz.underlying123 rfl info70s ?_; simp only [nV])
              | (refine wpList_push6 _ rfl (.tmp 46) (.tmp 48) 121 rfl 123 i0 (.agg (nV 0 0 false 0 sN sN).toArray) 64 Tryz.underlying121 HI.out hz0 hz1 hz2 rfl w.heap.size (.slice ad n c) n (cN us) rfl (HOW.out.alloc _) ⟨wc.heap.size, 0, none⟩ (nV K3 A3 N3 G3 (.slice a31 n31 c31) (.slice a32 n32 c32)) rfl rfl HCN.out (sh_nV _ _ _ _ _ _ _ _ _ _).one.2 (by unfold maxLen; omega) (by omega) (by have := HBS.out; simp; omega) ?_; intro g6 c6 w6 ho6 hp6; obtain ⟨y1, y2, y3, y4⟩ := HPU.out g6 c6 w6 ho6 hp6; have Y3 := hidden y3; have Y4 := hidden y4; clear ho6 hp6 HPU y3 y4))
            exact ⟨⟨some ⟨g6, 0, none⟩, n + 1, c6, by omega, Y3⟩, Y4.out⟩
    · have c4 : wr.cell? ⟨g, 4, none⟩ = some (.int .i64 (k : Int)) := r1.blk.cell 4
      have hk0 : ¬ (k : Int) < 0 := by omega
      have HJ := hidden hJ
      have H1 := hidden r1
      have H2 := hidden r2
      have H3 := hidden r3
      clear hJ r1 r2 r3 hn2
      go_wp2_with (first
        | (refine wpList_load_blk rfl 123 (.tmp 3) rfl (w.heap.size + 1) HJ.out.nod rfl Tryz.underlying123 rfl info70s ?_)
        | (refine wpList_store_blk (l := nV 6 0 false 0 sN (.slice ad n c)) rfl 123 (.tmp 2) (.tmp 51) rfl rfl w.heap.size HJ.out.res rfl rfl rfl info70s (sh_nV _ _ _ _ _ _ _ _ _ _).one.2 ?_))
      obtain ⟨y1, y2, y3, y4⟩ := fin_store (u := nV 6 0 false 0 sN (.slice ad n c)) HJ.out.chg HJ.out.res (Nat.le_refl _) rfl hgw
      refine bodyPost_ret (res_node res29 _ _ w.heap.size _ (sh_nV _ _ _ _ _ _ _ _ _ _) rfl y1) rfl ?_
      exact ⟨y2, _, j, k, rfl, sh_nV _ _ _ _ _ _ _ _ _ _, y4 _ _ _ _ hXr hXa H1.out, .inr ⟨k, H2.out, rfl, H3.out⟩⟩

end Go.Proofs.YtanlgplgplncdaaGreatDoor
