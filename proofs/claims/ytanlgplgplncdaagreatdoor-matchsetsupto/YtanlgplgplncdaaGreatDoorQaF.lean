/-
  The document's reader: class.
-/
import Derived.Test.YtanlgplgplncdaaGreatDoorQaD
import Derived.Test.YtanlgplgplncdaaGreatDoorPuD
import Derived.Deep.CutRange
namespace Go.Proofs.YtanlgplgplncdaaGreatDoor
open Go.RowKit
set_option linter.unusedVariables false
set_option linter.unusedSimpArgs false

/-- Where the reader stands, and whether it has failed, as its block tells: what is left to read. -/
def rrM (g n : Nat) (w : World) : Nat := match w.cell? ⟨g, 4, none⟩, w.cell? ⟨g, 2, none⟩ with
  | some (.int _ b), some (.int _ i) => if b < 0 then n + 1 - i.toNat else 0
  | _, _ => 0
theorem Rr.m {w : World} {g : Nat} {X : Rx} {i d : Nat} {bad : Int} (h : Rr w g X i d bad) (n : Nat) : rrM g n w = if bad < 0 then n + 1 - i else 0 := by
  have c2 : w.cell? ⟨g, 2, none⟩ = some (.int .i64 (i : Int)) := h.blk.cell 2
  have c4 : w.cell? ⟨g, 4, none⟩ = some (.int .i64 bad) := h.blk.cell 4
  unfold rrM
  rw [c2, c4]
  simp
/-- What class leaves. -/
def ClsP (X : Rx) (S : List UInt8) (i d g : Nat) (w : World) (neg : Bool) (R : Pr Sn) (e : Ending) (w' : World) : Prop :=
  Chg (fun b => b = g) w w' ∧ ((∃ l b j u, R = .ok l b ∧ e = .returned (.agg (List.toArray u)) ∧ NdV (FW w w') w' (.cls neg l) u ∧ Rr w' g X j d (-1) ∧ At X S j b ∧ i < j) ∨ (∃ (k j : Nat) (u : List Value), R = .bad k ∧ e = .returned (.agg u.toArray) ∧ Sh u ∧ Rr w' g X j d (k : Int) ∧ j < X.al.length))
/-- What is held in a round of class. -/
structure CK (w wx : World) (g gr gn : Nat) (neg : Bool) (ad : Option Addr) (n c : Nat) (raw : Sn) : Prop where
  chg : Chg (fun b => b = g) w wx
  res : Blk wx gr 123 (nV 0 0 false 0 sN sN)
  nod : Blk wx gn 123 (nV 3 0 neg 0 (.slice ad n c) sN)
  len : raw.length = n
  own : wx.ownsRow w.heap.size 172 2 (.slice ad n c) n (cS raw)
  ap : w.heap.size ≤ gr ∧ w.heap.size ≤ gn ∧ gr ≠ gn ∧ (Value.slice ad n c).ownBlock ≠ some gr ∧ (Value.slice ad n c).ownBlock ≠ some gn
  bd : Bd raw
theorem CK.later {w wx wy : World} {g gr gn : Nat} {neg : Bool} {ad : Option Addr} {n c : Nat} {raw : Sn} (h : CK w wx g gr gn neg ad n c raw) (hg : g < w.heap.size) (hc : Chg (fun b => b = g) wx wy) : CK w wy g gr gn neg ad n c raw :=
  ⟨h.chg.seq hc, hc.blk h.res (by have := h.ap.1; omega), hc.blk h.nod (by have := h.ap.2.1; omega), h.len, hc.owns h.own (fun x hx e => by have := (h.own.lt x hx).1; omega), h.ap, h.bd⟩

theorem info119n : (Tryz.prog.info? 172).map (fun i => (i.zero, i.size, i.bytes)) = some (some (.agg #[.int .i32 0, .int .i32 0]), 2, 8) := by kernel_rfl
theorem info70s : (Tryz.prog.info? 123).map (·.size) = some 6 := by kernel_rfl
theorem sh_nV (K A : Nat) (N : Bool) (G : Nat) (ad : Option Addr) (n c : Nat) (ad2 : Option Addr) (n2 c2 : Nat) : Sh (nV K A N G (.slice ad n c) (.slice ad2 n2 c2)) := ⟨K, A, N, G, ad, n, c, ad2, n2, c2, rfl⟩
theorem ss_owns119 {w : World} {base : Nat} {ad : Option Addr} {n c : Nat} {l : Sn} (h : w.ownsRow base 172 2 (.slice ad n c) n (cS l)) (hz : Bd l) : Ss w ad l := by
  refine ⟨hz, fun h0 => ?_⟩
  have hl := h.1
  rw [cS_length] at hl
  rcases h.2 with ⟨_, e⟩ | ⟨g, cap, cur, e0, hb, _⟩
  · rw [e] at hl; exact absurd (List.eq_nil_of_length_eq_zero (by omega)) h0
  · injection e0 with e0 _ _
    subst e0
    refine ⟨g, 0, rfl, owns_lt h g (by simp [Value.ownBlock]), fun i x hx => ?_⟩
    have k := cS_get l i x hx
    have k0 := h.cells (g := g) (by simp [Value.ownBlock]) _ _ k.1
    have k1 := h.cells (g := g) (by simp [Value.ownBlock]) _ _ k.2
    rw [Addr.add_lit] at k0 k1
    exact ⟨k0, by rw [Nat.add_assoc]; exact k1⟩
/-- The class is at its end: its node is laid into the result. -/
theorem CK.fin {w wx : World} {g gr gn : Nat} {neg : Bool} {ad : Option Addr} {n c : Nat} {raw : Sn} (h : CK w wx g gr gn neg ad n c raw) (hg : g < w.heap.size) : Blk (wx.setCells gr 0 (nV 3 0 neg 0 (.slice ad n c) sN)) gr 123 (nV 3 0 neg 0 (.slice ad n c) sN) ∧ Chg (fun b => b = g) w (wx.setCells gr 0 (nV 3 0 neg 0 (.slice ad n c) sN)) ∧
    (∀ X i d bad, X.rb < w.heap.size → X.ab < w.heap.size → Rr wx g X i d bad → Rr (wx.setCells gr 0 (nV 3 0 neg 0 (.slice ad n c) sN)) g X i d bad) ∧
    ((∀ o ∈ raw, o.1 ≤ o.2 ∧ Vc o.1 ∧ Vc o.2) → raw ≠ [] → n ≤ 1000 → NdV (FW w (wx.setCells gr 0 (nV 3 0 neg 0 (.slice ad n c) sN))) (wx.setCells gr 0 (nV 3 0 neg 0 (.slice ad n c) sN)) (.cls neg (raw.foldl withS [])) (nV 3 0 neg 0 (.slice ad n c) sN)) := by
  have cs := Chg.sets gr (nV 3 0 neg 0 (.slice ad n c) sN) 0 wx
  have hgr := h.ap.1
  refine ⟨blk_stored h.res rfl, h.chg.trans cs (fun i hi e => by have e' : i = gr := e; omega), fun X i d bad hr ha hR => hR.chg cs (by omega) (fun e => by have e' : X.rb = gr := e; omega) (fun e => by have e' : X.ab = gr := e; omega), fun hv hne hn => ?_⟩
  simp only [NdV]
  have hss := ss_owns119 (cs.owns h.own (fun x hx e => by have e' : x = gr := e; exact h.ap.2.2.2.1 (by rw [hx, e']))) h.bd
  refine ⟨ad, c, raw, by rw [h.len], hss, fun y h0 e => ?_, rfl, hv, hne, by rw [h.len]; exact hn⟩
  obtain ⟨b, off, e1, hlt, _⟩ := hss.at' h0
  rw [e1] at e
  injection e with e
  subst e
  refine ⟨?_, hlt⟩
  have := h.own
  rcases this.2 with ⟨e2, _⟩ | ⟨g', cap, cur, e0, hb, _⟩
  · rw [e1] at e2; cases e2
  · injection e0 with e0 _ _
    rw [e1] at e0
    injection e0 with e0
    injection e0 with e0
    show w.heap.size ≤ b
    omega

/-- How the reader stands in a round of class: all is well, or it has failed. -/
def CG (wx : World) (g : Nat) (X : Rx) (S : List UInt8) (i d n : Nat) (R : Pr Sn) (raw : Sn) (first : Bool) : Prop :=
  (∃ j b f, Rr wx g X j d (-1) ∧ At X S j b ∧ clsF S f b (raw.foldl withS []) = R ∧ (first = true ↔ raw = []) ∧ (∀ o ∈ raw, o.1 ≤ o.2 ∧ Vc o.1 ∧ Vc o.2) ∧ i ≤ j ∧ n ≤ j) ∨ (∃ j k : Nat, Rr wx g X j d (k : Int) ∧ R = .bad k ∧ j < X.al.length)
/-- How it stands behind a range. -/
def CH (wx : World) (g : Nat) (X : Rx) (S : List UInt8) (j0 d f : Nat) (R : Pr Sn) (raw : Sn) (lo hi : Nat) : Prop :=
  lo ≤ 1114111 ∧ hi ≤ 1114111 ∧ ((∃ j b, Rr wx g X j d (-1) ∧ At X S j b ∧ clsF S f b (withS (raw.foldl withS []) (lo, hi)) = R ∧ lo ≤ hi ∧ Vc lo ∧ Vc hi ∧ j0 < j) ∨ (∃ j k : Nat, Rr wx g X j d (k : Int) ∧ R = .bad k ∧ j < X.al.length))
theorem foldl_snoc (raw : Sn) (x : Nat × Nat) : (raw ++ [x]).foldl withS [] = withS (raw.foldl withS []) x := by rw [List.foldl_append]; rfl
theorem withF_ne : ∀ (l : Sn) (x : Nat × Nat) (ah be : Sn), withF l x ah be ≠ []
  | [], x, ah, be => by simp [withF]
  | o :: t, x, ah, be => by
    rw [withF]
    split
    · exact withF_ne t x _ _
    · split
      · exact withF_ne t x _ _
      · exact withF_ne t _ _ _
theorem fold_nil {raw : Sn} : raw.foldl withS [] = [] ↔ raw = [] := by
  constructor
  · intro h
    rcases List.eq_nil_or_concat raw with e | ⟨l, x, e⟩
    · exact e
    · rw [e, List.concat_eq_append, foldl_snoc] at h
      exact absurd h (withF_ne _ _ _ _)
  · rintro rfl; rfl

theorem CK.off {w wx wy : World} {g gr gn gx : Nat} {neg : Bool} {ad : Option Addr} {n c : Nat} {raw : Sn} (h : CK w wx g gr gn neg ad n c raw) (hc : Chg (fun b => b = gx) wx wy) (h0 : w.heap.size ≤ gx) (h1 : gr ≠ gx) (h2 : gn ≠ gx) (h3 : (Value.slice ad n c).ownBlock ≠ some gx) : CK w wy g gr gn neg ad n c raw :=
  ⟨h.chg.trans hc (fun i hi e => by have e' : i = gx := e; omega), hc.blk h.res h1, hc.blk h.nod h2, h.len, hc.owns h.own (fun x hx e => by have e' : x = gx := e; exact h3 (by rw [hx, e'])), h.ap, h.bd⟩
/-- What character leaves, both ways in one. -/
def CharQ (X : Rx) (S : List UInt8) (i d g : Nat) (R : Pr Nat) (w' : World) (c j : Nat) (bad : Int) : Prop :=
  Rr w' g X j d bad ∧ c ≤ 1114111 ∧ ((∃ b, R = .ok c b ∧ bad = -1 ∧ At X S j b ∧ Vc c ∧ i < j) ∨ (∃ k : Nat, R = .bad k ∧ bad = (k : Int) ∧ j < X.al.length))
theorem charR2 {g : Nat} {X : Rx} {S : List UInt8} {i d a : Nat} (w : World) (h : Rr w g X i d (-1)) (hA : At X S i a) :
    Calls Tryz.prog 104 #[.pointer (some ⟨g, 0, none⟩)] w fun e w' => ∃ (c j : Nat) (bad : Int), e = .returned (.int .i32 (c : Int)) ∧ Chg (fun b => b = g) w w' ∧ CharQ X S i d g (charF S a) w' c j bad := by
  refine (charR w h hA).mono ?_
  rintro e w' ⟨hc, ⟨c, b, j, h1, rfl, h2, h3, h4, h5⟩ | ⟨k, j, h1, rfl, h2, h3⟩⟩
  · exact ⟨c, j, -1, rfl, hc, h2, by unfold Vc at h4; omega, .inl ⟨b, h1, rfl, h3, h4, h5⟩⟩
  · exact ⟨0, j, k, rfl, hc, h2, by omega, .inr ⟨k, h1, rfl, h3⟩⟩
theorem sp_bad {S : List UInt8} {b k : Nat} (h : charF S b = .bad k) : spanF S b = .bad k := by rw [spanF, h]
theorem sp_one {S : List UInt8} {b lo b1 : Nat} (h : charF S b = .ok lo b1) (h45 : ¬ S[b1]? = some 45) : spanF S b = .ok (lo, lo) b1 := by rw [spanF, h]; simp only; rw [if_neg h45]
theorem sp_two {S : List UInt8} {b lo b1 hi b2 : Nat} (h : charF S b = .ok lo b1) (h45 : S[b1]? = some 45) (h2 : charF S (b1 + 1) = .ok hi b2) : spanF S b = if hi < lo then .bad (b1 + 1) else .ok (lo, hi) b2 := by rw [spanF, h]; simp only; rw [if_pos h45, h2]
theorem sp_two_bad {S : List UInt8} {b lo b1 k : Nat} (h : charF S b = .ok lo b1) (h45 : S[b1]? = some 45) (h2 : charF S (b1 + 1) = .bad k) : spanF S b = .bad k := by rw [spanF, h]; simp only; rw [if_pos h45, h2]
/-- A range behind the others. -/
theorem CK.push {w wx w6 : World} {g gn : Nat} {neg : Bool} {ad : Option Addr} {n c : Nat} {raw : Sn} (h : CK w wx g w.heap.size gn neg ad n c raw) {o : Obj} {g6 c6 lo hi : Nat} (ho : w6.ownsRow w.heap.size 172 2 (.slice (some ⟨g6, 0, none⟩) (n + 1) c6) (n + 1) (cS raw ++ [.int .i32 (lo : Int), .int .i32 (hi : Int)])) (hp : Pushed (wx.alloc o) w6 (.slice ad n c) g6) (hg : g < w.heap.size) (hb : lo ≤ 1114111 ∧ hi ≤ 1114111) :
    CK w (w6.setCell ⟨gn, 4, none⟩ (.slice (some ⟨g6, 0, none⟩) (n + 1) c6)) g w.heap.size gn neg (some ⟨g6, 0, none⟩) (n + 1) c6 (raw ++ [(lo, hi)]) ∧ (∀ X i d bad, X.rb < w.heap.size → X.ab < w.heap.size → Rr wx g X i d bad → Rr (w6.setCell ⟨gn, 4, none⟩ (.slice (some ⟨g6, 0, none⟩) (n + 1) c6)) g X i d bad) ∧ w6.cell? ⟨gn, 4, none⟩ = some (.slice ad n c) ∧ w6.frozen? ⟨gn, 4, none⟩ = false := by
  obtain ⟨hch, hmv⟩ := hp.chg
  have hgn := h.ap.2.1
  have own_ge : ∀ x, (Value.slice ad n c).ownBlock = some x → w.heap.size ≤ x := fun x hx => (h.own.lt x hx).1
  have hg6 : w.heap.size ≤ g6 ∧ g6 ≠ w.heap.size ∧ g6 ≠ gn := by
    rcases hmv with e | ⟨y, e, hy⟩
    · exact ⟨own_ge g6 e.symm, fun e2 => h.ap.2.2.2.1 (by rw [← e, e2]), fun e2 => h.ap.2.2.2.2 (by rw [← e, e2])⟩
    · injection e with e
      have := h.chg.size
      have h1 := h.res.lt
      have h2 := h.nod.lt
      omega
  have b2 : Blk w6 w.heap.size 123 (nV 0 0 false 0 sN sN) := hch.blk h.res (fun e => h.ap.2.2.2.1 e)
  have b3 : Blk w6 gn 123 (nV 3 0 neg 0 (.slice ad n c) sN) := hch.blk h.nod (fun e => h.ap.2.2.2.2 e)
  have cs := Chg.set ⟨gn, 4, none⟩ (.slice (some ⟨g6, 0, none⟩) (n + 1) c6) w6
  refine ⟨⟨?_, cs.blk b2 (fun e => h.ap.2.2.1 e), b3.set 4 _, by simp [h.len], ?_, ⟨h.ap.1, hgn, h.ap.2.2.1, ?_, ?_⟩, ?_⟩, ?_, b3.cell 4, b3.frozen 4⟩
  · refine (h.chg.trans hch (fun i hi e => ?_)).trans cs (fun i hi e => ?_)
    · have := own_ge i e; omega
    · have e' : i = gn := e; omega
  · have : cS (raw ++ [(lo, hi)]) = cS raw ++ [.int .i32 (lo : Int), .int .i32 (hi : Int)] := by rw [cS_append]; rfl
    rw [this]
    exact cs.owns ho (fun x hx e => by simp [Value.ownBlock] at hx; have e' : x = gn := e; omega)
  · simp [Value.ownBlock]; omega
  · simp [Value.ownBlock]; omega
  · intro y hy
    rcases List.mem_append.1 hy with hy | hy
    · exact h.bd y hy
    · simp at hy; subst hy; exact hb
  · intro X i d bad hr ha hR
    have hR6 := hR.chg hch (fun e => by have := own_ge g e; omega) (fun e => by have := own_ge X.rb e; omega) (fun e => by have := own_ge X.ab e; omega)
    exact hR6.chg cs (fun e => by have e' : g = gn := e; omega) (fun e => by have e' : X.rb = gn := e; omega) (fun e => by have e' : X.ab = gn := e; omega)

set_option maxRecDepth 100000 in
set_option maxHeartbeats 0 in
theorem classR {g : Nat} {X : Rx} {S : List UInt8} {i d a : Nat} (w : World) (h : Rr w g X i d (-1)) (hA : At X S i a) (hXr : X.rb < w.heap.size) (hXa : X.ab < w.heap.size) (hno : clsF S (S.length + 2) (tkN S a 94) [] ≠ .out) :
    Calls Tryz.prog 103 #[.pointer (some ⟨g, 0, none⟩)] w (ClsP X S i d g w (decide (S[a]? = some 94)) (clsF S (S.length + 2) (tkN S a 94) [])) := by
  have hgw : g < w.heap.size := h.blk.lt
  have hi := h.sz.2.2.1
  have hal := hA.lt
  have hal2 := h.sz.2.1
  obtain ⟨neg, hneg⟩ : ∃ neg, decide (S[a]? = some 94) = neg := ⟨_, rfl⟩
  rw [hneg]
  obtain ⟨R, hR⟩ : ∃ R, clsF S (S.length + 2) (tkN S a 94) [] = R := ⟨_, rfl⟩
  rw [hR] at hno ⊢
  have HR := hidden hR
  have HNO := hidden hno
  have HH := hidden h
  have HA := hidden hA
  have HNEG := hidden hneg
  obtain ⟨w1, hw1, hB2, hB3, hbel, hsz⟩ : ∃ w1, (w.alloc (.cells #[.int .i64 0, .int .i32 0, .bool false, .int .u8 0, .slice none 0 0, .slice none 0 0] 123)).alloc (.cells #[.int .i64 3, .int .i32 0, .bool false, .int .u8 0, .slice none 0 0, .slice none 0 0] 123) = w1 ∧ Blk w1 w.heap.size 123 (nV 0 0 false 0 sN sN) ∧ Blk w1 (w.heap.size + 1) 123 (nV 3 0 false 0 sN sN) ∧ Below w.heap.size w w1 ∧ w1.heap.size = w.heap.size + 2 := two_new w 123 123 (nV 0 0 false 0 sN sN) (nV 3 0 false 0 sN sN)
  have h1 := h.later hbel
  have HK0 : Hid (CK w w1 g w.heap.size (w.heap.size + 1) false none 0 0 []) := hidden ⟨Chg.of_below hbel, hB2, hB3, rfl, World.ownsRow_nil _ _ _ _, ⟨Nat.le_refl _, by omega, by omega, by simp [Value.ownBlock], by simp [Value.ownBlock]⟩, fun y hy => by cases hy⟩
  have HH1 := hidden h1
  obtain ⟨c0, hc0⟩ : ∃ c0, pk X i (-1) = c0 := ⟨_, rfl⟩
  have k1 := peekR w1 h1 c0 hc0
  have HC0 : Hid (c0 = 94 ↔ S[a]? = some 94) := hidden (by rw [← hc0]; exact hA.pk_eq 94 (by decide))
  have HSZ := hidden hsz
  have HW1 := hidden hw1
  clear hw1 hR hno h hA hneg hB2 hB3 hbel h1 hc0 hsz
  go_enter Tryz.func103, Tryz.ntmps103
  go_upto_region 2 with fail
  rw [HW1.out]
  clear HW1
  go_upto_if 12 with (go_at_call 79; refine k1.mono ?_; rintro e w2 ⟨rfl, g2⟩; have R2 := hidden (HH1.out.later g2); have K2 := hidden (HK0.out.later hgw (Chg.of_below g2)); clear k1 g2)
  go_cut [] from 13 to 20 (fun wx => Hid (CK w wx g w.heap.size (w.heap.size + 1) neg none 0 0 []) ∧ Hid (∃ j, Rr wx g X j d (-1) ∧ At X S j (tkN S a 94) ∧ i ≤ j))
  case first =>
    cases neg with
    | true =>
      have h94 : S[a]? = some 94 := of_decide_eq_true HNEG.out
      have hc94 := HC0.out.2 h94
      have e2 : w2.cell? ⟨g, 2, none⟩ = some (.int .i64 (i : Int)) := R2.out.blk.cell 2
      have f2 := R2.out.blk.frozen 2
      have f3 := K2.out.nod.frozen 2
      have d2 : w2.cell? ⟨w.heap.size + 1, 2, none⟩ = some (.bool false) := K2.out.nod.cell 2
      have hng : ¬ w.heap.size + 1 = g := by omega
      have HFIN : Hid (CK w ((w2.setCell ⟨w.heap.size + 1, 2, none⟩ (.bool true)).setCell ⟨g, 2, none⟩ (.int .i64 ((i : Int) + 1))) g w.heap.size (w.heap.size + 1) true none 0 0 [] ∧ ∃ j, Rr ((w2.setCell ⟨w.heap.size + 1, 2, none⟩ (.bool true)).setCell ⟨g, 2, none⟩ (.int .i64 ((i : Int) + 1))) g X j d (-1) ∧ At X S j (tkN S a 94) ∧ i ≤ j) := hidden (by
        have c1 := Chg.set ⟨w.heap.size + 1, 2, none⟩ (.bool true) w2
        have b1 := K2.out.nod.set 2 (.bool true)
        have kk : CK w (w2.setCell ⟨w.heap.size + 1, 2, none⟩ (.bool true)) g w.heap.size (w.heap.size + 1) true none 0 0 [] := ⟨K2.out.chg.trans c1 (fun x hx e => by have e' : x = w.heap.size + 1 := e; omega), c1.blk K2.out.res (fun e => by have e' : w.heap.size = w.heap.size + 1 := e; omega), b1, rfl, World.ownsRow_nil _ _ _ _, K2.out.ap, K2.out.bd⟩
        have rr := R2.out.chg c1 (fun e => by have e' : g = w.heap.size + 1 := e; omega) (fun e => by have e' : X.rb = w.heap.size + 1 := e; omega) (fun e => by have e' : X.ab = w.heap.size + 1 := e; omega)
        refine ⟨kk.later hgw (Chg.set ⟨g, 2, none⟩ _ _), i + 1, rr.setI (i + 1) (by omega), ?_, by omega⟩
        rw [tkN, if_pos h94]
        exact HA.out.next 94 (by decide) h94)
      clear HC0
      subst hc94
      go_wp2_with fail
      go_meet
      exact ⟨hidden HFIN.out.1, hidden HFIN.out.2⟩
    | false =>
      have h94 : ¬ S[a]? = some 94 := of_decide_eq_false HNEG.out
      have hc94 : ¬ c0 = 94 := fun e => h94 (HC0.out.1 e)
      go_wp2_with fail
      go_meet
      exact ⟨K2, hidden ⟨i, R2.out, by rw [tkN, if_neg h94]; exact HA.out, Nat.le_refl _⟩⟩
  case rest =>
    obtain ⟨hK, hJ⟩ := hcut
    rename World => w3
    generalize decide (c0 = 94) = bo
    clear K2 R2 HK0 HH1 HC0
    go_wp2_with fail
    have HC : Hid (CG w3 g X S i d 0 R [] true) := hidden (by
      obtain ⟨j, r1, r2, r3⟩ := hJ.out
      exact .inl ⟨j, _, S.length + 2, r1, r2, HR.out, by simp, by simp, r3, Nat.zero_le _⟩)
    clear hJ HR HA HH
    obtain ⟨N, hN⟩ : ∃ N, X.al.length = N := ⟨_, rfl⟩
    have HN := hidden hN
    go_loopw [5] (fun s5 wx => ∃ (ad : Option Addr) (n c : Nat) (raw : Sn) (first : Bool), s5 = .bool first ∧ n ≤ 1002 ∧ Hid (CK w wx g w.heap.size (w.heap.size + 1) neg ad n c raw) ∧ Hid (CG wx g X S i d n R raw first)) (fun _ wx => rrM g N wx)
    case atStart => exact ⟨none, 0, 0, [], true, rfl, by omega, hK, HC⟩
    case round =>
      rename World => wr
      obtain ⟨ad, n, c, raw, first, rfl, hn2, hKr, hG⟩ := hrel
      clear hK HC
      rcases hG.out with ⟨j, b, f, r1, r2, r3, r4, r5, r6, r7⟩ | ⟨j, k, r1, r2, r3⟩
      · -- all is well
        obtain ⟨f', rfl⟩ : ∃ f', f = f' + 1 := by
          cases f with
          | zero => rw [clsF] at r3; exact absurd r3.symm HNO.out
          | succ f => exact ⟨f, rfl⟩
        rw [clsF] at r3
        have hjl := r2.lt
        have c4 : wr.cell? ⟨g, 4, none⟩ = some (.int .i64 (-1)) := r1.blk.cell 4
        obtain ⟨ch, hch⟩ : ∃ ch, pk X j (-1) = ch := ⟨_, rfl⟩
        have k1 := peekR wr r1 ch hch
        have HC93 : Hid (ch = 93 ↔ S[b]? = some 93) := hidden (by rw [← hch]; exact r2.pk_eq 93 (by decide))
        have H1 := hidden r1
        have HA1 := hidden r2
        have HV := hidden r5
        have HM0 : Hid (rrM g N wr = N + 1 - j) := hidden (by rw [r1.m]; simp)
        by_cases hcl : raw.foldl withS [] ≠ [] ∧ S[b]? = some 93
        · -- it ends here
          rw [if_pos hcl] at r3
          have H3 := hidden r3
          have hch93 := HC93.out.2 hcl.2
          have HA2 := hidden (r2.next 93 (by decide) hcl.2)
          have hf : first = false := by
            cases first with
            | false => rfl
            | true => exact absurd (fold_nil.2 (r4.1 rfl)) hcl.1
          have HNE : Hid (raw ≠ []) := hidden (fun e => hcl.1 (fold_nil.2 e))
          have hn1 : n ≤ 1000 := by omega
          clear hG r1 r2 r3 r4 r5 HC93 hcl hch HM0
          subst hf hch93
          go_wp2_with (first
            | (go_at_call 79; refine k1.mono ?_; rintro e w2 ⟨rfl, g2⟩; have R2 := hidden (H1.out.later g2); have K2 := hidden ((hKr.out.later hgw (Chg.of_below g2)).later hgw (Chg.set ⟨g, 2, none⟩ (.int .i64 ((j : Int) + 1)) w2)); have e2 : w2.cell? ⟨g, 2, none⟩ = some (.int .i64 (j : Int)) := R2.out.blk.cell 2; have f2 := R2.out.blk.frozen 2; have R3 := hidden (R2.out.setI (j + 1) (by omega)); clear k1 g2)
            | (refine wpList_load_blk rfl 123 (.tmp 3) rfl (w.heap.size + 1) K2.out.nod rfl Tryz.underlying123 rfl info70s ?_)
            | (refine wpList_store_blk (l := nV 3 0 neg 0 (.slice ad n c) sN) rfl 123 (.tmp 2) (.tmp 41) rfl rfl w.heap.size K2.out.res rfl rfl rfl info70s (sh_nV _ _ _ _ _ _ _ _ _ _).one.2 ?_))
          obtain ⟨y1, y2, y3, y4⟩ := K2.out.fin hgw
          refine bodyPost_ret (res_node res64 _ _ w.heap.size _ (sh_nV _ _ _ _ _ _ _ _ _ _) rfl y1) rfl ?_
          exact ⟨y2, .inl ⟨_, b + 1, j + 1, _, H3.out.symm, rfl, y4 HV.out HNE.out hn1, y3 _ _ _ _ hXr hXa R3.out, HA2.out, by omega⟩⟩
        · -- a range
          rw [if_neg hcl] at r3
          have H3 : Hid ((match spanF S b with
            | .ok x b => clsF S f' b (withS (raw.foldl withS []) x)
            | .bad k => .bad k
            | .out => .out) = R) := hidden (by rw [← r3]; cases spanF S b <;> rfl)
          have hfc : ¬ (ch = 93 ∧ first = false) := fun e => hcl ⟨fun e2 => (by have := r4.2 (fold_nil.1 e2); rw [e.2] at this; cases this), HC93.out.1 e.1⟩
          have HKC : Hid (∀ wx, Below wr.heap.size wr wx → Calls Tryz.prog 104 #[.pointer (some ⟨g, 0, none⟩)] wx fun e w' => ∃ (c j2 : Nat) (bad : Int), e = .returned (.int .i32 (c : Int)) ∧ Chg (fun b => b = g) wx w' ∧ CharQ X S j d g (charF S b) w' c j2 bad) := hidden (fun wx hb => charR2 wx (H1.out.later hb) HA1.out)
          clear hG r1 r2 r3 r4 r5 HC93 hcl hch
          go_upto_region 10 with (go_at_call 79; refine k1.mono ?_; rintro e w2 ⟨rfl, g2⟩; have K2 := hidden (hKr.out.later hgw (Chg.of_below g2)); have k2 := HKC.out w2 g2; clear k1 g2)
          go_cut [33] from 21 to 84 (fun s wx => s = .bool false ∧ wx = w2)
          case first =>
            by_cases h93 : ch = 93
            · cases first with
              | true =>
                subst h93
                go_wp2_with fail
                go_meet
                exact ⟨rfl, rfl⟩
              | false => exact absurd ⟨h93, rfl⟩ hfc
            · go_wp2_with fail
              go_meet
              exact ⟨rfl, rfl⟩
          case rest =>
            obtain ⟨rfl, hwc⟩ := hcut
            obtain rfl := hwc.symm
            clear hwc hfc
            go_upto_region 15 with (go_at_call 104; refine k2.mono ?_; rintro e w3 ⟨lo, j2, bad2, rfl, ch3, hQ⟩; have K3 := hidden (K2.out.later hgw ch3); have Q3 := hidden hQ; have hlo := hQ.2.1; clear k2 ch3 hQ)
            obtain ⟨w4, hw4, hbx, hb4, hs4⟩ : ∃ w4, w3.alloc (.cells #[.int .i32 (lo : Int), .int .i32 (lo : Int)] 172) = w4 ∧ Blk w4 w3.heap.size 172 [.int .i32 (lo : Int), .int .i32 (lo : Int)] ∧ Below w3.heap.size w3 w4 ∧ w4.heap.size = w3.heap.size + 1 := one_new w3 172 [.int .i32 (lo : Int), .int .i32 (lo : Int)]
            rw [hw4]
            clear hw4
            have K4 := hidden (K3.out.later hgw (Chg.of_below hb4))
            have R4 := hidden (Q3.out.1.later hb4)
            have BX := hidden hbx
            obtain ⟨ch2, hch2⟩ : ∃ c, pk X j2 bad2 = c := ⟨_, rfl⟩
            have HCH2 := hidden hch2
            have k3 := peekR w4 R4.out ch2 hch2
            have hx3 : w.heap.size + 2 ≤ w3.heap.size := by have := K3.out.nod.lt; omega
            have HX3 : Hid (g < w3.heap.size ∧ ¬ w3.heap.size = g ∧ X.rb < w3.heap.size ∧ X.ab < w3.heap.size ∧ (Value.slice ad n c).ownBlock ≠ some w3.heap.size) := hidden ⟨by omega, by omega, by omega, by omega, fun e => by have := owns_lt K3.out.own _ e; omega⟩
            clear hbx hb4 hs4 hch2 K3 K2 hKr HKC
            generalize w3.heap.size = gx at *
            go_upto_if 51 with (go_at_call 79; refine k3.mono ?_; rintro e w5 ⟨rfl, g5⟩; have K5 := hidden (K4.out.later hgw (Chg.of_below g5)); have R5 := hidden (R4.out.later g5); have B5 := hidden (BX.out.later g5); clear k3 g5)
            go_cut [7] from 21 to 84 (fun s7 wx => Hid (CK w wx g w.heap.size (w.heap.size + 1) neg ad n c raw) ∧ ∃ hi : Nat, Hid (Blk wx gx 172 [.int .i32 (lo : Int), .int .i32 (hi : Int)]) ∧ Hid (CH wx g X S j d f' R raw lo hi))
            case first =>
              rcases Q3.out.2.2 with ⟨b1, q1, rfl, q3, q4, q5⟩ | ⟨k, q1, rfl, q3⟩
              · by_cases h45 : S[b1]? = some 45
                · -- a range of two
                  have hc45 : ch2 = 45 := by rw [← HCH2.out]; exact (q3.pk_eq 45 (by decide)).2 h45
                  have hA5 := q3.next 45 (by decide) h45
                  have hj5 := hA5.lt
                  have e2 : w5.cell? ⟨g, 2, none⟩ = some (.int .i64 (j2 : Int)) := R5.out.blk.cell 2
                  have f2 := R5.out.blk.frozen 2
                  have R6 := hidden (R5.out.setI (j2 + 1) (by omega))
                  have K6 := hidden (K5.out.later hgw (Chg.set ⟨g, 2, none⟩ (.int .i64 ((j2 : Int) + 1)) w5))
                  have B6 : Hid (Blk (w5.setCell ⟨g, 2, none⟩ (.int .i64 ((j2 : Int) + 1))) gx 172 [.int .i32 (lo : Int), .int .i32 (lo : Int)]) := hidden (B5.out.setOff _ _ HX3.out.2.1)
                  have k17 := placeR (b1 + 1) _ R6.out hA5.al
                  have HA5 := hidden hA5
                  have Q1 := hidden q1
                  have Q4 := hidden q4
                  have H45 := hidden h45
                  clear q1 q3 q4 hA5 h45
                  subst hc45
                  go_upto_region 20 with (first
                    | (go_at_call 62; refine k17.mono ?_; rintro e w7 ⟨rfl, g7⟩; have K7 := hidden (K6.out.later hgw (Chg.of_below g7)); have R7 := hidden (R6.out.later g7); have B7 := hidden (B6.out.later g7); have k65 := charR2 w7 R7.out HA5.out; clear k17 g7)
                    | (go_at_call 104; refine k65.mono ?_; rintro e w8 ⟨hi, j8, bad8, rfl, ch8, hQ8⟩; have K8 := hidden (K7.out.later hgw ch8); have Q8 := hidden hQ8; have hhi := hQ8.2.1; have B8 := hidden (ch8.blk B7.out HX3.out.2.1); have x1 : w8.cell? ⟨gx, 1, none⟩ = some (.int .i32 (lo : Int)) := B8.out.cell 1; have fx1 := B8.out.frozen 1; clear k65 ch8 hQ8))
                  obtain ⟨w9, hw9⟩ : ∃ w9, w8.setCell ⟨gx, 1, none⟩ (.int .i32 (hi : Int)) = w9 := ⟨_, rfl⟩
                  have c9 : Chg (fun b => b = gx) w8 w9 := by rw [← hw9]; exact Chg.set ⟨gx, 1, none⟩ _ w8
                  have B9 : Hid (Blk w9 gx 172 [.int .i32 (lo : Int), .int .i32 (hi : Int)]) := hidden (by rw [← hw9]; exact B8.out.set 1 _)
                  have K9 := hidden (K8.out.off c9 (by omega) (by omega) (by omega) HX3.out.2.2.2.2)
                  have R9 := hidden (Q8.out.1.chg c9 (fun e => HX3.out.2.1 e.symm) (fun e => by have e' : X.rb = gx := e; have := HX3.out.2.2.1; omega) (fun e => by have e' : X.ab = gx := e; have := HX3.out.2.2.2.1; omega))
                  rw [hw9]
                  clear hw9 c9 x1 fx1
                  have x0 : w9.cell? ⟨gx, 0, none⟩ = some (.int .i32 (lo : Int)) := B9.out.cell 0
                  have x1 : w9.cell? ⟨gx, 1, none⟩ = some (.int .i32 (hi : Int)) := B9.out.cell 1
                  have x4 : w9.cell? ⟨g, 4, none⟩ = some (.int .i64 bad8) := R9.out.blk.cell 4
                  rcases Q8.out.2.2 with ⟨b2, s1, rfl, s3, s4, s5⟩ | ⟨k, s1, rfl, s3⟩
                  · by_cases hlt : hi < lo
                    · have hltz : (hi : Int) < (lo : Int) := by omega
                      have k16 := failR ((b1 + 1 : Nat) : Int) w9 R9.out
                      rw [if_pos (by omega)] at k16
                      have HRB : Hid (R = .bad (b1 + 1)) := hidden (by rw [← H3.out, sp_two Q1.out H45.out s1, if_pos hlt])
                      have hj8 := s3.lt
                      clear s1 s3 s4 hlt
                      go_wp2_with (go_at_call 61; refine k16.mono ?_; rintro e w10 ⟨rfl, g10, d10⟩; have K10 := hidden (K9.out.later hgw d10); have R10 := hidden g10; have B10 := hidden (d10.blk B9.out HX3.out.2.1); clear k16 g10 d10)
                      go_meet
                      exact ⟨K10, hi, B10, hidden ⟨hlo, hhi, .inr ⟨j8, b1 + 1, R10.out, HRB.out, hj8⟩⟩⟩
                    · have hltz : ¬ (hi : Int) < (lo : Int) := by omega
                      have HCHX : Hid (CH w9 g X S j d f' R raw lo hi) := hidden ⟨hlo, hhi, .inl ⟨j8, b2, R9.out, s3, by rw [← H3.out, sp_two Q1.out H45.out s1, if_neg hlt], by omega, Q4.out, s4, by omega⟩⟩
                      clear s1 s3 s4 hlt
                      go_wp2_with fail
                      go_meet
                      exact ⟨K9, hi, B9, HCHX⟩
                  · have hk0 : ¬ (k : Int) < 0 := by omega
                    have HCHX : Hid (CH w9 g X S j d f' R raw lo hi) := hidden ⟨hlo, hhi, .inr ⟨j8, k, R9.out, by rw [← H3.out, sp_two_bad Q1.out H45.out s1], s3⟩⟩
                    clear s1 s3
                    go_wp2_with fail
                    go_meet
                    exact ⟨K9, hi, B9, HCHX⟩
                · have hc45 : ¬ ch2 = 45 := fun e => h45 ((q3.pk_eq 45 (by decide)).1 (by rw [HCH2.out, e]; rfl))
                  have HCHX : Hid (CH w5 g X S j d f' R raw lo lo) := hidden ⟨hlo, hlo, .inl ⟨j2, b1, R5.out, q3, by rw [← H3.out, sp_one q1 h45], Nat.le_refl _, q4, q4, q5⟩⟩
                  clear q1 q3 q4 h45
                  go_wp2_with fail
                  go_meet
                  exact ⟨K5, lo, B5, HCHX⟩
              · have hc45 : ch2 = -1 := by rw [← HCH2.out]; unfold pk; rw [if_pos (by omega)]
                have HCHX : Hid (CH w5 g X S j d f' R raw lo lo) := hidden ⟨hlo, hlo, .inr ⟨j2, k, R5.out, by rw [← H3.out, sp_bad q1], q3⟩⟩
                clear q1 q3
                subst hc45
                go_wp2_with fail
                go_meet
                exact ⟨K5, lo, B5, HCHX⟩
            case rest =>
              obtain ⟨hKc, hi, hBc, hHc⟩ := hcut
              rename World => wc
              obtain ⟨i0, hi0, hz0, hz1, hz2⟩ := info_parts info119n
              have HI := hidden hi0
              have HOW := hidden hKc.out.own
              have d4 : wc.cell? ⟨w.heap.size + 1, 4, none⟩ = some (.slice ad n c) := hKc.out.nod.cell 4
              have x0 : wc.cell? ⟨gx, 0, none⟩ = some (.int .i32 (lo : Int)) := hBc.out.cell 0
              have x1 : wc.cell? ⟨gx, 1, none⟩ = some (.int .i32 (hi : Int)) := hBc.out.cell 1
              have HCN : Hid (∀ j u, [Value.int .i32 (lo : Int), .int .i32 (hi : Int)][j]? = some u → (wc.alloc (.cells #[.int .i32 (lo : Int), .int .i32 (hi : Int)] 172)).cell? ((⟨wc.heap.size, 0, none⟩ : Addr).add j) = some u) := hidden (fun j u hu => by
                have := (Blk.new wc 172 [.int .i32 (lo : Int), .int .i32 (hi : Int)]).cell (0 + j)
                rw [Addr.add_lit, this, Nat.zero_add]
                exact hu)
              have HBS : Hid (w.heap.size ≤ wc.heap.size) := hidden hKc.out.chg.size
              have HPU : Hid (∀ g6 c6 w6, w6.ownsRow w.heap.size 172 2 (.slice (some ⟨g6, 0, none⟩) (n + 1) c6) (n + 1) (cS raw ++ [.int .i32 (lo : Int), .int .i32 (hi : Int)]) → Pushed (wc.alloc (.cells #[.int .i32 (lo : Int), .int .i32 (hi : Int)] 172)) w6 (.slice ad n c) g6 → _) := hidden (fun g6 c6 w6 ho hp => hKc.out.push ho hp hgw ⟨hHc.out.1, hHc.out.2.1⟩)
              clear hi0 HCH2 H3 K4 R4 BX K5 R5 B5 Q3 hBc
              go_wp2_with (refine wpList_push2 _ rfl (.tmp 80) (.tmp 82) 120 rfl 172 i0 (.agg #[.int .i32 0, .int .i32 0]) 8 Tryz.underlying120 HI.out hz0 hz1 hz2 rfl w.heap.size (.slice ad n c) n (cS raw) rfl (HOW.out.alloc _) ⟨wc.heap.size, 0, none⟩ [.int .i32 (lo : Int), .int .i32 (hi : Int)] rfl rfl HCN.out (by intro u hu; simp at hu; rcases hu with rfl | rfl <;> rfl) (by unfold maxLen; omega) (by omega) (by have := HBS.out; simp; omega) ?_; intro g6 c6 w6 ho6 hp6; obtain ⟨y1, y2, y3, y4⟩ := HPU.out g6 c6 w6 ho6 hp6; have Y1 := hidden y1; have Y2 := hidden y2; clear ho6 hp6 HPU y1 y2)
              refine ⟨⟨some ⟨g6, 0, none⟩, n + 1, c6, raw ++ [(lo, hi)], false, rfl, by omega, Y1, hidden ?_⟩, ?_⟩
              · rcases hHc.out.2.2 with ⟨j9, b9, t1, t2, t3, t4, t5, t6, t7⟩ | ⟨j9, k, t1, t2, t3⟩
                · refine .inl ⟨j9, b9, f', Y2.out _ _ _ _ hXr hXa t1, t2, by rw [foldl_snoc]; exact t3, by simp, fun o ho => ?_, by omega, by omega⟩
                  rcases List.mem_append.1 ho with ho | ho
                  · exact HV.out o ho
                  · simp at ho; subst ho; exact ⟨t4, t5, t6⟩
                · exact .inr ⟨j9, k, Y2.out _ _ _ _ hXr hXa t1, t2, t3⟩
              · show rrM g N _ < rrM g N _
                rw [HM0.out]
                rcases hHc.out.2.2 with ⟨j9, b9, t1, t2, t3, t4, t5, t6, t7⟩ | ⟨j9, k, t1, t2, t3⟩
                · rw [(Y2.out _ _ _ _ hXr hXa t1).m]
                  have := t2.lt
                  simp
                  omega
                · rw [(Y2.out _ _ _ _ hXr hXa t1).m]
                  rw [if_neg (by omega)]
                  omega
      · -- it has failed
        have c4 : wr.cell? ⟨g, 4, none⟩ = some (.int .i64 (k : Int)) := r1.blk.cell 4
        have hk0 : ¬ (k : Int) < 0 := by omega
        have H1 := hidden r1
        have H2 := hidden r2
        have H3 := hidden r3
        clear hG r1 r2 r3 hn2
        go_wp2_with (first
          | (refine wpList_load_blk rfl 123 (.tmp 3) rfl (w.heap.size + 1) hKr.out.nod rfl Tryz.underlying123 rfl info70s ?_)
          | (refine wpList_store_blk (l := nV 3 0 neg 0 (.slice ad n c) sN) rfl 123 (.tmp 2) (.tmp 85) rfl rfl w.heap.size hKr.out.res rfl rfl rfl info70s (sh_nV _ _ _ _ _ _ _ _ _ _).one.2 ?_))
        obtain ⟨y1, y2, y3, _⟩ := hKr.out.fin hgw
        refine bodyPost_ret (res_node res64 _ _ w.heap.size _ (sh_nV _ _ _ _ _ _ _ _ _ _) rfl y1) rfl ?_
        exact ⟨y2, .inr ⟨k, j, _, H2.out, rfl, sh_nV _ _ _ _ _ _ _ _ _ _, y3 _ _ _ _ hXr hXa H1.out, H3.out⟩⟩

end Go.Proofs.YtanlgplgplncdaaGreatDoor
