/-
  ChunkPlays: the walk.
-/
import Derived.Test.YtcgjmioncbihhaaDoorDcL
import Derived.Test.YtcgjmioncbihhaaDoorLwC
import Derived.Deep.CutBlock
namespace Go.Proofs.YtcgjmioncbihhaaDoor
open Go.RowKit
set_option linter.unusedVariables false
set_option linter.unusedSimpArgs false

def prC (A : Sd) : List Value := [.pointer (some ⟨A.c, 0, none⟩), .pointer (some ⟨A.x, 0, none⟩)]
/-- What a round of the script holds. -/
structure PL (w wx : World) (gp gq : Nat) (A B : Sd) (i : Nat) : Prop where
  pr : PR w wx A B
  p : Blk wx gp 27 (prC A)
  q : Blk wx gq 27 (prC B)
  len : A.l.length + B.l.length ≤ i
theorem PL.later {w wx wy : World} {gp gq : Nat} {A B : Sd} {i : Nat} (h : PL w wx gp gq A B i) (hb : Below wx.heap.size wx wy) : PL w wy gp gq A B i := ⟨h.pr.later hb, h.p.later hb, h.q.later hb, h.len⟩
theorem PR.chg27 {w wx wy : World} {A B : Sd} {g : Nat} {vs : List Value} (h : PR w wx A B) (hB : Blk wx g 27 vs) (hg : w.heap.size ≤ g) (hc : Chg (fun i => i = g) wx wy) : PR w wy A B := by
  have f1 := fc_ne h.a.cs hB (by decide) (by decide) (by decide)
  have f2 := fc_ne h.b.cs hB (by decide) (by decide) (by decide)
  have f3 := fx_ne h.a.xc hB (by decide) (by decide)
  have f4 := fx_ne h.b.xc hB (by decide) (by decide)
  exact ⟨⟨h.a.cs.chg hc (fun i hi e => by subst e; exact f1 hi), h.a.xc.chg hc (fun i hi e => by subst e; exact f3 hi), h.a.new⟩, ⟨h.b.cs.chg hc (fun i hi e => by subst e; exact f2 hi), h.b.xc.chg hc (fun i hi e => by subst e; exact f4 hi), h.b.new⟩, h.fc, h.fx, h.bel.trans (hc.below h.bel.size (fun i hi => by omega))⟩

theorem box_later {w wy : World} {gp gq : Nat} {A B : Sd} (h : Blk w gp 27 (prC A) ∧ Blk w gq 27 (prC B) ∨ Blk w gp 27 (prC B) ∧ Blk w gq 27 (prC A)) (hb : Below w.heap.size w wy) : Blk wy gp 27 (prC A) ∧ Blk wy gq 27 (prC B) ∨ Blk wy gp 27 (prC B) ∧ Blk wy gq 27 (prC A) := by
  rcases h with ⟨h1, h2⟩ | ⟨h1, h2⟩
  · exact .inl ⟨h1.later hb, h2.later hb⟩
  · exact .inr ⟨h1.later hb, h2.later hb⟩
theorem box_chg {w wy : World} {gp gq g : Nat} {A B : Sd} (h : Blk w gp 27 (prC A) ∧ Blk w gq 27 (prC B) ∨ Blk w gp 27 (prC B) ∧ Blk w gq 27 (prC A)) (hc : Chg (fun i => i = g) w wy) (hn : ¬ gp = g ∧ ¬ gq = g) : Blk wy gp 27 (prC A) ∧ Blk wy gq 27 (prC B) ∨ Blk wy gp 27 (prC B) ∧ Blk wy gq 27 (prC A) := by
  rcases h with ⟨h1, h2⟩ | ⟨h1, h2⟩
  · exact .inl ⟨hc.blk h1 hn.1, hc.blk h2 hn.2⟩
  · exact .inr ⟨hc.blk h1 hn.1, hc.blk h2 hn.2⟩
/-- A new block is written. -/
theorem pr_new {w w5 w6 w7 : World} {A B : Sd} (h5 : PR w w5 A B) (h : PR w w6 A B) (hc : Chg (fun i => i = w5.heap.size) w6 w7) : PR w w7 A B := by
  have f1 := fc_lt h5.a.cs
  have f2 := fc_lt h5.b.cs
  have f3 := xc_lt h5.a.xc
  have f4 := xc_lt h5.b.xc
  have hs := h5.bel.size
  exact ⟨⟨h.a.cs.chg hc (fun i hi e => by have := f1 i hi; omega), h.a.xc.chg hc (fun i hi e => by have := f3 i hi; omega), h.a.new⟩, ⟨h.b.cs.chg hc (fun i hi e => by have := f2 i hi; omega), h.b.xc.chg hc (fun i hi e => by have := f4 i hi; omega), h.b.new⟩, h.fc, h.fx, h.bel.trans (hc.below h.bel.size (fun i hi => by omega))⟩
set_option maxRecDepth 100000 in
set_option maxHeartbeats 16000000 in
theorem plays_any (w : World) (hG : Gv w) (hlo : 2 ≤ w.heap.size) (m1 : Int) (hm1 : I64 m1) (m2 : Int) (hm2 : I64 m2) (ad : Option Addr) (n cap : Nat) (l : List (Int × Sm)) (h : l.length = n ∧ Sc w ad l ∧ n ≤ 9223372036854775807) :
    Calls Tryd.prog 3 #[.int .i64 m1, .int .i64 m2, .slice ad n cap] w fun e w' => e = .returned (.bool true) ∧ Below w.heap.size w w' := by
  have HG := hidden hG
  have HS := hidden h.2.1
  have HN := hidden h.1
  have hnm := h.2.2
  have HM1 := hidden hm1
  have HM2 := hidden hm2
  unfold I64 at hm1 hm2
  clear hG h
  go_enter Tryd.func3, Tryd.ntmps3
  go_wp2_with fail
  refine (shownP w HG.out hlo).mono ?_
  rintro e w1 ⟨rfl, bl1⟩
  have BL1 := hidden bl1
  have hs1 := bl1.size
  clear bl1
  go_wp2_with fail
  refine (beganP w1 m1 HM1.out (by omega)).mono ?_
  rintro e w2 ⟨c1, p1, x1, rfl, hc1, hp1, hx1, k1, k2, b2⟩
  have C2 := hidden k1
  have X2 := hidden k2
  have BL2 := hidden (BL1.out.trans (b2.mono hs1))
  have hs2 := b2.size
  clear k1 k2 b2
  go_wp2_with (first
    | (refine wpList_alloc_blk rfl 27 rfl 8 rfl z27 info27z ?_; intro w3 B3 bl3 hz3; have HB3 := hidden B3; have BL3 := hidden (BL2.out.trans (bl3.mono BL2.out.size)); have C3 := hidden (C2.out.later bl3); have X3 := hidden (X2.out.later bl3); have hs3 := bl3.size; clear B3 bl3 hz3)
    | (refine wpList_store_blk rfl 27 (.tmp 8) (.tmp 21) rfl rfl w2.heap.size (l := [.pointer (some ⟨c1, 0, none⟩), .pointer (some ⟨x1, 0, none⟩)]) HB3.out rfl rfl rfl size27 (by intro v hv; simp at hv; rcases hv with rfl | rfl <;> rfl) ?_
       have BN := blk_stored (l := [.pointer (some ⟨c1, 0, none⟩), .pointer (some ⟨x1, 0, none⟩)]) HB3.out rfl
       have CN := Chg.sets w2.heap.size [.pointer (some ⟨c1, 0, none⟩), .pointer (some ⟨x1, 0, none⟩)] 0 w3
       generalize w3.setCells w2.heap.size 0 [.pointer (some ⟨c1, 0, none⟩), .pointer (some ⟨x1, 0, none⟩)] = w4 at BN CN ⊢
       have HB4 := hidden BN
       have HC4 := hidden CN
       clear BN CN))
  have C4 := hidden (C3.out.chg HC4.out (fun i hi e => by have := fc_lt C2.out i hi; omega))
  have X4 := hidden (X3.out.chg HC4.out (fun i hi e => by have := xc_lt X2.out i hi; omega))
  have BL4 := hidden (BL3.out.trans (HC4.out.below BL3.out.size (fun i hi => by omega)))
  have hs4 := HC4.out.size
  have hgp := HB4.out.lt
  refine (beganP w4 m2 HM2.out (by omega)).mono ?_
  rintro e w5 ⟨c2, p2, x2, rfl, hc2, hp2, hx2, k1, k2, b5⟩
  have C5 := hidden (C4.out.later b5)
  have X5 := hidden (X4.out.later b5)
  have B5 := hidden (HB4.out.later b5)
  have D5 := hidden k1
  have Y5 := hidden k2
  have BL5 := hidden (BL4.out.trans (b5.mono BL4.out.size))
  have hs5 := b5.size
  clear k1 k2 b5 HB4 HC4 HB3 C3 X3
  go_wp2_with (first
    | (refine wpList_alloc_blk rfl 27 rfl 10 rfl z27 info27z ?_; intro w6 B6 bl6 hz6; have HB6 := hidden B6; have BL6 := hidden (BL5.out.trans (bl6.mono BL5.out.size)); have C6 := hidden (C5.out.later bl6); have X6 := hidden (X5.out.later bl6); have D6 := hidden (D5.out.later bl6); have Y6 := hidden (Y5.out.later bl6); have P6 := hidden (B5.out.later bl6); clear B6 bl6 hz6)
    | (refine wpList_store_blk rfl 27 (.tmp 10) (.tmp 26) rfl rfl w5.heap.size (l := [.pointer (some ⟨c2, 0, none⟩), .pointer (some ⟨x2, 0, none⟩)]) HB6.out rfl rfl rfl size27 (by intro v hv; simp at hv; rcases hv with rfl | rfl <;> rfl) ?_
       have BN := blk_stored (l := [.pointer (some ⟨c2, 0, none⟩), .pointer (some ⟨x2, 0, none⟩)]) HB6.out rfl
       have CN := Chg.sets w5.heap.size [.pointer (some ⟨c2, 0, none⟩), .pointer (some ⟨x2, 0, none⟩)] 0 w6
       generalize w6.setCells w5.heap.size 0 [.pointer (some ⟨c2, 0, none⟩), .pointer (some ⟨x2, 0, none⟩)] = w7 at BN CN ⊢
       have HB7 := hidden BN
       have HC7 := hidden CN
       clear BN CN))
  have PL7 : Hid (PL w w7 w2.heap.size w5.heap.size ⟨c1, p1, x1, none, none, m1, []⟩ ⟨c2, p2, x2, none, none, m2, []⟩ 0) := hidden (by
    have hl1 := fc_lt C4.out
    have hl2 := xc_lt X4.out
    refine ⟨⟨⟨C6.out.chg HC7.out (fun i hi e => by have := fc_lt C5.out i hi; omega), X6.out.chg HC7.out (fun i hi e => by have := xc_lt X5.out i hi; omega), ?_⟩, ⟨D6.out.chg HC7.out (fun i hi e => by have := fc_lt D5.out i hi; omega), Y6.out.chg HC7.out (fun i hi e => by have := xc_lt Y5.out i hi; omega), ?_⟩, ?_, ?_, BL6.out.trans (HC7.out.below BL6.out.size (fun i hi => by omega))⟩, HC7.out.blk P6.out (by omega), HB7.out, by simp⟩
    · intro i hi
      rcases hi with ((rfl | hi) | rfl) | rfl | hi
      · omega
      · exact absurd hi (by simp)
      · omega
      · omega
      · exact absurd hi (by simp)
    · intro i hi
      rcases hi with ((rfl | hi) | rfl) | rfl | hi
      · omega
      · exact absurd hi (by simp)
      · omega
      · omega
      · exact absurd hi (by simp)
    · intro i hi k
      have h1 := hl1 i hi
      rcases k with (rfl | k) | rfl
      · omega
      · exact absurd k (by simp)
      · omega
    · intro i hi k
      have h1 := hl2 i hi
      rcases k with rfl | k
      · omega
      · exact absurd k (by simp))
  have hgq : w.heap.size ≤ w5.heap.size := BL5.out.size
  have hgp2 : w.heap.size ≤ w2.heap.size := BL2.out.size
  clear HB7 HC7 C6 X6 D6 Y6 P6 C5 X5 D5 Y5 B5 C4 X4 C2 X2 HB6 BL1 BL2 BL3 BL4 BL5 BL6 hgp hs1 hs2 hs3 hs4 hs5 hc1 hp1 hx1 hc2 hp2 hx2
  generalize w2.heap.size = gp at *
  generalize w5.heap.size = gq at *
  go_wp2_with fail
  go_loopw [12, 13, 14, 15, 16] (fun v12 v13 v14 v15 v16 wx => ∃ (i : Nat) (A B : Sd), v12 = .int .i64 (i : Int) ∧ i ≤ 600 ∧ Hid (PL w wx gp gq A B i)) (fun v12 _ _ _ _ _ => 600 - (intOf v12).toNat)
  case atStart => exact ⟨0, _, _, rfl, by omega, PL7⟩
  case round =>
    rename World => wx
    obtain ⟨i, A, B, rfl, hi, hP⟩ := hrel
    clear PL7
    by_cases hlt : i < n ∧ i < 600
    · have hz1 : (i : Int) < (n : Int) := by omega
      have hz2 : (i : Int) < 600 := by omega
      obtain ⟨y, hy⟩ : ∃ y, l[i]? = some y := ⟨l[i]'(by rw [HN.out]; exact hlt.1), by simp [HN.out, hlt.1]⟩
      have hok := HS.out.ok y (List.mem_of_getElem? hy)
      obtain ⟨b, off, rfl, hbl, hcell⟩ := HS.out.at' (fun e => by rw [e] at hy; simp at hy)
      obtain ⟨q0, q1, q2⟩ := hcell i y hy
      have QC : Hid (∀ wy, Below w.heap.size w wy → wy.cell? ⟨b, off + i * 3, none⟩ = some (.int .i64 y.1) ∧ wy.cell? ⟨b, off + i * 3 + 1, none⟩ = some (.int .i64 y.2.t) ∧ wy.cell? ⟨b, off + i * 3 + 2, none⟩ = some (.int .u64 (y.2.v : Int))) := hidden (fun wy hb => by
        rw [hb.cell (p := ⟨b, off + i * 3, none⟩) hbl, hb.cell (p := ⟨b, off + i * 3 + 1, none⟩) hbl, hb.cell (p := ⟨b, off + i * 3 + 2, none⟩) hbl]
        exact ⟨q0, q1, q2⟩)
      clear q0 q1 q2 hcell hy hlt
      have k0 := hP.out.p.cell 0
      have k1 := hP.out.p.cell 1
      simp [prC] at k0 k1
      have hgpl := hP.out.p.lt
      have hgql := hP.out.q.lt
      go_upto_if 55 with (first
        | (refine wpList_alloc_blk rfl 27 rfl 13 rfl z27 info27z ?_; intro w3 B3 bl3 hz3; have HB3 := hidden B3; have P3 := hidden (hP.out.later bl3); have hg3 : w.heap.size ≤ wx.heap.size := hP.out.pr.bel.size; clear B3 bl3 hz3)
        | (refine wpList_store_blk rfl 27 (.tmp 13) (.tmp 48) rfl rfl wx.heap.size (l := prC A) HB3.out rfl rfl rfl size27 (by intro v hv; simp [prC] at hv; rcases hv with rfl | rfl <;> rfl) ?_
           have BN := blk_stored (l := prC A) HB3.out rfl
           have CN := Chg.sets wx.heap.size (prC A) 0 w3
           generalize w3.setCells wx.heap.size 0 (prC A) = w4 at BN CN ⊢
           have HB4 := hidden BN
           have P4 : Hid (PL w w4 gp gq A B i) := hidden ⟨P3.out.pr.chg27 HB3.out hg3 CN, CN.blk P3.out.p (by omega), CN.blk P3.out.q (by omega), P3.out.len⟩
           obtain ⟨q0, q1, q2⟩ := QC.out w4 P4.out.pr.bel
           clear BN CN))
      generalize wx.heap.size = go at *
      have s0 := P4.out.q.cell 0
      have s1 := P4.out.q.cell 1
      simp [prC] at s0 s1
      go_cut [] from 56 to 56 (fun wy => Hid (∃ A' B' : Sd, PR w wy A' B' ∧ Blk wy go 27 (prC A') ∧ A'.l.length + B'.l.length ≤ i ∧ (Blk wy gp 27 (prC A') ∧ Blk wy gq 27 (prC B') ∨ Blk wy gp 27 (prC B') ∧ Blk wy gq 27 (prC A'))))
      case first =>
        clear q0 q1 q2
        generalize (bits BinOp.and IntKind.i64 y.1 1 == 1) = bb at *
        cases bb with
        | false =>
          go_wp2_with fail
          go_meet
          exact hidden ⟨A, B, P4.out.pr, HB4.out, P4.out.len, .inl ⟨P4.out.p, P4.out.q⟩⟩
        | true =>
          go_wp2_with (refine wpList_store_blk rfl 27 (.tmp 13) (.tmp 56) rfl rfl go (l := prC B) HB4.out rfl rfl rfl size27 (by intro v hv; simp [prC] at hv; rcases hv with rfl | rfl <;> rfl) ?_)
          go_meet
          have BN := blk_stored (l := prC B) HB4.out rfl
          have CN := Chg.sets go (prC B) 0 w4
          exact hidden ⟨B, A, (P4.out.pr.chg27 HB4.out hg3 CN).symm, BN, by have := P4.out.len; omega, .inr ⟨CN.blk P4.out.p (by omega), CN.blk P4.out.q (by omega)⟩⟩
      case rest =>
        rename World => w5
        obtain ⟨A', B', hPR, hGo, hlen, hbox⟩ := hcut.out
        obtain ⟨q0, q1, q2⟩ := QC.out w5 hPR.bel
        have HPR := hidden hPR
        have HGO := hidden hGo
        have HBX := hidden hbox
        have hyt := hok.2.t
        have hyv := hok.2.v
        have HOK := hidden hok.2
        unfold I64 at hyt
        clear hPR hGo hbox hcut P4 HB4 HB3 P3 hP s0 s1 k0 k1 hok q0
        generalize y.2 = z at *
        go_wp2_with (first
          | (refine wpList_alloc_blk rfl 32 rfl 14 rfl z32 info32z ?_; intro w6 B6 bl6 hz6; have HB6 := hidden B6; have PR6 := hidden (HPR.out.later bl6); have GO6 := hidden (HGO.out.later bl6); have BX6 := hidden (box_later HBX.out bl6); clear B6 bl6 hz6)
          | (refine wpList_store_blk rfl 32 (.tmp 14) (.tmp 61) rfl rfl w5.heap.size (l := [.int .i64 z.t, .int .u64 (z.v : Int)]) HB6.out rfl rfl rfl size32 (by intro v hv; simp at hv; rcases hv with rfl | rfl <;> rfl) ?_
             have BN := blk_stored (l := [.int .i64 z.t, .int .u64 (z.v : Int)]) HB6.out rfl
             have CN := Chg.sets w5.heap.size [.int .i64 z.t, .int .u64 (z.v : Int)] 0 w6
             generalize w6.setCells w5.heap.size 0 [.int .i64 z.t, .int .u64 (z.v : Int)] = w7 at BN CN ⊢
             have HB7 := hidden BN
             have PR7 := hidden (pr_new HPR.out PR6.out CN)
             have GO7 := hidden (CN.blk GO6.out (by have := HGO.out.lt; omega))
             have BX7 := hidden (box_chg BX6.out CN (by have := HBX.out; rcases this with ⟨h1, h2⟩ | ⟨h1, h2⟩ <;> exact ⟨by have := h1.lt; omega, by have := h2.lt; omega⟩))
             have t0 := BN.cell 0
             have t1 := BN.cell 1
             have u0 := GO7.out.cell 0
             have u1 := GO7.out.cell 1
             simp [prC] at t0 t1 u0 u1
             clear BN CN))
        have HA := hidden (pr_app PR7.out HG.out z HOK.out (by omega))
        refine HA.out.mono ?_
        rintro e w8 ⟨rfl, ⟨rb', hM⟩, hK⟩
        have PM8 := hidden hM
        have GO8 := hidden (hK _ 27 _ (.inl rfl) GO7.out)
        have HB8 := hidden (hK _ 32 _ (.inr rfl) HB7.out)
        have BX8 : Hid (Blk w8 gp 27 (prC A') ∧ Blk w8 gq 27 (prC B') ∨ Blk w8 gp 27 (prC B') ∧ Blk w8 gq 27 (prC A')) := hidden (by
          rcases BX7.out with ⟨h1, h2⟩ | ⟨h1, h2⟩
          · exact .inl ⟨hK _ 27 _ (.inl rfl) h1, hK _ 27 _ (.inl rfl) h2⟩
          · exact .inr ⟨hK _ 27 _ (.inl rfl) h1, hK _ 27 _ (.inl rfl) h2⟩)
        clear hM hK HA t0 t1 u0 u1 GO7 HB7 BX7 PR7 PR6 GO6 BX6 HB6 HPR HGO HBX
        have hl' : (nxt A' z).length ≤ A'.l.length + 1 := nxt_len A' z
        have AP := hidden (fun wy (hb : PM w wy A' B' rb' (nxt A' z)) => pm_app hb z HOK.out (by omega) rfl)
        have HLb : Hid ((nxt A' z).length + B'.l.length ≤ i + 1) := hidden (by omega)
        generalize nxt A' z = l' at *
        generalize fits A' z = ff at *
        have hl'b : l'.length ≤ 1000 := by omega
        clear QC hlen
        obtain ⟨Bx, hBx⟩ : ∃ Bx : World → Prop, Bx = fun wy => Blk wy go 27 (prC A') ∧ Blk wy w5.heap.size 32 [.int .i64 z.t, .int .u64 (z.v : Int)] ∧ (Blk wy gp 27 (prC A') ∧ Blk wy gq 27 (prC B') ∨ Blk wy gp 27 (prC B') ∧ Blk wy gq 27 (prC A')) := ⟨_, rfl⟩
        have HBXE := hidden hBx
        clear hBx
        go_upto_region 14 with fail
        refine plays_r14 go w5.heap.size A'.c A'.x l'.length z.v z.t ff (fun wy => PM w wy A' B' rb' l' ∧ Bx wy) (fun wy => (∃ rx', PR w wy ⟨A'.c, A'.p, A'.x, rb', rx', A'.most, l'⟩ B') ∧ Bx wy) w8 _ _ (by rfl) (by rfl) (by rfl) (by rfl) ?_ ?_ ?_ ?_ ?_ ?_
        · refine ⟨PM8.out.later ((Below.refl _ _).drew), ?_⟩
          rw [HBXE.out]
          exact ⟨GO8.out.drew, HB8.out.drew, box_later BX8.out ((Below.refl _ _).drew)⟩
        · intro w1 h1
          have hB : Bx w1 := by rcases h1 with h1 | h1 <;> exact h1.2
          rw [HBXE.out] at hB
          have a0 := hB.1.cell 0
          have a1 := hB.1.cell 1
          have a2 := hB.2.1.cell 0
          have a3 := hB.2.1.cell 1
          simp [prC] at a0 a1 a2 a3
          exact ⟨a0, a1, a2, a3⟩
        · rintro w1 ⟨h1, hB⟩
          refine (AP.out w1 h1).mono ?_
          rintro e w2 ⟨rfl, h2, hk⟩
          refine ⟨rfl, h2, ?_⟩
          rw [HBXE.out] at hB ⊢
          refine ⟨hk _ 27 _ (.inl rfl) hB.1, hk _ 32 _ (.inr rfl) hB.2.1, ?_⟩
          rcases hB.2.2 with ⟨h3, h4⟩ | ⟨h3, h4⟩
          · exact .inl ⟨hk _ 27 _ (.inl rfl) h3, hk _ 27 _ (.inl rfl) h4⟩
          · exact .inr ⟨hk _ 27 _ (.inl rfl) h3, hk _ 27 _ (.inl rfl) h4⟩
        · rintro w1 ⟨⟨rx', h1⟩, _⟩
          exact clenP w1 A'.c A'.p rb' A'.most l' h1.a.cs
        · rintro w1 ⟨⟨rx', h1⟩, _⟩
          exact lenD w1 A'.x rx' A'.most l' h1.a.xc
        · intro v69 v70 v71 v72 v73 v74 v75 v76 v77 v78 v79 v80 v81 v82 v83 v84 v85 v86 w9 hI h86
          subst h86
          obtain ⟨⟨rx', hPR9⟩, hB⟩ := hI
          rw [HBXE.out] at hB
          obtain ⟨hGO9, _, hBX9⟩ := hB
          have PR9 := hidden hPR9
          have BX9 := hidden hBX9
          have x0 := hGO9.cell 0
          have x1 := hGO9.cell 1
          simp [prC] at x0 x1
          clear hPR9 hBX9 hGO9 AP PM8 GO8 HB8 BX8 HBXE
          have TL := hidden (tellsP w9 A'.c A'.p A'.x rb' rx' A'.most A'.most l' PR9.out.a.cs PR9.out.a.xc (by omega))
          have END : Hid (∀ wy, Below w9.heap.size w9 wy → ∃ (A B : Sd), Hid (PL w wy gp gq A B (i + 1))) := hidden (fun wy hb => by
            rcases BX9.out with ⟨h1, h2⟩ | ⟨h1, h2⟩
            · exact ⟨⟨A'.c, A'.p, A'.x, rb', rx', A'.most, l'⟩, B', hidden ⟨PR9.out.later hb, h1.later hb, h2.later hb, HLb.out⟩⟩
            · exact ⟨B', ⟨A'.c, A'.p, A'.x, rb', rx', A'.most, l'⟩, hidden ⟨(PR9.out.later hb).symm, h1.later hb, h2.later hb, by have := HLb.out; simp only; omega⟩⟩)
          simp only [Act.put, List.setIfInBounds_toArray, List.set_cons_succ, List.set_cons_zero]
          go_wp2_with fail
          all_goals first
            | (refine TL.out.mono ?_
               rintro e w10 ⟨rfl, b10⟩
               obtain ⟨A2, B2, h2⟩ := END.out w10 b10
               clear b10 TL END
               go_wp2_with fail
               exact ⟨⟨i + 1, A2, B2, by rw [Int.natCast_add]; rfl, by omega, h2⟩, by simp [intOf]; omega⟩)
            | (obtain ⟨A2, B2, h2⟩ := END.out w9 (Below.refl _ _)
               exact ⟨⟨i + 1, A2, B2, by rw [Int.natCast_add]; rfl, by omega, h2⟩, by simp [intOf]; omega⟩)
    · have TA := hidden (tellsP wx A.c A.p A.x A.rb A.rx A.most A.most A.l hP.out.pr.a.cs hP.out.pr.a.xc (by have := hP.out.len; omega))
      have TB := hidden (fun wy (hb : Below wx.heap.size wx wy) => tellsP wy B.c B.p B.x B.rb B.rx B.most B.most B.l (hP.out.pr.later hb).b.cs (hP.out.pr.later hb).b.xc (by have := hP.out.len; omega))
      have k0 := hP.out.p.cell 0
      have k1 := hP.out.p.cell 1
      simp [prC] at k0 k1
      have QB : Hid (∀ wy, Below wx.heap.size wx wy → wy.cell? ⟨gq, 0, none⟩ = some (.pointer (some ⟨B.c, 0, none⟩)) ∧ wy.cell? ⟨gq, 1, none⟩ = some (.pointer (some ⟨B.x, 0, none⟩))) := hidden (fun wy hb => by
        have a0 := (hP.out.q.later hb).cell 0
        have a1 := (hP.out.q.later hb).cell 1
        simp [prC] at a0 a1
        exact ⟨a0, a1⟩)
      have BLx := hidden hP.out.pr.bel
      clear hP
      have FIN : (¬ (i : Int) < (n : Int)) ∨ ((i : Int) < (n : Int) ∧ ¬ (i : Int) < 600) := by omega
      rcases FIN with h1 | ⟨h1, h2⟩
      all_goals
        go_wp2_with fail
        refine TA.out.mono ?_
        rintro e w2 ⟨rfl, b2⟩
        obtain ⟨q0, q1⟩ := QB.out w2 b2
        have TB2 := hidden (TB.out w2 b2)
        have BL2 := hidden (BLx.out.trans (b2.mono BLx.out.size))
        clear b2 TB QB
        go_wp2_with fail
        refine TB2.out.mono ?_
        rintro e w3 ⟨rfl, b3⟩
        have BL3 := hidden (BL2.out.trans (b3.mono BL2.out.size))
        clear b3 TB2
        go_wp2
        go_ret
        exact ⟨rfl, BL3.out⟩

end Go.Proofs.YtcgjmioncbihhaaDoor
