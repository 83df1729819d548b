import Derived.Test.YtalmpmhnkilalaaGreatDoorDcZ
import Derived.BigQuiet
import Derived.Test.YtalmpmhnkilalaaGreatDoorRefA
import Derived.Test.YtalmpmhnkilalaaGreatDoorChU
/-
  The document's own bits: the row of some samples.
-/
namespace Go.Proofs.YtalmpmhnkilalaaGreatDoor
open Go.RowKit
set_option linter.unusedVariables false
set_option linter.unusedSimpArgs false

theorem tl_last {l : List Sm} {i : Nat} {y : Sm} (h : l[i]? = some y) : (tl (l.take (i + 1))).t = y.t ∧ (tl (l.take (i + 1))).v = y.v := by
  rw [← take_next h, tl_on]
  unfold onT
  split <;> exact ⟨rfl, rfl⟩
theorem tl_step {l : List Sm} {i : Nat} {x y : Sm} (h : l[i]? = some y) (hx : l[i + 1]? = some x) :
    rowB (l.take (i + 1 + 1)) = rowB (l.take (i + 1)) ++ drB (wr (wr (x.t - y.t) - (tl (l.take (i + 1))).st)) ++ flB (x.v ^^^ y.v) ∧ (tl (l.take (i + 1 + 1))).st = wr (x.t - y.t) := by
  obtain ⟨h1, h2⟩ := tl_last h
  have hl : (l.take (i + 1)).length = i + 1 := by
    have := (List.getElem?_eq_some_iff.1 h).1
    rw [List.length_take]
    omega
  rw [← take_next hx, rowB_on, tl_on]
  unfold onB onT
  rw [hl, if_neg (by omega), if_neg (by omega)]
  unfold Tr.drift Tr.flips Tr.next
  rw [h1, h2]
  exact ⟨by rw [List.append_assoc], rfl⟩
theorem OW.later {w w' : World} {base : Nat} {v : Value} {L : List Bool} (h : OW w base v L) (hb : Below w.heap.size w w') : OW w' base v L := ⟨h.1, owl h.2 hb⟩

/-- What a round of bits holds. -/
structure DI3 (w wx : World) (v : Value) (l : List Sm) (i : Nat) : Prop where
  ow : OW wx w.heap.size v (rowB (l.take i))
  bel : Below w.heap.size w wx

set_option maxRecDepth 100000 in
set_option maxHeartbeats 8000000 in
theorem bitsD (w : World) (ad : Option Addr) (n c : Nat) (l : List Sm) (h : Ss w ad l) (hn : l.length = n) (hn2 : n ≤ 5000000) :
    Calls Tryz.prog 146 #[.slice ad n c] w (PtD w w.heap.size (rowB l)) := by
  have HS := hidden h
  have HN := hidden hn
  have hblk : ∀ x, ad = some x → l ≠ [] → x.block < w.heap.size := by
    intro x hx hl
    obtain ⟨g, off, e, hg, _⟩ := h.at' hl
    rw [e] at hx; injection hx with hx; subst hx; exact hg
  have HB0 := hidden hblk
  have HRL := hidden (fun i => rowB_le (l := l.take i) (fun y hy => h.sz y (List.mem_of_mem_take hy)))
  have HOK := hidden h.sz
  clear h hn hblk
  go_enter Tryz.func146, Tryz.ntmps146
  go_wp2_with fail
  go_loopw [3, 4, 5, 6] (fun v3 v4 v5 v6 wx => ∃ (i : Nat) (v : Value), v5 = .int .i64 (i : Int) ∧ i ≤ n ∧ v = v3 ∧ v4 = .int .i64 (tl (l.take i)).st ∧ Hid (DI3 w wx v l i)) (fun _ _ v5 _ _ => n - (intOf v5).toNat)
  case atStart => exact ⟨0, _, rfl, by omega, rfl, rfl, hidden ⟨⟨⟨none, 0, rfl⟩, World.ownsRow_nil _ _ _ _⟩, Below.refl _ _⟩⟩
  case round =>
    rename World => wx
    obtain ⟨i, v3, rfl, hi, rfl, rfl, hD⟩ := hrel
    by_cases hlt : i < n
    · have hltz : (i : Int) < (n : Int) := by omega
      have hbs := hD.out.bel.size
      have hrl : (rowB (l.take i)).length ≤ 145 * 5000000 := by
        have := HRL.out i
        rw [List.length_take] at this
        omega
      obtain ⟨b0, o0, x, e0, hb0, hx, _, d0, d1, okx⟩ := (HS.out.bel hD.out.bel HB0.out).get (i := i) (by rw [HN.out]; exact hlt)
      subst e0
      have hbw : b0 < w.heap.size := HB0.out ⟨b0, o0, none⟩ rfl (fun e => by rw [e] at hx; simp at hx)
      by_cases hz : i = 0
      · subst hz
        have hu : IntKind.u64.wrap x.t = (un x.t : Int) := by rw [u64w]; unfold un; omega
        have hun := un_lt x.t
        have hxv := okx.v
        have hxt := okx.t
        unfold I64 at hxt
        have d0' : wx.cell? ⟨b0, o0, none⟩ = some (.int .i64 x.t) := by simpa using d0
        have d1' : wx.cell? ⟨b0, o0 + 1, none⟩ = some (.int .u64 (x.v : Int)) := by simpa using d1
        have HT1 : Hid (rowB (l.take 1) = low (un x.t) 64 ++ low x.v 64 ∧ (tl (l.take 1)).st = 0) := hidden (by rw [← take_next hx]; simp [rowB, moB, fiB, tl, trE, tr0])
        have HO0 : Hid (OW wx w.heap.size v3 []) := hidden (by have := hD.out.ow; simpa [rowB] using this)
        have P1 := hidden (putD wx w.heap.size v3 [] (un x.t) 64 HO0.out hbs hun (by omega) (by simp))
        clear d0 d1
        go_wp2_with fail
        refine P1.out.mono ?_
        rintro e w1 ⟨v1, rfl, o1, b1⟩
        have O1 := hidden o1
        have B1 := hidden (hD.out.bel.trans b1)
        have e1 : w1.cell? ⟨b0, o0 + 1, none⟩ = some (.int .u64 (x.v : Int)) := by rw [b1.cell (p := ⟨b0, o0 + 1, none⟩) hbw]; exact d1'
        clear o1 b1
        have P2 := hidden (putD w1 w.heap.size v1 _ x.v 64 O1.out B1.out.size hxv (by omega) (by simp [low_len]))
        go_wp2_with fail
        refine P2.out.mono ?_
        rintro e w2 ⟨v2, rfl, o2, b2⟩
        have D2 : Hid (DI3 w w2 v2 l 1) := hidden ⟨by rw [HT1.out.1]; simpa using o2, B1.out.trans b2⟩
        clear o2 b2
        go_wp2_with fail
        exact ⟨⟨0 + 1, v2, rfl, by omega, rfl, by rw [HT1.out.2]; rfl, D2⟩, by simp [intOf]; omega⟩
      · obtain ⟨j, rfl⟩ : ∃ j, i = j + 1 := ⟨i - 1, by omega⟩
        obtain ⟨b9, o9, y, e9, _, hy, _, f0, f1, oky⟩ := (HS.out.bel hD.out.bel HB0.out).get (i := j) (by rw [HN.out]; omega)
        injection e9 with e9
        injection e9 with e9 e10
        subst e9 e10
        have HST := hidden (tl_step hy hx)
        have hst : I64 (tl (l.take (j + 1))).st := (tl_ok (fun z hz => HOK.out z (List.mem_of_mem_take hz))).s
        have hxt := okx.t
        have hyt := oky.t
        have hxv := okx.v
        have hyv := oky.v
        have hxor := bits_xor_u64_nat x.v y.v hxv hyv
        have hW1 := i64w (x.t - y.t)
        generalize hst' : (tl (l.take (j + 1))).st = st at *
        have hW2 := i64w (wr (x.t - y.t) - st)
        have hdr : I64 (wr (wr (x.t - y.t) - st)) := wr_i64 _
        have hee : I64 (wr (x.t - y.t)) := wr_i64 _
        have hff : x.v ^^^ y.v < 18446744073709551616 := xor_lt hxv hyv
        generalize wr (wr (x.t - y.t) - st) = dr at *
        generalize wr (x.t - y.t) = ee at *
        generalize x.v ^^^ y.v = ff at *
        have hjz : ((j + 1 : Nat) : Int) - 1 = (j : Int) := by omega
        have hjne : ¬ ((j + 1 : Nat) : Int) = 0 := by omega
        have hjlt : (j : Int) < (n : Int) := by omega
        have hj1 : (j : Int) + 1 < (n : Int) := by omega
        have hj0 : (0 : Int) ≤ (j : Int) + 1 := by omega
        have hjn : j < n := by omega
        have hwj : IntKind.i64.wrap (j : Int) = (j : Int) := i64_id (by omega) (by omega)
        have P1 := hidden (fun wy (hb : Below wx.heap.size wx wy) => timeD wy w.heap.size v3 (rowB (l.take (j + 1))) dr (hD.out.ow.later hb) (Nat.le_trans hbs hb.size) hdr (by omega))
        have hdl := drB_len dr
        unfold I64 at hst hxt hyt hdr hee
        clear okx oky hx hy
        have P2 := hidden (fun wy v2 (ho : OW wy w.heap.size v2 (rowB (l.take (j + 1)) ++ drB dr)) (hb : w.heap.size ≤ wy.heap.size) => valueD wy w.heap.size v2 _ ff ho hb hff (by rw [List.length_append]; omega))
        go_wp2_with fail
        go_quiet (fail)
        go_wp2_with fail
        refine (P1.out _ (below_drewN (Below.refl _ _) _)).mono ?_
        rintro e w2 ⟨v2, rfl, o2, b2⟩
        have O2 := hidden o2
        have B2 : Hid (Below w.heap.size w w2) := hidden ((below_drewN hD.out.bel _).trans b2)
        have hjx : w2.cell? ⟨b0, o0 + (j + 1) * 2 + 1, none⟩ = some (.int .u64 (x.v : Int)) := by rw [(b2.cell (p := ⟨b0, o0 + (j + 1) * 2 + 1, none⟩) hbw)]; exact d1
        have hjy : w2.cell? ⟨b0, o0 + j * 2 + 1, none⟩ = some (.int .u64 (y.v : Int)) := by rw [(b2.cell (p := ⟨b0, o0 + j * 2 + 1, none⟩) hbw)]; exact f1
        clear o2 b2 d0 d1 f0 f1 P1 hD
        have PV := hidden (P2.out _ v2 (O2.out.later ((Below.refl _ _).drew)) (by have := B2.out.size; simpa using this))
        clear P2
        go_upto_region 11 with fail
        go_cut [3] from 45 to 58 (fun v3 wy => Hid (DI3 w wy v3 l (j + 1 + 1)))
        case first =>
          go_region_with (refine PV.out.mono ?_; rintro e w4 ⟨v4, rfl, o4, b4⟩)
          all_goals (have D4 : Hid (DI3 w w4 v4 l (j + 1 + 1)) := hidden ⟨by rw [HST.out.1]; exact o4, (B2.out.drew).trans b4⟩; clear o4 b4; go_wp2_with fail; go_meet; exact D4)
        case rest =>
          have D4 := hcut
          clear PV O2 hjx hjy
          go_wp2_with fail
          exact ⟨⟨j + 1 + 1, _, by rw [Int.natCast_add (j + 1)]; rfl, by omega, rfl, by rw [HST.out.2], D4⟩, by simp [intOf]; omega⟩
    · obtain rfl : i = n := by omega
      have hge : ¬ (i : Int) < (i : Int) := by omega
      have HLL : Hid (l.take i = l) := hidden (by rw [List.take_of_length_le (by rw [HN.out]; exact Nat.le_refl _)])
      have HOW := hidden hD.out.ow
      rw [HLL.out] at HOW
      go_wp2
      go_ret
      exact ⟨_, rfl, HOW.out, hD.out.bel⟩

end Go.Proofs.YtalmpmhnkilalaaGreatDoor

/-
  The document's own bytes of some samples: Encode.
-/
namespace Go.Proofs.YtalmpmhnkilalaaGreatDoor
open Go.RowKit
set_option linter.unusedVariables false
set_option linter.unusedSimpArgs false

theorem vl_snoc : ∀ (X : List Bool) (b : Bool), vl (X ++ [b]) = 2 * vl X + b.toNat
  | [], b => by simp [vl]
  | x :: X, b => by
    rw [List.cons_append, vl, vl, vl_snoc X b, List.length_append]
    simp only [List.length_singleton, Nat.pow_succ]
    rw [Nat.mul_add, Nat.mul_right_comm]
    generalize 2 ^ X.length * x.toNat = z
    omega
/-- The first bits of a byte. -/
def part (L : List Bool) (q k : Nat) : Nat := vl ((List.range k).map (fun j => L.getD (8 * q + j) false))
theorem part_next (L : List Bool) (q k : Nat) : part L q (k + 1) = 2 * part L q k + (L.getD (8 * q + k) false).toNat := by
  unfold part
  rw [List.range_succ, List.map_append, List.map_singleton, vl_snoc]
theorem part_lt (L : List Bool) (q k : Nat) : part L q k < 2 ^ k := by
  have := vl_lt ((List.range k).map (fun j => L.getD (8 * q + j) false))
  simpa [part] using this
theorem pk_next (L : List Bool) (q : Nat) (h : q < (L.length + 7) / 8) : (pk L).take (q + 1) = (pk L).take q ++ [((part L q 8 : Nat) : Int)] := by
  rw [List.take_add_one]
  congr 1
  simp [pk, h, part]
theorem sl_bits {w : World} {base : Nat} {ad : Option Addr} {c : Nat} {L : List Bool} (h : OW w base (.slice ad L.length c) L) : Sl w ad L.length (nI L) := by
  have h2 := h.2
  exact sl_of_owns h2 (by
    intro x hx
    simp only [nI, List.mem_map] at hx
    obtain ⟨b, _, rfl⟩ := hx
    cases b <;> simp)
theorem nI_at (L : List Bool) (i : Nat) : (nI L).getD i 0 = ((L.getD i false).toNat : Int) := by
  simp only [nI, List.getD, List.getElem?_map]
  cases L[i]? <;> rfl

theorem wpList_pushC (w : World) {ops : Array Oper} {rest : List Oper} {o : Oper} {a : Act} {Q : Exit → Act → World → Prop} (hgd : o.guard = none) (s x : Operand)
    (ho : o.op = .call { callee := .builtin .append, args := #[s, x], argTypes := #[22, 22] }) (base : Nat) (v : Value) (n : Nat) (xs : List Value) (hs : a.eval s = v) (w0 : World) (hown : w0.ownsRow base 5 1 v n xs) (y : Int)
    (hw : w = w0.alloc (.cells #[.int .u8 y] 5)) (hx : a.eval x = .slice (some ⟨w0.heap.size, 0, none⟩) 1 1) (hn : n ≤ 10000000000) (hbase : base ≤ w0.heap.size)
    (h : ∀ g' c' w', w'.ownsRow base 5 1 (.slice (some ⟨g', 0, none⟩) (n + 1) c') (n + 1) (xs ++ [.int .u8 y]) → Chg (fun i => v.ownBlock = some i) w0 w' → Moved w0 v.ownBlock (some g') → wpList Tryz.prog ops Q rest (a.put o.dst (.slice (some ⟨g', 0, none⟩) (n + 1) c')) w') : wpList Tryz.prog ops Q (o :: rest) a w := by
  subst hw
  obtain ⟨i0, hi0, hz0, hz1, hz2⟩ := info_parts info5
  refine wpList_push _ hgd s x 22 ho 5 i0 (.int .u8 0) 1 Tryz.underlying22 hi0 hz0 hz1 hz2 rfl base v n xs hs (hown.alloc _) ⟨w0.heap.size, 0, none⟩ (.int .u8 y) hx (by simp) rfl (by unfold maxLen; omega) (by omega) (by simp; omega) ?_
  intro g' c' w' h1 h2
  exact h g' c' w' h1 h2.chg.1 h2.chg.2

/-- What a round of Encode holds. -/
structure DE (w wx : World) (v : Value) (gl n : Nat) (L : List Bool) (q : Nat) : Prop where
  form : ∃ ad c, v = .slice ad (Q.grp n + 1 + q) c
  own : wx.ownsRow w.heap.size 5 1 v (Q.grp n + 1 + q) (cells8 (Q.enc n ++ (pk L).take q))
  far : ∀ g, v.ownBlock = some g → g ≠ gl
  sl : Sl wx (some ⟨gl, 0, none⟩) L.length (nI L)
  bel : Below w.heap.size w wx
theorem DE.push {w wx w' : World} {v : Value} {gl n q g' c' : Nat} {L : List Bool} (h : DE w wx v gl n L q) (hq : q < (L.length + 7) / 8) (hL : 0 < L.length) (ho : w'.ownsRow w.heap.size 5 1 (.slice (some ⟨g', 0, none⟩) (Q.grp n + 1 + q + 1) c') (Q.grp n + 1 + q + 1) (cells8 (Q.enc n ++ (pk L).take q) ++ [.int .u8 ((part L q 8 : Nat) : Int)]))
    (hc : Chg (fun i => v.ownBlock = some i) wx w') (hm : Moved wx v.ownBlock (some g')) : DE w w' (.slice (some ⟨g', 0, none⟩) (Q.grp n + 1 + q + 1) c') gl n L (q + 1) := by
  have hlt : gl < wx.heap.size := h.sl.lt ⟨gl, 0, none⟩ rfl hL
  refine ⟨⟨_, _, rfl⟩, ?_, ?_, hc.sl h.sl (fun x hx _ e => ?_), h.bel.trans (hc.below h.bel.size (fun i hi => (h.own.lt i hi).1))⟩
  · rw [pk_next L q hq, ← List.append_assoc, cells8_append]
    exact ho
  · intro g hg
    simp [Value.ownBlock] at hg
    subst hg
    rcases hm with e | ⟨g2, e, hg2⟩
    · exact h.far _ e.symm
    · injection e with e
      omega
  · injection hx with hx
    subst hx
    exact h.far _ e rfl

set_option maxRecDepth 100000 in
set_option maxHeartbeats 8000000 in
theorem encodeD (w : World) (ad : Option Addr) (n c : Nat) (l : List Sm) (h : Ss w ad l) (hn : l.length = n) (hn2 : n ≤ 5000000) :
    Calls Tryz.prog 77 #[.slice ad n c] w (BtP w (encC l)) := by
  by_cases h0 : n = 0
  · subst h0
    have hl : l = [] := List.eq_nil_of_length_eq_zero hn
    subst hl
    clear h hn
    go_enter Tryz.func77, Tryz.ntmps77
    go_wp2
    go_ret
    exact ⟨none, 0, rfl, World.ownsRow_nil _ _ _ _, Below.refl _ _⟩
  · have h0z : ¬ (n : Int) = 0 := by omega
    have hnl : l ≠ [] := fun e => h0 (by rw [← hn, e]; rfl)
    have HE : Hid (encC l = Q.enc n ++ pk (rowB l)) := hidden (by unfold encC; rw [if_neg hnl, hn])
    have hrl := rowB_le h.sz
    rw [hn] at hrl
    have hr128 : 128 ≤ (rowB l).length := by
      cases l with
      | nil => exact absurd rfl hnl
      | cons s t => simp [rowB, fiB, low_len]; omega
    have HB := hidden (fun wy (hb : Below w.heap.size w wy) => bitsD wy ad n c l (h.later hb) hn hn2)
    have HP := hidden (Q.refPutUint_any none 0 0 n [] w (Sl.nil _ _) (fun _ => ⟨rfl, rfl⟩) (by omega) (by omega))
    have hgr := Q.grp_le n
    clear h hn hnl
    obtain ⟨L, hLE⟩ : ∃ L, rowB l = L := ⟨_, rfl⟩
    rw [hLE] at HE HB hrl hr128
    clear hLE
    obtain ⟨K, hK⟩ : ∃ K, (L.length + 7) / 8 = K := ⟨_, rfl⟩
    go_enter Tryz.func77, Tryz.ntmps77
    go_wp2_with fail
    refine HP.out.mono ?_
    rintro e w1 ⟨ad1, c1, rfl, o1, b1⟩
    have O1 := hidden o1
    have B1 := hidden b1
    clear o1 b1
    go_wp2_with fail
    refine (HB.out w1 B1.out).mono ?_
    rintro e w2 ⟨v2, rfl, ⟨⟨ad2, c2, rfl⟩, o2⟩, b2⟩
    obtain ⟨gl, rfl⟩ : ∃ gl, ad2 = some ⟨gl, 0, none⟩ := by
      rcases o2.2 with ⟨_, e0⟩ | ⟨g, cap, cur, e0, _⟩
      · omega
      · injection e0 with e1; exact ⟨g, e1⟩
    have hgl : w1.heap.size ≤ gl := (o2.lt gl rfl).1
    have D2 : Hid (DE w w2 (.slice ad1 (0 + Q.grp n + 1) c1) gl n L 0) := hidden ⟨⟨ad1, c1, by rw [Nat.zero_add]⟩, by
        have := owl O1.out b2
        simpa using this, fun g hg e => by have := (O1.out.lt g hg).2; omega, sl_bits ⟨⟨_, _, rfl⟩, o2⟩, B1.out.trans (b2.mono B1.out.size)⟩
    clear o2 b2 O1 HP HB
    go_wp2_with fail
    generalize ((n : Int) == 0) = bz at *
    go_loopw [3, 5, 6, 7] (fun v3 v5 v6 v7 wx => ∃ (q : Nat) (v : Value), v5 = .int .i64 (8 * (q : Int)) ∧ q ≤ K ∧ v = v3 ∧ Hid (DE w wx v gl n L q)) (fun _ v5 _ _ _ => 8 * K + 8 - (intOf v5).toNat)
    case atStart => exact ⟨0, _, rfl, by omega, rfl, by simpa using D2⟩
    case round =>
      rename World => wx
      obtain ⟨q, v3, rfl, hq, rfl, hD⟩ := hrel
      clear D2
      by_cases hlt : q < K
      · have hltz : 8 * (q : Int) < (L.length : Int) := by omega
        have HSL := hidden hD.out.sl
        obtain ⟨ad3, c3, e3⟩ := hD.out.form
        subst e3
        go_wp2_with fail
        go_loopw [6, 7] (fun v6 v7 wy => wx = wy ∧ ∃ k : Nat, k ≤ 8 ∧ v7 = .int .i64 (k : Int) ∧ v6 = .int .u8 ((part L q k : Nat) : Int)) (fun _ v7 _ => 8 - (intOf v7).toNat)
        case atStart => exact ⟨rfl, 0, by omega, rfl, rfl⟩
        case round =>
          rename World => wy
          obtain ⟨rfl, k, hk, rfl, rfl⟩ := hrel
          have hpl := part_lt L q k
          have hpn := part_next L q k
          by_cases hk8 : k < 8
          · have hk8z : (k : Int) < 8 := by omega
            have hp2 : 2 ^ k ≤ 2 ^ 7 := Nat.pow_le_pow_right (by omega) (by omega)
            have hp128 : part L q k < 128 := by omega
            by_cases hin : 8 * q + k < L.length
            · have hinz : 8 * (q : Int) + (k : Int) < (L.length : Int) := by omega
              obtain ⟨x, hx, hcl⟩ := HSL.out.cell (8 * q + k) hin
              injection hx with hx
              subst hx
              rw [Addr.add_lit, Nat.zero_add, nI_at] at hcl
              have hcl' : wx.cell? ⟨gl, 8 * q + k, none⟩ = some (.int .u8 ((L.getD (8 * q + k) false).toNat : Int)) := hcl
              have hb1 : (L.getD (8 * q + k) false).toNat ≤ 1 := by cases L.getD (8 * q + k) false <;> simp
              clear hcl
              have HPN := hidden hpn
              clear hpn
              generalize part L q k = P at *
              generalize (L.getD (8 * q + k) false).toNat = bt1 at *
              go_wp2_with fail
              refine ⟨⟨by first | rfl | trivial, k + 1, by omega, by rw [Int.natCast_add]; rfl, ?_⟩, by simp [intOf]; omega⟩
              rw [HPN.out]
              congr 1
              omega
            · have hinz : ¬ 8 * (q : Int) + (k : Int) < (L.length : Int) := by omega
              have hz : (L.getD (8 * q + k) false).toNat = 0 := by simp [List.getD, hin]
              rw [hz] at hpn
              have HPN := hidden hpn
              clear hpn hz
              generalize part L q k = P at *
              go_wp2_with fail
              refine ⟨⟨by first | rfl | trivial, k + 1, by omega, by rw [Int.natCast_add]; rfl, ?_⟩, by simp [intOf]; omega⟩
              rw [HPN.out]
              congr 1
              omega
          · obtain rfl : k = 8 := by omega
            have HQK : Hid (q < (L.length + 7) / 8) := hidden (by omega)
            have hbs := hD.out.bel.size
            clear hpn hlt
            have DP := hidden (fun g' c' w' => hD.out.push (w' := w') (g' := g') (c' := c') HQK.out (by omega))
            generalize hPP : part L q 8 = P at *
            go_wp2_with (refine wpList_pushC _ rfl (.tmp 43) (.tmp 45) rfl w.heap.size (.slice ad3 (Q.grp n + 1 + q) c3) (Q.grp n + 1 + q) _ rfl wx hD.out.own (P : Int) rfl rfl (by omega) (by omega) ?_
                         intro g7 c7 w7 o7 ch7 m7
                         have D7 := hidden (DP.out g7 c7 w7 o7 ch7 m7)
                         clear o7 ch7 m7)
            exact ⟨⟨q + 1, _, by rw [Int.natCast_add, Int.mul_add]; rfl, by omega, rfl, D7⟩, by simp [intOf]; omega⟩
      · obtain rfl : q = K := by omega
        have hge : ¬ 8 * (q : Int) < (L.length : Int) := by omega
        have HF : Hid (BtP w (encC l) (.returned v3) wx) := hidden (by
          obtain ⟨ad3, c3, e3⟩ := hD.out.form
          have hlen : (encC l).length = Q.grp n + 1 + q := by rw [HE.out, List.length_append, Q.enc_length, pk_len, hK]
          have ho := hD.out.own
          rw [List.take_of_length_le (by rw [pk_len, hK]; exact Nat.le_refl _), ← HE.out] at ho
          subst e3
          exact ⟨ad3, c3, by rw [hlen], by rw [hlen]; exact ho, hD.out.bel⟩)
        go_wp2
        go_ret
        exact HF.out

end Go.Proofs.YtalmpmhnkilalaaGreatDoor
