import Derived.Test.YtcgjmioncbihhaaDoorDcA
import Derived.BigQuiet
/-
  The document's own bits: value.
-/
namespace Go.Proofs.YtcgjmioncbihhaaDoor
open Go.RowKit
set_option linter.unusedVariables false
set_option linter.unusedSimpArgs false

/-- Where the first 1 stands, and the last one. -/
theorem ahd_find {x a : Nat} (hx : x < 18446744073709551616) (h0 : 0 < x) (ha : a ≤ ahd x) : x / 2 ^ (63 - a) = 0 ↔ a ≠ ahd x := by
  obtain ⟨s1, s2, _⟩ := span_lt hx h0
  obtain ⟨h1, h2, h3⟩ := blen_lt 64 x (by omega)
  obtain ⟨h4, h5⟩ := h2 h0
  have hb : blen 64 x = 64 - ahd x := by unfold ahd; omega
  rw [hb] at h1 h5
  constructor
  · intro e hh
    subst hh
    have := Nat.div_eq_zero_iff.1 e
    have h6 : 2 ^ (63 - ahd x) = 2 ^ (64 - ahd x - 1) := by congr 1; omega
    have hp := Nat.two_pow_pos (63 - ahd x)
    omega
  · intro hh
    apply Nat.div_eq_of_lt
    refine Nat.lt_of_lt_of_le h1 (Nat.pow_le_pow_right (by omega) (by omega))
theorem bhd_odd {x : Nat} (hx : x < 18446744073709551616) (h0 : 0 < x) : ∃ m, x = 2 ^ bhd x * (2 * m + 1) := by
  obtain ⟨m, hm, hc⟩ := Lib.ctzFrom_spec 64 x (by omega) (by omega)
  have hb : bhd x = Lib.ctzFrom 64 x := by unfold bhd Lib.ctz; first | rfl | (rw [if_neg (by omega)]) | simp
  rw [hb]
  exact ⟨m, hm⟩
theorem bhd_find {x b : Nat} (hx : x < 18446744073709551616) (h0 : 0 < x) (hb : b ≤ bhd x) : x / 2 ^ b % 2 = 0 ↔ b ≠ bhd x := by
  obtain ⟨m, hm⟩ := bhd_odd hx h0
  constructor
  · intro e hh
    subst hh
    have h2 : x / 2 ^ bhd x = 2 * m + 1 := by
      have := Nat.mul_div_cancel_left (2 * m + 1) (Nat.two_pow_pos (bhd x))
      rwa [← hm] at this
    omega
  · intro hh
    have h3 : bhd x = b + 1 + (bhd x - b - 1) := by omega
    have h2 : x / 2 ^ b = 2 * (2 ^ (bhd x - b - 1) * (2 * m + 1)) := by
      have h4 : x = 2 ^ b * (2 * (2 ^ (bhd x - b - 1) * (2 * m + 1))) := by
        have e1 : 2 ^ bhd x = 2 ^ b * 2 * 2 ^ (bhd x - b - 1) := by
          rw [← Nat.pow_succ, ← Nat.pow_add]; congr 1
        calc x = 2 ^ bhd x * (2 * m + 1) := hm
          _ = 2 ^ b * 2 * 2 ^ (bhd x - b - 1) * (2 * m + 1) := by rw [← e1]
          _ = _ := by simp only [Nat.mul_assoc]
      have := Nat.mul_div_cancel_left (2 * (2 ^ (bhd x - b - 1) * (2 * m + 1))) (Nat.two_pow_pos b)
      rwa [← h4] at this
    rw [h2]
    omega

theorem div_cast (x q : Nat) : (x : Int) / 2 ^ q = ((x / 2 ^ q : Nat) : Int) := by rw [Int.natCast_ediv, Int.natCast_pow]; rfl
set_option maxRecDepth 100000 in
set_option maxHeartbeats 8000000 in
theorem valueD (w : World) (base : Nat) (v : Value) (L : List Bool) (x : Nat) (h : OW w base v L) (hb : base ≤ w.heap.size) (hx : x < 18446744073709551616) (hL : L.length ≤ 900000000) :
    Calls Tryd.prog 61 #[v, .int .u64 (x : Int)] w (PtD w base (L ++ flB x)) := by
  have HO := hidden h
  clear h
  by_cases h0 : x = 0
  · subst h0
    have HP := hidden (putD w base v L 0 1 HO.out hb (by omega) (by omega) (by omega))
    rw [show low 0 1 = [false] from by decide] at HP
    rw [show flB 0 = [false] from rfl]
    go_enter Tryd.func61, Tryd.ntmps61
    go_wp2_with fail
    refine HP.out.mono ?_
    rintro e w1 ⟨v1, rfl, o1, b1⟩
    go_wp2
    go_ret
    exact ⟨_, rfl, o1, b1⟩
  · have hp : 0 < x := by omega
    obtain ⟨s1, s2, s3, s4, s5⟩ := span_lt hx hp
    have HA := hidden (fun a (ha : a ≤ ahd x) => ahd_find hx hp ha)
    have HB := hidden (fun b (hb : b ≤ bhd x) => bhd_find hx hp hb)
    have HE : Hid (flB x = low 1 1 ++ low (ahd x) 6 ++ low (siz x - 1) 6 ++ low (x / 2 ^ bhd x) (siz x)) := hidden (by unfold flB; rw [if_neg h0]; rfl)
    have hdiv : x / 2 ^ bhd x < 18446744073709551616 := Nat.lt_of_le_of_lt (Nat.div_le_self _ _) hx
    have PUT : Hid (∀ w1 v1 M (y n : Nat), OW w1 base v1 (L ++ M) → M.length ≤ 100 → Below base w w1 → y < 18446744073709551616 → n ≤ 64 → Calls Tryd.prog 59 #[v1, .int .u64 (y : Int), .int .i64 (n : Int)] w1 (PtD w1 base (L ++ M ++ low y n))) := hidden (fun w1 v1 M y n o1 hM b1 hy hn => putD w1 base v1 _ y n o1 (Nat.le_trans hb b1.size) hy hn (by rw [List.length_append]; omega))
    have h0z : ¬ (x : Int) = 0 := by omega
    generalize hah : ahd x = A at *
    generalize hbh : bhd x = Bh at *
    generalize hsi : siz x = Z at *
    clear hp h0
    go_enter Tryd.func61, Tryd.ntmps61
    go_wp2_with fail
    go_loopw [5] (fun v5 wx => w = wx ∧ ∃ a : Nat, v5 = .int .i64 (a : Int) ∧ a ≤ A) (fun v5 _ => A - (intOf v5).toNat)
    case atStart => exact ⟨rfl, 0, rfl, by omega⟩
    case round =>
      rename World => wx
      obtain ⟨rfl, a, rfl, ha⟩ := hrel
      have hf := HA.out a ha
      have hz : (63 : Int) - (a : Int) = ((63 - a : Nat) : Int) := by omega
      generalize h63 : 63 - a = q at *
      have hdv : (x : Int) / 2 ^ q = ((x / 2 ^ q : Nat) : Int) := div_cast x q
      have hq : q ≤ 63 := by omega
      by_cases hlt : a = A
      · subst hlt
        have hne : ¬ x / 2 ^ q = 0 := fun e => (hf.1 e) rfl
        have hne2 : ¬ (x : Int) / 2 ^ q = 0 := by rw [hdv]; omega
        clear hdv hne hf HA
        go_wp2_with fail
        clear hne2
        generalize ((x : Int) / 2 ^ q == 0) = bq at *
        go_loopw [6] (fun v6 wx => w = wx ∧ ∃ b : Nat, v6 = .int .i64 (b : Int) ∧ b ≤ Bh) (fun v6 _ => Bh - (intOf v6).toNat)
        case atStart => exact ⟨rfl, 0, rfl, by omega⟩
        case round =>
          rename World => wy
          obtain ⟨rfl, b, rfl, hbb⟩ := hrel
          have hf := HB.out b hbb
          have hdv : (x : Int) / 2 ^ b = ((x / 2 ^ b : Nat) : Int) := div_cast x b
          have hb63 : b ≤ 63 := by omega
          have hbit : bits BinOp.and IntKind.u64 ((x : Int) / 2 ^ b) 1 = ((x / 2 ^ b % 2 : Nat) : Int) := by
            have h := bits_and_u64_nat (x / 2 ^ b) 1 (by have := Nat.div_le_self x (2 ^ b); omega) (by omega)
            rw [show ((1 : Nat) : Int) = 1 from rfl, Nat.and_one_is_mod] at h
            rw [hdv]
            exact h
          clear hdv
          by_cases hlt : b = Bh
          · subst hlt
            have hne : ¬ ((x / 2 ^ b % 2 : Nat) : Int) = 0 := by have := mt hf.1 (fun h => h rfl); omega
            have hne' : ¬ bits BinOp.and IntKind.u64 ((x : Int) / 2 ^ b) 1 = 0 := by rw [hbit]; exact hne
            clear hbit hne hf HB
            have hz1 : (64 : Int) - (a : Int) - (b : Int) = (Z : Int) := by omega
            have hz2 : (Z : Int) - 1 = ((Z - 1 : Nat) : Int) := by omega
            go_wp2_with fail
            refine (PUT.out w v [] 1 1 (by simpa using HO.out) (by simp) (Below.refl _ _) (by omega) (by omega)).mono ?_
            rintro e w1 ⟨v1, rfl, o1, b1⟩
            have O1 : Hid (OW w1 base v1 (L ++ low 1 1)) := hidden (by simpa using o1)
            have B1 := hidden b1
            clear o1 b1 hne'
            go_wp2_with fail
            refine (PUT.out w1 v1 (low 1 1) a 6 O1.out (by simp [low_len]) B1.out (by omega) (by omega)).mono ?_
            rintro e w2 ⟨v2, rfl, o2, b2⟩
            have O2 : Hid (OW w2 base v2 (L ++ (low 1 1 ++ low a 6))) := hidden (by simpa using o2)
            have B2 := hidden (B1.out.trans b2)
            clear o2 b2
            go_wp2_with fail
            refine (PUT.out w2 v2 (low 1 1 ++ low a 6) (Z - 1) 6 O2.out (by simp [low_len]) B2.out (by omega) (by omega)).mono ?_
            rintro e w3 ⟨v3, rfl, o3, b3⟩
            have O3 : Hid (OW w3 base v3 (L ++ (low 1 1 ++ low a 6 ++ low (Z - 1) 6))) := hidden (by simpa using o3)
            have B3 := hidden (B2.out.trans b3)
            clear o3 b3
            go_wp2_with fail
            rw [div_cast x b]
            refine (PUT.out w3 v3 (low 1 1 ++ low a 6 ++ low (Z - 1) 6) (x / 2 ^ b) Z O3.out (by simp [low_len]) B3.out hdiv (by omega)).mono ?_
            rintro e w4 ⟨v4, rfl, o4, b4⟩
            have O4 : Hid (OW w4 base v4 (L ++ flB x)) := hidden (by rw [HE.out]; simpa using o4)
            have B4 := hidden (B3.out.trans b4)
            clear o4 b4
            go_wp2
            go_ret
            exact ⟨_, rfl, O4.out, B4.out⟩
          · have he : x / 2 ^ b % 2 = 0 := hf.2 hlt
            rw [he] at hbit
            have hb0 : bits BinOp.and IntKind.u64 ((x : Int) / 2 ^ b) 1 = 0 := hbit
            clear hbit
            go_wp2_with fail
            exact ⟨⟨by first | rfl | trivial, b + 1, by rw [Int.natCast_add]; rfl, by omega⟩, by simp [intOf]; omega⟩
      · have he : x / 2 ^ q = 0 := hf.2 hlt
        have he2 : (x : Int) / 2 ^ q = 0 := by rw [hdv, he]; rfl
        clear hdv he hf
        go_wp2_with fail
        exact ⟨⟨by first | rfl | trivial, a + 1, by rw [Int.natCast_add]; rfl, by omega⟩, by simp [intOf]; omega⟩

end Go.Proofs.YtcgjmioncbihhaaDoor

/-
  The document's own bits: the row of some samples.
-/
namespace Go.Proofs.YtcgjmioncbihhaaDoor
open Go.RowKit
set_option linter.unusedVariables false
set_option linter.unusedSimpArgs false

theorem tl_last {l : List Sm} {i : Nat} {y : Sm} (h : l[i]? = some y) : (tl (l.take (i + 1))).t = y.t ∧ (tl (l.take (i + 1))).v = y.v := by
  rw [← take_next h, tl_on]
  unfold onT
  split <;> exact ⟨rfl, rfl⟩
theorem tl_step {l : List Sm} {i : Nat} {x y : Sm} (h : l[i]? = some y) (hx : l[i + 1]? = some x) :
    rowB (l.take (i + 1 + 1)) = rowB (l.take (i + 1)) ++ drB (wr (wr (x.t - y.t) - (tl (l.take (i + 1))).st)) ++ flB (x.v ^^^ y.v) ∧ (tl (l.take (i + 1 + 1))).st = wr (x.t - y.t) := by
  obtain ⟨h1, h2⟩ := tl_last h
  have hl : (l.take (i + 1)).length = i + 1 := by
    have := (List.getElem?_eq_some_iff.1 h).1
    rw [List.length_take]
    omega
  rw [← take_next hx, rowB_on, tl_on]
  unfold onB onT
  rw [hl, if_neg (by omega), if_neg (by omega)]
  unfold Tr.drift Tr.flips Tr.next
  rw [h1, h2]
  exact ⟨by rw [List.append_assoc], rfl⟩
theorem OW.later {w w' : World} {base : Nat} {v : Value} {L : List Bool} (h : OW w base v L) (hb : Below w.heap.size w w') : OW w' base v L := ⟨h.1, owl h.2 hb⟩

/-- What a round of bits holds. -/
structure DI3 (w wx : World) (v : Value) (l : List Sm) (i : Nat) : Prop where
  ow : OW wx w.heap.size v (rowB (l.take i))
  bel : Below w.heap.size w wx

set_option maxRecDepth 100000 in
set_option maxHeartbeats 8000000 in
theorem bitsD (w : World) (ad : Option Addr) (n c : Nat) (l : List Sm) (h : Ss w ad l) (hn : l.length = n) (hn2 : n ≤ 1000000) :
    Calls Tryd.prog 45 #[.slice ad n c] w (PtD w w.heap.size (rowB l)) := by
  have HS := hidden h
  have HN := hidden hn
  have hblk : ∀ x, ad = some x → l ≠ [] → x.block < w.heap.size := by
    intro x hx hl
    obtain ⟨g, off, e, hg, _⟩ := h.at' hl
    rw [e] at hx; injection hx with hx; subst hx; exact hg
  have HB0 := hidden hblk
  have HRL := hidden (fun i => rowB_le (l := l.take i) (fun y hy => h.sz y (List.mem_of_mem_take hy)))
  have HOK := hidden h.sz
  clear h hn hblk
  go_enter Tryd.func45, Tryd.ntmps45
  go_wp2_with fail
  go_loopw [3, 4, 5, 6] (fun v3 v4 v5 v6 wx => ∃ (i : Nat) (v : Value), v5 = .int .i64 (i : Int) ∧ i ≤ n ∧ v = v3 ∧ v4 = .int .i64 (tl (l.take i)).st ∧ Hid (DI3 w wx v l i)) (fun _ _ v5 _ _ => n - (intOf v5).toNat)
  case atStart => exact ⟨0, _, rfl, by omega, rfl, rfl, hidden ⟨⟨⟨none, 0, rfl⟩, World.ownsRow_nil _ _ _ _⟩, Below.refl _ _⟩⟩
  case round =>
    rename World => wx
    obtain ⟨i, v3, rfl, hi, rfl, rfl, hD⟩ := hrel
    by_cases hlt : i < n
    · have hltz : (i : Int) < (n : Int) := by omega
      have hbs := hD.out.bel.size
      have hrl : (rowB (l.take i)).length ≤ 145 * 1000000 := by
        have := HRL.out i
        rw [List.length_take] at this
        omega
      obtain ⟨b0, o0, x, e0, hb0, hx, _, d0, d1, okx⟩ := (HS.out.bel hD.out.bel HB0.out).get (i := i) (by rw [HN.out]; exact hlt)
      subst e0
      have hbw : b0 < w.heap.size := HB0.out ⟨b0, o0, none⟩ rfl (fun e => by rw [e] at hx; simp at hx)
      by_cases hz : i = 0
      · subst hz
        have hu : IntKind.u64.wrap x.t = (un x.t : Int) := by rw [u64w]; unfold un; omega
        have hun := un_lt x.t
        have hxv := okx.v
        have hxt := okx.t
        unfold I64 at hxt
        have d0' : wx.cell? ⟨b0, o0, none⟩ = some (.int .i64 x.t) := by simpa using d0
        have d1' : wx.cell? ⟨b0, o0 + 1, none⟩ = some (.int .u64 (x.v : Int)) := by simpa using d1
        have HT1 : Hid (rowB (l.take 1) = low (un x.t) 64 ++ low x.v 64 ∧ (tl (l.take 1)).st = 0) := hidden (by rw [← take_next hx]; simp [rowB, moB, fiB, tl, trE, tr0])
        have HO0 : Hid (OW wx w.heap.size v3 []) := hidden (by have := hD.out.ow; simpa [rowB] using this)
        have P1 := hidden (putD wx w.heap.size v3 [] (un x.t) 64 HO0.out hbs hun (by omega) (by simp))
        clear d0 d1
        go_wp2_with fail
        refine P1.out.mono ?_
        rintro e w1 ⟨v1, rfl, o1, b1⟩
        have O1 := hidden o1
        have B1 := hidden (hD.out.bel.trans b1)
        have e1 : w1.cell? ⟨b0, o0 + 1, none⟩ = some (.int .u64 (x.v : Int)) := by rw [b1.cell (p := ⟨b0, o0 + 1, none⟩) hbw]; exact d1'
        clear o1 b1
        have P2 := hidden (putD w1 w.heap.size v1 _ x.v 64 O1.out B1.out.size hxv (by omega) (by simp [low_len]))
        go_wp2_with fail
        refine P2.out.mono ?_
        rintro e w2 ⟨v2, rfl, o2, b2⟩
        have D2 : Hid (DI3 w w2 v2 l 1) := hidden ⟨by rw [HT1.out.1]; simpa using o2, B1.out.trans b2⟩
        clear o2 b2
        go_wp2_with fail
        exact ⟨⟨0 + 1, v2, rfl, by omega, rfl, by rw [HT1.out.2]; rfl, D2⟩, by simp [intOf]; omega⟩
      · obtain ⟨j, rfl⟩ : ∃ j, i = j + 1 := ⟨i - 1, by omega⟩
        obtain ⟨b9, o9, y, e9, _, hy, _, f0, f1, oky⟩ := (HS.out.bel hD.out.bel HB0.out).get (i := j) (by rw [HN.out]; omega)
        injection e9 with e9
        injection e9 with e9 e10
        subst e9 e10
        have HST := hidden (tl_step hy hx)
        have hst : I64 (tl (l.take (j + 1))).st := (tl_ok (fun z hz => HOK.out z (List.mem_of_mem_take hz))).s
        have hxt := okx.t
        have hyt := oky.t
        have hxv := okx.v
        have hyv := oky.v
        have hxor := bits_xor_u64_nat x.v y.v hxv hyv
        have hW1 := i64w (x.t - y.t)
        generalize hst' : (tl (l.take (j + 1))).st = st at *
        have hW2 := i64w (wr (x.t - y.t) - st)
        have hdr : I64 (wr (wr (x.t - y.t) - st)) := wr_i64 _
        have hee : I64 (wr (x.t - y.t)) := wr_i64 _
        have hff : x.v ^^^ y.v < 18446744073709551616 := xor_lt hxv hyv
        generalize wr (wr (x.t - y.t) - st) = dr at *
        generalize wr (x.t - y.t) = ee at *
        generalize x.v ^^^ y.v = ff at *
        have hjz : ((j + 1 : Nat) : Int) - 1 = (j : Int) := by omega
        have hjne : ¬ ((j + 1 : Nat) : Int) = 0 := by omega
        have hjlt : (j : Int) < (n : Int) := by omega
        have hj1 : (j : Int) + 1 < (n : Int) := by omega
        have hj0 : (0 : Int) ≤ (j : Int) + 1 := by omega
        have hjn : j < n := by omega
        have hwj : IntKind.i64.wrap (j : Int) = (j : Int) := i64_id (by omega) (by omega)
        have P1 := hidden (fun wy (hb : Below wx.heap.size wx wy) => timeD wy w.heap.size v3 (rowB (l.take (j + 1))) dr (hD.out.ow.later hb) (Nat.le_trans hbs hb.size) hdr (by omega))
        have hdl := drB_len dr
        unfold I64 at hst hxt hyt hdr hee
        clear okx oky hx hy
        have P2 := hidden (fun wy v2 (ho : OW wy w.heap.size v2 (rowB (l.take (j + 1)) ++ drB dr)) (hb : w.heap.size ≤ wy.heap.size) => valueD wy w.heap.size v2 _ ff ho hb hff (by rw [List.length_append]; omega))
        go_wp2_with fail
        go_quiet (fail)
        go_wp2_with fail
        refine (P1.out _ (below_drewN (Below.refl _ _) _)).mono ?_
        rintro e w2 ⟨v2, rfl, o2, b2⟩
        have O2 := hidden o2
        have B2 : Hid (Below w.heap.size w w2) := hidden ((below_drewN hD.out.bel _).trans b2)
        have hjx : w2.cell? ⟨b0, o0 + (j + 1) * 2 + 1, none⟩ = some (.int .u64 (x.v : Int)) := by rw [(b2.cell (p := ⟨b0, o0 + (j + 1) * 2 + 1, none⟩) hbw)]; exact d1
        have hjy : w2.cell? ⟨b0, o0 + j * 2 + 1, none⟩ = some (.int .u64 (y.v : Int)) := by rw [(b2.cell (p := ⟨b0, o0 + j * 2 + 1, none⟩) hbw)]; exact f1
        clear o2 b2 d0 d1 f0 f1 P1 hD
        have PV := hidden (P2.out _ v2 (O2.out.later ((Below.refl _ _).drew)) (by have := B2.out.size; simpa using this))
        clear P2
        go_upto_region 11 with fail
        go_cut [3] from 45 to 58 (fun v3 wy => Hid (DI3 w wy v3 l (j + 1 + 1)))
        case first =>
          go_region_with (refine PV.out.mono ?_; rintro e w4 ⟨v4, rfl, o4, b4⟩)
          all_goals (have D4 : Hid (DI3 w w4 v4 l (j + 1 + 1)) := hidden ⟨by rw [HST.out.1]; exact o4, (B2.out.drew).trans b4⟩; clear o4 b4; go_wp2_with fail; go_meet; exact D4)
        case rest =>
          have D4 := hcut
          clear PV O2 hjx hjy
          go_wp2_with fail
          exact ⟨⟨j + 1 + 1, _, by rw [Int.natCast_add (j + 1)]; rfl, by omega, rfl, by rw [HST.out.2], D4⟩, by simp [intOf]; omega⟩
    · obtain rfl : i = n := by omega
      have hge : ¬ (i : Int) < (i : Int) := by omega
      have HLL : Hid (l.take i = l) := hidden (by rw [List.take_of_length_le (by rw [HN.out]; exact Nat.le_refl _)])
      have HOW := hidden hD.out.ow
      rw [HLL.out] at HOW
      go_wp2
      go_ret
      exact ⟨_, rfl, HOW.out, hD.out.bel⟩

end Go.Proofs.YtcgjmioncbihhaaDoor
