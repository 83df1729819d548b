/-
  LabelOrders: the walk.
-/
import Derived.Test.YtpdffdoogobhfaaDoorLwA
namespace Go.Proofs.YtpdffdoogobhfaaDoor
open Go.RowKit
set_option linter.unusedVariables false
set_option linter.unusedSimpArgs false

/-! ### purely -/
theorem get_own {l : List Lb} (h : right l = true) {x : Lb} (hx : x ∈ l) : getL l (bts x.n) = bts x.v := by
  have hp := ((right_iff l).1 h).2.2.2
  clear h
  induction l with
  | nil => cases hx
  | cons y t ih =>
    obtain ⟨h1, h2⟩ := List.pairwise_cons.1 hp
    rw [getL]
    rcases List.mem_cons.1 hx with rfl | hx
    · rw [if_pos rfl]
    · have hy := h1 x hx
      rw [if_neg (fun e => by rw [ltN, e, lss_irr] at hy; cases hy)]
      exact ih hx h2
/-- A list turned by t. -/
def rot (l : List Lb) (t : Nat) : List Lb := l.drop t ++ l.take t
theorem rot_perm (l : List Lb) (t : Nat) : (rot l t).Perm l := by
  unfold rot
  exact List.perm_append_comm.trans (by rw [List.take_append_drop])
theorem rot_len (l : List Lb) (t : Nat) : (rot l t).length = l.length := (rot_perm l t).length_eq
theorem rot_get {l : List Lb} {t i : Nat} (ht : t < l.length) (hi : i < l.length) : (rot l t)[i]? = l[(i + t) % l.length]? := by
  unfold rot
  by_cases h : i + t < l.length
  · rw [Nat.mod_eq_of_lt h, List.getElem?_append_left (by rw [List.length_drop]; omega), List.getElem?_drop]
    congr 1; omega
  · have e : (i + t) % l.length = i + t - l.length := by
      rw [Nat.mod_eq_sub_mod (by omega), Nat.mod_eq_of_lt (by omega)]
    rw [e, List.getElem?_append_right (by rw [List.length_drop]; omega), List.length_drop, List.getElem?_take]
    rw [if_pos (by omega)]
    congr 1; omega
theorem take_snoc {l : List Lb} {i : Nat} {x : Lb} (h : l[i]? = some x) : l.take (i + 1) = l.take i ++ [x] := by
  rw [List.take_add_one, h]; rfl
theorem sortOk_right {l : List Lb} (h : right l = true) : sortOk l = true ∧ srt l = l := by
  have := srt_of_right h
  obtain ⟨_, h2, _⟩ := (right_iff l).1 h
  exact ⟨by rw [sortOk, this, h, decide_eq_true h2]; rfl, this⟩
theorem sortOk_rot {l : List Lb} (h : right l = true) (t : Nat) : sortOk (rot l t) = true ∧ srt (rot l t) = l := by
  have hs : srt (rot l t) = l := by
    have := (srt_any (l := rot l t) (m := l) (rot_perm l t).symm (right_srt h)).2 h
    exact this.symm
  obtain ⟨_, h2, _⟩ := (right_iff l).1 h
  exact ⟨by rw [sortOk, hs, h, rot_len, decide_eq_true h2]; rfl, hs⟩

/-- A list as it came in. -/
structure Ar (w : World) (ad : Option Addr) (c : Nat) (l : List Lb) : Prop where
  ls : Ls w ad l
  no : ad = none → l = [] ∧ c = 0
  len : l.length * 32 ≤ 140737488351232
  cap : l.length ≤ c
theorem Ar.later {w w' : World} {ad : Option Addr} {c : Nat} {l : List Lb} (h : Ar w ad c l) (hb : Below w.heap.size w w') : Ar w' ad c l := ⟨h.ls.later hb, h.no, h.len, h.cap⟩
theorem Ar.cmp {w : World} {ad bd : Option Addr} {c d : Nat} {l m : List Lb} (h : Ar w ad c l) (k : Ar w bd d m) : Calls Tryd.prog 18 #[.slice ad l.length c, .slice bd m.length d] w fun e w' => e = .returned (.int .i64 (cmpL l m)) ∧ Below w.heap.size w w' :=
  cmpP ad bd c d l m w h.ls k.ls (by have := h.len; omega) (by have := k.len; omega)
theorem Ar.same {w : World} {ad bd : Option Addr} {c d : Nat} {l m : List Lb} (h : Ar w ad c l) (k : Ar w bd d m) : Calls Tryd.prog 12 #[.slice ad l.length c, .slice bd m.length d] w fun e w' => e = .returned (.bool (decide (l = m))) ∧ Below w.heap.size w w' :=
  sameP ad bd c d l m w h.ls k.ls (by have := h.len; omega) (by have := k.len; omega)
/-- A row that a call owns, as a list. -/
theorem Ar.of {w : World} {b : Nat} {ad : Option Addr} {n c : Nat} {l : List Lb} (h : w.ownsRow b 35 2 (.slice ad n c) n (cL l)) (hz : Szs l) (h8 : l.length ≤ 12) : Ar w ad c l := by
  have hl := owns_len h
  obtain ⟨a', c', e, h1, h2, h3, _⟩ := owns_formL h
  injection e with e1 e2 e3
  subst e1; subst e3
  exact ⟨ls_of_owns h hz, fun e => ⟨List.eq_nil_of_length_eq_zero (by rw [hl]; exact (h1 e).1), (h1 e).2⟩, by omega, by rw [hl]; exact h3⟩

set_option maxRecDepth 100000 in
set_option maxHeartbeats 8000000 in
theorem orders_walk (a1 a2 a3 : Option Addr) (c1 c2 c3 : Nat) (l m k : List Lb) (tn : Int) (w : World) (h1 : Ar w a1 c1 l) (h2 : Ar w a2 c2 m) (h3 : Ar w a3 c3 k) (ht0 : -9223372036854775808 ≤ tn) (ht1 : tn ≤ 9223372036854775807) (hT : Tb w.heap.size w) :
    Calls Tryd.prog 6 #[.slice a1 l.length c1, .slice a2 m.length c2, .slice a3 k.length c3, .int .i64 tn] w fun e w' => e = .returned (.bool true) ∧ Below w.heap.size w w' := by
  have kS := shownP w.heap.size w hT
  have H1 := hidden h1
  have H2 := hidden h2
  have H3 := hidden h3
  have HT := hidden hT
  have HX : ∀ w1 w2 : World, Below w.heap.size w w1 → Below w1.heap.size w1 w2 → Below w.heap.size w w2 := fun w1 w2 h k => h.trans (k.mono h.size)
  obtain ⟨q, hq⟩ : ∃ q, cmpL l m = q := ⟨_, rfl⟩
  have hq3 := cmpL_range l m
  have hqz : decide (q = 0) = decide (l = m) := by rw [← hq]; exact decide_eq_decide.2 cmpL_zero
  have hqn : cmpL m l = -q := by rw [cmpL_neg l m, hq]
  rw [hq] at hq3
  have hqt : Hid (q ≤ 0 → cmpL m k ≤ 0 → cmpL l k ≤ 0) := hidden (fun h k' => by have := cmpL_trans (a := l) (b := m) (c := k) (by rw [hq]; exact h) k'; omega)
  have K1 : ∀ w1, Below w.heap.size w w1 → Calls Tryd.prog 18 #[.slice a1 l.length c1, .slice a2 m.length c2] w1 fun e w' => e = .returned (.int .i64 q) ∧ Below w1.heap.size w1 w' := fun w1 h => by have := (H1.out.later h).cmp (H2.out.later h); rw [hq] at this; exact this
  have K2 : ∀ w1, Below w.heap.size w w1 → Calls Tryd.prog 18 #[.slice a2 m.length c2, .slice a1 l.length c1] w1 fun e w' => e = .returned (.int .i64 (-q)) ∧ Below w1.heap.size w1 w' := fun w1 h => by have := (H2.out.later h).cmp (H1.out.later h); rw [hqn] at this; exact this
  have KS : ∀ w1, Below w.heap.size w w1 → Calls Tryd.prog 12 #[.slice a1 l.length c1, .slice a2 m.length c2] w1 fun e w' => e = .returned (.bool (decide (q = 0))) ∧ Below w1.heap.size w1 w' := fun w1 h => by have := (H1.out.later h).same (H2.out.later h); rw [← hqz] at this; exact this
  obtain ⟨n1, hn1⟩ : ∃ n1, l.length = n1 := ⟨_, rfl⟩
  obtain ⟨n2, hn2⟩ : ∃ n2, m.length = n2 := ⟨_, rfl⟩
  obtain ⟨n3, hn3⟩ : ∃ n3, k.length = n3 := ⟨_, rfl⟩
  rw [hn1, hn2] at K1 K2 KS
  rw [hn1, hn2, hn3]
  have HN1 := hidden hn1
  have HN2 := hidden hn2
  have HN3 := hidden hn3
  clear hq hqz hqn h1 h2 h3 hT hn1 hn2 hn3
  go_enter Tryd.func6, Tryd.ntmps6
  go_upto_region 4 with (first
    | (go_at_call 7; refine kS.mono ?_; intro e w1 hX; obtain ⟨hv, B1⟩ := hX; subst hv; have k1 := K1 w1 B1; clear kS)
    | (go_at_call 18; refine k1.mono ?_; intro e w2 hX; obtain ⟨hv, hb2⟩ := hX; subst hv; have B2 := HX _ _ B1 hb2; have k2 := KS w2 B2; clear k1 K1)
    | (go_at_call 12; refine k2.mono ?_; intro e w3 hX; obtain ⟨hv, hb3⟩ := hX; subst hv; have B3 := HX _ _ B2 hb3; clear k2 KS))
  have BH3 := hidden B3
  clear B1 hb2 B2 hb3 B3
  have k3 := K2 w3 BH3.out
  clear K2
  go_cut [49] from 26 to 49 (fun s wx => s = .bool false ∧ Below w.heap.size w wx)
  case first =>
    rcases hq3 with hq1 | hq1 | hq1 <;> subst hq1
    all_goals
      go_wp2_with (go_at_call 18; refine k3.mono ?_; intro e w4 hX; obtain ⟨hv, hb4⟩ := hX; subst hv; clear k3)
      go_meet
      exact ⟨rfl, HX _ _ BH3.out hb4⟩
  case rest =>
    obtain ⟨rfl, hb4⟩ := hcut
    rename World => w4
    have BH4 := hidden hb4
    clear hb4 k3
    have K3 : ∀ w1, Below w.heap.size w w1 → Calls Tryd.prog 18 #[.slice a2 n2 c2, .slice a3 n3 c3] w1 fun e w' => e = .returned (.int .i64 (cmpL m k)) ∧ Below w1.heap.size w1 w' := fun w1 h => by have := (H2.out.later h).cmp (H3.out.later h); rw [HN2.out, HN3.out] at this; exact this
    have K4 : ∀ w1, Below w.heap.size w w1 → Calls Tryd.prog 18 #[.slice a1 n1 c1, .slice a3 n3 c3] w1 fun e w' => e = .returned (.int .i64 (cmpL l k)) ∧ Below w1.heap.size w1 w' := fun w1 h => by have := (H1.out.later h).cmp (H3.out.later h); rw [HN1.out, HN3.out] at this; exact this
    obtain ⟨p, hp⟩ : ∃ p, cmpL m k = p := ⟨_, rfl⟩
    obtain ⟨r, hr⟩ : ∃ r, cmpL l k = r := ⟨_, rfl⟩
    rw [hp] at K3 hqt
    rw [hr] at K4 hqt
    clear hp hr
    go_upto_region 6 with fail
    go_cut [63] from 50 to 63 (fun s wx => s = .bool false ∧ Below w.heap.size w wx)
    case first =>
      have k5 := K3 w4 BH4.out
      by_cases hq0 : q ≤ 0
      · by_cases hp0 : p ≤ 0
        · have hr0 : ¬ 0 < r := by have := hqt.out hq0 hp0; omega
          have hr1 : decide (0 < r) = false := decide_eq_false hr0
          have hq1 : decide (q ≤ 0) = true := decide_eq_true hq0
          have hp1 : decide (p ≤ 0) = true := decide_eq_true hp0
          go_wp2_with (first
            | (go_at_call 18; refine k5.mono ?_; intro e w5 hX; obtain ⟨hv, hb5⟩ := hX; subst hv; have B5 := HX _ _ BH4.out hb5; have k6 := K4 w5 B5; clear k5)
            | (go_at_call 18; refine k6.mono ?_; intro e w6 hX; obtain ⟨hv, hb6⟩ := hX; subst hv; have B6 := HX _ _ B5 hb6; clear k6))
          go_meet
          exact ⟨rfl, B6⟩
        · have hq1 : decide (q ≤ 0) = true := decide_eq_true hq0
          have hp1 : decide (p ≤ 0) = false := decide_eq_false hp0
          go_wp2_with (go_at_call 18; refine k5.mono ?_; intro e w5 hX; obtain ⟨hv, hb5⟩ := hX; subst hv; have B5 := HX _ _ BH4.out hb5; clear k5)
          go_meet
          exact ⟨rfl, B5⟩
      · have hq1 : decide (q ≤ 0) = false := decide_eq_false hq0
        go_wp2_with fail
        go_meet
        exact ⟨rfl, BH4.out⟩
    case rest =>
      obtain ⟨rfl, hb5⟩ := hcut
      rename World => w5
      have BH5 := hidden hb5
      clear hb5 K3 K4 hqt
      have A5 := H1.out.later BH5.out
      have kO := sort_ok w.heap.size a1 c1 l w5 A5.ls A5.no (by have := A5.len; omega) (HT.out.later BH5.out)
      rw [HN1.out] at kO
      have HA5 := hidden A5
      clear A5
      cases hso : sortOk l with
      | false =>
        rw [hso] at kO
        have hrl : right l = false := by
          cases h : right l
          · rfl
          · rw [(sortOk_right h).1] at hso; cases hso
        have KR : ∀ w1, Below w5.heap.size w5 w1 → Calls Tryd.prog 14 #[.slice a1 n1 c1] w1 fun e w' => e = .returned (.int .i64 70) ∧ Below w1.heap.size w1 w' := fun w1 h => by have := rightP w.heap.size a1 c1 l w1 (HA5.out.later h).ls (by have := HA5.out.len; omega) ((HT.out.later BH5.out).later h); rw [hrl, HN1.out] at this; exact this
        clear hso hrl
        go_wp2_with (first
          | (go_at_call 9; refine kO.mono ?_; intro e w6 hX; obtain ⟨a6, c6, hv, ho6, hb6⟩ := hX; subst hv; have k7 := KR w6 hb6; clear kO)
          | (go_at_call 14; refine k7.mono ?_; intro e w7 hX; obtain ⟨hv, hb7⟩ := hX; subst hv; clear k7))
        go_ret
        exact ⟨rfl, HX _ _ (HX _ _ BH5.out hb6) hb7⟩
      | true =>
        rw [hso] at kO
        have hrs : right (srt l) = true := by
          rw [sortOk] at hso; cases h : right (srt l)
          · rw [h] at hso; simp at hso
          · rfl
        have hsl : (srt l).length = n1 := by rw [(srt_perm l).length_eq, HN1.out]
        have hzs : Szs (srt l) := Szs.perm HA5.out.ls.sz (srt_perm l)
        have hn8 := (right_iff _).1 hrs
        obtain ⟨S, hS⟩ : ∃ S, srt l = S := ⟨_, rfl⟩
        rw [hS] at kO hrs hsl hzs hn8
        have hn1 : 1 ≤ n1 := by rw [← hsl]; exact hn8.1
        have hn9 : n1 ≤ 8 := by rw [← hsl]; exact hn8.2.1
        have HRS := hidden hrs
        have HSL := hidden hsl
        have HZS := hidden hzs
        have kO' : Calls Tryd.prog 9 #[.slice a1 n1 c1] w5 fun e w' => ∃ a' c', e = .returned (.tuple #[.slice a' n1 c', .int .i64 0]) ∧ w'.ownsRow w5.heap.size 35 2 (.slice a' n1 c') n1 (cL S) ∧ Below w5.heap.size w5 w' := kO
        clear hso hS hrs hsl hzs hn8 kO
        go_upto_if 75 with (go_at_call 9; refine kO'.mono ?_; intro e w6 hX; obtain ⟨a6, c6, hv, ho6, hb6⟩ := hX; subst hv; clear kO')
        have HO6 := hidden ho6
        have BH6 := hidden (HX _ _ BH5.out hb6)
        clear ho6 hb6
        generalize hbo : decide (tn < 0) = bo
        have HBO := hidden hbo
        clear hbo
        go_cut [3] from 76 to 78 (fun s wx => ∃ t : Nat, s = .int .i64 (t : Int) ∧ t ≤ 9223372036854775807 ∧ wx = w6)
        case first =>
          cases bo with
          | true =>
            have hneg := of_decide_eq_true HBO.out
            have w1' : IntKind.i64.wrap (tn + 1) = tn + 1 := by simp [IntKind.wrap, IntKind.bits, IntKind.signed]; omega
            have w2' : IntKind.i64.wrap (-(tn + 1)) = -(tn + 1) := by simp [IntKind.wrap, IntKind.bits, IntKind.signed]; omega
            go_wp2_with fail
            go_meet
            exact ⟨(-(tn + 1)).toNat, by rw [Int.toNat_of_nonneg (by omega)], by omega, rfl⟩
          | false =>
            have hneg := of_decide_eq_false HBO.out
            go_wp2_with fail
            go_meet
            exact ⟨tn.toNat, by rw [Int.toNat_of_nonneg (by omega)], by omega, rfl⟩
        case rest =>
          obtain ⟨t, rfl, htl, hwc⟩ := hcut
          obtain rfl := hwc.symm
          clear hwc
          obtain ⟨z, hz⟩ : ∃ z, t % n1 = z := ⟨_, rfl⟩
          have hzl : z < n1 := by rw [← hz]; exact Nat.mod_lt _ (by omega)
          have HA6 : Hid (Ar w6 a6 c6 S) := hidden (Ar.of HO6.out HZS.out (by rw [HSL.out]; omega))
          have HTM : ∀ w1, Below w.heap.size w w1 → Tb w.heap.size w1 := fun w1 h => HT.out.later h
          go_wp2_with fail
          go_loopw [14, 15] (fun sv s0 wx => ∃ (i : Nat) (a' : Option Addr) (c' : Nat), s0 = .int .i64 (i : Int) ∧ sv = .slice a' i c' ∧ i ≤ n1 ∧ Hid (wx.ownsRow w6.heap.size 35 2 (.slice a' i c') i (cL ((rot S z).take i))) ∧ Hid (Below w6.heap.size w6 wx)) (fun _ s0 _ => n1 - (intOf s0).toNat)
          case atStart => exact ⟨0, none, 0, rfl, rfl, by omega, hidden (World.ownsRow_nil _ _ _ _), hidden (Below.refl _ _)⟩
          case round =>
            rename World => wr
            obtain ⟨i, a', c', rfl, rfl, hi, ho, hbel⟩ := hrel
            have hAr := HA6.out.later hbel.out
            by_cases hlt : i < n1
            · have hltz : (i : Int) < (n1 : Int) := by omega
              obtain ⟨b, off, x, ha6, hb, hx, hx', g0, g1, y0, y1⟩ := hAr.ls.get (i := i) (by rw [HSL.out]; exact hlt)
              subst ha6
              have hcall : ∀ w1, Lat wr w1 → Calls Tryd.prog 16 #[.slice (some ⟨b, off, none⟩) n1 c6, .string x.n] w1 fun e w' => e = .returned (.string x.v) ∧ Below w1.heap.size w1 w' := by
                intro w1 h1
                have := getP (some ⟨b, off, none⟩) c6 S x.n w1 (hAr.later h1).ls (by rw [HSL.out]; omega)
                rw [HSL.out] at this
                refine Calls.mono this ?_
                rintro e w' ⟨r, rfl, h2, h3⟩
                refine ⟨?_, h3⟩
                rw [get_own HRS.out (by rw [← hx']; simp)] at h2
                rw [bts_inj h2]
              go_upto_region 17 with fail
              refine orders_r17 b off n1 c6 i x.n x.v wr _ _ (by rfl) (by rfl) (by rfl) hltz hlt (fun w1 hl => (hl.cell (p := ⟨b, off + i * 2, none⟩) hb).trans g0) (fun w1 hl => (hl.cell (p := ⟨b, off + i * 2 + 1, none⟩) hb).trans g1) hcall ?_
              intro v85 v86 v87 v88 v89 v90 v91 v92 v93 v94 v95 v96 w7 hl7
              simp only [Act.put, List.setIfInBounds_toArray, List.set_cons_succ, List.set_cons_zero]
              have B7 := hbel.out.trans (hl7.mono hbel.out.size)
              have ho7 := owl ho.out hl7
              obtain ⟨j, hj⟩ : ∃ j, (i + z) % n1 = j := ⟨_, rfl⟩
              have hjl : j < n1 := by rw [← hj]; exact Nat.mod_lt _ (by omega)
              have hjz : (j : Int) < (n1 : Int) := by omega
              obtain ⟨b2, off2, y, e2, hb2, hy, hy', p0, p1, _, _⟩ := (hAr.later hl7).ls.get (i := j) (by rw [HSL.out]; exact hjl)
              obtain ⟨rfl, rfl⟩ : b = b2 ∧ off = off2 := by injection e2 with e2; injection e2 with e3 e4; exact ⟨e3, e4⟩
              have hrot : Hid ((rot S z)[i]? = some y) := hidden (by rw [rot_get (by rw [HSL.out]; exact hzl) (by rw [HSL.out]; exact hlt), HSL.out, hj]; exact hy)
              have m1 : Int.tmod (t : Int) (n1 : Int) = (z : Int) := by rw [← hz]; exact (Int.ofNat_tmod t n1).symm
              have m2 : Int.tmod ((i : Int) + (z : Int)) (n1 : Int) = (j : Int) := by rw [← hj, show (i : Int) + (z : Int) = ((i + z : Nat) : Int) by simp]; exact (Int.ofNat_tmod (i + z) n1).symm
              have m3 : ((n1 : Int) == 0) = false := by simp; omega
              have m4 : ¬ (n1 : Int) = 0 := by omega
              have HO7 := hidden ho7
              have HB7 := hidden B7
              have hs7 := hidden B7.size
              obtain ⟨i0, hi0, hz0, hz1, hz2⟩ := info_parts info35
              have cellN : Hid (∀ (w8 : World) jj u, [Value.string y.n, Value.string y.v][jj]? = some u → (w8.alloc (.cells #[.string y.n, .string y.v] 35)).cell? ((⟨w8.heap.size, 0, none⟩ : Addr).add jj) = some u) := hidden (fun w8 jj u hu => by
                rw [Addr.add_lit, Nat.zero_add]
                have := (Blk.new w8 35 [.string y.n, .string y.v]).cell jj
                rw [hu] at this
                exact this)
              clear hl7 ho7 B7 hcall g0 g1 hx hx' hj hy hy' e2
              go_wp2_with (refine wpList_push2 _ rfl (.tmp 98) (.tmp 111) 22 rfl 35 i0 (.agg #[.string ⟨#[]⟩, .string ⟨#[]⟩]) 32 Tryd.underlying22 hi0 hz0 hz1 hz2 rfl w6.heap.size (.slice a' i c') i (cL ((rot S z).take i)) rfl (HO7.out.alloc _) ⟨w7.heap.size, 0, none⟩ [.string y.n, .string y.v] rfl rfl (cellN.out w7) (by intro u hu; simp at hu; rcases hu with rfl | rfl <;> rfl) (by unfold maxLen; omega) (by omega) (by have := hs7.out; simp; omega) ?_; intro g8 c8 w8 ho8 hp8)
              have hc8 := (Pushed.chg (w := w7) hp8).1
              refine ⟨⟨i + 1, some ⟨g8, 0, none⟩, c8, by first | rfl | simp, by first | rfl | simp, by omega, hidden ?_, hidden ?_⟩, ?_⟩
              · rw [take_snoc hrot.out, cL_append]
                exact ho8
              · exact HB7.out.trans (hc8.below hs7.out (fun k e => (HO7.out.lt k e).1))
              · simp [intOf]
                omega
            · have hltz : ¬ (i : Int) < (n1 : Int) := by omega
              have hin : i = n1 := by omega
              subst hin
              have hrl := rot_len S z
              rw [HSL.out] at hrl
              have ho' : wr.ownsRow w6.heap.size 35 2 (.slice a' i c') i (cL (rot S z)) := by have := ho.out; rw [List.take_of_length_le (by rw [hrl]; exact Nat.le_refl _)] at this; exact this
              have hzr : Szs (rot S z) := Szs.perm HZS.out (rot_perm S z)
              have hA9 := Ar.of ho' hzr (by rw [hrl]; omega)
              have BR := HX _ _ BH6.out hbel.out
              have kR := sort_ok w.heap.size a' c' (rot S z) wr hA9.ls hA9.no (by rw [hrl]; omega) (HTM wr BR)
              rw [(sortOk_rot HRS.out z).1, (sortOk_rot HRS.out z).2, hrl] at kR
              have kR' : Calls Tryd.prog 9 #[.slice a' i c'] wr fun e w' => ∃ a9 c9, e = .returned (.tuple #[.slice a9 i c9, .int .i64 0]) ∧ w'.ownsRow wr.heap.size 35 2 (.slice a9 i c9) i (cL S) ∧ Below wr.heap.size wr w' := kR
              have KS : ∀ w1 a9 c9, Below wr.heap.size wr w1 → w1.ownsRow wr.heap.size 35 2 (.slice a9 i c9) i (cL S) → Calls Tryd.prog 12 #[.slice a6 i c6, .slice a9 i c9] w1 fun e w' => e = .returned (.bool true) ∧ Below w1.heap.size w1 w' := by
                intro w1 a9 c9 h1 h2
                have := (hAr.later h1).same (Ar.of h2 HZS.out (by rw [HSL.out]; omega))
                rw [HSL.out, decide_eq_true rfl] at this
                exact this
              have KR : ∀ w1, Below wr.heap.size wr w1 → Calls Tryd.prog 14 #[.slice a6 i c6] w1 fun e w' => e = .returned (.int .i64 0) ∧ Below w1.heap.size w1 w' := by
                intro w1 h1
                have := rightP w.heap.size a6 c6 S w1 (hAr.later h1).ls (by rw [HSL.out]; omega) (HTM w1 (HX _ _ BR h1))
                rw [HRS.out, HSL.out] at this
                exact this
              have HBR := hidden BR
              clear ho' hzr hA9 BR kR hAr hrl
              go_wp2_with (first
                | (go_at_call 9; refine kR'.mono ?_; intro e w7 hX; obtain ⟨a9, c9, hv, ho7, hb7⟩ := hX; subst hv; have k8 := KS w7 a9 c9 hb7 ho7; clear kR')
                | (go_at_call 12; refine k8.mono ?_; intro e w8 hX; obtain ⟨hv, hb8⟩ := hX; subst hv; have hb78 := hb7.trans (hb8.mono hb7.size); have k9 := KR w8 hb78; clear k8)
                | (go_at_call 14; refine k9.mono ?_; intro e w9 hX; obtain ⟨hv, hb9⟩ := hX; subst hv; have hb79 := hb78.trans (hb9.mono hb78.size); clear k9))
              go_ret
              exact ⟨by simp, HX _ _ HBR.out hb79⟩

end Go.Proofs.YtpdffdoogobhfaaDoor
