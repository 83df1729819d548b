/-
  Package chunk: Append.
-/
import Derived.Test.YtlppibigceeimaaDoorAnyB
namespace Go.Proofs.YtlppibigceeimaaDoor
open Go.RowKit
set_option linter.unusedVariables false
set_option linter.unusedSimpArgs false

/-- What Append leaves. -/
def APp (w w' : World) (c p : Nat) (rb : Option Nat) (most : Int) (n : Nat) (a : Tr) (L : List Bool) : Prop :=
  Blk w' c 114 (chC most n a p) ∧ ∃ rb', WS w' p rb' L ∧ Chg (fun i => fpt p rb i ∨ i = c) w w' ∧ Moved w rb rb'
def room (most : Int) (n : Nat) (L : List Bool) : Prop := ((Q.grp n + 1 + (L.length + 7) / 8 : Nat) : Int) ≤ most
instance (most : Int) (n : Nat) (L : List Bool) : Decidable (room most n L) := by unfold room; infer_instance
theorem flB_len {x : Nat} (hx : x < 18446744073709551616) : (flB x).length ≤ 77 := by
  unfold flB
  split
  · simp
  · have := span_lt hx (by omega)
    simp [low_len]
    omega
theorem onB_len {n : Nat} {a : Tr} {s : Sm} (ha : Ok a) (hs : OkS s) : (onB n a s).length ≤ 145 := by
  unfold onB
  split
  · simp [fiB, low_len]
  · have := drB_len (a.drift s)
    have := flB_len (ok_flips ha hs)
    simp
    omega

theorem chg_set (w : World) (c o : Nat) (u : Value) : Chg (fun i => i = c) w (w.setCell ⟨c, o, none⟩ u) :=
  ⟨rfl, rfl, rfl, by simp [World.setCell], fun i _ hne => heap_setCell_other w ⟨c, o, none⟩ i u (fun e => hne e)⟩
theorem count_x (w : World) (n : Nat) (hn : n ≤ 1000000) :
    Calls Tryd.prog 53 #[.int .i64 ((n : Int) + 1)] w fun e w' => ∃ ad c', e = .returned (.slice ad (Q.grp (n + 1) + 1) c') ∧ Below w.heap.size w w' := by
  have h := countP w (n + 1) (by omega)
  rw [show (((n + 1 : Nat) : Int)) = (n : Int) + 1 by omega] at h
  refine h.mono ?_
  rintro e w' ⟨rfl, _, hb⟩
  exact ⟨some ⟨w.heap.size, 0, none⟩, 0 + (Q.grp (n + 1) + 1), by rw [Nat.zero_add], hb⟩

set_option maxRecDepth 100000 in
set_option maxHeartbeats 8000000 in
theorem appendP (w : World) (c p : Nat) (rb : Option Nat) (most : Int) (n : Nat) (a : Tr) (L : List Bool) (s : Sm) (hB : Blk w c 114 (chC most n a p)) (h : WS w p rb L) (hG : Gv w) (ha : Ok a) (hs : OkS s) (hn : n ≤ 1000000) (hL : L.length ≤ 900000000) (hlo : 1 < p ∧ ∀ i, rb = some i → 1 < i) (hm : I64 most) :
    Calls Tryd.prog 44 #[.pointer (some ⟨c, 0, none⟩), .int .i64 s.t, .int .u64 (s.v : Int)] w fun e w' =>
      e = .returned (.bool (decide (room most (n + 1) (L ++ onB n a s)))) ∧ if room most (n + 1) (L ++ onB n a s) then APp w w' c p rb most (n + 1) (onT n a s) (L ++ onB n a s) else APp w w' c p rb most n a L := by
  have HB := hidden hB
  have HW := hidden h
  have HP := hidden (cputP w c p rb most n a L s hB h hG ha hs (by omega) hL hlo)
  have hol := onB_len (n := n) ha hs
  have hst := hs.t
  have hsv := hs.v
  unfold I64 at hst hm
  have c0 := hB.cell 0
  have c1 := hB.cell 1
  have c5 := hB.cell 5
  simp [chC] at c0 c1 c5
  unfold smV trV at HP
  generalize onB n a s = O at *
  generalize onT n a s = b at *
  clear hB h hG ha hs
  go_enter Tryd.func44, Tryd.ntmps44
  go_wp2_with fail
  refine (len_any p rb L w HW.out).mono ?_
  rintro e w1 ⟨rfl, rfl⟩
  go_wp2_with fail
  refine HP.out.mono ?_
  rintro e w2 ⟨rfl, h2⟩
  have BC2 := hidden (h2.blk HW.out HB.out (by decide) (by decide))
  have U2 := hidden h2
  clear h2
  go_wp2_with (first
    | (refine wpList_alloc_blk rfl 112 rfl 8 rfl tz3 info53 ?_; intro w3 B3 bl3 hz3; have HB3 := hidden B3; have BC3 := hidden (BC2.out.later bl3); have U3 := hidden (U2.out.later bl3); have hg3 := U2.out; clear B3 bl3 hz3)
    | (refine wpList_store_blk rfl 112 (.tmp 8) (.tmp 20) rfl rfl w2.heap.size (l := [.int .i64 b.t, .int .u64 (b.v : Int), .int .i64 b.st]) HB3.out rfl rfl rfl size53 (by intro v hv; simp at hv; rcases hv with rfl | rfl | rfl <;> rfl) ?_; have d1 := (Blk.setsOff [.int .i64 b.t, .int .u64 (b.v : Int), .int .i64 b.st] 0 w2.heap.size w3 _ BC3.out (by have := BC2.out.lt; omega)).cell 1; simp [chC] at d1))
  have hbc := BC2.out.lt
  have hsz2 : w1.heap.size ≤ w2.heap.size := by obtain ⟨_, _, hq, _⟩ := U2.out; exact hq.size
  have BC4 := hidden (Blk.setsOff [.int .i64 b.t, .int .u64 (b.v : Int), .int .i64 b.st] 0 w2.heap.size w3 _ BC3.out (by omega))
  have BE4 := hidden (blk_stored (l := [.int .i64 b.t, .int .u64 (b.v : Int), .int .i64 b.st]) HB3.out rfl)
  have U4 := hidden (U3.out.sets HB3.out (by decide) (by decide) hsz2 [.int .i64 b.t, .int .u64 (b.v : Int), .int .i64 b.st])
  generalize w3.setCells w2.heap.size 0 [.int .i64 b.t, .int .u64 (b.v : Int), .int .i64 b.st] = w4 at *
  generalize w2.heap.size = ge at *
  clear HB3 BC3 U3 hg3 BC2 U2 d1 HP
  have d0 := BC4.out.cell 0
  have d5 := BC4.out.cell 5
  simp [chC] at d0 d5
  obtain ⟨rb4, k1, k2, k3⟩ := U4.out
  have K1 := hidden k1
  have K2 := hidden k2
  have K3 := hidden k3
  clear k1 k2 k3
  have hgr := Q.grp_le (n + 1)
  have CO := hidden (fun wx => count_x wx n (by omega))
  have SZ := hidden (fun (wx : World) (hb : Below w4.heap.size w4 wx) => sizeP wx p rb4 (L ++ O) (K1.out.later hb) (by simp; omega))
  have hlen : ((L ++ O).length + 7) / 8 ≤ 1000000000 := by simp; omega
  unfold rwV at SZ
  obtain ⟨gk, hgkE⟩ : ∃ gk, Q.grp (n + 1) + 1 = gk := ⟨_, rfl⟩
  obtain ⟨sk, hskE⟩ : ∃ sk, ((L ++ O).length + 7) / 8 = sk := ⟨_, rfl⟩
  have hgk : gk ≤ 100 := by omega
  have HR : Hid (room most (n + 1) (L ++ O) ↔ (gk : Int) + (sk : Int) ≤ most) := hidden (by unfold room; omega)
  simp only [hgkE] at CO
  simp only [hskE] at SZ
  rw [hskE] at hlen
  clear hgkE hskE
  have hadd : IntKind.i64.wrap ((gk : Int) + (sk : Int)) = (gk : Int) + (sk : Int) := i64_id (by omega) (by omega)
  have C0 := hidden (fun (w1 : World) (hl : Lat w4 w1) => by have := (BC4.out.later hl).cell 0; simpa [chC] using this)
  have C5 := hidden (fun (w1 : World) (hl : Lat w4 w1) => by have := (BC4.out.later hl).cell 5; simpa [chC] using this)
  refine app_r4 c p n gk sk most w4 _ _ (by rfl) (by rfl) (by rfl) C0.out C5.out hadd CO.out SZ.out ?_
  intro v26 v27 v28 v29 v30 v31 v32 v33 v34 v35 v36 v37 v38 v39 w5 hL5 h39
  subst h39
  have BC5 := hidden (BC4.out.later hL5)
  have BE5 := hidden (BE4.out.later hL5)
  have K5 := hidden (K1.out.later hL5)
  have K2' := hidden (K2.out.trans (Chg.of_below (F := fun _ => False) hL5) (fun _ _ e => absurd e id))
  clear hL5 d0 d5 C0 C5 CO SZ c0 c1 c5 hadd hgr hlen hsz2 hbc
  simp only [Act.put, List.setIfInBounds_toArray, List.set_cons_succ, List.set_cons_zero]
  by_cases hr : (gk : Int) + (sk : Int) > most
  · have hr' : ¬ room most (n + 1) (L ++ O) := mt HR.out.1 (Int.not_le.2 hr)
    have HNR := hidden hr'
    clear hr'
    have e5 := BC5.out.cell 5
    simp [chC] at e5
    go_wp2_with fail
    refine (cut_any p rb4 (L ++ O) (L.length : Int) w5 K5.out (by simp; omega)).mono ?_
    rintro e w6 ⟨rfl, k6, ch6⟩
    have B6 := hidden (ch6.blk BC5.out (ws_ne K5.out BC5.out (by decide) (by decide)))
    have U6 := hidden (WU.more K2'.out K3.out ⟨rb4, k6, ch6, .inl rfl⟩)
    clear k6 ch6
    go_wp2
    go_ret
    refine ⟨by simp [HNR.out], ?_⟩
    have hfin : APp w1 w6 c p rb most n a L := by
      refine ⟨B6.out, ?_⟩
      obtain ⟨rb7, q1, q2, q3⟩ := U6.out
      rw [Int.toNat_natCast, List.take_left] at q1
      exact ⟨rb7, q1, q2.mono (fun i _ hi => .inl hi), q3⟩
    first | exact hfin | (rw [if_neg HNR.out]; exact hfin)
  · have hr' : room most (n + 1) (L ++ O) := HR.out.2 (Int.not_lt.1 hr)
    have HNR := hidden hr'
    clear hr'
    have e1 := BC5.out.cell 1
    have e2 := BC5.out.cell 2
    have e3 := BC5.out.cell 3
    have e4 := BC5.out.cell 4
    have f1 := BC5.out.frozen 1
    have f2 := BC5.out.frozen 2
    have f3 := BC5.out.frozen 3
    have f4 := BC5.out.frozen 4
    have g0 := BE5.out.cell 0
    have g1 := BE5.out.cell 1
    have g2 := BE5.out.cell 2
    simp [chC] at e1 e2 e3 e4 g0 g1 g2
    have hne : ¬ ge = c := fun e => by
      subst e
      have h1 := BC5.out.symm.trans BE5.out
      injection h1 with h1
      injection h1 with _ h2 _
      exact absurd h2 (by decide)
    have hne' : ¬ c = ge := fun e => hne e.symm
    go_wp2_with fail
    go_region
    have B9 := hidden ((((BC5.out.set 1 (.int .i64 ((n : Int) + 1))).set 2 (.int .i64 b.t)).set 3 (.int .u64 (b.v : Int))).set 4 (.int .i64 b.st))
    have C9 := hidden (((((chg_set w5 c 1 (.int .i64 ((n : Int) + 1))).trans (chg_set _ c 2 (.int .i64 b.t)) (fun _ _ e => e)).trans (chg_set _ c 3 (.int .u64 (b.v : Int))) (fun _ _ e => e)).trans (chg_set _ c 4 (.int .i64 b.st)) (fun _ _ e => e)))
    have K9 := hidden (K5.out.chg C9.out (fun i hi e => by subst e; exact ws_ne K5.out BC5.out (by decide) (by decide) hi))
    have Z9 := hidden ((K2'.out.mono (G := fun i => fpt p rb i ∨ i = c) (fun i _ hi => .inl hi)).trans C9.out (fun i _ hi => .inr hi))
    have hcell : chC most (n + 1) b p = ((((chC most n a p).set 1 (.int .i64 ((n : Int) + 1))).set 2 (.int .i64 b.t)).set 3 (.int .u64 (b.v : Int))).set 4 (.int .i64 b.st) := by simp [chC]
    have HCE := hidden hcell
    clear hcell e1 e2 e3 e4 f1 f2 f3 f4 g0 g1 g2
    go_wp2
    go_ret
    refine ⟨by simp [HNR.out], ?_⟩
    exact ⟨by rw [HCE.out]; exact B9.out, rb4, K9.out.chg (Chg.drew (fun _ => False) _) (fun _ _ e => e), Z9.out.trans (Chg.drew (fun _ => False) _) (fun _ _ e => absurd e id), K3.out⟩

end Go.Proofs.YtlppibigceeimaaDoor
