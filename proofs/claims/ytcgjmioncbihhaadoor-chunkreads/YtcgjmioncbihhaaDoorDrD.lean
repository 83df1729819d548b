import Derived.Test.YtcgjmioncbihhaaDoorDrC
import Derived.Deep.CutBlock
/-
  The document's own reader: d.
-/
namespace Go.Proofs.YtcgjmioncbihhaaDoor
open Go.RowKit
set_option linter.unusedVariables false
set_option linter.unusedSimpArgs false

def wdK (k : Nat) : Nat := if k = 0 then 7 else if k = 1 then 9 else if k = 2 then 12 else 64
theorem rdW_inv {w s : Nat} {B c : List Bool} {d : Int} (h : rdW w s B = some (d, c)) : w ≤ B.length ∧ sg (tkV w B) w = d ∧ B.drop w = c := by
  unfold rdW at h
  split at h
  · rename_i hl
    split at h
    · cases h
    · injection h with h
      injection h with h1 h2
      exact ⟨hl, by unfold tkV; rw [if_pos hl]; exact h1, h2⟩
  · cases h
/-- Behind kk + 1 ones. -/
theorem rdD_ones {B Bk cc : List Bool} {kk : Nat} {d0 : Int} (hk : kk < 4) (hB : B = List.replicate (kk + 1) true ++ (if kk = 3 then Bk else false :: Bk)) (h : rdD B = some (d0, cc)) : wdK kk ≤ Bk.length ∧ sg (tkV (wdK kk) Bk) (wdK kk) = d0 ∧ Bk.drop (wdK kk) = cc := by
  subst hB
  rcases (show kk = 0 ∨ kk = 1 ∨ kk = 2 ∨ kk = 3 by omega) with rfl | rfl | rfl | rfl
  · exact rdW_inv (s := 0) h
  · exact rdW_inv (s := 7) h
  · exact rdW_inv (s := 9) h
  · exact rdW_inv (s := 12) h

set_option maxRecDepth 100000 in
set_option maxHeartbeats 8000000 in
theorem dD (w : World) (r c : Nat) (ad : Option Addr) (l : List Int) (B : List Bool) (bad : Bool) (h : YS w r ad c l B bad) :
    Calls Tryd.prog 29 #[.pointer (some ⟨r, 0, none⟩)] w fun e w' => ∃ d : Int, e = .returned (.int .i64 d) ∧ I64 d ∧ XdP rdD w r c ad l B bad d w' := by
  have HY := hidden h
  have hrl : r < w.heap.size := by obtain ⟨t, _, hB, _⟩ := h.blk; exact hB.lt
  have G1 : Hid (∀ w1 B1 b1, YS w1 r ad c l B1 b1 → Calls Tryd.prog 28 #[.pointer (some ⟨r, 0, none⟩), .int .i64 1] w1 fun e w' => e = .returned (.int .u64 (tkV 1 B1 : Int)) ∧ (∃ B' bad', YS w' r ad c l B' bad' ∧ (1 ≤ B1.length → B' = B1.drop 1 ∧ bad' = b1) ∧ (¬ 1 ≤ B1.length → bad' = true)) ∧ Chg (fun i => i = r) w1 w') := hidden (fun w1 B1 b1 h1 => getD w1 r c 1 ad l B1 b1 h1 (by omega))
  clear h
  obtain ⟨gn, hgn⟩ : ∃ gn, w.heap.size = gn := ⟨_, rfl⟩
  obtain ⟨w1, hw1⟩ : ∃ w1, w.alloc (.cells #[.int .i64 7, .int .i64 9, .int .i64 12, .int .i64 64] 3) = w1 := ⟨_, rfl⟩
  have hb1 : Below w.heap.size w w1 := by rw [← hw1]; exact (Below.refl _ _).alloc (Nat.le_refl _) _
  have HN1 : Hid (Blk w1 gn 3 [.int .i64 7, .int .i64 9, .int .i64 12, .int .i64 64]) := hidden (by rw [← hw1, ← hgn]; exact Blk.new w 3 _)
  have Y1 := hidden (HY.out.later hb1)
  have C1 := hidden (Chg.of_below (F := fun i => i = r) hb1)
  go_enter Tryd.func29, Tryd.ntmps29
  go_upto_block 0 with (first | simp only [hw1, hgn] | fail)
  go_cut [4, 5] from 7 to 14 (fun v4 v5 wx => ∃ (k : Nat) (Bk : List Bool) (bk : Bool), k ≤ 4 ∧ v4 = .int .i64 (k : Int) ∧ Hid (YS wx r ad c l Bk bk) ∧ Hid (Chg (fun i => i = r) w1 wx) ∧ Hid (∀ d0 cc, rdD B = some (d0, cc) → bk = bad ∧ B = List.replicate k true ++ (if k = 4 then Bk else false :: Bk)))
  case first =>
    go_wp2_with fail
    go_loopw [4, 5] (fun v4 v5 wx => ∃ (k : Nat) (Bk : List Bool) (bk : Bool), k ≤ 4 ∧ v4 = .int .i64 (k : Int) ∧ Hid (YS wx r ad c l Bk bk) ∧ Hid (Chg (fun i => i = r) w1 wx) ∧ Hid (∀ d0 cc, rdD B = some (d0, cc) → bk = bad ∧ B = List.replicate k true ++ Bk)) (fun v4 _ _ => 4 - (intOf v4).toNat)
    case atStart =>
      refine ⟨0, B, bad, by omega, rfl, ?_, ?_, hidden (fun _ _ _ => ⟨rfl, by simp⟩)⟩
      · first | exact Y1 | (rw [hw1]; exact Y1)
      · first | exact hidden (Chg.refl _ _) | (rw [hw1]; exact hidden (Chg.refl _ _))
    case round =>
      rename World => wx
      obtain ⟨k, Bk, bk, hk, rfl, hY, hC, hI⟩ := hrel
      by_cases hlt : k < 4
      · have hltz : (k : Int) < 4 := by omega
        go_wp2_with fail
        refine (G1.out wx Bk bk hY.out).mono ?_
        rintro e w2 ⟨rfl, ⟨B2, b2, hY2, hk2, _⟩, hc2⟩
        have Y2 := hidden hY2
        have C2 := hidden (hC.out.trans hc2 (fun _ _ e => e))
        have K2 := hidden hk2
        clear hY2 hc2 hk2 hY hC
        by_cases hb : tkV 1 Bk = 0
        · have HX : Hid (∀ d0 cc, rdD B = some (d0, cc) → b2 = bad ∧ B = List.replicate k true ++ (if k = 4 then B2 else false :: B2)) := hidden (fun d0 cc hh => by
            obtain ⟨e1, e2⟩ := hI.out d0 cc hh
            rw [if_neg (by omega)]
            rcases tk1 Bk with ⟨rfl, _⟩ | ⟨c1, rfl, _⟩ | ⟨c1, _, h2, _⟩
            · rw [e2] at hh
              rcases (show k = 0 ∨ k = 1 ∨ k = 2 ∨ k = 3 by omega) with rfl | rfl | rfl | rfl <;> simp [List.replicate, rdD] at hh
            · obtain ⟨h7, h8⟩ := K2.out (by simp)
              refine ⟨by rw [h8, e1], ?_⟩
              rw [e2, h7]
              rfl
            · rw [h2] at hb; exact absurd hb (by omega))
          rw [hb]
          go_wp2_with fail
          go_meet
          exact ⟨k, B2, b2, by omega, rfl, Y2, C2, HX⟩
        · have h1 : tkV 1 Bk = 1 := by
            rcases tk1 Bk with ⟨_, h2, _⟩ | ⟨c1, _, h2, _⟩ | ⟨c1, _, h2, _⟩
            · exact absurd h2 hb
            · exact absurd h2 hb
            · exact h2
          have HX : Hid (∀ d0 cc, rdD B = some (d0, cc) → b2 = bad ∧ B = List.replicate (k + 1) true ++ B2) := hidden (fun d0 cc hh => by
            obtain ⟨e1, e2⟩ := hI.out d0 cc hh
            rcases tk1 Bk with ⟨_, h2, _⟩ | ⟨c1, _, h2, _⟩ | ⟨c1, rfl, _⟩
            · exact absurd h2 hb
            · exact absurd h2 hb
            · obtain ⟨h7, h8⟩ := K2.out (by simp)
              refine ⟨by rw [h8, e1], ?_⟩
              rw [e2, h7, List.replicate_succ']
              simp)
          rw [h1]
          clear hb h1
          go_wp2_with fail
          exact ⟨⟨k + 1, B2, b2, by omega, by rw [Int.natCast_add]; rfl, Y2, C2, HX⟩, by simp [intOf]; omega⟩
      · obtain rfl : k = 4 := by omega
        rw [show ((4 : Nat) : Int) = 4 from rfl]
        go_wp2_with fail
        go_meet
        exact ⟨4, Bk, bk, by omega, rfl, hY, hC, hidden (fun d0 cc hh => by
          obtain ⟨e1, e2⟩ := hI.out d0 cc hh
          exact ⟨e1, by rw [if_pos rfl]; exact e2⟩)⟩
  case rest =>
    rename World => w2
    obtain ⟨k, Bk, bk, hk, rfl, hY, hC, hI⟩ := hcut
    by_cases hk0 : k = 0
    · subst hk0
      have FI : Hid (∀ d0 cc, rdD B = some (d0, cc) → (0 : Int) = d0 ∧ Bk = cc ∧ bk = bad) := hidden (fun d0 cc hh => by
        obtain ⟨e1, e2⟩ := hI.out d0 cc hh
        rw [e2] at hh
        simp only [List.replicate_zero, List.nil_append, if_neg (show ¬ (0 : Nat) = 4 by omega), rdD] at hh
        injection hh with hh
        injection hh with h5 h6
        exact ⟨h5, h6, e1⟩)
      have CC := hidden (C1.out.trans hC.out (fun _ _ e => e))
      rw [show ((0 : Nat) : Int) = 0 from rfl]
      go_wp2
      go_ret
      exact ⟨0, rfl, by unfold I64; omega, ⟨Bk, bk, hY.out, FI.out⟩, CC.out⟩
    · obtain ⟨kk, rfl⟩ : ∃ kk, k = kk + 1 := ⟨k - 1, by omega⟩
      have hkk : kk < 4 := by omega
      have hwd : wdK kk = 7 ∨ wdK kk = 9 ∨ wdK kk = 12 ∨ wdK kk = 64 := by unfold wdK; split <;> (try split) <;> (try split) <;> simp
      have FI : Hid (∀ d0 cc, rdD B = some (d0, cc) → wdK kk ≤ Bk.length ∧ sg (tkV (wdK kk) Bk) (wdK kk) = d0 ∧ Bk.drop (wdK kk) = cc ∧ bk = bad) := hidden (fun d0 cc hh => by
        obtain ⟨e1, e2⟩ := hI.out d0 cc hh
        have e3 : B = List.replicate (kk + 1) true ++ (if kk = 3 then Bk else false :: Bk) := by
          rw [e2]
          congr 1
          by_cases h3 : kk = 3
          · rw [if_pos (by omega), if_pos h3]
          · rw [if_neg (by omega), if_neg h3]
        obtain ⟨f1, f2, f3⟩ := rdD_ones hkk e3 hh
        exact ⟨f1, f2, f3, e1⟩)
      have CEL : Hid (∀ wy, Chg (fun i => i = r) w1 wy → wy.cell? ⟨gn, kk, none⟩ = some (.int .i64 ((wdK kk : Nat) : Int))) := hidden (fun wy hc => by
        have := (hc.blk HN1.out (by omega)).cell kk
        rw [this]
        rcases (show kk = 0 ∨ kk = 1 ∨ kk = 2 ∨ kk = 3 by omega) with rfl | rfl | rfl | rfl <;> rfl)
      have hvl := tkV_lt (n := wdK kk) (B := Bk) (by omega)
      have hsi : I64 (sg (tkV (wdK kk) Bk) (wdK kk)) := tk_i64 (by omega)
      have SG := hidden (fun wy => signedD (tkV (wdK kk) Bk) (wdK kk) wy hvl (by omega))
      have GA := hidden (fun wy (hy : YS wy r ad c l Bk bk) => getD wy r c (wdK kk) ad l Bk bk hy (by omega))
      obtain ⟨wd, hwdE⟩ : ∃ wd, wdK kk = wd := ⟨_, rfl⟩
      rw [hwdE] at hwd FI CEL hvl hsi SG GA
      obtain ⟨v, hv⟩ : ∃ v, tkV wd Bk = v := ⟨_, rfl⟩
      rw [hv] at hvl hsi SG GA FI
      obtain ⟨dd, hdd⟩ : ∃ dd, sg v wd = dd := ⟨_, rfl⟩
      rw [hdd] at hsi SG FI
      have hwd64 : wd ≤ 64 := by omega
      clear hwdE hv hdd
      have hkz : ((kk + 1 : Nat) : Int) = (kk : Int) + 1 := by omega
      rw [hkz]
      have hkn : ¬ (kk : Int) + 1 = 0 := by omega
      clear hkz
      go_upto_region 9 with fail
      refine d_r9 r gn kk wd v dd (fun wy => YS wy r ad c l Bk bk ∧ Chg (fun i => i = r) w1 wy) (fun wy => (∃ B' b', YS wy r ad c l B' b' ∧ (wd ≤ Bk.length → B' = Bk.drop wd ∧ b' = bk)) ∧ Chg (fun i => i = r) w1 wy) w2 _ _ (by rfl) (by rfl) (by rfl) (by rfl) (i64_id (by omega) (by omega)) (by omega) (by omega) ?_ ?_ ?_ (fun wy => SG.out wy) ?_
      · exact ⟨hY.out.later ((Below.refl _ _).drew), hC.out.trans (Chg.drew (fun i => i = r) w2) (fun _ _ e => e)⟩
      · intro wy hh
        rcases hh with hh | hh <;> exact CEL.out wy hh.2
      · rintro wy ⟨h1, h2⟩
        refine (GA.out wy h1).mono ?_
        rintro e w3 ⟨rfl, ⟨B', b', h3, h4, _⟩, h5⟩
        exact ⟨rfl, ⟨B', b', h3, h4⟩, h2.trans h5 (fun _ _ e => e)⟩
      · intro v17 v18 v19 v20 v21 v22 v23 v24 v25 v26 v27 v28 v29 v2 w3 hI1 h29
        subst h29
        obtain ⟨⟨B', b', hy3, hk3⟩, hc3⟩ := hI1
        have FIN : Hid (XdP rdD w r c ad l B bad dd w3) := hidden ⟨⟨B', b', hy3, fun d0 cc hh => by
          obtain ⟨f1, f2, f3, f4⟩ := FI.out d0 cc hh
          obtain ⟨g1, g2⟩ := hk3 f1
          exact ⟨f2, by rw [g1]; exact f3, by rw [g2]; exact f4⟩⟩, C1.out.trans hc3 (fun _ _ e => e)⟩
        clear hy3 hk3 hc3 FI CEL SG GA hY hC hI
        simp only [Act.put, List.setIfInBounds_toArray, List.set_cons_succ, List.set_cons_zero]
        go_wp2
        go_ret
        exact ⟨dd, rfl, hsi, FIN.out⟩

end Go.Proofs.YtcgjmioncbihhaaDoor

/-
  The document's own Read, purely: what it holds, round by round, where the bytes are those of some samples.
-/
namespace Go.Proofs.YtcgjmioncbihhaaDoor
open Go.RowKit
set_option linter.unusedVariables false
set_option linter.unusedSimpArgs false

theorem len_enc4 {l : List Sm} (h : l ≠ []) : l.length ≤ 4 * (encC l).length := by
  cases l with
  | nil => exact absurd rfl h
  | cons s t =>
    have h1 := encC_len (l := s :: t) (by simp)
    have h2 := moB_ge t (tr0 s)
    have h3 : (rowB (s :: t)).length = 128 + (moB (tr0 s) t).length := by simp [rowB, fiB, low_len]; omega
    simp only [List.length_cons] at h1 ⊢
    omega
/-- What is read as samples: their bytes, count and bits. -/
theorem rdR_bits {b : List Int} {L : List Sm} (hb : Byte b) (hn : b ≠ []) (h : rdR b = some L) :
    L ≠ [] ∧ (∀ x ∈ L, OkS x) ∧ encC L = b ∧ (Q.dec b).1 = L.length ∧ ∃ pad, ub (b.drop (Q.dec b).2) = rowB L ++ pad := by
  obtain ⟨h1, h2, h3⟩ := enc_rd hb h
  have hL : L ≠ [] := fun e => hn (h3 e)
  have hlen : L.length < 18446744073709551616 := by
    have := len_enc4 hL
    rw [h1] at this
    have hd := Q.dec_bound b hb
    unfold rdR at h
    rw [if_neg hn] at h
    split at h
    · cases h
    · unfold rdB at h
      split at h
      · cases h
      · split at h
        · cases h
        · rename_i l' B3 h4
          split at h
          · injection h with h
            have h5 := (rdS_some _ _ _ _ _ (tr0_ok (fiR_fiB (by assumption)).2) h4).1
            rw [← h, List.length_cons, h5]
            omega
          · cases h
  have hE : b = Q.enc L.length ++ pk (rowB L) := by rw [← h1]; unfold encC; rw [if_neg hL]
  have hd : Q.dec b = (L.length, Q.grp L.length + 1) := by rw [hE]; exact Q.dec_enc _ hlen _
  refine ⟨hL, h2, h1, by rw [hd], List.replicate (8 * (pk (rowB L)).length - (rowB L).length) false, ?_⟩
  rw [hd]
  have hdr : b.drop (Q.grp L.length + 1) = pk (rowB L) := by rw [hE, ← Q.enc_length, List.drop_left]
  show ub (b.drop (Q.grp L.length + 1)) = _
  rw [hdr, ub_rep (pk_rep _) (by rw [pk_len]; omega)]
theorem rowB_pre (l m : List Sm) : ∃ t, rowB (l ++ m) = rowB l ++ t := by
  cases l with
  | nil => exact ⟨rowB m, rfl⟩
  | cons s t => exact ⟨moB (trE (tr0 s) t) m, by show fiB s ++ moB (tr0 s) (t ++ m) = _; rw [moB_append]; simp [rowB]⟩

/-- What a round of Read holds. -/
def DX (b : List Int) (T : List Bool) (i : Nat) (out : List Sm) (st : Int) (Bi : List Bool) (bi : Bool) : Prop :=
  ∀ L, rdR b = some L → bi = false ∧ out = L.take i ∧ st = (tl (L.take i)).st ∧ T = rowB (L.take i) ++ Bi
theorem DX.start (b : List Int) (T : List Bool) : DX b T 0 [] 0 T false := fun L _ => ⟨rfl, rfl, rfl, rfl⟩
theorem DX.first {b : List Int} {T B1 B2 : List Bool} {b1 b2 : Bool} (hb : Byte b) (hn : b ≠ []) (hT : T = ub (b.drop (Q.dec b).2)) (h1 : 64 ≤ T.length → B1 = T.drop 64 ∧ b1 = false) (h2 : 64 ≤ B1.length → B2 = B1.drop 64 ∧ b2 = b1) :
    DX b T 1 [⟨wr (tkV 64 T : Nat), tkV 64 B1⟩] 0 B2 b2 := by
  intro L hL
  obtain ⟨k1, k2, k3, k4, pad, k5⟩ := rdR_bits hb hn hL
  cases L with
  | nil => exact absurd rfl k1
  | cons s t =>
    have hs := k2 s (by simp)
    have e : T = low (un s.t) 64 ++ (low s.v 64 ++ (moB (tr0 s) t ++ pad)) := by rw [hT, k5]; simp [rowB, fiB]
    have l1 : 64 ≤ T.length := by rw [e]; simp [low_len]
    obtain ⟨i1, i2⟩ := h1 l1
    have e1 : B1 = low s.v 64 ++ (moB (tr0 s) t ++ pad) := by rw [i1, e, drop_low]
    have l2 : 64 ≤ B1.length := by rw [e1]; simp [low_len]
    obtain ⟨i3, i4⟩ := h2 l2
    have e2 : B2 = moB (tr0 s) t ++ pad := by rw [i3, e1, drop_low]
    have v1 : tkV 64 T = un s.t := by unfold tkV; rw [if_pos l1, e, take_low, low_id (by have := un_lt s.t; omega)]
    have v2 : tkV 64 B1 = s.v := by unfold tkV; rw [if_pos l2, e1, take_low, low_id (by have := hs.v; omega)]
    refine ⟨by rw [i4, i2], ?_, rfl, ?_⟩
    · rw [v1, v2, wr_un hs.t]; rfl
    · rw [e, e2]; simp [rowB, moB, fiB]
theorem DX.step {b : List Int} {T Bi B1 B2 : List Bool} {bi b1 b2 : Bool} {i : Nat} {out : List Sm} {st d : Int} {x : Nat} {y : Sm} (hb : Byte b) (hn : b ≠ []) (hT : T = ub (b.drop (Q.dec b).2)) (h : DX b T (i + 1) out st Bi bi) (hi : i + 1 < (Q.dec b).1) (hy : out[i]? = some y)
    (hD : ∀ d0 cc, rdD Bi = some (d0, cc) → d = d0 ∧ B1 = cc ∧ b1 = bi) (hX : ∀ x0 cc, rdX B1 = some (x0, cc) → x = x0 ∧ B2 = cc ∧ b2 = b1) :
    DX b T (i + 1 + 1) (out ++ [⟨wr (y.t + wr (st + d)), y.v ^^^ x⟩]) (wr (st + d)) B2 b2 := by
  intro L hL
  obtain ⟨k1, k2, k3, k4, pad, k5⟩ := rdR_bits hb hn hL
  obtain ⟨j1, j2, j3, j4⟩ := h L hL
  rw [k4] at hi
  obtain ⟨z, hz⟩ : ∃ z, L[i + 1]? = some z := ⟨L[i + 1], by simp [hi]⟩
  have hyL : L[i]? = some y := by
    rw [j2, List.getElem?_take] at hy
    split at hy
    · exact hy
    · cases hy
  have okz := k2 z (List.mem_of_getElem? hz)
  have oky := k2 y (List.mem_of_getElem? hyL)
  obtain ⟨s1, s2⟩ := tl_step hyL hz
  rw [← j3] at s1
  have hst : I64 st := by rw [j3]; exact (tl_ok (fun q hq => k2 q (List.mem_of_mem_take hq))).s
  obtain ⟨t2, ht2⟩ := rowB_pre (L.take (i + 1 + 1)) (L.drop (i + 1 + 1))
  rw [List.take_append_drop] at ht2
  have hBi : Bi = drB (wr (wr (z.t - y.t) - st)) ++ (flB (z.v ^^^ y.v) ++ (t2 ++ pad)) := by
    have : rowB (L.take (i + 1)) ++ Bi = rowB (L.take (i + 1)) ++ (drB (wr (wr (z.t - y.t) - st)) ++ (flB (z.v ^^^ y.v) ++ (t2 ++ pad))) := by
      rw [← j4, hT, k5, ht2, s1]
      simp
    exact List.append_cancel_left this
  have hdr : I64 (wr (wr (z.t - y.t) - st)) := wr_i64 _
  obtain ⟨d1, d2, d3⟩ := hD _ _ (by rw [hBi]; exact rdD_drB hdr _)
  obtain ⟨x1, x2, x3⟩ := hX _ _ (by rw [d2]; exact rdX_flB (xor_lt okz.v oky.v) _)
  have e1 : wr (st + d) = wr (z.t - y.t) := by rw [d1]; unfold I64 at hst; unfold wr; omega
  have e2 : wr (y.t + wr (st + d)) = z.t := by
    rw [e1]
    have h3 := okz.t
    unfold I64 at h3
    unfold wr
    omega
  have e3 : y.v ^^^ x = z.v := by rw [x1, Nat.xor_comm z.v y.v, ← Nat.xor_assoc, Nat.xor_self, Nat.zero_xor]
  refine ⟨by rw [x3, d3, j1], ?_, by rw [e1, s2], ?_⟩
  · rw [e2, e3, j2]
    exact take_next hz
  · rw [hT, k5, ht2, x2]
    simp
theorem DX.bad {b : List Int} {T Bi : List Bool} {i : Nat} {out : List Sm} {st : Int} (h : DX b T i out st Bi true) : rdR b = none := by
  cases hr : rdR b with
  | none => rfl
  | some L => exact absurd (h L hr).1 (by simp)
/-- Behind all rounds. -/
theorem DX.done {b : List Int} {T Bi : List Bool} {bi : Bool} {i : Nat} {out : List Sm} {st : Int} (hb : Byte b) (hn : b ≠ []) (h : DX b T i out st Bi bi) (hi : i = (Q.dec b).1) (ho : ∀ x ∈ out, OkS x) (hl : out.length < 18446744073709551616) :
    (bi = false ∧ encC out = b → rdR b = some out) ∧ (¬ (bi = false ∧ encC out = b) → rdR b = none) := by
  refine ⟨fun hh => by rw [← hh.2]; exact rd_enc ho hl, fun hh => ?_⟩
  cases hr : rdR b with
  | none => rfl
  | some L =>
    exfalso
    obtain ⟨k1, k2, k3, k4, _⟩ := rdR_bits hb hn hr
    obtain ⟨j1, j2, _⟩ := h L hr
    have : out = L := by rw [j2, hi, k4, List.take_of_length_le (Nat.le_refl _)]
    exact hh ⟨j1, by rw [this]; exact k3⟩

end Go.Proofs.YtcgjmioncbihhaaDoor
