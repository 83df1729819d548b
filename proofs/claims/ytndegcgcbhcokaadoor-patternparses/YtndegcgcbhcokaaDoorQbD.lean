/-
  The document's Print: text of rows, of classes.
-/
import Derived.Test.YtndegcgcbhcokaaDoorPvA
namespace Go.Proofs.YtndegcgcbhcokaaDoor
open Go.RowKit
set_option linter.unusedVariables false
set_option linter.unusedSimpArgs false

def restT (l : List (List Pt)) (i : Nat) : List UInt8 := if i = 0 then rowsT l else rowsT1 (l.drop i)
theorem restT_zero {l : List (List Pt)} {r : List Pt} (h : l[0]? = some r) : restT l 0 = rowT r ++ restT l 1 := by
  cases l with
  | nil => simp at h
  | cons x t => simp at h; subst h; simp [restT, rowsT]
theorem restT_succ {l : List (List Pt)} {r : List Pt} {i : Nat} (hi : 0 < i) (h : l[i]? = some r) : restT l i = 124 :: (rowT r ++ restT l (i + 1)) := by
  have e : l.drop i = r :: l.drop (i + 1) := by
    obtain ⟨h, e⟩ := List.getElem?_eq_some_iff.1 h
    rw [← e]; exact List.drop_eq_getElem_cons h
  rw [restT, if_neg (by omega), e, rowsT1, restT, if_neg (by omega)]
  rfl
set_option maxRecDepth 100000 in
set_option maxHeartbeats 0 in
theorem text_rows (l : List (List Pt)) (hE : ∀ r ∈ l, TxRow r ∧ r.length ≤ 1000) : TxAny l := by
  intro F w u hN hr hl
  obtain ⟨ad, c, b, off, rfl, h1, h2⟩ := hN
  obtain ⟨w1, hw1, hB1, hb1, hs1⟩ := box70 w (nV 7 0 false 0 sN (.slice ad l.length c))
  obtain ⟨m, hm⟩ : ∃ m, l.length = m := ⟨_, rfl⟩
  have HMR := hidden hm
  rw [hm] at hB1
  have x0 : w1.cell? ⟨w.heap.size, 0, none⟩ = some (.int .i64 7) := hB1.cell 0
  have HB1 := hidden hb1
  have BB := hidden hB1
  have HH1 := hidden h1
  have HND := hidden h2
  have HE := hidden hE
  simp only [nV, sN] at hw1 ⊢
  rw [hm] at hw1 ⊢
  have hr1 : m ≤ 1000 := by omega
  have HW1 := hidden hw1
  obtain ⟨T, hT⟩ : ∃ T, rowsT l = T := ⟨_, rfl⟩
  have HT0 : Hid (bts (⟨#[]⟩ : ByteArray) ++ restT l 0 = T) := hidden (by rw [restT, if_pos rfl, hT]; rfl)
  rw [hT] at hl ⊢
  show Calls Tryd.prog 32 #[.agg #[.int .i64 7, .int .i32 0, .bool false, .int .u8 0, .slice none 0 0, .slice ad m c]] w (TxR T w)
  clear hw1 hB1 hb1 hs1 hm hE h1 h2 hr hT
  go_enter Tryd.func32, Tryd.ntmps32
  go_upto_region 1 with fail
  rw [show (w.alloc (.cells #[.int .i64 7, .int .i32 0, .bool false, .int .u8 0, .slice none 0 0, .slice ad m c] 70)) = w1 from HW1.out]
  clear HW1
  go_wp2
  go_loopw [3, 6] (fun s3 s6 wx => ∃ (i : Nat) (S : ByteArray), s3 = .string S ∧ s6 = .int .i64 (i : Int) ∧ i ≤ m ∧ Hid (Below w1.heap.size w1 wx ∧ bts S ++ restT l i = T)) (fun _ s6 _ => m - (intOf s6).toNat)
  case atStart => exact ⟨0, ⟨#[]⟩, rfl, rfl, by omega, hidden ⟨Below.refl _ _, HT0.out⟩⟩
  case round =>
    rename World => wr
    obtain ⟨i, S, rfl, rfl, hi, hex⟩ := hrel
    obtain ⟨hbel, hS⟩ := hex.out
    have HBE := hidden hbel
    have HBW := hidden (HB1.out.trans (hbel.mono HB1.out.size))
    have HS := hidden hS
    clear hex hbel hS HT0
    have y5 : wr.cell? ⟨w.heap.size, 5, none⟩ = some (.slice ad m c) := (BB.out.later HBE.out).cell 5
    have y0 : wr.cell? ⟨w.heap.size, 0, none⟩ = some (.int .i64 7) := (BB.out.later HBE.out).cell 0
    by_cases hlt : i < m
    · have hltz : (i : Int) < (m : Int) := by omega
      have hll : i < l.length := by have := HMR.out; omega
      have hne : l ≠ [] := fun e => by rw [e] at hll; simp at hll
      obtain ⟨rfl, hFb⟩ := HH1.out hne
      obtain ⟨p, hp⟩ : ∃ p, l[i]? = some p := ⟨_, List.getElem?_eq_getElem hll⟩
      obtain ⟨u, hcs, hnd⟩ := RwsV.get (RwsV.keep (Chg.of_below (F := fun _ => False) HBW.out) (fun _ _ h => h) l b off (fun _ => hFb) HND.out) i p hp
      have HSH : Hid ((Tryd.prog.info? 70).map (·.size) = some u.length) := hidden (by obtain ⟨_, _, _, _, rfl, _⟩ := hnd; exact info70s)
      have HCS := hidden hcs
      have hpm := HE.out p (List.mem_of_getElem? hp)
      by_cases hi0 : 0 < i
      · have hi0z : (0 : Int) < (i : Int) := by omega
        have HDR : Hid (bts S ++ 124 :: (rowT p ++ restT l (i + 1)) = T) := hidden (by rw [← HS.out, restT_succ hi0 hp])
        have hpl : S.size + 1 + (rowT p).length ≤ 1000000 := by
          have := congrArg List.length HDR.out
          rw [List.length_append, List.length_cons, List.length_append, bts_size] at this
          omega
        have kE := hpm.1 F wr u hnd hpm.2 (by omega)
        obtain ⟨P, hP⟩ : ∃ P, rowT p = P := ⟨_, rfl⟩
        rw [hP] at HDR hpl kE
        unfold TxR at kE
        have hsum : Hid (∀ S2 : ByteArray, bts S2 = P → (S.size : Int) + 1 + (S2.size : Int) ≤ 9223372036854775807) := hidden (fun S2 h => by rw [← h, bts_size] at hpl; omega)
        have hS1 : (S.size : Int) + 1 ≤ 9223372036854775807 := by omega
        clear hcs hnd hp hll hne hFb hP hpl hpm
        go_wp2_with (first
          | (refine wpList_load_mid rfl 70 (.tmp 113) rfl b (off + i * 6) (by rfl) u _ HCS.out.range Tryd.underlying70 rfl HSH.out ?_)
          | (go_at_call 32; refine kE.mono ?_; rintro e w3 ⟨S2, rfl, q1, q2⟩; have Q := hidden (And.intro q1 q2); have hz1 := hsum.out S2 q1; clear kE q1 q2))
        refine ⟨⟨i + 1, S ++ ⟨#[124]⟩ ++ S2, rfl, rfl, by omega, hidden ⟨HBE.out.trans (Q.out.2.mono HBE.out.size), ?_⟩⟩, ?_⟩
        · rw [bts_app, bts_app, Q.out.1, ← HDR.out, show bts (⟨#[124]⟩ : ByteArray) = [124] from rfl]; simp
        · simp [intOf]; omega
      · obtain rfl : i = 0 := by omega
        have HDR : Hid (bts S ++ (rowT p ++ restT l (0 + 1)) = T) := hidden (by rw [← HS.out, restT_zero hp])
        have hpl : S.size + (rowT p).length ≤ 1000000 := by
          have := congrArg List.length HDR.out
          rw [List.length_append, List.length_append, bts_size] at this
          omega
        have kE := hpm.1 F wr u hnd hpm.2 (by omega)
        obtain ⟨P, hP⟩ : ∃ P, rowT p = P := ⟨_, rfl⟩
        rw [hP] at HDR hpl kE
        unfold TxR at kE
        have hsum : Hid (∀ S2 : ByteArray, bts S2 = P → (S.size : Int) + (S2.size : Int) ≤ 9223372036854775807) := hidden (fun S2 h => by rw [← h, bts_size] at hpl; omega)
        clear hcs hnd hp hll hne hFb hP hpl hpm
        go_wp2_with (first
          | (refine wpList_load_mid rfl 70 (.tmp 113) rfl b off (by rfl) u _ (by have := HCS.out.range; simpa using this) Tryd.underlying70 rfl HSH.out ?_)
          | (go_at_call 32; refine kE.mono ?_; rintro e w3 ⟨S2, rfl, q1, q2⟩; have Q := hidden (And.intro q1 q2); have hz1 := hsum.out S2 q1; clear kE q1 q2))
        refine ⟨⟨0 + 1, S ++ S2, rfl, rfl, by omega, hidden ⟨HBE.out.trans (Q.out.2.mono HBE.out.size), ?_⟩⟩, ?_⟩
        · rw [bts_app, Q.out.1, List.append_assoc]; exact HDR.out
        · simp [intOf]; omega
    · have hltz : ¬ (i : Int) < (m : Int) := by omega
      have HSE : Hid (bts S = T) := hidden (by
        have := HS.out
        have e : restT l i = [] := by
          unfold restT
          split
          · have : l = [] := List.eq_nil_of_length_eq_zero (by rw [HMR.out]; omega)
            rw [this, rowsT]
          · rw [List.drop_eq_nil_of_le (by rw [HMR.out]; omega), rowsT1]
        rw [e, List.append_nil] at this
        exact this)
      go_wp2
      go_ret
      exact ⟨_, rfl, HSE.out, HBW.out⟩

theorem span_any (A B D : List UInt8) (a b : Nat) (h : a ≤ b) : (a = b ∧ A ++ (if a = b then [] else (if a + 1 < b then D else []) ++ B) = A) ∨ (a + 1 = b ∧ A ++ (if a = b then [] else (if a + 1 < b then D else []) ++ B) = A ++ B) ∨ (a + 1 < b ∧ A ++ (if a = b then [] else (if a + 1 < b then D else []) ++ B) = A ++ D ++ B) := by
  by_cases h1 : a = b
  · exact .inl ⟨h1, by rw [if_pos h1, List.append_nil]⟩
  · by_cases h2 : a + 1 < b
    · exact .inr (.inr ⟨h2, by rw [if_neg h1, if_pos h2, List.append_assoc]⟩)
    · exact .inr (.inl ⟨by omega, by rw [if_neg h1, if_neg h2, List.nil_append]⟩)
theorem spanT_cases (x : Nat × Nat) (h : x.1 ≤ x.2) : (x.1 = x.2 ∧ spanT x = bts (chS x.1)) ∨ (x.1 + 1 = x.2 ∧ spanT x = bts (chS x.1) ++ bts (chS x.2)) ∨ (x.1 + 1 < x.2 ∧ spanT x = bts (chS x.1) ++ [45] ++ bts (chS x.2)) := by
  rw [chS_bts x.1, chS_bts x.2, spanT]
  exact span_any (chrT x.1) (chrT x.2) [45] x.1 x.2 h

set_option maxRecDepth 100000 in
set_option maxHeartbeats 0 in
theorem text_cls (neg : Bool) (l : Sn) : TxC (.cls neg l) := by
  intro F w u hN hl
  simp only [NdV] at hN
  obtain ⟨ad, c, raw, rfl, hs, _, hfo, hok, hne, hrl⟩ := hN
  have htd : tdyF raw = l := by rw [tdy_eq hok, hfo]
  have hle : ∀ o ∈ l, o.1 ≤ o.2 := by
    rw [← hfo]
    exact fun o ho => ((tidy_le (fold_tidy raw.length raw rfl hok).1) o ho).1
  obtain ⟨w1, hw1, hB1, hb1, hs1⟩ := box70 w (nV 3 0 neg 0 (.slice ad raw.length c) sN)
  have x0 : w1.cell? ⟨w.heap.size, 0, none⟩ = some (.int .i64 3) := hB1.cell 0
  have x2 : w1.cell? ⟨w.heap.size, 2, none⟩ = some (.bool neg) := hB1.cell 2
  have x4 : w1.cell? ⟨w.heap.size, 4, none⟩ = some (.slice ad raw.length c) := hB1.cell 4
  have HB1 := hidden hb1
  have k52 := tidyR ad c raw w1 (hs.later hb1) hrl
  unfold TdP at k52
  rw [htd] at k52
  obtain ⟨T, hT⟩ : ∃ T, (Pt.cls neg l).txt = T := ⟨_, rfl⟩
  have HT : Hid ((if neg then [91, 94] else [91]) ++ (l.drop 0).flatMap spanT ++ [93] = T) := hidden (by
    rw [← hT, Pt.txt, List.drop_zero]
    cases neg <;> simp)
  obtain ⟨n, hn⟩ : ∃ n, raw.length = n := ⟨_, rfl⟩
  obtain ⟨m, hm⟩ : ∃ m, l.length = m := ⟨_, rfl⟩
  have HM := hidden hm
  have HLE := hidden hle
  rw [hT] at hl ⊢
  rw [hn] at x4 k52 hrl hw1 ⊢
  rw [hm] at k52
  simp only [nV, sN] at hw1 ⊢
  have HW1 := hidden hw1
  show Calls Tryd.prog 32 #[.agg #[.int .i64 3, .int .i32 0, .bool neg, .int .u8 0, .slice ad n c, .slice none 0 0]] w (TxR T w)
  clear hw1 hB1 hb1 hs1 hs hfo hok hne hle htd hn hm hT
  go_enter Tryd.func32, Tryd.ntmps32
  go_upto_region 1 with fail
  rw [show (w.alloc (.cells #[.int .i64 3, .int .i32 0, .bool neg, .int .u8 0, .slice ad n c, .slice none 0 0] 70)) = w1 from HW1.out]
  clear HW1
  go_upto_if 19 with fail
  go_cut [3] from 20 to 117 (fun s3 wx => s3 = .string (if neg then ⟨#[91, 94]⟩ else ⟨#[91]⟩) ∧ wx = w1)
  case first =>
    cases neg with
    | true =>
      go_wp2_with fail
      go_meet
      exact ⟨rfl, rfl⟩
    | false =>
      go_wp2_with fail
      go_meet
      exact ⟨rfl, rfl⟩
  case rest =>
    obtain ⟨rfl, hwc⟩ := hcut
    obtain rfl := hwc.symm
    obtain ⟨S0, hS0⟩ : ∃ S0 : ByteArray, (if neg then (⟨#[91, 94]⟩ : ByteArray) else ⟨#[91]⟩) = S0 := ⟨_, rfl⟩
    rw [hS0]
    have HS0 : Hid (bts S0 ++ (l.drop 0).flatMap spanT ++ [93] = T) := hidden (by rw [← hS0, ← HT.out]; cases neg <;> rfl)
    clear hS0 HT x2
    go_wp2_with (go_at_call 52; refine k52.mono ?_; rintro e w2 ⟨a2, c2, rfl, q1, q2, q3⟩; have SS := hidden q1; have HB2 := hidden q3; have hmn := q2; clear k52 q1 q2 q3)
    go_loopw [3, 5] (fun s3 s5 wx => ∃ (i : Nat) (S : ByteArray), s3 = .string S ∧ s5 = .int .i64 (i : Int) ∧ i ≤ m ∧ Hid (Below w2.heap.size w2 wx ∧ bts S ++ (l.drop i).flatMap spanT ++ [93] = T)) (fun _ s5 _ => m - (intOf s5).toNat)
    case atStart => exact ⟨0, S0, rfl, rfl, by omega, hidden ⟨Below.refl _ _, HS0.out⟩⟩
    case round =>
      rename World => wr
      obtain ⟨i, S, rfl, rfl, hi, hex⟩ := hrel
      obtain ⟨hbel, hS⟩ := hex.out
      have HBE := hidden hbel
      have HS := hidden hS
      have hSz : S.size ≤ 1000000 := by rw [← bts_size]; have := congrArg List.length hS; rw [List.length_append, List.length_append] at this; omega
      clear hex hbel hS HS0
      by_cases hlt : i < m
      · have hltz : (i : Int) < (m : Int) := by omega
        obtain ⟨gb, goff, x, rfl, hgb, hx, _, o0, o1, z1, z2⟩ := (SS.out.later HBE.out).get (i := i) (by rw [HM.out]; exact hlt)
        have HCL : Hid (∀ wx, Below wr.heap.size wr wx → wx.cell? ⟨gb, goff + i * 2, none⟩ = some (.int .i32 (x.1 : Int)) ∧ wx.cell? ⟨gb, goff + i * 2 + 1, none⟩ = some (.int .i32 (x.2 : Int))) := hidden (fun wx hb => by
          rw [World.cell?_of_block ((Chg.of_below (F := fun _ => False) hb).block gb hgb (fun h => h)), show wx.cell? ⟨gb, goff + i * 2 + 1, none⟩ = wr.cell? ⟨gb, goff + i * 2 + 1, none⟩ from World.cell?_of_block ((Chg.of_below (F := fun _ => False) hb).block gb hgb (fun h => h))]
          exact ⟨o0, o1⟩)
        have hde : l.drop i = x :: l.drop (i + 1) := drop_at hx
        have HDR : Hid (bts S ++ (spanT x ++ (l.drop (i + 1)).flatMap spanT) ++ [93] = T) := hidden (by rw [← HS.out, hde, List.flatMap_cons])
        have hcs := spanT_cases x (HLE.out x (List.mem_of_getElem? hx))
        obtain ⟨C1, hC1⟩ : ∃ C, chS x.1 = C := ⟨_, rfl⟩
        obtain ⟨C2, hC2⟩ : ∃ C, chS x.2 = C := ⟨_, rfl⟩
        have hs1 := chS_size x.1
        have hs2 := chS_size x.2
        have k1 := charTR x.1 wr
        have HK2 : Hid (∀ wx : World, Calls Tryd.prog 51 #[.int .i32 (x.2 : Int)] wx fun e w' => e = .returned (.string C2) ∧ Below wx.heap.size wx w') := hidden (fun wx => by rw [← hC2]; exact charTR x.2 wx)
        rw [hC1] at hcs hs1 k1
        rw [hC2] at hcs hs2
        have e1 : (S.size : Int) + (C1.size : Int) ≤ 9223372036854775807 := by omega
        have e2 : (S.size : Int) + (C1.size : Int) + 1 ≤ 9223372036854775807 := by omega
        have e3 : (S.size : Int) + (C1.size : Int) + (C2.size : Int) ≤ 9223372036854775807 := by omega
        have e4 : (S.size : Int) + (C1.size : Int) + 1 + (C2.size : Int) ≤ 9223372036854775807 := by omega
        have z1z : (x.1 : Int) ≤ 1114111 := by omega
        clear hC1 hC2 hde hx hgb
        go_upto_region 16 with (go_at_call 51; refine k1.mono ?_; rintro e w3 ⟨rfl, g3⟩; have G3 := hidden g3; obtain ⟨p0, p1⟩ := HCL.out w3 g3; clear k1 g3 o0 o1)
        rcases hcs with ⟨hc, hsp⟩ | ⟨hc, hsp⟩ | ⟨hc, hsp⟩
        · have b1 : ¬ (x.1 : Int) + 1 < (x.2 : Int) := by omega
          have b2 : ¬ (x.1 : Int) < (x.2 : Int) := by omega
          have HNX : Hid (bts (S ++ C1) ++ (l.drop (i + 1)).flatMap spanT ++ [93] = T) := hidden (by rw [← HDR.out, hsp, bts_app]; simp)
          clear hsp hc
          go_quiet (fail)
          rename_i nq
          have G4 : Hid (Below wr.heap.size wr (w3.drewN nq)) := hidden (below_drewN G3.out nq)
          obtain ⟨p2, p3⟩ := HCL.out _ G4.out
          generalize w3.drewN nq = w4 at *
          go_wp2_with fail
          go_quiet (fail)
          rename Nat => nq2
          have G5 : Hid (Below wr.heap.size wr (w4.drewN nq2)) := hidden (below_drewN G4.out nq2)
          obtain ⟨p4, p5⟩ := HCL.out _ G5.out
          generalize w4.drewN nq2 = w5 at *
          clear HCL HK2 HDR e1 e2 e3 e4 z1z z1 z2 hs1 hs2 p0 p1 p2 p3 p4 p5 b1
          go_wp2_with fail
          refine ⟨⟨i + 1, S ++ C1, rfl, rfl, by omega, hidden ⟨HBE.out.trans (G5.out.mono HBE.out.size), HNX.out⟩⟩, ?_⟩
          simp [intOf]
          omega
        · have b1 : ¬ (x.1 : Int) + 1 < (x.2 : Int) := by omega
          have b2 : (x.1 : Int) < (x.2 : Int) := by omega
          have HNX : Hid (bts (S ++ C1 ++ C2) ++ (l.drop (i + 1)).flatMap spanT ++ [93] = T) := hidden (by rw [← HDR.out, hsp, bts_app, bts_app]; simp)
          clear hsp hc
          go_quiet (fail)
          rename_i nq
          have G4 : Hid (Below wr.heap.size wr (w3.drewN nq)) := hidden (below_drewN G3.out nq)
          obtain ⟨p2, p3⟩ := HCL.out _ G4.out
          generalize w3.drewN nq = w4 at *
          go_wp2_with fail
          go_quiet (fail)
          rename Nat => nq2
          have G5 : Hid (Below wr.heap.size wr (w4.drewN nq2)) := hidden (below_drewN G4.out nq2)
          obtain ⟨p4, p5⟩ := HCL.out _ G5.out
          generalize w4.drewN nq2 = w5 at *
          go_wp2_with (go_at_call 51; refine (HK2.out w5).mono ?_; rintro e w6 ⟨rfl, g6⟩; have G6 := hidden (G5.out.trans (g6.mono G5.out.size)); clear g6)
          refine ⟨⟨i + 1, S ++ C1 ++ C2, rfl, rfl, by omega, hidden ⟨HBE.out.trans (G6.out.mono HBE.out.size), HNX.out⟩⟩, ?_⟩
          simp [intOf]
          omega
        · have b1 : (x.1 : Int) + 1 < (x.2 : Int) := by omega
          have b2 : (x.1 : Int) < (x.2 : Int) := by omega
          have HNX : Hid (bts (S ++ C1 ++ ⟨#[45]⟩ ++ C2) ++ (l.drop (i + 1)).flatMap spanT ++ [93] = T) := hidden (by rw [← HDR.out, hsp, bts_app, bts_app, bts_app, show bts (⟨#[45]⟩ : ByteArray) = [45] from rfl]; simp)
          clear hsp hc
          go_quiet (fail)
          rename_i nq
          have G4 : Hid (Below wr.heap.size wr (w3.drewN nq)) := hidden (below_drewN G3.out nq)
          obtain ⟨p2, p3⟩ := HCL.out _ G4.out
          generalize w3.drewN nq = w4 at *
          go_wp2_with fail
          go_quiet (fail)
          rename Nat => nq2
          have G5 : Hid (Below wr.heap.size wr (w4.drewN nq2)) := hidden (below_drewN G4.out nq2)
          obtain ⟨p4, p5⟩ := HCL.out _ G5.out
          generalize w4.drewN nq2 = w5 at *
          go_wp2_with (go_at_call 51; refine (HK2.out w5).mono ?_; rintro e w6 ⟨rfl, g6⟩; have G6 := hidden (G5.out.trans (g6.mono G5.out.size)); clear g6)
          refine ⟨⟨i + 1, S ++ C1 ++ ⟨#[45]⟩ ++ C2, rfl, rfl, by omega, hidden ⟨HBE.out.trans (G6.out.mono HBE.out.size), HNX.out⟩⟩, ?_⟩
          simp [intOf]
          omega
      · have hltz : ¬ (i : Int) < (m : Int) := by omega
        have HFI : Hid (bts (S ++ ⟨#[93]⟩) = T) := hidden (by
          rw [← HS.out, List.drop_eq_nil_of_le (by rw [HM.out]; omega), bts_app, show bts (⟨#[93]⟩ : ByteArray) = [93] from rfl]
          simp)
        have e1 : (S.size : Int) + 1 ≤ 9223372036854775807 := by omega
        go_wp2
        go_ret
        exact ⟨_, rfl, HFI.out, HB1.out.trans ((HB2.out.trans (HBE.out.mono HB2.out.size)).mono HB1.out.size)⟩

end Go.Proofs.YtndegcgcbhcokaaDoor
