/-
  The document's disk: new; the power comes back, and fails.
-/
import Derived.Test.YtgmcfejmhlglkaaRkA
import Derived.Test.YtgmcfejmhlglkaaDkE
import Derived.Test.YtgmcfejmhlglkaaDkF
namespace Go.Proofs.Ytgmcfejmhlglkaa
open Go.RowKit
set_option linter.unusedVariables false
set_option linter.unusedSimpArgs false

theorem restartR (p : Nat) (F : Nat → Prop) (S : St) (w : World) (h : Dk 75 86 w p F S) : Calls Try.prog 35 #[.pointer (some ⟨p, 0, none⟩)] w fun e w' => e = .returned (.tuple #[]) ∧ Dks 75 86 w w' p F S.restart := by
  obtain ⟨fb, fc, rs, set, ops, kv, kl, h, hL, hf, rfl⟩ := h
  have HH := hidden h
  have B0 := h.blk
  have HL := hidden hL
  clear h hL hf
  have c1 := B0.cell 1
  have c3 := B0.cell 3
  simp only [List.getElem?_cons_succ, List.getElem?_cons_zero] at c1 c3
  have f1 := B0.frozen 1
  have f3 := B0.frozen 3
  have HB := hidden B0
  clear B0
  go_enter Try.func35, Try.ntmps35
  go_wp2_with fail
  go_end0
  have hS := (HB.out.set 1 (.bool true)).set 3 (.bool false)
  simp only [List.set_cons_succ, List.set_cons_zero] at hS
  have hC : Chg (fun i => i = p) w ((w.setCell ⟨p, 1, none⟩ (.bool true)).setCell ⟨p, 3, none⟩ (.bool false)) := (Chg.set ⟨p, 1, none⟩ (.bool true) w).trans (Chg.set ⟨p, 3, none⟩ (.bool false) _) (fun _ _ h => h)
  refine ⟨rfl, _, ⟨fb, fc, rs, false, ops, kv, kl, HH.out.swap ty75 hC hS HH.out.keep HH.out.kint HH.out.opsb HH.out.klen, HL.out, rfl, rfl⟩, hC.mono (fun i _ hi => .inl hi), New.refl _ _⟩

theorem built75 (g n : Nat) : Try.prog.built 75 [(0, .slice (some ⟨g, 0, none⟩) n n), (1, .bool true)] = some #[.slice (some ⟨g, 0, none⟩) n n, .bool true, .int .i64 0, .bool false, .int .i64 0, .slice none 0 0] := by kernel_rfl
theorem newR (n : Int) (w : World) (hn : 1 ≤ n) (hn8 : n ≤ 8) : Calls Try.prog 24 #[.int .i64 n] w fun e w' => ∃ p F, e = .returned (.tuple #[.pointer (some ⟨p, 0, none⟩), .int .i64 0]) ∧ Dk 75 86 w' p F (St.fresh n.toNat) ∧ (∀ i, F i → w.heap.size ≤ i) ∧ Below w.heap.size w w' := by
  obtain ⟨k, rfl⟩ : ∃ k : Nat, n = (k : Int) := ⟨n.toNat, by omega⟩
  rw [Int.toNat_natCast]
  have h1 : (1 : Int) ≤ (k : Int) := hn
  have h8 : (k : Int) ≤ 8 := hn8
  go_enter Try.func24, Try.ntmps24
  go_wp2_with (first
    | (refine wpList_make_any _ rfl (.tmp 10) (.tmp 10) 73 rfl 86 (.agg #[.slice none 0 0, .int .i64 0]) 2 32 Try.underlying73 info86 k rfl rfl (by omega) (by omega) ?_; intro w1 hB hz hb; rw [made82 k (by omega)] at hB; have HB := hidden hB; clear hB hz)
    | (refine wpList_build_to rfl 75 #[(0, .tmp 11), (1, .const (.bool true))] rfl [(0, .slice (some ⟨w.heap.size, 0, none⟩) k k), (1, .bool true)] #[.slice (some ⟨w.heap.size, 0, none⟩) k k, .bool true, .int .i64 0, .bool false, .int .i64 0, .slice none 0 0] ?_ (built75 _ _) ?_; kernel_rfl)
    | (refine wpList_box_blk rfl 75 (.tmp 12) rfl [.slice (some ⟨w.heap.size, 0, none⟩) k k, .bool true, .int .i64 0, .bool false, .int .i64 0, .slice none 0 0] rfl ?_; intro w2 B2 bl2 hz2))
  go_ret2
  have hs : w.heap.size ≤ w1.heap.size := hb.size
  refine ⟨w1.heap.size, fun i => i = w1.heap.size ∨ i = w.heap.size, rfl, DR_fresh HB.out (by omega) (by omega) bl2 B2, ?_, hb.trans (bl2.mono hs)⟩
  rintro i (rfl | rfl)
  · exact hs
  · exact Nat.le_refl _
theorem newR_none (n : Int) (w : World) (hn : n < 1 ∨ 8 < n) : Calls Try.prog 24 #[.int .i64 n] w fun e w' => e = .returned (.tuple #[.pointer none, .int .i64 1]) ∧ w' = w := by
  by_cases h1 : n < 1
  · clear hn
    go_enter Try.func24, Try.ntmps24
    go_wp2_with fail
    go_ret2
    exact ⟨rfl, rfl⟩
  · have h8 : 8 < n := by omega
    have h1' : 1 ≤ n := by omega
    clear hn h1
    go_enter Try.func24, Try.ntmps24
    go_wp2_with fail
    go_ret2
    exact ⟨rfl, rfl⟩

set_option maxRecDepth 10000 in
set_option maxHeartbeats 4000000 in
theorem failR (p fb fc : Nat) (rs : List (Value × Fl)) (on : Bool) (falls : Nat) (set : Bool) (ops : Nat) (kv : Value) (kl : List Int) (ka : Option Addr) (kn kc : Nat) (K : List Int) (w : World) (h : DR 75 86 w p fb fc rs on falls set ops kv kl) (hS : Sn w ka kn K) (hka : ∀ x, ka = some x → 0 < kn → x.block ≠ fb) (hf : falls ≤ 1099511627776) :
    Calls Try.prog 51 #[.pointer (some ⟨p, 0, none⟩), .slice ka kn kc] w fun e w' => e = .returned (.tuple #[]) ∧ ∃ rs', DR 75 86 w' p fb fc rs' false (falls + 1) false ops kv kl ∧ Lost rs K rs.length rs' ∧ Chg (fun k => k = p ∨ k = fb) w w' := by
  obtain ⟨n, hn⟩ : ∃ n, rs.length = n := ⟨_, rfl⟩
  have h8 := h.n8
  have h1 := h.n1
  rw [hn] at h8 h1 ⊢
  have hpf : p ≠ fb := by
    rintro rfl
    exact absurd (h.tgp.one h.tgf) (by decide)
  have hpf2 : True := trivial
  have HH := hidden h
  have HS := hidden hS
  have HKA := hidden hka
  have HN := hidden hn
  clear h hS hka hn
  go_enter Try.func51, Try.ntmps51
  go_wp2_with fail
  go_loopw [4] (fun iv wr => ∃ (i : Nat) (rs' : List (Value × Fl)), i ≤ n ∧ iv = .int .i64 (i : Int) ∧ DR 75 86 wr p fb fc rs' on falls set ops kv kl ∧ Lost rs K i rs' ∧ Chg (fun k => k = fb) w wr) (fun iv _ => (n - (intOf iv).toNat))
  case atStart => exact ⟨0, rs, Nat.zero_le _, rfl, HH.out, Lost.zero _ _, Chg.refl _ _⟩
  case round =>
    rename World => wr
    obtain ⟨i, rs', hle, rfl, hD, hL, hC⟩ := hrel
    have hl : rs'.length = n := by rw [hL.1]; exact HN.out
    have d0 := hD.blk.cell 0
    simp only [List.getElem?_cons_succ, List.getElem?_cons_zero] at d0
    rw [hl] at d0
    have HD := hidden hD
    have HLo := hidden hL
    have HC := hidden hC
    by_cases hi : i < n
    · obtain ⟨r', hr'⟩ : ∃ r', rs'[i]? = some r' := ⟨_, List.getElem?_eq_getElem (by omega)⟩
      have hs2 : Hid (Sn wr ka kn K) := HC.out.sn HS.out (fun x hx h0 e => HKA.out x hx h0 e)
      have hR := hD.row i r' hr'
      obtain ⟨ad, c, hv⟩ := owns_form hR.row
      have h1' := hR.row
      have e0 := owns_cell hD.files _ _ (fcells_row rs' i r' hr')
      have e1 := owns_cell hD.files _ _ (fcells_n rs' i r' hr')
      have g0 := owns_frozen hD.files (i * 2)
      have g1 := owns_frozen hD.files (i * 2 + 1)
      rw [hv] at h1' e0
      have hc := owns_le h1'
      have hle2 := hR.le
      have htop := hR.top
      obtain ⟨m, hm⟩ : ∃ m, r'.2.b.length = m := ⟨_, rfl⟩
      have HM := hidden hm
      rw [hm] at e0 hc hle2 htop
      have HV := hidden hv
      have HR := hidden hr'
      obtain ⟨kk, hkk⟩ : ∃ kk, K.getD i 0 = kk := ⟨_, rfl⟩
      have hb := HS.out.int.at i
      rw [hkk] at hb
      have HKK := hidden hkk
      have hgo : ∀ t : Nat, t = r'.2.n + min kk.toNat (m - r'.2.n) → ∀ w2, w2 = (wr.setCell ⟨fb, i * 2, none⟩ (.slice ad t c)).setCell ⟨fb, i * 2 + 1, none⟩ (.int .i64 (t : Int)) → ∃ rs2, DR 75 86 w2 p fb fc rs2 on falls set ops kv kl ∧ Lost rs K (i + 1) rs2 ∧ Chg (fun k => k = fb) w w2 := by
        intro t ht w2 hw2
        have htl : t ≤ r'.2.b.length := by rw [HM.out]; omega
        obtain ⟨d1, d2, d3⟩ := HD.out.cutTo ty75 i r' HR.out ad c HV.out t t htl (Nat.le_refl _) hw2
        refine ⟨_, d1, ?_, HC.out.trans d2 (fun _ _ h => h)⟩
        have e : (⟨r'.2.b.take t, t⟩ : Fl) = r'.2.lose (K.getD i 0) := by
          unfold Fl.lose
          rw [HKK.out, HM.out, ← ht]
        rw [e]
        exact HLo.out.step HR.out d3
      have HGO := hidden hgo
      obtain ⟨t, ht⟩ : ∃ t, r'.2.n + min kk.toNat (m - r'.2.n) = t := ⟨_, rfl⟩
      have hsub : (m : Int) - (r'.2.n : Int) = ((m - r'.2.n : Nat) : Int) := by omega
      obtain ⟨d, hd⟩ : ∃ d, m - r'.2.n = d := ⟨_, rfl⟩
      rw [hd] at hsub ht
      have HT := hidden ht
      have HDd := hidden hd
      obtain ⟨y, hy⟩ : ∃ y, r'.2.n = y := ⟨_, rfl⟩
      have HY := hidden hy
      rw [hy] at e1 hle2 hsub
      clear hD hL hC hr' hv hR h1' hm hkk hgo hd
      have fin : ∀ w3, (∃ k, w3 = ((wr.setCell ⟨fb, i * 2, none⟩ (.slice ad t c)).setCell ⟨fb, i * 2 + 1, none⟩ (.int .i64 (t : Int))).drewN k) → ∃ rs2, DR 75 86 w3 p fb fc rs2 on falls set ops kv kl ∧ Lost rs K (i + 1) rs2 ∧ Chg (fun k => k = fb) w w3 := by
        rintro w3 ⟨k, rfl⟩
        obtain ⟨rs2, q1, q2, q3⟩ := HGO.out t (by rw [HDd.out]; exact HT.out.symm) _ rfl
        exact ⟨rs2, q1.chg (Chg.drewN (fun _ => False) _ k) (fun _ _ h => h), q2, q3.trans (Chg.drewN (fun _ => False) _ k) (fun _ _ h => h.elim)⟩
      have HFIN := hidden fin
      clear fin HGO
      by_cases hk : i < kn
      · obtain ⟨g, off, rfl, hcell⟩ := hs2.out.at (by omega)
        have ck := hcell i hk
        rw [HKK.out] at ck
        clear hcell
        by_cases hpos : 0 < kk
        · obtain ⟨q, rfl⟩ : ∃ q : Nat, kk = (q : Int) := ⟨kk.toNat, by omega⟩
          have hty : t ≤ m := by have := HT.out; have := HDd.out; have := HY.out; omega
          by_cases hq : q ≤ d
          · have hti : (y : Int) + (q : Int) = (t : Int) := by have := HT.out; have := HY.out; omega
            clear ht hy
            go_wp2_with fail
            go_region
            go_wp2_with fail
            go_region
            go_wp2_with fail
            obtain ⟨rs2, q1, q2, q3⟩ := HFIN.out _ ⟨2, rfl⟩
            refine ⟨⟨i + 1, rs2, by omega, by first | rfl | simp, q1, q2, q3⟩, ?_⟩
            simp [intOf]
            omega
          · have hti : (y : Int) + (d : Int) = (t : Int) := by have := HT.out; have := HY.out; omega
            have hq2 : d < q := by omega
            clear ht hy
            go_wp2_with fail
            go_region
            go_wp2_with fail
            go_region
            go_wp2_with fail
            obtain ⟨rs2, q1, q2, q3⟩ := HFIN.out _ ⟨2, rfl⟩
            refine ⟨⟨i + 1, rs2, by omega, by first | rfl | simp, q1, q2, q3⟩, ?_⟩
            simp [intOf]
            omega
        · have hpos2 : kk ≤ 0 := by omega
          have hty : t = y := by have := HT.out; have := HY.out; omega
          clear ht hy
          subst hty
          have htc : t ≤ c := by omega
          go_wp2_with fail
          go_region
          go_wp2_with fail
          obtain ⟨rs2, q1, q2, q3⟩ := HFIN.out _ ⟨1, rfl⟩
          refine ⟨⟨i + 1, rs2, by omega, by first | rfl | simp, q1, q2, q3⟩, ?_⟩
          simp [intOf]
          omega
      · have hk2 : kn ≤ i := by omega
        have hk0 : kk = 0 := by
          have := HS.out.len
          rw [← HKK.out]
          simp [List.getD, show K.length ≤ i by omega]
        have hty : t = y := by have := HT.out; have := HY.out; omega
        clear ht hy
        subst hty
        have htc : t ≤ c := by omega
        go_wp2_with fail
        go_region
        go_wp2_with fail
        obtain ⟨rs2, q1, q2, q3⟩ := HFIN.out _ ⟨1, rfl⟩
        refine ⟨⟨i + 1, rs2, by omega, by first | rfl | simp, q1, q2, q3⟩, ?_⟩
        simp [intOf]
        omega
    · have hin : i = n := by omega
      subst hin
      clear hD hL hC
      have B0 := HD.out.blk
      have d1 := B0.cell 1
      have d2 := B0.cell 2
      have d3 := B0.cell 3
      simp only [List.getElem?_cons_succ, List.getElem?_cons_zero] at d1 d2 d3
      have f1 := B0.frozen 1
      have f2 := B0.frozen 2
      have f3 := B0.frozen 3
      have HB := hidden B0
      clear B0
      go_wp2_with fail
      go_end0
      have hS3 := ((HB.out.set 1 (.bool false)).set 2 (.int .i64 ((falls + 1 : Nat) : Int))).set 3 (.bool false)
      simp only [List.set_cons_succ, List.set_cons_zero] at hS3
      have hC3 : Chg (fun i => i = p) wr _ := ((Chg.set ⟨p, 1, none⟩ (.bool false) wr).trans (Chg.set ⟨p, 2, none⟩ (.int .i64 ((falls + 1 : Nat) : Int)) _) (fun _ _ h => h)).trans (Chg.set ⟨p, 3, none⟩ (.bool false) _) (fun _ _ h => h)
      refine ⟨rfl, rs', HD.out.swap ty75 hC3 hS3 HD.out.keep HD.out.kint HD.out.opsb HD.out.klen, HLo.out, (HC.out.mono (fun _ _ h => .inr h)).trans hC3 (fun _ _ h => .inl h)⟩

end Go.Proofs.Ytgmcfejmhlglkaa
