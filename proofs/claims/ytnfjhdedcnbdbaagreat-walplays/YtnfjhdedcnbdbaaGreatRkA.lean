import Derived.Test.YtnfjhdedcnbdbaaGreatChecked
import Derived.Test.YtnfjhdedcnbdbaaGreatDsk
import Derived.Deep.QuietTactic
import Derived.Deep.CutRange
import Derived.BigQuiet
import Derived.Handy
import Derived.Test.YtnfjhdedcnbdbaaGreatDkC
namespace Go.Proofs.YtnfjhdedcnbdbaaGreat
open Go.RowKit
set_option linter.unusedVariables false
set_option linter.unusedSimpArgs false

set_option maxRecDepth 100000 in
theorem hasR (p : Nat) (F : Nat → Prop) (S : St) (w : World) (f : Int) (h : Dk 82 97 w p F S) (b : Bool) (hb : b = decide (0 ≤ f ∧ f < S.L.length)) : Calls Tryz.prog 82 #[.pointer (some ⟨p, 0, none⟩), .int .i64 f] w fun e w' => e = .returned (.bool b) ∧ w' = w := by
  obtain ⟨fb, fc, set, ops, ka, kn, kc, c0, c1, c2, c3, c4, c5, h8, h1⟩ := h.head
  clear h
  obtain ⟨n, hn⟩ : ∃ n, S.L.length = n := ⟨_, rfl⟩
  rw [hn] at c0 hb h8 h1
  clear hn
  by_cases h0 : 0 ≤ f
  · by_cases h2 : f < n
    · have hb2 : b = true := by rw [hb]; simp [h0, h2]
      subst hb2
      clear hb
      go_enter Tryz.func82, Tryz.ntmps82
      go_wp2_with fail
      go_ret
      exact ⟨rfl, rfl⟩
    · have hb2 : b = false := by rw [hb]; simp [h2]
      subst hb2
      clear hb
      have h2' : (n : Int) ≤ f := by omega
      go_enter Tryz.func82, Tryz.ntmps82
      go_wp2_with fail
      go_ret
      exact ⟨rfl, rfl⟩
  · have hb2 : b = false := by rw [hb]; simp [h0]
    subst hb2
    clear hb
    have h0' : f < 0 := by omega
    go_enter Tryz.func82, Tryz.ntmps82
    go_wp2_with fail
    go_ret
    exact ⟨rfl, rfl⟩
set_option maxRecDepth 100000 in
theorem refusalR (p : Nat) (F : Nat → Prop) (S : St) (w : World) (f : Int) (h : Dk 82 97 w p F S) : Calls Tryz.prog 65 #[.pointer (some ⟨p, 0, none⟩), .int .i64 f] w fun e w' => e = .returned (.int .i64 (S.refuse f)) ∧ w' = w := by
  have hh := hidden (fun b => hasR p F S w f h b)
  obtain ⟨fb, fc, set, ops, ka, kn, kc, c0, c1, c2, c3, c4, c5, h8, h1⟩ := h.head
  clear h
  have hx : Hid (S.refuse f = if S.on = false then 40 else if 0 ≤ f ∧ f < S.L.length then 0 else 1) := rfl
  obtain ⟨x, he⟩ : ∃ x, S.refuse f = x := ⟨_, rfl⟩
  rw [he] at hx ⊢
  clear he c0
  obtain ⟨on, ho⟩ : ∃ on, S.on = on := ⟨_, rfl⟩
  rw [ho] at c1 hx
  cases on with
  | false =>
    have h40 : x = 40 := hx.out
    subst h40
    go_enter Tryz.func65, Tryz.ntmps65
    go_wp2_with fail
    go_ret
    exact ⟨rfl, rfl⟩
  | true =>
    by_cases hf : 0 ≤ f ∧ f < S.L.length
    · have h40 : x = 0 := by rw [hx.out, if_neg (by decide), if_pos hf]
      subst h40
      go_enter Tryz.func65, Tryz.ntmps65
      go_wp2_with fail
      refine (hh.out true (decide_eq_true hf).symm).mono ?_
      rintro e w' ⟨rfl, rfl⟩
      go_wp2_with fail
      go_ret
      exact ⟨rfl, rfl⟩
    · have h40 : x = 1 := by rw [hx.out, if_neg (by decide), if_neg hf]
      subst h40
      go_enter Tryz.func65, Tryz.ntmps65
      go_wp2_with fail
      refine (hh.out false (decide_eq_false hf).symm).mono ?_
      rintro e w' ⟨rfl, rfl⟩
      go_wp2_with fail
      go_ret
      exact ⟨rfl, rfl⟩
set_option maxRecDepth 100000 in
theorem sizeR (p : Nat) (F : Nat → Prop) (S : St) (w : World) (f : Int) (h : Dk 82 97 w p F S) : Calls Tryz.prog 51 #[.pointer (some ⟨p, 0, none⟩), .int .i64 f] w fun e w' => e = .returned (.int .i64 (S.size f)) ∧ w' = w := by
  have hh := hidden (fun b => hasR p F S w f h b)
  obtain ⟨x, hx⟩ : ∃ x, S.size f = x := ⟨_, rfl⟩
  rw [hx]
  by_cases hf : 0 ≤ f ∧ f < S.L.length
  · obtain ⟨i, rfl⟩ : ∃ i : Nat, f = (i : Int) := ⟨f.toNat, by omega⟩
    have hi : i < S.L.length := by omega
    obtain ⟨fb, fc, ad, c, y, hy, c0, c1, c2, ho, hb, ht, hl, h8, hF⟩ := h.at i hi
    have hh2 := hidden (hh.out true (decide_eq_true hf).symm)
    unfold St.size at hx
    rw [if_pos hf, Int.toNat_natCast, hy] at hx
    simp only at hx
    subst hx
    clear h hh hf ho hb hl hF
    obtain ⟨n, hn⟩ : ∃ n, S.L.length = n := ⟨_, rfl⟩
    rw [hn] at c0 hi h8
    obtain ⟨m, hm⟩ : ∃ m, y.b.length = m := ⟨_, rfl⟩
    rw [hm] at c1 ht ⊢
    clear hn hm hy
    go_enter Tryz.func51, Tryz.ntmps51
    go_wp2_with fail
    refine hh2.out.mono ?_
    rintro e w' ⟨rfl, rfl⟩
    go_wp2_with fail
    go_ret
    exact ⟨rfl, rfl⟩
  · have hx2 : x = -1 := by rw [← hx]; exact if_neg hf
    subst hx2
    have hh2 := hidden (hh.out false (decide_eq_false hf).symm)
    clear hh hx h hf
    go_enter Tryz.func51, Tryz.ntmps51
    go_wp2_with fail
    refine hh2.out.mono ?_
    rintro e w' ⟨rfl, rfl⟩
    go_wp2_with fail
    go_ret
    exact ⟨rfl, rfl⟩
set_option maxRecDepth 100000 in
theorem lastsR (p : Nat) (F : Nat → Prop) (S : St) (w : World) (f : Int) (h : Dk 82 97 w p F S) : Calls Tryz.prog 68 #[.pointer (some ⟨p, 0, none⟩), .int .i64 f] w fun e w' => e = .returned (.int .i64 (S.lasts f)) ∧ w' = w := by
  have hh := hidden (fun b => hasR p F S w f h b)
  obtain ⟨x, hx⟩ : ∃ x, S.lasts f = x := ⟨_, rfl⟩
  rw [hx]
  by_cases hf : 0 ≤ f ∧ f < S.L.length
  · obtain ⟨i, rfl⟩ : ∃ i : Nat, f = (i : Int) := ⟨f.toNat, by omega⟩
    have hi : i < S.L.length := by omega
    obtain ⟨fb, fc, ad, c, y, hy, c0, c1, c2, ho, hb, ht, hl, h8, hF⟩ := h.at i hi
    have hh2 := hidden (hh.out true (decide_eq_true hf).symm)
    unfold St.lasts at hx
    rw [if_pos hf, Int.toNat_natCast, hy] at hx
    simp only at hx
    subst hx
    clear h hh hf ho hb hF
    obtain ⟨n, hn⟩ : ∃ n, S.L.length = n := ⟨_, rfl⟩
    rw [hn] at c0 hi h8
    obtain ⟨m, hm⟩ : ∃ m, y.b.length = m := ⟨_, rfl⟩
    rw [hm] at c1 ht hl
    clear hn hm hy
    go_enter Tryz.func68, Tryz.ntmps68
    go_wp2_with fail
    refine hh2.out.mono ?_
    rintro e w' ⟨rfl, rfl⟩
    go_wp2_with fail
    go_ret
    exact ⟨rfl, rfl⟩
  · have hx2 : x = -1 := by rw [← hx]; exact if_neg hf
    subst hx2
    have hh2 := hidden (hh.out false (decide_eq_false hf).symm)
    clear hh hx h hf
    go_enter Tryz.func68, Tryz.ntmps68
    go_wp2_with fail
    refine hh2.out.mono ?_
    rintro e w' ⟨rfl, rfl⟩
    go_wp2_with fail
    go_ret
    exact ⟨rfl, rfl⟩

end Go.Proofs.YtnfjhdedcnbdbaaGreat

/-
  The document's disk: new; the power comes back, and fails.
-/
namespace Go.Proofs.YtnfjhdedcnbdbaaGreat
open Go.RowKit
set_option linter.unusedVariables false
set_option linter.unusedSimpArgs false

theorem built75 (g n : Nat) : Tryz.prog.built 82 [(0, .slice (some ⟨g, 0, none⟩) n n), (1, .bool true)] = some #[.slice (some ⟨g, 0, none⟩) n n, .bool true, .int .i64 0, .bool false, .int .i64 0, .slice none 0 0] := by kernel_rfl
set_option maxRecDepth 100000 in
theorem newR (n : Int) (w : World) (hn : 1 ≤ n) (hn8 : n ≤ 8) : Calls Tryz.prog 19 #[.int .i64 n] w fun e w' => ∃ p F, e = .returned (.tuple #[.pointer (some ⟨p, 0, none⟩), .int .i64 0]) ∧ Dk 82 97 w' p F (St.fresh n.toNat) ∧ (∀ i, F i → w.heap.size ≤ i) ∧ Below w.heap.size w w' := by
  obtain ⟨k, rfl⟩ : ∃ k : Nat, n = (k : Int) := ⟨n.toNat, by omega⟩
  rw [Int.toNat_natCast]
  have h1 : (1 : Int) ≤ (k : Int) := hn
  have h8 : (k : Int) ≤ 8 := hn8
  go_enter Tryz.func19, Tryz.ntmps19
  go_wp2_with (first
    | (refine wpList_make_any _ rfl (.tmp 10) (.tmp 10) 80 rfl 97 (.agg #[.slice none 0 0, .int .i64 0]) 2 32 Tryz.underlying80 info86 k rfl rfl (by omega) (by omega) ?_; intro w1 hB hz hb; rw [made82 k (by omega)] at hB; have HB := hidden hB; clear hB hz)
    | (refine wpList_build_to rfl 82 #[(0, .tmp 11), (1, .const (.bool true))] rfl [(0, .slice (some ⟨w.heap.size, 0, none⟩) k k), (1, .bool true)] #[.slice (some ⟨w.heap.size, 0, none⟩) k k, .bool true, .int .i64 0, .bool false, .int .i64 0, .slice none 0 0] ?_ (built75 _ _) ?_; kernel_rfl)
    | (refine wpList_box_blk rfl 82 (.tmp 12) rfl [.slice (some ⟨w.heap.size, 0, none⟩) k k, .bool true, .int .i64 0, .bool false, .int .i64 0, .slice none 0 0] rfl ?_; intro w2 B2 bl2 hz2))
  go_ret2
  have hs : w.heap.size ≤ w1.heap.size := hb.size
  refine ⟨w1.heap.size, fun i => i = w1.heap.size ∨ i = w.heap.size, rfl, DR_fresh HB.out (by omega) (by omega) bl2 B2, ?_, hb.trans (bl2.mono hs)⟩
  rintro i (rfl | rfl)
  · exact hs
  · exact Nat.le_refl _
set_option maxRecDepth 100000 in
theorem newR_none (n : Int) (w : World) (hn : n < 1 ∨ 8 < n) : Calls Tryz.prog 19 #[.int .i64 n] w fun e w' => e = .returned (.tuple #[.pointer none, .int .i64 1]) ∧ w' = w := by
  by_cases h1 : n < 1
  · clear hn
    go_enter Tryz.func19, Tryz.ntmps19
    go_wp2_with fail
    go_ret2
    exact ⟨rfl, rfl⟩
  · have h8 : 8 < n := by omega
    have h1' : 1 ≤ n := by omega
    clear hn h1
    go_enter Tryz.func19, Tryz.ntmps19
    go_wp2_with fail
    go_ret2
    exact ⟨rfl, rfl⟩

set_option maxRecDepth 10000 in
set_option maxHeartbeats 4000000 in
set_option maxRecDepth 100000 in
theorem failR (p fb fc : Nat) (rs : List (Value × Fl)) (on : Bool) (falls : Nat) (set : Bool) (ops : Nat) (kv : Value) (kl : List Int) (ka : Option Addr) (kn kc : Nat) (K : List Int) (w : World) (h : DR 82 97 w p fb fc rs on falls set ops kv kl) (hS : Sn w ka kn K) (hka : ∀ x, ka = some x → 0 < kn → x.block ≠ fb) (hf : falls ≤ 1099511627776) :
    Calls Tryz.prog 62 #[.pointer (some ⟨p, 0, none⟩), .slice ka kn kc] w fun e w' => e = .returned (.tuple #[]) ∧ ∃ rs', DR 82 97 w' p fb fc rs' false (falls + 1) false ops kv kl ∧ Lost rs K rs.length rs' ∧ Chg (fun k => k = p ∨ k = fb) w w' := by
  obtain ⟨n, hn⟩ : ∃ n, rs.length = n := ⟨_, rfl⟩
  have h8 := h.n8
  have h1 := h.n1
  rw [hn] at h8 h1 ⊢
  have hpf : p ≠ fb := by
    rintro rfl
    exact absurd (h.tgp.one h.tgf) (by decide)
  have hpf2 : True := trivial
  have HH := hidden h
  have HS := hidden hS
  have HKA := hidden hka
  have HN := hidden hn
  clear h hS hka hn
  go_enter Tryz.func62, Tryz.ntmps62
  go_wp2_with fail
  go_loopw [4] (fun iv wr => ∃ (i : Nat) (rs' : List (Value × Fl)), i ≤ n ∧ iv = .int .i64 (i : Int) ∧ DR 82 97 wr p fb fc rs' on falls set ops kv kl ∧ Lost rs K i rs' ∧ Chg (fun k => k = fb) w wr) (fun iv _ => (n - (intOf iv).toNat))
  case atStart => exact ⟨0, rs, Nat.zero_le _, rfl, HH.out, Lost.zero _ _, Chg.refl _ _⟩
  case round =>
    rename World => wr
    obtain ⟨i, rs', hle, rfl, hD, hL, hC⟩ := hrel
    have hl : rs'.length = n := by rw [hL.1]; exact HN.out
    have d0 := hD.blk.cell 0
    simp only [List.getElem?_cons_succ, List.getElem?_cons_zero] at d0
    rw [hl] at d0
    have HD := hidden hD
    have HLo := hidden hL
    have HC := hidden hC
    by_cases hi : i < n
    · obtain ⟨r', hr'⟩ : ∃ r', rs'[i]? = some r' := ⟨_, List.getElem?_eq_getElem (by omega)⟩
      have hs2 : Hid (Sn wr ka kn K) := HC.out.sn HS.out (fun x hx h0 e => HKA.out x hx h0 e)
      have hR := hD.row i r' hr'
      obtain ⟨ad, c, hv⟩ := owns_form hR.row
      have h1' := hR.row
      have e0 := owns_cell hD.files _ _ (fcells_row rs' i r' hr')
      have e1 := owns_cell hD.files _ _ (fcells_n rs' i r' hr')
      have g0 := owns_frozen hD.files (i * 2)
      have g1 := owns_frozen hD.files (i * 2 + 1)
      rw [hv] at h1' e0
      have hc := owns_le h1'
      have hle2 := hR.le
      have htop := hR.top
      obtain ⟨m, hm⟩ : ∃ m, r'.2.b.length = m := ⟨_, rfl⟩
      have HM := hidden hm
      rw [hm] at e0 hc hle2 htop
      have HV := hidden hv
      have HR := hidden hr'
      obtain ⟨kk, hkk⟩ : ∃ kk, K.getD i 0 = kk := ⟨_, rfl⟩
      have hb := HS.out.int.at i
      rw [hkk] at hb
      have HKK := hidden hkk
      have hgo : ∀ t : Nat, t = r'.2.n + min kk.toNat (m - r'.2.n) → ∀ w2, w2 = (wr.setCell ⟨fb, i * 2, none⟩ (.slice ad t c)).setCell ⟨fb, i * 2 + 1, none⟩ (.int .i64 (t : Int)) → ∃ rs2, DR 82 97 w2 p fb fc rs2 on falls set ops kv kl ∧ Lost rs K (i + 1) rs2 ∧ Chg (fun k => k = fb) w w2 := by
        intro t ht w2 hw2
        have htl : t ≤ r'.2.b.length := by rw [HM.out]; omega
        obtain ⟨d1, d2, d3⟩ := HD.out.cutTo ty75 i r' HR.out ad c HV.out t t htl (Nat.le_refl _) hw2
        refine ⟨_, d1, ?_, HC.out.trans d2 (fun _ _ h => h)⟩
        have e : (⟨r'.2.b.take t, t⟩ : Fl) = r'.2.lose (K.getD i 0) := by
          unfold Fl.lose
          rw [HKK.out, HM.out, ← ht]
        rw [e]
        exact HLo.out.step HR.out d3
      have HGO := hidden hgo
      obtain ⟨t, ht⟩ : ∃ t, r'.2.n + min kk.toNat (m - r'.2.n) = t := ⟨_, rfl⟩
      have hsub : (m : Int) - (r'.2.n : Int) = ((m - r'.2.n : Nat) : Int) := by omega
      obtain ⟨d, hd⟩ : ∃ d, m - r'.2.n = d := ⟨_, rfl⟩
      rw [hd] at hsub ht
      have HT := hidden ht
      have HDd := hidden hd
      obtain ⟨y, hy⟩ : ∃ y, r'.2.n = y := ⟨_, rfl⟩
      have HY := hidden hy
      rw [hy] at e1 hle2 hsub
      clear hD hL hC hr' hv hR h1' hm hkk hgo hd
      have fin : ∀ w3, (∃ k, w3 = ((wr.setCell ⟨fb, i * 2, none⟩ (.slice ad t c)).setCell ⟨fb, i * 2 + 1, none⟩ (.int .i64 (t : Int))).drewN k) → ∃ rs2, DR 82 97 w3 p fb fc rs2 on falls set ops kv kl ∧ Lost rs K (i + 1) rs2 ∧ Chg (fun k => k = fb) w w3 := by
        rintro w3 ⟨k, rfl⟩
        obtain ⟨rs2, q1, q2, q3⟩ := HGO.out t (by rw [HDd.out]; exact HT.out.symm) _ rfl
        exact ⟨rs2, q1.chg (Chg.drewN (fun _ => False) _ k) (fun _ _ h => h), q2, q3.trans (Chg.drewN (fun _ => False) _ k) (fun _ _ h => h.elim)⟩
      have HFIN := hidden fin
      clear fin HGO
      by_cases hk : i < kn
      · obtain ⟨g, off, rfl, hcell⟩ := hs2.out.at (by omega)
        have ck := hcell i hk
        rw [HKK.out] at ck
        clear hcell
        by_cases hpos : 0 < kk
        · obtain ⟨q, rfl⟩ : ∃ q : Nat, kk = (q : Int) := ⟨kk.toNat, by omega⟩
          have hty : t ≤ m := by have := HT.out; have := HDd.out; have := HY.out; omega
          by_cases hq : q ≤ d
          · have hti : (y : Int) + (q : Int) = (t : Int) := by have := HT.out; have := HY.out; omega
            clear ht hy
            go_wp2_with fail
            go_region
            go_wp2_with fail
            go_region
            go_wp2_with fail
            obtain ⟨rs2, q1, q2, q3⟩ := HFIN.out _ ⟨2, rfl⟩
            refine ⟨⟨i + 1, rs2, by omega, by first | rfl | simp, q1, q2, q3⟩, ?_⟩
            simp [intOf]
            omega
          · have hti : (y : Int) + (d : Int) = (t : Int) := by have := HT.out; have := HY.out; omega
            have hq2 : d < q := by omega
            clear ht hy
            go_wp2_with fail
            go_region
            go_wp2_with fail
            go_region
            go_wp2_with fail
            obtain ⟨rs2, q1, q2, q3⟩ := HFIN.out _ ⟨2, rfl⟩
            refine ⟨⟨i + 1, rs2, by omega, by first | rfl | simp, q1, q2, q3⟩, ?_⟩
            simp [intOf]
            omega
        · have hpos2 : kk ≤ 0 := by omega
          have hty : t = y := by have := HT.out; have := HY.out; omega
          clear ht hy
          subst hty
          have htc : t ≤ c := by omega
          go_wp2_with fail
          go_region
          go_wp2_with fail
          obtain ⟨rs2, q1, q2, q3⟩ := HFIN.out _ ⟨1, rfl⟩
          refine ⟨⟨i + 1, rs2, by omega, by first | rfl | simp, q1, q2, q3⟩, ?_⟩
          simp [intOf]
          omega
      · have hk2 : kn ≤ i := by omega
        have hk0 : kk = 0 := by
          have := HS.out.len
          rw [← HKK.out]
          simp [List.getD, show K.length ≤ i by omega]
        have hty : t = y := by have := HT.out; have := HY.out; omega
        clear ht hy
        subst hty
        have htc : t ≤ c := by omega
        go_wp2_with fail
        go_region
        go_wp2_with fail
        obtain ⟨rs2, q1, q2, q3⟩ := HFIN.out _ ⟨1, rfl⟩
        refine ⟨⟨i + 1, rs2, by omega, by first | rfl | simp, q1, q2, q3⟩, ?_⟩
        simp [intOf]
        omega
    · have hin : i = n := by omega
      subst hin
      clear hD hL hC
      have B0 := HD.out.blk
      have d1 := B0.cell 1
      have d2 := B0.cell 2
      have d3 := B0.cell 3
      simp only [List.getElem?_cons_succ, List.getElem?_cons_zero] at d1 d2 d3
      have f1 := B0.frozen 1
      have f2 := B0.frozen 2
      have f3 := B0.frozen 3
      have HB := hidden B0
      clear B0
      go_wp2_with fail
      go_end0
      have hS3 := ((HB.out.set 1 (.bool false)).set 2 (.int .i64 ((falls + 1 : Nat) : Int))).set 3 (.bool false)
      simp only [List.set_cons_succ, List.set_cons_zero] at hS3
      have hC3 : Chg (fun i => i = p) wr _ := ((Chg.set ⟨p, 1, none⟩ (.bool false) wr).trans (Chg.set ⟨p, 2, none⟩ (.int .i64 ((falls + 1 : Nat) : Int)) _) (fun _ _ h => h)).trans (Chg.set ⟨p, 3, none⟩ (.bool false) _) (fun _ _ h => h)
      refine ⟨rfl, rs', HD.out.swap ty75 hC3 hS3 HD.out.keep HD.out.kint HD.out.opsb HD.out.klen, HLo.out, (HC.out.mono (fun _ _ h => .inr h)).trans hC3 (fun _ _ h => .inl h)⟩

end Go.Proofs.YtnfjhdedcnbdbaaGreat

/-
  The document's disk: ops, Fuse, Crash, Read.
-/
namespace Go.Proofs.YtnfjhdedcnbdbaaGreat
open Go.RowKit
set_option linter.unusedVariables false
set_option linter.unusedSimpArgs false

theorem DR.file2 {dt ft : TypeId} {w w' : World} {p fb fc : Nat} {rs : List (Value × Fl)} {on : Bool} {falls : Nat} {set : Bool} {ops : Nat} {kv : Value} {kl : List Int} (ht : Ty4 dt ft) (h : DR dt ft w p fb fc rs on falls set ops kv kl) (i : Nat) (r r' : Value × Fl) (hr : rs[i]? = some r) (hc : Chg (fun k => k = fb ∨ r.1.ownBlock = some k) w w')
    (hf : w'.ownsRow 0 ft 2 (.slice (some ⟨fb, 0, none⟩) rs.length fc) rs.length (fcells (rs.set i r'))) (hR : FR w' r') (hm : ∀ g, r'.1.ownBlock = some g → r.1.ownBlock = some g ∨ w.heap.size ≤ g) : DR dt ft w' p fb fc (rs.set i r') on falls set ops kv kl := by
  obtain ⟨t1, t2, t3, t4, t5⟩ := ht
  have hF := h.tgf
  have hil := (List.getElem?_eq_some_iff.1 hr).1
  refine ⟨?_, by rw [List.length_set]; exact hf, fun j s hs => ?_, fun j k s t g hs htt hg1 hg2 => ?_, hc.owns h.keep (fun g hg e => ?_), h.kint, h.opsb, by rw [List.length_set]; exact h.n8, by rw [List.length_set]; exact h.n1, h.klen⟩
  · rw [List.length_set]
    refine hc.blk h.blk ?_
    rintro (rfl | e)
    · exact t1 (h.tgp.one hF)
    · exact t2 (h.tgp.one (h.tgr i r hr _ e))
  · rw [List.getElem?_set] at hs
    by_cases hij : i = j
    · subst hij
      rw [if_pos rfl, if_pos hil] at hs
      obtain rfl := Option.some.inj hs
      exact hR
    · rw [if_neg hij] at hs
      refine (h.row j s hs).chg hc (fun g hg => ?_)
      rintro (rfl | e)
      · exact t4 (hF.one (h.tgr j s hs _ hg))
      · exact hij (h.apart i j r s g hr hs e hg)
  · have key : ∀ (k : Nat) (t : Value × Fl), i ≠ k → rs[k]? = some t → r'.1.ownBlock = some g → t.1.ownBlock = some g → False := by
      intro k t hk htt hg1 hg2
      rcases hm g hg1 with e | hg'
      · exact hk (h.apart i k r t g hr htt e hg2)
      · have := h.lt g (.inr (.inr (.inl ⟨k, t, htt, hg2⟩)))
        omega
    rw [List.getElem?_set] at hs htt
    by_cases hij : i = j
    · subst hij
      rw [if_pos rfl, if_pos hil] at hs
      obtain rfl := Option.some.inj hs
      by_cases hik : i = k
      · exact hik
      · rw [if_neg hik] at htt
        exact (key k t hik htt hg1 hg2).elim
    · rw [if_neg hij] at hs
      by_cases hik : i = k
      · subst hik
        rw [if_pos rfl, if_pos hil] at htt
        obtain rfl := Option.some.inj htt
        exact (key j s hij hs hg2 hg1).elim
      · rw [if_neg hik] at htt
        exact h.apart j k s t g hs htt hg1 hg2
  · rcases e with rfl | e
    · exact t5 (hF.one (h.tgk _ hg))
    · exact absurd ((h.tgr i r hr _ e).one (h.tgk _ hg)) (by decide)
theorem FPd_file2 {w : World} {p fb : Nat} {rs : List (Value × Fl)} {kv : Value} {i : Nat} {r r' : Value × Fl} (hr : rs[i]? = some r) (hm : ∀ g, r'.1.ownBlock = some g → r.1.ownBlock = some g ∨ w.heap.size ≤ g) : New w (FPd p fb rs kv) (FPd p fb (rs.set i r') kv) := by
  rintro g (rfl | rfl | ⟨k, s, hs, hg⟩ | hg)
  · exact .inl (.inl rfl)
  · exact .inl (.inr (.inl rfl))
  · rw [List.getElem?_set] at hs
    by_cases hk : i = k
    · subst hk
      rw [if_pos rfl, if_pos (List.getElem?_eq_some_iff.1 hr).1] at hs
      obtain rfl := Option.some.inj hs
      rcases hm g hg with e | hg'
      · exact .inl (.inr (.inr (.inl ⟨i, r, hr, e⟩)))
      · exact .inr hg'
    · rw [if_neg hk] at hs
      exact .inl (.inr (.inr (.inl ⟨k, s, hs, hg⟩)))
  · exact .inl (.inr (.inr (.inr hg)))

/-- A disk of which a file has a new row. -/
theorem Dk.newrow {dt ft : TypeId} {w : World} {p : Nat} {F : Nat → Prop} {S : St} (ht : Ty4 dt ft) (h : Dk dt ft w p F S) (i : Nat) (x : Fl) (hx : S.L[i]? = some x) :
    ∃ fb fc ad c, w.cell? ⟨p, 0, none⟩ = some (.slice (some ⟨fb, 0, none⟩) S.L.length fc) ∧ w.cell? ⟨fb, i * 2, none⟩ = some (.slice ad x.b.length c) ∧ w.frozen? ⟨fb, i * 2, none⟩ = false ∧ w.ownsRow 0 5 1 (.slice ad x.b.length c) x.b.length (cells8 x.b) ∧ Byte x.b ∧ x.n ≤ x.b.length ∧ x.b.length ≤ 16777216 ∧ S.L.length ≤ 8 ∧ p < w.heap.size ∧ fb < w.heap.size ∧
      ∀ (w1 : World) (v' : Value) (b' : List Int), Below w.heap.size w w1 → w1.ownsRow w.heap.size 5 1 v' b'.length (cells8 b') → Byte b' → x.n ≤ b'.length → b'.length ≤ 16777216 →
        Dks dt ft w (w1.setCell ⟨fb, i * 2, none⟩ v') p F { S with L := S.L.set i ⟨b', x.n⟩ } := by
  obtain ⟨fb, fc, rs, set, ops, kv, kl, h, hL, hfu, rfl⟩ := h
  have hn : S.L.length = rs.length := by rw [hL]; simp
  obtain ⟨r, hr, hrx⟩ : ∃ r, rs[i]? = some r ∧ r.2 = x := by
    rw [hL] at hx
    simpa using hx
  have hR := h.row i r hr
  subst hrx
  obtain ⟨ad, c, hv⟩ := owns_form hR.row
  have h1 := hR.row
  have c0 := owns_cell h.files _ _ (fcells_row rs i r hr)
  rw [hv] at h1 c0
  refine ⟨fb, fc, ad, c, by rw [hn]; exact h.blk.cell 0, c0, owns_frozen h.files _, h1, hR.byte, hR.le, hR.top, by rw [hn]; exact h.n8, h.blk.lt, (h.files.lt fb rfl).2, ?_⟩
  intro w1 v' b' hbl ho hb hle htop
  have hc : Chg (fun _ => False) w w1 := Chg.of_below hbl
  have hC : Chg (fun k => k = fb ∨ r.1.ownBlock = some k) w (w1.setCell ⟨fb, i * 2, none⟩ v') := (hc.mono (fun _ _ h => h.elim)).trans (Chg.set ⟨fb, i * 2, none⟩ v' w1) (fun _ _ h => .inl h)
  have hf1 : w1.ownsRow 0 ft 2 (.slice (some ⟨fb, 0, none⟩) rs.length fc) rs.length (fcells rs) := hc.owns h.files (fun _ _ h => h)
  have hil := (List.getElem?_eq_some_iff.1 hr).1
  have hnew : ∀ g, v'.ownBlock = some g → w.heap.size ≤ g := fun g hg => (ho.lt g hg).1
  have hfl := (h.files.lt fb rfl).2
  refine ⟨_, ⟨fb, fc, rs.set i (v', ⟨b', r.2.n⟩), set, ops, kv, kl, h.file2 ht i r _ hr hC ?_ ⟨?_, hb, hle, htop⟩ (fun g hg => .inr (hnew g hg)), ?_, ?_, rfl⟩, hC.mono ?_, FPd_file2 hr (fun g hg => .inr (hnew g hg))⟩
  · rw [fcells_set_row rs i r hr]
    exact owns_setv hf1 (i * 2) v' (by rw [fcells_length]; omega)
  · refine (Chg.set ⟨fb, i * 2, none⟩ v' w1).owns (owns_zero ho) (fun g hg e => ?_)
    have := hnew g hg
    have e2 : g = fb := e
    omega
  · simp [hL, List.map_set]
  · simpa using hfu
  · rintro k _ (rfl | e)
    · exact .inr (.inl rfl)
    · exact .inr (.inr (.inl ⟨i, r, hr, e⟩))

set_option maxHeartbeats 1000000 in
set_option maxRecDepth 100000 in
theorem burnsR (p : Nat) (F : Nat → Prop) (S : St) (w : World) (h : Dk 82 97 w p F S) : Calls Tryz.prog 66 #[.pointer (some ⟨p, 0, none⟩)] w fun e w' => (S.op.1 = 0 ∧ e = .returned (.bool false) ∧ Dks 82 97 w w' p F S.op.2) ∨ (S.op.1 = 40 ∧ e = .returned (.bool true) ∧ w' = w ∧ ∃ K, S.fuse = some (0, K)) := by
  have HDk := hidden h
  obtain ⟨fb, fc, rs, set, ops, kv, kl, h, hL, hfu, rfl⟩ := h
  have B0 := h.blk
  have c3 := B0.cell 3
  have c4 := B0.cell 4
  have f4 := B0.frozen 4
  simp only [List.getElem?_cons_succ, List.getElem?_cons_zero] at c3 c4
  have HB := hidden B0
  have HH := hidden h
  have hopb := h.opsb
  clear B0 h
  have HL := hidden hL
  have HFU := hidden hfu
  clear hL hfu
  cases set with
  | false =>
    have e1 : Hid (S.op = (0, S)) := by show _ = _; unfold St.op; rw [HFU.out]; rfl
    go_enter Tryz.func66, Tryz.ntmps66
    go_wp2_with fail
    go_ret
    refine .inl ?_
    rw [e1.out]
    exact ⟨rfl, rfl, _, HDk.out, Chg.refl _ _, New.refl _ _⟩
  | true =>
    have e0 : Hid (S.fuse = some (ops, kl.take rs.length)) := HFU.out
    cases ops with
    | zero =>
      have e1 : Hid (S.op = (40, S.fail (kl.take rs.length))) := by show _ = _; unfold St.op; rw [e0.out]
      go_enter Tryz.func66, Tryz.ntmps66
      go_wp2_with fail
      go_ret
      refine .inr ?_
      rw [e1.out]
      exact ⟨rfl, rfl, rfl, _, e0.out⟩
    | succ o =>
      have e1 : Hid (S.op = (0, { S with fuse := some (o, kl.take rs.length) })) := by show _ = _; unfold St.op; rw [e0.out]
      have ho : ((o + 1 : Nat) : Int) = (o : Int) + 1 := by omega
      rw [ho] at c4
      clear ho
      have ho2 : (o : Int) + 1 - 1 = (o : Int) := by omega
      have ho3 : (o : Int) ≤ 9223372036854775806 := by omega
      have ho4 : ((o : Int) + 1 = 0) = False := by simp; omega
      go_enter Tryz.func66, Tryz.ntmps66
      go_wp2_with fail
      go_ret
      refine .inl ?_
      rw [e1.out]
      have hB := HB.out.set 4 (.int .i64 (o : Int))
      simp only [List.set_cons_succ, List.set_cons_zero] at hB
      have hC := Chg.set ⟨p, 4, none⟩ (.int .i64 (o : Int)) w
      exact ⟨rfl, rfl, _, ⟨fb, fc, rs, true, o, kv, kl, HH.out.swap ty75 hC hB HH.out.keep HH.out.kint (by omega) HH.out.klen, HL.out, rfl, rfl⟩, hC.mono (fun i _ hi => .inl hi), New.refl _ _⟩

theorem Lost.fp2 {rs rs' : List (Value × Fl)} {K : List Int} {i : Nat} (h : Lost rs K i rs') (w : World) (p fb : Nat) (kv : Value) : New w (FPd p fb rs kv) (FPd p fb rs' kv) := by
  rintro g (rfl | rfl | ⟨k, r, hr, hg⟩ | hg)
  · exact .inl (.inl rfl)
  · exact .inl (.inr (.inl rfl))
  · have hk : k < rs.length := by have := (List.getElem?_eq_some_iff.1 hr).1; have := h.1; omega
    obtain ⟨u, hu, hu2⟩ := h.2 k rs[k] (List.getElem?_eq_getElem hk)
    rw [hr] at hu2
    obtain rfl := Option.some.inj hu2
    exact .inl (.inr (.inr (.inl ⟨k, rs[k], List.getElem?_eq_getElem hk, by rw [← hu]; exact hg⟩)))
  · exact .inl (.inr (.inr (.inr hg)))
/-- The fuse's own list. -/
theorem Dk.keepR {w : World} {p : Nat} {F : Nat → Prop} {S : St} (h : Dk 82 97 w p F S) (hf : S.falls ≤ 1099511627776) {q : Nat} {K : List Int} (hfu : S.fuse = some (q, K)) :
    ∃ ka kn kc, w.cell? ⟨p, 5, none⟩ = some (.slice ka kn kc) ∧ Calls Tryz.prog 62 #[.pointer (some ⟨p, 0, none⟩), .slice ka kn kc] w fun e w' => e = .returned (.tuple #[]) ∧ Dks 82 97 w w' p F (S.fail K) := by
  obtain ⟨fb, fc, rs, set, ops, kv, kl, h, hL, hfu2, rfl⟩ := h
  obtain ⟨ka, kc, hkv⟩ := owns_form h.keep
  subst hkv
  refine ⟨ka, kl.length, kc, h.blk.cell 5, ?_⟩
  have hK : K = kl.take rs.length := by
    rw [hfu] at hfu2
    cases set with
    | false => cases hfu2
    | true =>
      have e : some (q, K) = some (ops, kl.take rs.length) := hfu2
      simp only [Option.some.injEq, Prod.mk.injEq] at e
      exact e.2
  refine (failR p fb fc rs S.on S.falls set ops _ kl ka kl.length kc kl w h (sn_of_owns h.keep h.kint) ?_ hf).mono ?_
  · intro x hx h0 e
    subst hx
    have := h.tgk x.block rfl
    rw [e] at this
    exact absurd (this.one h.tgf) (by decide)
  rintro e w' ⟨rfl, rs', hD, hLo, hC⟩
  refine ⟨rfl, _, ⟨fb, fc, rs', false, ops, _, kl, hD, ?_, rfl, rfl⟩, hC.mono ?_, ?_⟩
  · show loseAll S.L _ = _
    rw [hL, hK, loseAll_take _ _ _ (by simp), hLo.all]
  · rintro i _ (rfl | rfl)
    · exact .inl rfl
    · exact .inr (.inl rfl)
  · exact hLo.fp2 w p fb _
end Go.Proofs.YtnfjhdedcnbdbaaGreat

/-
  The document's disk: Sync, Truncate, Fuse, Read.
-/
namespace Go.Proofs.YtnfjhdedcnbdbaaGreat
open Go.RowKit
set_option linter.unusedVariables false
set_option linter.unusedSimpArgs false

theorem Dk.pfb {dt ft : TypeId} {w : World} {p : Nat} {F : Nat → Prop} {S : St} (ht : Ty4 dt ft) (h : Dk dt ft w p F S) {fb n fc : Nat} (hc : w.cell? ⟨p, 0, none⟩ = some (.slice (some ⟨fb, 0, none⟩) n fc)) : p ≠ fb := by
  obtain ⟨fb', fc', rs, set, ops, kv, kl, h, hL, hfu, rfl⟩ := h
  have := h.blk.cell 0
  simp only [List.getElem?_cons_zero] at this
  rw [hc] at this
  simp at this
  obtain ⟨rfl, _⟩ := this
  rintro rfl
  exact ht.1 (h.tgp.one h.tgf)
theorem op_burn {S : St} {K : List Int} (h : S.fuse = some (0, K)) : S.op = (40, S.fail K) := by
  unfold St.op
  rw [h]

set_option maxRecDepth 10000 in
set_option maxHeartbeats 2000000 in
set_option maxRecDepth 100000 in
theorem truncateR (p : Nat) (F : Nat → Prop) (S : St) (w : World) (f n : Int) (h : Dk 82 97 w p F S) (hf : S.falls ≤ 1099511627776) (hn : -9223372036854775808 ≤ n ∧ n ≤ 9223372036854775807) :
    Calls Tryz.prog 52 #[.pointer (some ⟨p, 0, none⟩), .int .i64 f, .int .i64 n] w fun e w' => e = .returned (.int .i64 (S.truncate f n).1) ∧ Dks 82 97 w w' p F (S.truncate f n).2 := by
  have hh := hidden (refusalR p F S w f h)
  obtain ⟨er, her⟩ : ∃ er, S.refuse f = er := ⟨_, rfl⟩
  obtain ⟨q, hq⟩ : ∃ q, S.truncate f n = q := ⟨_, rfl⟩
  rw [hq]
  unfold St.truncate at hq
  rw [her] at hq hh
  have HDk := hidden h
  have HBU := hidden (burnsR p F S w h)
  by_cases h0 : er = 0
  · subst h0
    obtain ⟨hon, hf0, hf1⟩ := refuse_no her
    rw [if_neg (by simp)] at hq
    obtain ⟨i, rfl⟩ : ∃ i : Nat, f = (i : Int) := ⟨f.toNat, by omega⟩
    have hi : i < S.L.length := by omega
    obtain ⟨x, hx⟩ : ∃ x, S.L[i]? = some x := ⟨_, List.getElem?_eq_getElem hi⟩
    obtain ⟨fb, fc, ad, c, c0, c1, c2, f0, f1, g1, g2, g3, g4, g5, G1, G2⟩ := h.file ty75 i x hx
    rw [Int.toNat_natCast] at hq
    simp only [hx] at hq
    obtain ⟨N, hN⟩ : ∃ N, S.L.length = N := ⟨_, rfl⟩
    rw [hN] at c0 g4 g5
    obtain ⟨m, hm⟩ : ∃ m, x.b.length = m := ⟨_, rfl⟩
    rw [hm] at c1 g1 g2 g3 hq
    have HX := hidden hx
    have HM := hidden hm
    clear h hx G1 G2 hN hf0 hf1 her hon hi hm c2 f0 f1
    by_cases hbad : n < 0 ∨ (m : Int) < n
    · rw [if_pos hbad] at hq
      subst hq
      by_cases hn0 : n < 0
      · clear hbad
        go_enter Tryz.func52, Tryz.ntmps52
        go_wp2_with fail
        refine hh.out.mono ?_
        rintro e w' ⟨rfl, rfl⟩
        go_wp2_with fail
        go_ret
        exact ⟨rfl, _, HDk.out, Chg.refl _ _, New.refl _ _⟩
      · have hn1 : (m : Int) < n := by omega
        have hn2 : 0 ≤ n := by omega
        clear hbad
        go_enter Tryz.func52, Tryz.ntmps52
        go_wp2_with fail
        refine hh.out.mono ?_
        rintro e w' ⟨rfl, rfl⟩
        go_wp2_with fail
        go_ret
        exact ⟨rfl, _, HDk.out, Chg.refl _ _, New.refl _ _⟩
    · rw [if_neg hbad] at hq
      obtain ⟨t, rfl⟩ : ∃ t : Nat, n = (t : Int) := ⟨n.toNat, by omega⟩
      rw [Int.toNat_natCast] at hq
      have htm : t ≤ m := by omega
      clear hbad
      have HQ := hidden hq
      clear hq
      go_enter Tryz.func52, Tryz.ntmps52
      go_wp2_with fail
      refine hh.out.mono ?_
      rintro e w' ⟨rfl, rfl⟩
      go_wp2_with fail
      refine HBU.out.mono ?_
      rintro e w2 (⟨hop, rfl, F2, k1, k2, k3⟩ | ⟨hop, rfl, rfl, K, hK⟩)
      · obtain ⟨hL2, _, _⟩ := op_ok hop
        clear c0 c1 g1 g2 g3 g4 g5
        obtain ⟨fb, fc, ad, c, c0, c1, c2, f0, f1, g1, g2, g3, g4, g5, G1, G2⟩ := k1.file ty75 i x (by rw [hL2]; exact HX.out)
        have hpf := k1.pfb ty75 c0
        obtain ⟨N2, hN⟩ : ∃ N2, S.op.2.L.length = N2 := ⟨_, rfl⟩
        rw [hN] at c0 g4 g5
        rw [HM.out] at c1 g1 g2 g3 G2
        have HG := hidden G2
        have HOP := hidden hop
        have HK2 := hidden k2
        have HK3 := hidden k3
        have HL2 := hidden hL2
        clear k1 k2 k3 G1 G2 hN hop hL2
        have htc : t ≤ c := by omega
        have hfin : ∀ s, s = min x.n t → q = (0, { S.op.2 with L := S.op.2.L.set i ⟨x.b.take t, s⟩ }) := by
          rintro s rfl
          have hqe := HQ.out
          rw [if_neg (by rw [HOP.out]; simp)] at hqe
          exact hqe.symm
        have HFI := hidden hfin
        clear hfin
        by_cases hmin : x.n ≤ t
        · have hs : min x.n t = x.n := by omega
          have HMIN := hidden hs
          clear hs
          go_wp2_with fail
          go_region
          go_wp2_with fail
          go_region
          go_wp2_with fail
          go_ret
          rw [HFI.out x.n HMIN.out.symm]
          exact ⟨rfl, ((Dks.trans HK2.out HK3.out (HG.out t x.n htm hmin)).drew).drew⟩
        · have hs : min x.n t = t := by omega
          have hmin2 : t < x.n := by omega
          have HMIN := hidden hs
          clear hs
          go_wp2_with fail
          go_region
          go_wp2_with fail
          go_region
          go_wp2_with fail
          go_ret
          rw [HFI.out t HMIN.out.symm]
          exact ⟨rfl, ((Dks.trans HK2.out HK3.out (HG.out t t htm (Nat.le_refl _))).drew).drew⟩
      · obtain ⟨ka, kn, kc, c5, hcall⟩ := HDk.out.keepR hf hK
        have HCL := hidden hcall
        have HK := hidden hK
        clear hcall hK hop
        go_wp2_with fail
        refine HCL.out.mono ?_
        rintro e w3 ⟨rfl, hd⟩
        have HD3 := hidden hd
        clear hd
        go_wp2_with fail
        go_ret
        have hqe := HQ.out
        rw [op_burn HK.out, if_pos (by simp)] at hqe
        rw [← hqe]
        exact ⟨rfl, HD3.out⟩
  · rw [if_pos h0] at hq
    subst hq
    go_enter Tryz.func52, Tryz.ntmps52
    go_wp2_with fail
    refine hh.out.mono ?_
    rintro e w' ⟨rfl, rfl⟩
    go_wp2_with fail
    go_ret
    exact ⟨rfl, _, HDk.out, Chg.refl _ _, New.refl _ _⟩

theorem owns_base {w : World} {base : Nat} {e : TypeId} {v : Value} {n : Nat} {xs : List Value} (h : w.ownsRow 0 e 1 v n xs) (hb : ∀ g, v.ownBlock = some g → base ≤ g) : w.ownsRow base e 1 v n xs := by
  refine ⟨h.1, ?_⟩
  rcases h.2 with h0 | ⟨g, cap, cur, rfl, _, r⟩
  · exact .inl h0
  · exact .inr ⟨g, cap, cur, rfl, hb g rfl, r⟩
theorem Chg.bel_noneR {w w' : World} {v : Value} (h : Chg (fun i => v.ownBlock = some i) w w') (hv : ∀ g, v.ownBlock = some g → w.heap.size ≤ g) : Below w.heap.size w w' := ⟨h.os, h.tape, h.output, h.size, fun k hk => h.block k hk (fun e => by have := hv k e; omega)⟩

set_option maxHeartbeats 1000000 in
set_option maxRecDepth 100000 in
theorem readR (p : Nat) (F : Nat → Prop) (S : St) (w : World) (f at_ n : Int) (h : Dk 82 97 w p F S) (ha : -9223372036854775808 ≤ at_ ∧ at_ ≤ 9223372036854775807) (hn : -9223372036854775808 ≤ n ∧ n ≤ 9223372036854775807) :
    Calls Tryz.prog 70 #[.pointer (some ⟨p, 0, none⟩), .int .i64 f, .int .i64 at_, .int .i64 n] w fun e w' => ∃ ad m c, e = .returned (.tuple #[.slice ad m c, .int .i64 (S.read f at_ n).1]) ∧ w'.ownsRow w.heap.size 5 1 (.slice ad m c) m (cells8 (S.read f at_ n).2) ∧ Byte (S.read f at_ n).2 ∧ Below w.heap.size w w' := by
  have hh := hidden (refusalR p F S w f h)
  obtain ⟨er, her⟩ : ∃ er, S.refuse f = er := ⟨_, rfl⟩
  obtain ⟨q, hq⟩ : ∃ q, S.read f at_ n = q := ⟨_, rfl⟩
  obtain ⟨q1, q2⟩ := q
  rw [hq]
  unfold St.read at hq
  rw [her] at hq hh
  by_cases h0 : er = 0
  · subst h0
    obtain ⟨hon, hf0, hf1⟩ := refuse_no her
    obtain ⟨i, rfl⟩ : ∃ i : Nat, f = (i : Int) := ⟨f.toNat, by omega⟩
    obtain ⟨fb, fc, ad, c, x, hx, c0, c1, c2, ho, hb, ht, hl, h8, hF⟩ := h.at i (by omega)
    rw [if_neg (by simp), Int.toNat_natCast, hx] at hq
    simp only at hq
    have hi : i < S.L.length := by omega
    obtain ⟨N, hN⟩ : ∃ N, S.L.length = N := ⟨_, rfl⟩
    rw [hN] at c0 h8 hi
    have hSl := sl_of_owns ho hb
    have HO := hidden ho
    have HSl := hidden hSl
    have HB := hidden hb
    obtain ⟨m, hm⟩ : ∃ m, x.b.length = m := ⟨_, rfl⟩
    rw [hm] at c1 ht hl hq HSl HO
    have hle := owns_le HO.out
    have HNO := hidden (owns_none HO.out)
    have HM := hidden hm
    clear hm hN hx hF hf0 hf1 her hon ho hb hSl h c2 hl
    have bad : (at_ < 0 ∨ n < 0 ∨ (m : Int) < at_ + n) → q1 = 1 ∧ q2 = [] := by
      intro hb
      rw [if_pos hb] at hq
      exact ⟨(Prod.mk.inj hq).1.symm, (Prod.mk.inj hq).2.symm⟩
    by_cases ha0 : at_ < 0
    · obtain ⟨rfl, rfl⟩ := bad (.inl ha0)
      clear hq bad
      go_enter Tryz.func70, Tryz.ntmps70
      go_wp2_with fail
      refine hh.out.mono ?_
      rintro e w' ⟨rfl, rfl⟩
      go_wp2_with fail
      go_ret2
      exact ⟨_, _, _, rfl, World.ownsRow_nil _ _ _ _, fun n hn => by simp at hn, Below.refl _ _⟩
    · by_cases hn0 : n < 0
      · obtain ⟨rfl, rfl⟩ := bad (.inr (.inl hn0))
        clear hq bad
        have ha1 : 0 ≤ at_ := by omega
        go_enter Tryz.func70, Tryz.ntmps70
        go_wp2_with fail
        refine hh.out.mono ?_
        rintro e w' ⟨rfl, rfl⟩
        go_wp2_with fail
        go_ret2
        exact ⟨_, _, _, rfl, World.ownsRow_nil _ _ _ _, fun n hn => by simp at hn, Below.refl _ _⟩
      · by_cases hbig : (m : Int) < at_ + n
        · obtain ⟨rfl, rfl⟩ := bad (.inr (.inr hbig))
          clear hq bad
          have ha1 : 0 ≤ at_ := by omega
          have hn1 : 0 ≤ n := by omega
          have hb2 : (m : Int) - at_ < n := by omega
          by_cases hat : (m : Int) < at_
          · go_enter Tryz.func70, Tryz.ntmps70
            go_wp2_with fail
            refine hh.out.mono ?_
            rintro e w' ⟨rfl, rfl⟩
            go_wp2_with fail
            go_ret2
            exact ⟨_, _, _, rfl, World.ownsRow_nil _ _ _ _, fun n hn => by simp at hn, Below.refl _ _⟩
          · have hat2 : at_ ≤ (m : Int) := by omega
            go_enter Tryz.func70, Tryz.ntmps70
            go_wp2_with fail
            refine hh.out.mono ?_
            rintro e w' ⟨rfl, rfl⟩
            go_wp2_with fail
            go_ret2
            exact ⟨_, _, _, rfl, World.ownsRow_nil _ _ _ _, fun n hn => by simp at hn, Below.refl _ _⟩
        · rw [if_neg (by omega)] at hq
          obtain ⟨rfl, hq2⟩ := Prod.mk.inj hq
          clear hq bad
          obtain ⟨A, rfl⟩ : ∃ A : Nat, at_ = (A : Int) := ⟨at_.toNat, by omega⟩
          obtain ⟨B, rfl⟩ : ∃ B : Nat, n = (B : Int) := ⟨n.toNat, by omega⟩
          rw [Int.toNat_natCast, Int.toNat_natCast] at hq2
          have hAB : A + B ≤ m := by omega
          have hb2 : (B : Int) ≤ (m : Int) - (A : Int) := by omega
          have hAB2 : (A : Int) + (B : Int) = ((A + B : Nat) : Int) := by omega
          obtain ⟨E, hE⟩ : ∃ E, A + B = E := ⟨_, rfl⟩
          rw [hE] at hAB2 hAB
          have hEB : E - A = B := by omega
          have hAm : A ≤ m := by omega
          have HQ2 := hidden hq2
          have HE := hidden hE
          clear hq2 hE hbig
          obtain ⟨i0, hi0, hz0, hz1, hz2⟩ := info_parts info5
          have hlen : q2.length = B := by rw [← HQ2.out]; have := HM.out; have := HE.out; simp; omega
          have HLEN := hidden hlen
          clear hlen
          by_cases hAc : c = A
          · obtain rfl : B = 0 := by have := HE.out; omega
            have HP0 : Hid (Sl w ad 0 q2) := by
              show Sl _ _ _ _
              rw [← HQ2.out]
              exact HSl.out.part0 _ (by have := HE.out; omega) rfl
            have HAC := hidden hAc
            subst hAc
            go_enter Tryz.func70, Tryz.ntmps70
            go_wp2_with fail
            refine hh.out.mono ?_
            rintro e w' ⟨rfl, rfl⟩
            go_wp2_with (refine wpList_appends _ rfl (.tmp 46) (.tmp 59) 28 rfl 5 i0 (.int .u8 0) Tryz.underlying28 hi0 hz0 hz1 hz2 rfl (.slice none 0 0) 0 [] rfl (World.ownsRow_nil _ _ _ _) (ad) 0 0 q2 rfl HP0.out (fun _ => ⟨rfl, rfl⟩) (by omega) ?_; intro v5 w5 ho5 hc5 hm5; obtain ⟨a5, c5, rfl⟩ := owns_form ho5; have HO5 := hidden ho5; have HC5 := hidden hc5; have HM5 := hidden hm5; clear ho5 hc5 hm5)
            go_ret2
            have hnew : ∀ g, (Value.slice a5 (0 + 0) c5).ownBlock = some g → w'.heap.size ≤ g := by
              intro g hg
              rcases HM5.out with e | ⟨g', e, hg'⟩
              · rw [hg] at e
                cases e
              · rw [hg] at e
                obtain rfl := Option.some.inj e
                exact hg'
            refine ⟨a5, _, c5, rfl, ?_, by rw [← HQ2.out]; exact (HB.out.drop _).take _, HC5.out.bel_noneR (fun g hg => by cases hg)⟩
            exact owns_base (by simpa using HO5.out) (by simpa using hnew)
          · have HP1 : Hid (Sl w (Option.map (fun x => x.add A) ad) B q2) := by
              show Sl _ _ _ _
              rw [← HQ2.out]
              exact HSl.out.part (by have := HE.out; omega)
            have HN1 : Hid (Option.map (fun x => x.add A) ad = none → B = 0 ∧ c - A = 0) := by
              intro hno
              obtain ⟨r1, r2⟩ := HNO.out (by simpa using hno)
              have := HE.out
              omega
            go_enter Tryz.func70, Tryz.ntmps70
            go_wp2_with fail
            refine hh.out.mono ?_
            rintro e w' ⟨rfl, rfl⟩
            go_wp2_with (refine wpList_appends _ rfl (.tmp 46) (.tmp 59) 28 rfl 5 i0 (.int .u8 0) Tryz.underlying28 hi0 hz0 hz1 hz2 rfl (.slice none 0 0) 0 [] rfl (World.ownsRow_nil _ _ _ _) (Option.map (fun x => x.add A) ad) B (c - A) q2 rfl HP1.out HN1.out (by omega) ?_; intro v5 w5 ho5 hc5 hm5; obtain ⟨a5, c5, rfl⟩ := owns_form ho5; have HO5 := hidden ho5; have HC5 := hidden hc5; have HM5 := hidden hm5; clear ho5 hc5 hm5)
            go_ret2
            have hnew : ∀ g, (Value.slice a5 (0 + B) c5).ownBlock = some g → w'.heap.size ≤ g := by
              intro g hg
              rcases HM5.out with e | ⟨g', e, hg'⟩
              · rw [hg] at e
                cases e
              · rw [hg] at e
                obtain rfl := Option.some.inj e
                exact hg'
            refine ⟨a5, _, c5, rfl, ?_, by rw [← HQ2.out]; exact (HB.out.drop _).take _, HC5.out.bel_noneR (fun g hg => by cases hg)⟩
            exact owns_base (by simpa using HO5.out) (by simpa using hnew)
  · rw [if_pos h0] at hq
    obtain ⟨rfl, rfl⟩ := Prod.mk.inj hq
    clear hq
    go_enter Tryz.func70, Tryz.ntmps70
    go_wp2_with fail
    refine hh.out.mono ?_
    rintro e w' ⟨rfl, rfl⟩
    go_wp2_with fail
    go_ret2
    exact ⟨_, _, _, rfl, World.ownsRow_nil _ _ _ _, fun n hn => by simp at hn, Below.refl _ _⟩

end Go.Proofs.YtnfjhdedcnbdbaaGreat
