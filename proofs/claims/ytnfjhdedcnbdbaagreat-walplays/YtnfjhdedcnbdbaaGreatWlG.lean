/-
  Format.
-/
import Derived.Test.YtnfjhdedcnbdbaaGreatWlP
namespace Go.Proofs.YtnfjhdedcnbdbaaGreat
open Go.RowKit
set_option linter.unusedVariables false
set_option linter.unusedSimpArgs false

theorem truncate_ok {S : St} {f n : Int} (h : (S.truncate f n).1 = 0) : (S.truncate f n).2.falls = S.falls := by
  unfold St.truncate at h ⊢
  split at h <;> rename_i h1
  · exact absurd h h1
  · rw [if_neg h1]
    cases hx : S.L[f.toNat]? with
    | none => rfl
    | some x =>
      rw [hx] at h
      simp only at h ⊢
      split at h <;> rename_i h2
      · cases h
      · rw [if_neg h2]
        split at h <;> rename_i h3
        · exact absurd h h3
        · rw [if_neg h3]
          exact (op_ok (by simpa using h3)).2.1
theorem zero83' : (Tryz.prog.info? 66).map (fun i => (i.zero.map (·.cells.size), i.size)) = some (some 3, 3) := by kernel_rfl

set_option maxRecDepth 100000 in
theorem formatP (p : Nat) (F : Nat → Prop) (S : St) (cap slots : Int) (ad : Option Addr) (n c : Nat) (s : List Int) (w : World) (h : Dk 64 79 w p F S) (hf : S.falls ≤ 1099511627776) (hS : Sl w ad n s) (hno : ad = none → n = 0 ∧ c = 0) (hap : ∀ x, ad = some x → 0 < n → ¬ F x.block) (hn : n ≤ 9223372036854775807) :
    Calls Tryz.prog 9 #[.pointer (some ⟨p, 0, none⟩), .int .i64 cap, .int .i64 slots, .slice ad n c] w fun e w' => e = .returned (.int .i64 (S.format cap slots s).1) ∧ Dks 64 79 w w' p F (S.format cap slots s).2 := by
  have H := hidden h
  have HS := hidden hS
  have HNO := hidden hno
  have HF := hidden hf
  have HAP := hidden hap
  have hlen := hidden hS.len
  clear h hS hno hf hap
  have hq : Hid (S.format cap slots s = if S.L.length < 2 ∨ okH 1 cap slots = false then (1, S) else if fitsU cap s.length = false then (60, S) else
    if (S.truncate 0 0).1 ≠ 0 then S.truncate 0 0 else if ((S.truncate 0 0).2.truncate 1 0).1 ≠ 0 then (S.truncate 0 0).2.truncate 1 0 else
    ((S.truncate 0 0).2.truncate 1 0).2.put 0 1 (hdata ⟨1, cap.toNat, slots.toNat⟩ s)) := rfl
  obtain ⟨q, hqq⟩ : ∃ q, S.format cap slots s = q := ⟨_, rfl⟩
  rw [hqq] at hq ⊢
  rw [hlen.out] at hq
  clear hqq
  have HW : Hid (∀ w1, Below w.heap.size w w1 → Dks 64 79 w w1 p F S) := fun w1 hb => Dks.lat hb (Dks.same (H.out.lat hb))
  have HA : Hid (∀ w1, Calls Tryz.prog 41 #[.agg #[.int .u64 1, .int .i64 cap, .int .i64 slots]] w1 fun e w' => e = .returned (.bool (okH 1 cap slots)) ∧ Below w1.heap.size w1 w') := fun w1 => by have := allowedP 1 cap slots w1 (by decide); simpa using this
  by_cases h2 : 2 ≤ S.L.length
  · obtain ⟨ok, hok⟩ : ∃ ok, okH 1 cap slots = ok := ⟨_, rfl⟩
    rw [hok] at hq HA
    have HOK := hidden hok
    clear hok
    cases ok with
    | false =>
      rw [if_pos (.inr rfl)] at hq
      go_enter Tryz.func9, Tryz.ntmps9
      go_wp2_with (first
        | (refine wpList_build_to rfl 66 #[(0, .const (.int .u64 1)), (1, .tmp 12), (2, .tmp 13)] rfl [(0, .int .u64 1), (1, .int .i64 cap), (2, .int .i64 slots)] #[.int .u64 1, .int .i64 cap, .int .i64 slots] ?_ (built83 1 cap slots) ?_; kernel_rfl)
        | (refine wpList_new_var rfl rfl 66 9 (.tmp 14) rfl rfl rfl rfl 3 zero83' [.int .u64 1, .int .i64 cap, .int .i64 slots] rfl (by simp [Value.oneCell']) (by simp) rfl ?_; intro w2 B2 bl2 hz2; have HB := hidden B2; have HL := hidden bl2; have HZ := hidden hz2; clear B2 bl2 hz2))
      refine (hasFilesP p F S w2 (H.out.lat HL.out)).mono ?_
      rintro e w3 ⟨rfl, rfl⟩
      rw [decide_eq_true h2]
      have c0 := HB.out.cell 0
      have c1 := HB.out.cell 1
      have c2 := HB.out.cell 2
      simp only [List.getElem?_cons_succ, List.getElem?_cons_zero] at c0 c1 c2
      go_wp2_with fail
      refine (HA.out w3).mono ?_
      rintro e w4 ⟨rfl, hb4⟩
      have HL4 := hidden (HL.out.trans (hb4.mono HL.out.size))
      clear hb4
      go_wp2_with fail
      go_ret
      rw [hq.out]
      exact ⟨rfl, HW.out _ HL4.out⟩
    | true =>
      rw [if_neg (by simp; omega)] at hq
      have hokk : 1024 ≤ cap ∧ cap ≤ 4194304 ∧ 1 ≤ slots ∧ slots ≤ 65536 := by have := of_decide_eq_true HOK.out; omega
      obtain ⟨cn, rfl⟩ : ∃ cn : Nat, cap = cn := ⟨cap.toNat, by omega⟩
      obtain ⟨sn, rfl⟩ : ∃ sn : Nat, slots = sn := ⟨slots.toNat, by omega⟩
      rw [Int.toNat_natCast, Int.toNat_natCast] at hq
      have HFU := hidden (fitsUnderP cn ad n c · hn)
      have hfit : Hid (fitsU cn n = true → n ≤ 4194304) := fun h => by
        unfold fitsU at h
        have h3 := (of_decide_eq_true h).1
        unfold weight at h3
        split at h3 <;> omega
      have hfitw : Hid (fitsU cn n = true → 24 + n ≤ 4194304) := fun h => by
        unfold fitsU at h
        have h3 := of_decide_eq_true h
        unfold weight at h3
        split at h3 <;> omega
      obtain ⟨fu, hfu⟩ : ∃ fu, fitsU cn n = fu := ⟨_, rfl⟩
      rw [hfu] at hq HFU hfit hfitw
      clear hfu
      go_enter Tryz.func9, Tryz.ntmps9
      go_wp2_with (first
        | (refine wpList_build_to rfl 66 #[(0, .const (.int .u64 1)), (1, .tmp 12), (2, .tmp 13)] rfl [(0, .int .u64 1), (1, .int .i64 (cn : Int)), (2, .int .i64 (sn : Int))] #[.int .u64 1, .int .i64 (cn : Int), .int .i64 (sn : Int)] ?_ (built83 1 (cn : Int) (sn : Int)) ?_; kernel_rfl)
        | (refine wpList_new_var rfl rfl 66 9 (.tmp 14) rfl rfl rfl rfl 3 zero83' [.int .u64 1, .int .i64 (cn : Int), .int .i64 (sn : Int)] rfl (by simp [Value.oneCell']) (by simp) rfl ?_; intro w2 B2 bl2 hz2; have HB := hidden B2; have HL := hidden bl2; have HZ := hidden hz2; clear B2 bl2 hz2))
      refine (hasFilesP p F S w2 (H.out.lat HL.out)).mono ?_
      rintro e w3 ⟨rfl, rfl⟩
      rw [decide_eq_true h2]
      have c0 := HB.out.cell 0
      have c1 := HB.out.cell 1
      have c2 := HB.out.cell 2
      simp only [List.getElem?_cons_succ, List.getElem?_cons_zero] at c0 c1 c2
      go_wp2_with fail
      refine (HA.out w3).mono ?_
      rintro e w4 ⟨rfl, hb4⟩
      have HL4 := hidden (HL.out.trans (hb4.mono HL.out.size))
      have HB4 := hidden (HB.out.later hb4)
      have HZ4 := hidden (Nat.lt_of_lt_of_le (show w.heap.size < w3.heap.size by have := HZ.out; omega) hb4.size)
      clear hb4 c0 c1 c2
      go_wp2_with fail
      refine (HFU.out w4).mono ?_
      rintro e w5 ⟨rfl, rfl⟩
      cases fu with
      | false =>
        rw [if_pos rfl] at hq
        go_wp2_with fail
        go_ret
        rw [hq.out]
        exact ⟨rfl, HW.out _ HL4.out⟩
      | true =>
        rw [if_neg (by simp)] at hq
        have hn4 : n ≤ 4194304 := hfit.out rfl
        have HOK0 : Hid ((S.truncate 0 0).1 = 0 → (S.truncate 0 0).2.falls = S.falls) := truncate_ok
        have HOK1 : Hid (((S.truncate 0 0).2.truncate 1 0).1 = 0 → ((S.truncate 0 0).2.truncate 1 0).2.falls = (S.truncate 0 0).2.falls) := truncate_ok
        have HFL : Hid (∀ i, F i → i < w.heap.size) := H.out.lt
        go_wp2_with fail
        go_loopw [10, 11, 27] (fun v10 v11 v27 wr => (v27 = .int .i64 0 ∧ Dks 64 79 w5 wr p F S) ∨ (v27 = .int .i64 1 ∧ (S.truncate 0 0).1 = 0 ∧ Dks 64 79 w5 wr p F (S.truncate 0 0).2) ∨ (v27 = .int .i64 2 ∧ (S.truncate 0 0).1 = 0 ∧ ((S.truncate 0 0).2.truncate 1 0).1 = 0 ∧ Dks 64 79 w5 wr p F ((S.truncate 0 0).2.truncate 1 0).2))
          (fun v10 v11 v27 _ => match v27 with | .int _ j => 2 - j.toNat | _ => 0)
        case atStart => exact .inl ⟨rfl, Dks.same (H.out.lat HL4.out)⟩
        case round =>
          rcases hrel with ⟨rfl, hD⟩ | ⟨rfl, h0, hD⟩ | ⟨rfl, h0, h1, hD⟩
          · have HD := hidden hD
            clear hD
            go_wp2_with fail
            obtain ⟨F1, k1, k2, k3⟩ := HD.out
            refine (truncateP p F1 S wr 0 0 k1 HF.out (by omega)).mono ?_
            rintro e w6 ⟨rfl, hD6⟩
            have HD6 := hidden (Dks.trans k2 k3 hD6)
            clear hD6 k1 k2 k3
            by_cases hz : (S.truncate 0 0).1 = 0
            · have HZ0 := hidden hz
              clear hq
              rw [hz]
              clear hz
              go_wp2_with fail
              exact ⟨.inr (.inl ⟨rfl, HZ0.out, HD6.out⟩), by decide⟩
            · rw [if_pos hz] at hq
              obtain ⟨e0, he0⟩ : ∃ e0, (S.truncate 0 0).1 = e0 := ⟨_, rfl⟩
              rw [he0] at hz ⊢
              have HE0 := hidden he0
              clear he0
              go_wp2_with fail
              go_ret
              rw [hq.out, ← HE0.out]
              exact ⟨rfl, Dks.lat HL4.out HD6.out⟩
          · have HD := hidden hD
            have H0 := hidden h0
            rw [if_neg (fun k => k h0)] at hq
            clear hD h0
            go_wp2_with fail
            obtain ⟨F1, k1, k2, k3⟩ := HD.out
            refine (truncateP p F1 _ wr 1 0 k1 (by rw [HOK0.out H0.out]; exact HF.out) (by omega)).mono ?_
            rintro e w6 ⟨rfl, hD6⟩
            have HD6 := hidden (Dks.trans k2 k3 hD6)
            clear hD6 k1 k2 k3
            by_cases hz : ((S.truncate 0 0).2.truncate 1 0).1 = 0
            · have HZ0 := hidden hz
              clear hq
              rw [hz]
              clear hz
              go_wp2_with fail
              exact ⟨.inr (.inr ⟨rfl, H0.out, HZ0.out, HD6.out⟩), by decide⟩
            · rw [if_pos hz] at hq
              obtain ⟨e0, he0⟩ : ∃ e0, ((S.truncate 0 0).2.truncate 1 0).1 = e0 := ⟨_, rfl⟩
              rw [he0] at hz ⊢
              have HE0 := hidden he0
              clear he0
              go_wp2_with fail
              go_ret
              rw [hq.out, ← HE0.out]
              exact ⟨rfl, Dks.lat HL4.out HD6.out⟩
          · rw [if_neg (fun k => k h0), if_neg (fun k => k h1)] at hq
            have HD := hidden hD
            have H0 := hidden h0
            have H1 := hidden h1
            clear hD h0 h1
            obtain ⟨F1, k1, k2, k3⟩ := HD.out
            have BR := hidden (k2.blk HB4.out (fun hF => by have := HFL.out _ hF; omega))
            have c0 := BR.out.cell 0
            have c1 := BR.out.cell 1
            have c2 := BR.out.cell 2
            have HC2 := hidden k2
            have HK1 := hidden k1
            have HK3 := hidden k3
            clear k1 k2 k3
            simp only [List.getElem?_cons_succ, List.getElem?_cons_zero] at c0 c1 c2
            go_wp2_with fail
            refine (withP ⟨1, cn, sn⟩ ad n c s wr (HC2.out.sl (HS.out.later HL4.out) HAP.out) HNO.out hn4 (by show (1 : Nat) < _; omega) (by show cn ≤ _; omega) (by show sn ≤ _; omega)).mono ?_
            rintro e w7 ⟨ag, c7, rfl, hb7⟩
            have HB7 := hidden hb7
            have HBY := hidden (hdata_byte ⟨1, cn, sn⟩ s HS.out.byte)
            have HHL := hidden (hdata_length ⟨1, cn, sn⟩ s)
            clear hb7 c0 c1 c2
            obtain ⟨m, hm⟩ : ∃ m, 24 + n = m := ⟨_, rfl⟩
            rw [hm] at HB7 ⊢
            have HM := hidden hm
            have hm4 : m ≤ 4194304 := by
              have h9 := HOK.out
              have h8 := hfitw.out (by first | rfl | trivial)
              omega
            clear hm
            go_wp2_with fail
            refine (putP p F1 _ w7 0 1 ag m c7 _ (HK1.out.lat HB7.out.bel) (by rw [HOK1.out H1.out, HOK0.out H0.out]; exact HF.out) (HB7.out.sl HBY.out) (fun e => by
              obtain ⟨g, hg⟩ := owns_addr HB7.out.row (by have := HM.out; omega)
              rw [hg] at e; cases e) hm4 (by omega)).mono ?_
            rintro e w8 ⟨rfl, hD8⟩
            have HD8 := hidden (Dks.lat HL4.out (Dks.trans HC2.out HK3.out (Dks.lat HB7.out.bel hD8)))
            clear hD8
            rw [← hq.out] at HD8 ⊢
            go_wp2_with fail
            go_ret
            exact ⟨rfl, HD8.out⟩
  · rw [if_pos (.inl (by omega))] at hq
    go_enter Tryz.func9, Tryz.ntmps9
    go_wp2_with (first
        | (refine wpList_build_to rfl 66 #[(0, .const (.int .u64 1)), (1, .tmp 12), (2, .tmp 13)] rfl [(0, .int .u64 1), (1, .int .i64 cap), (2, .int .i64 slots)] #[.int .u64 1, .int .i64 cap, .int .i64 slots] ?_ (built83 1 cap slots) ?_; kernel_rfl)
        | (refine wpList_new_var rfl rfl 66 9 (.tmp 14) rfl rfl rfl rfl 3 zero83' [.int .u64 1, .int .i64 cap, .int .i64 slots] rfl (by simp [Value.oneCell']) (by simp) rfl ?_; intro w2 B2 bl2 hz2; have HB := hidden B2; have HL := hidden bl2; have HZ := hidden hz2; clear B2 bl2 hz2))
    refine (hasFilesP p F S w2 (H.out.lat HL.out)).mono ?_
    rintro e w3 ⟨rfl, rfl⟩
    rw [decide_eq_false h2]
    go_wp2_with fail
    go_ret
    rw [hq.out]
    exact ⟨rfl, HW.out _ HL.out⟩

end Go.Proofs.YtnfjhdedcnbdbaaGreat
