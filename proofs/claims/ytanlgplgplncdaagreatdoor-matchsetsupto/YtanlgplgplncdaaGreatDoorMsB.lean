import Derived.Test.YtanlgplgplncdaaGreatDoorMsA
import Derived.Test.YtanlgplgplncdaaGreatDoorQaR
import Derived.BigQuiet
/-
  The document's List, And, holds, Holds.
-/
namespace Go.Proofs.YtanlgplgplncdaaGreatDoor
open Go.RowKit
set_option linter.unusedVariables false
set_option linter.unusedSimpArgs false

theorem owns_form3 {w : World} {base e sz : Nat} {v : Value} {n : Nat} {xs : List Value} (h : w.ownsRow base e sz v n xs) : ∃ ad c, v = .slice ad n c ∧ (ad = none → n = 0 ∧ c = 0) := by
  rcases h.2 with ⟨rfl, h0⟩ | ⟨g, cap, cur, rfl, _⟩
  · exact ⟨none, 0, by rw [h0], fun _ => ⟨h0, rfl⟩⟩
  · exact ⟨_, _, rfl, fun e => by cases e⟩

set_option maxRecDepth 100000 in
set_option maxHeartbeats 4000000 in
theorem rlistP (F : Nat → Prop) (w : World) (p : Nat) (l : List Mt) (hS : StN F w p l) (hl : l.length ≤ 1000) :
    Calls Tryz.prog 24 #[.pointer (some ⟨p, 0, none⟩)] w fun e w' => ∃ v, e = .returned v ∧ w'.ownsRow w.heap.size 58 3 v l.length (L.cM l) ∧ Below w.heap.size w w' := by
  obtain ⟨v, h1, h2, h3, h4, h5⟩ := hS
  obtain ⟨ad, c, rfl, hno⟩ := owns_form3 h4
  have HM := hidden (L.ms_of_owns h4 h5)
  have c0 : w.cell? ⟨p, 0, none⟩ = some (.slice ad l.length c) := h3.cell 0
  obtain ⟨n, hn⟩ : ∃ n, l.length = n := ⟨_, rfl⟩
  have HN := hidden hn
  have HNO := hidden hno
  rw [hn] at c0 hl HNO ⊢
  clear h1 h2 h3 h4 h5 hn hno
  go_enter Tryz.func24, Tryz.ntmps24
  go_wp2_with (refine wpList_appM w rfl (.tmp 4) (.tmp 8) rfl w.heap.size (.slice none 0 0) 0 [] rfl (World.ownsRow_nil _ _ _ _) ad n c l rfl HN.out HM.out HNO.out (by omega) (Nat.le_refl _) ?_; intro v1 w1 ho1 hb1; have O1 := hidden ho1; have HB1 := hidden hb1; clear ho1 hb1)
  go_ret
  refine ⟨v1, by first | rfl | simp, ?_, HB1.out⟩
  have := O1.out
  rw [Nat.zero_add, List.nil_append] at this
  exact this

set_option maxRecDepth 100000 in
set_option maxHeartbeats 4000000 in
theorem randP (F G : Nat → Prop) (w : World) (p q : Nat) (l m : List Mt) (hS : StN F w p l) (hQ : StN G w q m) (hl : l.length ≤ 500) (hm : m.length ≤ 500) :
    Calls Tryz.prog 9 #[.pointer (some ⟨p, 0, none⟩), .pointer (some ⟨q, 0, none⟩)] w fun e w' => ∃ u K, e = .returned (.pointer (some ⟨u, 0, none⟩)) ∧ StN K w' u (l ++ m) ∧ (∀ b, K b → w.heap.size ≤ b) ∧ Below w.heap.size w w' := by
  have k1 := rlistP F w p l hS (by omega)
  have HOKL : Hid (∀ x ∈ l, OkM x) := hidden (by obtain ⟨v, h1, h2, h3, h4, h5⟩ := hS; exact h5)
  obtain ⟨v, h1, h2, h3, h4, h5⟩ := hQ
  obtain ⟨ad, c, rfl, hno⟩ := owns_form3 h4
  have HM := hidden (L.ms_of_owns h4 h5)
  have HBQ := hidden h3
  have HOKM := hidden h5
  obtain ⟨n, hn⟩ : ∃ n, l.length = n := ⟨_, rfl⟩
  obtain ⟨k, hk⟩ : ∃ k, m.length = k := ⟨_, rfl⟩
  have HN := hidden hn
  have HK := hidden hk
  have HNO := hidden hno
  rw [hn] at k1 hl
  rw [hk] at hm HNO HBQ
  clear hS h1 h2 h3 h4 h5 hn hk hno
  go_enter Tryz.func9, Tryz.ntmps9
  go_wp2_with fail
  refine k1.mono ?_
  rintro e w1 ⟨v1, rfl, ho1, b1⟩
  have O1 := hidden ho1
  have B1 := hidden b1
  have c0 : w1.cell? ⟨q, 0, none⟩ = some (.slice ad k c) := (HBQ.out.later b1).cell 0
  have hs1 := b1.size
  clear k1 ho1 b1
  go_wp2_with (refine wpList_appM w1 rfl (.tmp 8) (.tmp 12) rfl w.heap.size v1 n l rfl O1.out ad k c m rfl HK.out (HM.out.later B1.out) HNO.out (by omega) hs1 ?_; intro v2 w2 ho2 hb2; obtain ⟨ad2, c2, e2, -⟩ := owns_form3 ho2; subst e2; have O2 := hidden ho2; have HB2 := hidden hb2; clear ho2 hb2)
  go_ret
  have hal : Below w2.heap.size w2 (w2.alloc (.cells #[.slice ad2 (n + k) c2] 37)) := (Below.refl _ _).alloc (Nat.le_refl _) _
  have hb3 := B1.out.trans HB2.out
  refine ⟨w2.heap.size, fun b => w.heap.size ≤ b, by first | rfl | simp, ?_, fun b hb => hb, hb3.trans (hal.mono hb3.size)⟩
  refine ⟨.slice ad2 (n + k) c2, hb3.size, fun g hg => (O2.out.lt g hg).1, Blk.new w2 37 [_], ?_, fun x hx => ?_⟩
  · have := owl O2.out hal
    rw [List.length_append, HN.out, HK.out]
    exact owns_low this (Nat.zero_le _)
  · rcases List.mem_append.1 hx with h | h
    · exact HOKL.out x h
    · exact HOKM.out x h

theorem prs_fine {s : List UInt8} {l : List (List Pt)} {b : Nat} (h : prs s = .ok l b) : rowsFine l ∧ l.length ≤ 1000 := by
  unfold prs at h
  split at h
  · cases h
  · rename_i h64
    cases hR : rowsF s (4 * s.length + 4) 0 0 with
    | out => rw [hR] at h; cases h
    | bad k => rw [hR] at h; cases h
    | ok l' b' =>
      rw [hR, endF] at h
      split at h
      · cases h
      · injection h with h1 h2
        subst h1 h2
        have := (read_cnt s (by omega) (4 * s.length + 4) 0 0 (by omega)).1 l' b' hR
        have h2 := (read_bd s (4 * s.length + 4) 0 0 (Nat.zero_le _)).1.1 l' b' hR
        refine ⟨this.2.1, ?_⟩
        have h3 := h2.2
        have h4 := this.2.2.2
        omega

open Classical in
set_option maxRecDepth 100000 in
set_option maxHeartbeats 4000000 in
theorem rholdsP (B : Nat) (la : Option Addr) (lc : Nat) (lb : List L.Lb) (x : Mt) (w : World) (hB : L.Ls w la lb) (hbl : lb.length ≤ 9223372036854775807) (hbs : ∀ y ∈ lb, y.v.size ≤ 1048576) (hx : OkM x) (hmay : x.may = true) (hT : L.Tb B w) :
    Calls Tryz.prog 26 #[.slice la lb.length lc, .agg (mC x).toArray] w fun e w' => e = .returned (.bool (x.hold (gotL lb x.n))) ∧ Below w.heap.size w w' := by
  obtain ⟨nm, op, t⟩ := x
  have hop := may_op hmay
  have hprs : op = 3 ∨ op = 4 → ∃ k, prs (bts t) = .ok (prsL (bts t)) k := fun ho => by
    unfold Mt.may at hmay
    rw [Bool.and_eq_true] at hmay
    have h := hmay.1
    unfold txtOk at h
    simp only at h
    rcases ho with rfl | rfl <;> exact prsOk_iff.1 h
  have HPRS := hidden hprs
  have hgs : (gotL lb nm).size ≤ 1048576 := by
    rw [L.size_bts]
    unfold gotL
    rw [L.bts_oft]
    exact getL_len lb _ hbs
  have HGS := hidden hgs
  have kG : Hid (∀ wx, Below w.heap.size w wx → Calls Tryz.prog 44 #[.slice la lb.length lc, .string nm] wx fun e w' => e = .returned (.string (gotL lb nm)) ∧ Below wx.heap.size wx w') := hidden (fun wx hb => by
    refine (L.rgetP la lc lb nm wx (hB.later hb) hbl).mono ?_
    rintro e w' ⟨r, rfl, hr, h2⟩
    obtain rfl : r = gotL lb nm := L.bts_inj (by unfold gotL; rw [L.bts_oft]; exact hr)
    exact ⟨rfl, h2⟩)
  have HT := hidden hT
  have hh1 : op = 1 → Mt.hold ⟨nm, op, t⟩ (gotL lb nm) = ((gotL lb nm).toList == t.toList) := fun h => by
    unfold Mt.hold
    rw [if_pos h, str_eqB (i := Classical.propDecidable _)]
    first | rfl | (congr)
  have hh2 : op = 2 → Mt.hold ⟨nm, op, t⟩ (gotL lb nm) = !((gotL lb nm).toList == t.toList) := fun h => by
    unfold Mt.hold
    rw [if_neg (by simp only; omega), if_pos h, str_eqB (i := Classical.propDecidable _)]
    first | rfl | (congr)
  have hh3 : op = 3 → Mt.hold ⟨nm, op, t⟩ (gotL lb nm) = mB (prsL (bts t)) (bts (gotL lb nm)) := fun h => by
    unfold Mt.hold mB
    rw [if_neg (by simp only; omega), if_neg (by simp only; omega), if_pos h]
  have hh4 : op = 4 → Mt.hold ⟨nm, op, t⟩ (gotL lb nm) = !mB (prsL (bts t)) (bts (gotL lb nm)) := fun h => by
    unfold Mt.hold mB
    rw [if_neg (by simp only; omega), if_neg (by simp only; omega), if_neg (by simp only; omega)]
  have HH1 := hidden hh1
  have HH2 := hidden hh2
  have HH3 := hidden hh3
  have HH4 := hidden hh4
  obtain ⟨m, hm⟩ : ∃ m, lb.length = m := ⟨_, rfl⟩
  rw [hm] at kG ⊢
  obtain ⟨h1, h2, h3, h4⟩ := hx
  simp only at h1 h2 h3 h4 hop
  clear hT hB hbs hbl hmay hprs hgs hh1 hh2 hh3 hh4 hm
  generalize hgv : gotL lb nm = gv at *
  generalize hRR : Mt.hold ⟨nm, op, t⟩ gv = RR at *
  clear hgv hRR
  go_enter Tryz.func26, Tryz.ntmps26
  go_wp2_with (refine wpList_box_blk rfl 58 (.tmp 1) rfl (mC ⟨nm, op, t⟩) rfl ?_; intro w1 B1 bl1 hz1; have HB1 := hidden B1; have BL1 := hidden bl1; clear bl1 hz1; have c0 := B1.cell 0; simp [mC] at c0; clear B1)
  refine (kG.out w1 BL1.out).mono ?_
  rintro e w2 ⟨rfl, b2⟩
  have B2 : Hid (Below w.heap.size w w2) := hidden (BL1.out.trans (b2.mono BL1.out.size))
  have HB2 := hidden (HB1.out.later b2)
  have d1 : w2.cell? ⟨w.heap.size, 1, none⟩ = some (.int .i64 op) := HB2.out.cell 1
  have d2 : w2.cell? ⟨w.heap.size, 2, none⟩ = some (.string t) := HB2.out.cell 2
  have kP := parseN B t w2 (tbN (HT.out.later B2.out))
  unfold ParN at kP
  clear c0 b2 kG HB1 BL1
  rcases hop with ho | ho | ho | ho
  · have z1 : (op == 1) = true := by simpa using ho
    have HR := hidden (HH1.out ho)
    clear kP ho h3 h4 HH1 HH2 HH3 HH4
    go_wp2
    go_ret
    exact ⟨by rw [HR.out]; first | rfl | simp, B2.out⟩
  · have z1 : (op == 1) = false := by simp; omega
    have z2 : (op == 2) = true := by simpa using ho
    have HR := hidden (HH2.out ho)
    clear kP ho h3 h4 HH1 HH2 HH3 HH4
    go_wp2
    go_ret
    exact ⟨by rw [HR.out]; first | rfl | simp, B2.out⟩
  all_goals
    have z1 : (op == 1) = false := by simp; omega
    have z2 : (op == 2) = false := by simp; omega
    obtain ⟨k, hk⟩ := HPRS.out (by omega)
    have HKK := hidden hk
    obtain ⟨z3, hz3, HR⟩ : ∃ z3 : Bool, (op == 3) = z3 ∧ Hid (RR = (mB (prsL (bts t)) (bts gv) == z3)) := by
      first
        | exact ⟨true, by simpa using ho, hidden (by rw [HH3.out ho]; simp)⟩
        | exact ⟨false, by simp; omega, hidden (by rw [HH4.out ho]; simp)⟩
    clear ho h3 h4 HH1 HH2 HH3 HH4 hk
    go_wp2_with fail
    refine kP.mono ?_
    rintro e w3 ⟨b3, ⟨p, F, l, k', u, hok, rfl, hPa⟩ | ⟨k', hbad, rfl⟩⟩
    · have hl : l = prsL (bts t) := (prsL_of hok).symm
      subst hl
      have B3 : Hid (Below w.heap.size w w3) := hidden (B2.out.trans (b3.mono B2.out.size))
      have HB3 := hidden (HB2.out.later b3)
      obtain ⟨Rm, hRm⟩ : ∃ Rm, mB (prsL (bts t)) (bts gv) = Rm := ⟨_, rfl⟩
      have hfi := prs_fine hok
      have kM := matchN B hPa hfi.1 hfi.2 gv HGS.out (tbN (HT.out.later B3.out)) Rm hRm
      rw [hRm] at HR
      clear kP hok hPa hfi b3 hRm
      go_wp2_with (go_at_call 46; refine kM.mono ?_; rintro e w4 ⟨rfl, b4⟩; have B4 : Hid (Below w.heap.size w w4) := hidden (B3.out.trans (b4.mono B3.out.size)); have f1 : w4.cell? ⟨w.heap.size, 1, none⟩ = some (.int .i64 op) := (HB3.out.later b4).cell 1; clear kM b4)
      go_ret
      exact ⟨by rw [HR.out]; first | rfl | simp, B4.out⟩
    · exfalso
      have := HKK.out
      rw [hbad] at this
      cases this

set_option maxRecDepth 100000 in
set_option maxHeartbeats 4000000 in
theorem rHoldsP (B : Nat) (F : Nat → Prop) (w : World) (p : Nat) (l : List Mt) (hS : StN F w p l) (hll : l.length ≤ 1000) (hmay : l.all Mt.may = true) (la : Option Addr) (lc : Nat) (lb : List L.Lb) (hB : L.Ls w la lb) (hbl : lb.length ≤ 9223372036854775807) (hbs : ∀ y ∈ lb, y.v.size ≤ 1048576) (hT : L.Tb B w) :
    Calls Tryz.prog 14 #[.pointer (some ⟨p, 0, none⟩), .slice la lb.length lc] w fun e w' => e = .returned (.bool (holdsL l lb)) ∧ Below w.heap.size w w' := by
  obtain ⟨v, h1, h2, h3, h4, h5⟩ := hS
  obtain ⟨ad, c, rfl, hno⟩ := owns_form3 h4
  have HM := hidden (L.ms_of_owns h4 h5)
  have HBK := hidden h3
  have HMAY := hidden hmay
  have KH : Hid (∀ wx x, Below w.heap.size w wx → x ∈ l → Calls Tryz.prog 26 #[.slice la lb.length lc, .agg #[.string x.n, .int .i64 x.op, .string x.t]] wx fun e w' => e = .returned (.bool (x.hold (gotL lb x.n))) ∧ Below wx.heap.size wx w') := hidden (fun wx x hb hx => rholdsP B la lc lb x wx (hB.later hb) hbl hbs (h5 x hx) (List.all_eq_true.1 hmay x hx) (hT.later hb))
  obtain ⟨n, hn⟩ : ∃ n, l.length = n := ⟨_, rfl⟩
  have HN := hidden hn
  obtain ⟨m, hm⟩ : ∃ m, lb.length = m := ⟨_, rfl⟩
  rw [hm] at KH ⊢
  rw [hn] at hll HBK
  clear h1 h2 h3 h4 h5 hn hno hB hbl hbs hT hmay hm
  go_enter Tryz.func14, Tryz.ntmps14
  go_wp2_with fail
  go_loopw [5] (fun s5 wx => ∃ i : Nat, s5 = .int .i64 (i : Int) ∧ i ≤ n ∧ Hid ((l.take i).all (fun x => x.hold (gotL lb x.n)) = true) ∧ Hid (Below w.heap.size w wx)) (fun s5 _ => n - (intOf s5).toNat)
  case atStart => exact ⟨0, rfl, by omega, hidden (by simp), hidden (Below.refl _ _)⟩
  case round =>
    rename World => wx
    obtain ⟨i, rfl, hi, hA, hBl⟩ := hrel
    have c0 : wx.cell? ⟨p, 0, none⟩ = some (.slice ad n c) := (HBK.out.later hBl.out).cell 0
    by_cases hlt : i < n
    · have hltz : (i : Int) < (n : Int) := by omega
      obtain ⟨b, off, x, rfl, hb, hx, d0, d1, d2, hok⟩ := (HM.out.later hBl.out).get (i := i) (by rw [HN.out]; exact hlt)
      have k := KH.out wx x hBl.out (List.mem_of_getElem? hx)
      have HX := hidden hx
      clear hx hok
      cases hh : x.hold (gotL lb x.n) with
      | false =>
        rw [hh] at k
        have HHF : Hid (holdsL l lb = false) := hidden (by
          unfold holdsL
          rw [List.all_eq_false]
          exact ⟨x, List.mem_of_getElem? HX.out, by rw [hh]; simp⟩)
        clear hh
        go_wp2_with (go_at_call 26; refine k.mono ?_; rintro e w2 ⟨rfl, b2⟩; have B2 := hidden (hBl.out.trans (b2.mono hBl.out.size)); clear k b2)
        go_ret
        exact ⟨by rw [HHF.out]; rfl, B2.out⟩
      | true =>
        rw [hh] at k
        have HA2 : Hid ((l.take (i + 1)).all (fun x => x.hold (gotL lb x.n)) = true) := hidden (by
          rw [take_next HX.out, List.all_append, hA.out, Bool.true_and]
          simp [hh])
        clear hh
        go_wp2_with (go_at_call 26; refine k.mono ?_; rintro e w2 ⟨rfl, b2⟩; have B2 := hidden (hBl.out.trans (b2.mono hBl.out.size)); clear k b2)
        exact ⟨⟨i + 1, by rw [Int.natCast_add]; rfl, by omega, HA2, B2⟩, by simp [intOf]; omega⟩
    · have hltz : ¬ (i : Int) < (n : Int) := by omega
      have HHT : Hid (holdsL l lb = true) := hidden (by
        unfold holdsL
        have := hA.out
        rwa [List.take_of_length_le (by rw [HN.out]; omega)] at this)
      go_wp2
      go_ret
      exact ⟨by rw [HHT.out]; rfl, hBl.out⟩

end Go.Proofs.YtanlgplgplncdaaGreatDoor

/-
  The statement's own: owned, made.
-/
namespace Go.Proofs.YtanlgplgplncdaaGreatDoor
open Go.RowKit
set_option linter.unusedVariables false
set_option linter.unusedSimpArgs false

def gon : Mt := ⟨⟨#[103, 111, 110, 101]⟩, 0, ⟨#[]⟩⟩

set_option maxRecDepth 100000 in
set_option maxHeartbeats 4000000 in
theorem ownedP (g n c : Nat) (w : World) (hV : RV 0 w g n c) (hn : n ≤ 1000) :
    Calls Tryz.prog 12 #[.slice (some ⟨g, 0, none⟩) n c] w fun e w' => e = .returned (.tuple #[]) ∧ Chg (fun i => i = g) w w' := by
  have HV0 := hidden hV
  clear hV
  go_enter Tryz.func12, Tryz.ntmps12
  go_wp2_with fail
  go_loopw [2] (fun s2 wx => ∃ i : Nat, s2 = .int .i64 (i : Int) ∧ i ≤ n ∧ Hid (RV 0 wx g n c) ∧ Hid (Chg (fun i => i = g) w wx)) (fun s2 _ => n - (intOf s2).toNat)
  case atStart => exact ⟨0, rfl, by omega, HV0, hidden (Chg.refl _ _)⟩
  case round =>
    rename World => wr
    obtain ⟨i, rfl, hi, hV, hC⟩ := hrel
    clear HV0
    by_cases hlt : i < n
    · have hltz : (i : Int) < (n : Int) := by omega
      obtain ⟨hg, -, ⟨u0, d0⟩, ⟨u1, d1⟩, ⟨u2, d2⟩, hf⟩ := hV.out.spot hlt
      have f0 := hf (i * 3)
      have f1 := hf (i * 3 + 1)
      have f2 := hf (i * 3 + 2)
      clear hf
      go_wp2
      refine ⟨⟨i + 1, by first | rfl | simp, by omega, hidden (hV.out.store (i * 3) _ _ _), hidden (hC.out.trans (set3_chg wr g (i * 3) _ _ _) (fun _ _ e => e))⟩, ?_⟩
      simp [intOf]
      omega
    · have hltz : ¬ (i : Int) < (n : Int) := by omega
      go_wp2_with fail
      go_loopw [0, 3] (fun s0 s3 wx => ∃ (k g' c' : Nat), s0 = .slice (some ⟨g', 0, none⟩) (n + k) c' ∧ s3 = .int .i64 (k : Int) ∧ k ≤ 9 ∧ Hid (RV 0 wx g' (n + k) c') ∧ Hid (g' = g ∨ w.heap.size ≤ g') ∧ Hid (Chg (fun i => i = g) w wx)) (fun _ s3 _ => 9 - (intOf s3).toNat)
      case atStart => exact ⟨0, g, c, rfl, rfl, by omega, hV, hidden (.inl rfl), hC⟩
      case round =>
        rename World => wy
        obtain ⟨k, g', c', rfl, rfl, hk, hV2, hg2, hC2⟩ := hrel
        clear hV hC
        by_cases hlt2 : k < 9
        · have hltz2 : (k : Int) < 9 := by omega
          obtain ⟨xs, hxs⟩ := hV2.out
          have HXS := hidden hxs
          clear hxs
          go_wp2_with (refine L.wpList_pushM _ rfl (.tmp 18) (.tmp 20) rfl 0 (.slice (some ⟨g', 0, none⟩) (n + k) c') (n + k) xs rfl wy HXS.out gon rfl rfl (by omega) (Nat.zero_le _) ?_; intro g7 c7 w7 ho7 hc7 hm7; have O7 : Hid (RV 0 w7 g7 (n + (k + 1)) c7) := hidden ⟨_, ho7⟩; have HC7 := hidden hc7; have HM7 := hidden hm7; clear ho7 hc7 hm7)
          refine ⟨⟨k + 1, g7, c7, by first | rfl | simp, by first | rfl | simp, by omega, O7, hidden ?_, hidden (hC2.out.trans HC7.out (fun b hb e => ?_))⟩, ?_⟩
          · rcases HM7.out with h | ⟨g8, e, h⟩
            · have : g' = g7 := by
                have h' : some g7 = some g' := by simpa [Value.ownBlock] using h
                injection h' with h'
                exact h'.symm
              rw [← this]
              exact hg2.out
            · injection e with e
              subst e
              exact .inr (Nat.le_trans hC2.out.size h)
          · have e' : g' = b := by
              have h' : some g' = some b := by simpa [Value.ownBlock] using e
              injection h'
            rcases hg2.out with h | h
            · rw [← e', h]
            · omega
          · simp [intOf]
            omega
        · have hltz2 : ¬ (k : Int) < 9 := by omega
          go_wp2
          go_end0
          exact ⟨rfl, hC2.out⟩

/-- What made answers. -/
def MadeR (w : World) (l : List Mt) (e : Ending) (w' : World) : Prop :=
  Below w.heap.size w w' ∧ ((newOk l = true ∧ ∃ s F p G, e = .returned (.tuple #[.pointer (some ⟨s, 0, none⟩), .pointer (some ⟨p, 0, none⟩), .bool true]) ∧ StR F w' s l ∧ StN G w' p l ∧ (∀ b, F b → w.heap.size ≤ b) ∧ ∀ b, G b → w.heap.size ≤ b) ∨
    (newOk l = false ∧ e = .returned (.tuple #[.pointer none, .pointer none, .bool true])))

set_option maxRecDepth 100000 in
set_option maxHeartbeats 4000000 in
theorem madeP (B : Nat) (ad : Option Addr) (n c : Nat) (l : List Mt) (w : World) (hL : Ms w ad l) (hn : l.length = n) (h30 : n ≤ 30) (hno : ad = none → n = 0 ∧ c = 0) (hz : Tz l) (hT : L.Tb B w) :
    Calls Tryz.prog 6 #[.slice ad n c] w (MadeR w l) := by
  have k1 := lentP ad n c l w hL hn h30 hno
  have HL := hidden hL
  have HT := hidden hT
  have HZ := hidden hz
  have HN := hidden hn
  clear hL hno hz hT hn
  unfold MadeR
  go_enter Tryz.func6, Tryz.ntmps6
  go_wp2_with fail
  refine k1.mono ?_
  rintro e w1 ⟨g, c1, rfl, ho1, b1⟩
  have O1 := hidden ho1
  have B1 := hidden b1
  have hgw : w.heap.size ≤ g ∧ g < w1.heap.size := ⟨(ho1.lt g (by simp [Value.ownBlock])).1, owns_lt ho1 g (by simp [Value.ownBlock])⟩
  have HGW := hidden hgw
  have HM1 : Hid (Ms w1 (some ⟨g, 0, none⟩) l) := hidden (by
    have hM := L.ms_of_owns ho1 (fun x hx => by
      rcases List.mem_append.1 hx with h | h
      · exact HL.out.sz x h
      · simp at h; rw [h]; exact bhd_ok)
    refine ⟨HL.out.sz, fun h0 => ?_⟩
    obtain ⟨b, off, e, hb, hc⟩ := hM.at' (by simp)
    exact ⟨b, off, e, hb, fun i x hx => hc i x (by rw [List.getElem?_append_left (List.getElem?_eq_some_iff.1 hx).1]; exact hx)⟩)
  have k2 := newP B (some ⟨g, 0, none⟩) c1 l w1 HM1.out (by rw [HN.out]; omega) (HT.out.later b1)
  unfold NewR at k2
  rw [HN.out] at k2
  clear k1 ho1 b1 hgw
  go_wp2_with fail
  refine k2.mono ?_
  have k3 : Hid (∀ wx, Below w.heap.size w wx → Calls Tryz.prog 22 #[.slice ad n c] wx (NewN wx l)) := hidden (fun wx hb => by
    have := rnewP B ad c l wx (HL.out.later hb) (by rw [HN.out]; omega) HZ.out (HT.out.later hb)
    rw [HN.out] at this
    exact this)
  have k4 : Hid (∀ wx, Below w1.heap.size w1 wx → Calls Tryz.prog 17 #[.slice (some ⟨g, 0, none⟩) n c1, .slice ad n c] wx fun e w' => e = .returned (.bool true) ∧ Chg (fun i => i = g) wx w') := hidden (fun wx hb => stillP w.heap.size g n c1 c ad l wx (owl O1.out hb) (HL.out.later (B1.out.trans (hb.mono B1.out.size))) HN.out h30)
  rintro e w2 ⟨b2, ⟨ho, s, F, rfl, hS, hF⟩ | ⟨ho, rfl⟩⟩
  · have B2 := hidden b2
    have B2w : Hid (Below w.heap.size w w2) := hidden (B1.out.trans (b2.mono B1.out.size))
    have HS := hidden hS
    have HF := hidden hF
    have HO := hidden ho
    have k5 := k3.out _ B2w.out
    unfold NewN at k5
    clear k2 k3 b2 hS hF ho
    go_wp2_with fail
    refine k5.mono ?_
    rintro e w3 ⟨b3, ⟨ho3, p, G, rfl, hP, hG⟩ | ⟨ho3, rfl⟩⟩
    · have B3 : Hid (Below w1.heap.size w1 w3) := hidden (B2.out.trans (b3.mono B2.out.size))
      have B3w : Hid (Below w.heap.size w w3) := hidden (B2w.out.trans (b3.mono B2w.out.size))
      have HS3 := hidden (HS.out.later b3)
      have HP := hidden hP
      have HG := hidden hG
      have hs12 := hidden B2.out.size
      have k6 := k4.out _ B3.out
      clear k5 b3 hP hG ho3
      go_wp2_with (go_at_call 17; refine k6.mono ?_; rintro e w4 ⟨rfl, hc4⟩; have HC4 := hidden hc4; clear k6 hc4)
      go_ret3
      have hS4 : StR F w4 s l := HS3.out.keep HC4.out (fun b hb e => by
        have e' : b = g := e
        have := HF.out b hb
        have := HGW.out.2
        omega)
      have hP4 : StN G w4 p l := HP.out.keep HC4.out (fun b hb e => by
        have e' : b = g := e
        have := HG.out b hb
        have := HGW.out.2
        have := hs12.out
        omega)
      have hB4 : Below w.heap.size w w4 := B3w.out.trans (HC4.out.below B3w.out.size (fun i e => by have e' : i = g := e; rw [e']; exact HGW.out.1))
      have hF4 : ∀ b, F b → w.heap.size ≤ b := fun b hb => Nat.le_trans B1.out.size (HF.out b hb)
      have hG4 : ∀ b, G b → w.heap.size ≤ b := fun b hb => Nat.le_trans B2w.out.size (HG.out b hb)
      first
        | exact ⟨hB4, .inl ⟨HO.out, s, F, p, G, rfl, hS4, hP4, hF4, hG4⟩⟩
        | exact ⟨hB4, .inl ⟨HO.out, s, F, p, rfl, G, hS4, hP4, hF4, hG4⟩⟩
        | exact ⟨hB4, .inl ⟨HO.out, s, F, p, ⟨rfl, hS4⟩, G, hP4, hF4, hG4⟩⟩
        | exact ⟨hB4, .inl ⟨HO.out, s, F, p, rfl, hS4, G, hP4, hF4, hG4⟩⟩
    · exfalso
      have := HO.out
      rw [ho3] at this
      cases this
  · have B2 := hidden b2
    have B2w : Hid (Below w.heap.size w w2) := hidden (B1.out.trans (b2.mono B1.out.size))
    have HO := hidden ho
    have k5 := k3.out _ B2w.out
    unfold NewN at k5
    clear k2 k3 b2 ho
    go_wp2_with fail
    refine k5.mono ?_
    rintro e w3 ⟨b3, ⟨ho3, p, G, rfl, hP, hG⟩ | ⟨ho3, rfl⟩⟩
    · exfalso
      have := HO.out
      rw [ho3] at this
      cases this
    · have B3 : Hid (Below w1.heap.size w1 w3) := hidden (B2.out.trans (b3.mono B2.out.size))
      have B3w : Hid (Below w.heap.size w w3) := hidden (B2w.out.trans (b3.mono B2w.out.size))
      have k6 := k4.out _ B3.out
      clear k5 b3 ho3
      go_wp2_with (go_at_call 17; refine k6.mono ?_; rintro e w4 ⟨rfl, hc4⟩; have HC4 := hidden hc4; clear k6 hc4)
      go_ret3
      exact ⟨B3w.out.trans (HC4.out.below B3w.out.size (fun i e => by have e' : i = g := e; rw [e']; exact HGW.out.1)), .inr ⟨HO.out, by first | rfl | simp⟩⟩

end Go.Proofs.YtanlgplgplncdaaGreatDoor

/-
  MatchSets: a region that draws its order.
-/
namespace Go.Proofs.YtanlgplgplncdaaGreatDoor
open Go.RowKit
set_option linter.unusedVariables false
set_option linter.unusedSimpArgs false

set_option maxRecDepth 100000 in
set_option maxHeartbeats 2000000 in
theorem sets_r29 (gs gr i s p lbk lof n2 c2 k m lc : Nat) (la : Option Addr) (H : Bool) (w : World) (a0 : Act) (Q : Exit → Act → World → Prop) (hsz : a0.tmps.size = 163)
    (s18 : a0.tmps.getD 18 undef = .slice (some ⟨gs, 0, none⟩) 4 4)
    (s19 : a0.tmps.getD 19 undef = .slice (some ⟨gr, 0, none⟩) 4 4)
    (s20 : a0.tmps.getD 20 undef = .int .i64 (i : Int))
    (s2 : a0.tmps.getD 2 undef = .slice (some ⟨lbk, lof, none⟩) n2 c2)
    (s25 : a0.tmps.getD 25 undef = .int .i64 (k : Int))
    (hi1 : (i : Int) < 4)
    (hi2 : i < 4)
    (hk1 : (k : Int) < (n2 : Int))
    (hk2 : k < n2)
    (hcs : ∀ w1, Lat w w1 → w1.cell? ⟨gs, i, none⟩ = some (.pointer (some ⟨s, 0, none⟩)))
    (hcr : ∀ w1, Lat w w1 → w1.cell? ⟨gr, i, none⟩ = some (.pointer (some ⟨p, 0, none⟩)))
    (hcl : ∀ w1, Lat w w1 → w1.cell? ⟨lbk, lof + k, none⟩ = some (.slice la m lc))
    (hh1 : ∀ wx, Lat w wx → Calls Tryz.prog 13 #[.pointer (some ⟨s, 0, none⟩), .slice la m lc] wx fun e w' => e = .returned (.bool H) ∧ Lat wx w')
    (hh2 : ∀ wx, Lat w wx → Calls Tryz.prog 14 #[.pointer (some ⟨p, 0, none⟩), .slice la m lc] wx fun e w' => e = .returned (.bool H) ∧ Lat wx w')
    (hQ : ∀ (v144 v145 v146 v147 v148 v149 v150 v151 v152 v153 v154 v155 v156 v157 v158 v159 v160 v161 v162 : Value) (w1 : World), Lat w w1 → v162 = .bool false → Q .normal (((((((((((((((((((a0.put (some 144) v144).put (some 145) v145).put (some 146) v146).put (some 147) v147).put (some 148) v148).put (some 149) v149).put (some 150) v150).put (some 151) v151).put (some 152) v152).put (some 153) v153).put (some 154) v154).put (some 155) v155).put (some 156) v156).put (some 157) v157).put (some 158) v158).put (some 159) v159).put (some 160) v160).put (some 161) v161).put (some 162) v162) w1) :
    Code.wp Tryz.prog ((Tryz.f3.body.bind (findRegion 29)).getD .skip) Q a0 w := by
  conv => arg 2; whnf
  refine wp_region_inv Lat (TE [Ent.val (.slice (some ⟨gs, 0, none⟩) 4 4), Ent.val (.int .i64 (i : Int)), Ent.val (.pointer (some ⟨gs, i, none⟩)), Ent.val (.pointer (some ⟨s, 0, none⟩)), Ent.val (.slice (some ⟨lbk, lof, none⟩) n2 c2), Ent.val (.int .i64 (k : Int)), Ent.val (.pointer (some ⟨lbk, lof + k, none⟩)), Ent.val (.slice la m lc), Ent.val (.bool H), Ent.val (.slice (some ⟨gr, 0, none⟩) 4 4), Ent.val (.int .i64 (i : Int)), Ent.val (.pointer (some ⟨gr, i, none⟩)), Ent.val (.pointer (some ⟨p, 0, none⟩)), Ent.val (.slice (some ⟨lbk, lof, none⟩) n2 c2), Ent.val (.int .i64 (k : Int)), Ent.val (.pointer (some ⟨lbk, lof + k, none⟩)), Ent.val (.slice la m lc), Ent.val (.bool H), Ent.val (.bool false)]) (by kernel_rfl) (by kernel_rfl) (by kernel_rfl) (by rw [hsz]; kernel_rfl) (by kernel_rfl) Lat.refl Lat.trans (TE_stable _) (Lat.draw w) ?hop ?hdone
  case hdone =>
    intro a w1 hL hS hT
    have he := same_puts hS
    rw [he]
    exact hQ (a.tmps.getD 144 undef) (a.tmps.getD 145 undef) (a.tmps.getD 146 undef) (a.tmps.getD 147 undef) (a.tmps.getD 148 undef) (a.tmps.getD 149 undef) (a.tmps.getD 150 undef) (a.tmps.getD 151 undef) (a.tmps.getD 152 undef) (a.tmps.getD 153 undef) (a.tmps.getD 154 undef) (a.tmps.getD 155 undef) (a.tmps.getD 156 undef) (a.tmps.getD 157 undef) (a.tmps.getD 158 undef) (a.tmps.getD 159 undef) (a.tmps.getD 160 undef) (a.tmps.getD 161 undef) (a.tmps.getD 162 undef) w1 hL (hT 18 _ rfl)
  case hop =>
    intro i o hi
    have hlt : i < 19 := (Array.getElem?_eq_some_iff.1 hi).1
    rcases (show i = 0 ∨ i = 1 ∨ i = 2 ∨ i = 3 ∨ i = 4 ∨ i = 5 ∨ i = 6 ∨ i = 7 ∨ i = 8 ∨ i = 9 ∨ i = 10 ∨ i = 11 ∨ i = 12 ∨ i = 13 ∨ i = 14 ∨ i = 15 ∨ i = 16 ∨ i = 17 ∨ i = 18 by omega) with rfl | rfl | rfl | rfl | rfl | rfl | rfl | rfl | rfl | rfl | rfl | rfl | rfl | rfl | rfl | rfl | rfl | rfl | rfl
    · obtain rfl := Option.some.inj hi
      clear hi hlt
      intro a w1 hL hS hD
      have e18 : a.tmps.getD 18 undef = .slice (some ⟨gs, 0, none⟩) 4 4 := (hS.slot 18 (by kernel_rfl)).trans s18
      refine step_yes rfl ?_
      exact ok_value Lat.refl (.slice (some ⟨gs, 0, none⟩) 4 4) (by simp [execOp, Act.eval, e18, go_sem]) rfl
    · obtain rfl := Option.some.inj hi
      clear hi hlt
      intro a w1 hL hS hD
      have e20 : a.tmps.getD 20 undef = .int .i64 (i : Int) := (hS.slot 20 (by kernel_rfl)).trans s20
      refine step_yes rfl ?_
      exact ok_value Lat.refl (.int .i64 (i : Int)) (by simp [execOp, Act.eval, e20, go_sem]) rfl
    · obtain rfl := Option.some.inj hi
      clear hi hlt
      intro a w1 hL hS hD
      have d0 : a.tmps.getD 144 undef = .slice (some ⟨gs, 0, none⟩) 4 4 := hD ⟨0, .data⟩ (by simp) rfl _ rfl
      have d1 : a.tmps.getD 145 undef = .int .i64 (i : Int) := hD ⟨1, .data⟩ (by simp) rfl _ rfl
      refine step_yes rfl ?_
      exact ok_value Lat.refl (.pointer (some ⟨gs, i, none⟩)) (by simp [execOp, Act.eval, d0, d1, hi1, hi2, go_sem]) rfl
    · obtain rfl := Option.some.inj hi
      clear hi hlt
      intro a w1 hL hS hD
      have d2 : a.tmps.getD 146 undef = .pointer (some ⟨gs, i, none⟩) := hD ⟨2, .data⟩ (by simp) rfl _ rfl
      refine step_yes rfl ?_
      exact ok_value Lat.refl (.pointer (some ⟨s, 0, none⟩)) (by simp [execOp, Act.eval, d2, hcs w1 hL, go_sem]) rfl
    · obtain rfl := Option.some.inj hi
      clear hi hlt
      intro a w1 hL hS hD
      have e2 : a.tmps.getD 2 undef = .slice (some ⟨lbk, lof, none⟩) n2 c2 := (hS.slot 2 (by kernel_rfl)).trans s2
      refine step_yes rfl ?_
      exact ok_value Lat.refl (.slice (some ⟨lbk, lof, none⟩) n2 c2) (by simp [execOp, Act.eval, e2, go_sem]) rfl
    · obtain rfl := Option.some.inj hi
      clear hi hlt
      intro a w1 hL hS hD
      have e25 : a.tmps.getD 25 undef = .int .i64 (k : Int) := (hS.slot 25 (by kernel_rfl)).trans s25
      refine step_yes rfl ?_
      exact ok_value Lat.refl (.int .i64 (k : Int)) (by simp [execOp, Act.eval, e25, go_sem]) rfl
    · obtain rfl := Option.some.inj hi
      clear hi hlt
      intro a w1 hL hS hD
      have d4 : a.tmps.getD 148 undef = .slice (some ⟨lbk, lof, none⟩) n2 c2 := hD ⟨4, .data⟩ (by simp) rfl _ rfl
      have d5 : a.tmps.getD 149 undef = .int .i64 (k : Int) := hD ⟨5, .data⟩ (by simp) rfl _ rfl
      refine step_yes rfl ?_
      exact ok_value Lat.refl (.pointer (some ⟨lbk, lof + k, none⟩)) (by simp [execOp, Act.eval, d4, d5, hk1, hk2, go_sem]) rfl
    · obtain rfl := Option.some.inj hi
      clear hi hlt
      intro a w1 hL hS hD
      have d6 : a.tmps.getD 150 undef = .pointer (some ⟨lbk, lof + k, none⟩) := hD ⟨6, .data⟩ (by simp) rfl _ rfl
      refine step_yes rfl ?_
      exact ok_value Lat.refl (.slice la m lc) (by simp [execOp, Act.eval, d6, hcl w1 hL, go_sem]) rfl
    · obtain rfl := Option.some.inj hi
      clear hi hlt
      intro a w1 hL hS hD
      have d3 : a.tmps.getD 147 undef = .pointer (some ⟨s, 0, none⟩) := hD ⟨3, .data⟩ (by simp) rfl _ rfl
      have d7 : a.tmps.getD 151 undef = .slice la m lc := hD ⟨7, .data⟩ (by simp) rfl _ rfl
      refine step_yes rfl ?_
      refine ok_call (f := 13) (args := #[.pointer (some ⟨s, 0, none⟩), .slice la m lc]) (by simp [execOp, resolve, Act.eval, d3, d7, go_sem]) ?_
      refine (hh1 w1 hL).mono ?_
      rintro e w2 ⟨rfl, b5⟩
      exact ⟨_, rfl, b5, rfl⟩
    · obtain rfl := Option.some.inj hi
      clear hi hlt
      intro a w1 hL hS hD
      have e19 : a.tmps.getD 19 undef = .slice (some ⟨gr, 0, none⟩) 4 4 := (hS.slot 19 (by kernel_rfl)).trans s19
      refine step_yes rfl ?_
      exact ok_value Lat.refl (.slice (some ⟨gr, 0, none⟩) 4 4) (by simp [execOp, Act.eval, e19, go_sem]) rfl
    · obtain rfl := Option.some.inj hi
      clear hi hlt
      intro a w1 hL hS hD
      have e20 : a.tmps.getD 20 undef = .int .i64 (i : Int) := (hS.slot 20 (by kernel_rfl)).trans s20
      refine step_yes rfl ?_
      exact ok_value Lat.refl (.int .i64 (i : Int)) (by simp [execOp, Act.eval, e20, go_sem]) rfl
    · obtain rfl := Option.some.inj hi
      clear hi hlt
      intro a w1 hL hS hD
      have d9 : a.tmps.getD 153 undef = .slice (some ⟨gr, 0, none⟩) 4 4 := hD ⟨9, .data⟩ (by simp) rfl _ rfl
      have d10 : a.tmps.getD 154 undef = .int .i64 (i : Int) := hD ⟨10, .data⟩ (by simp) rfl _ rfl
      refine step_yes rfl ?_
      exact ok_value Lat.refl (.pointer (some ⟨gr, i, none⟩)) (by simp [execOp, Act.eval, d9, d10, hi1, hi2, go_sem]) rfl
    · obtain rfl := Option.some.inj hi
      clear hi hlt
      intro a w1 hL hS hD
      have d11 : a.tmps.getD 155 undef = .pointer (some ⟨gr, i, none⟩) := hD ⟨11, .data⟩ (by simp) rfl _ rfl
      refine step_yes rfl ?_
      exact ok_value Lat.refl (.pointer (some ⟨p, 0, none⟩)) (by simp [execOp, Act.eval, d11, hcr w1 hL, go_sem]) rfl
    · obtain rfl := Option.some.inj hi
      clear hi hlt
      intro a w1 hL hS hD
      have e2 : a.tmps.getD 2 undef = .slice (some ⟨lbk, lof, none⟩) n2 c2 := (hS.slot 2 (by kernel_rfl)).trans s2
      refine step_yes rfl ?_
      exact ok_value Lat.refl (.slice (some ⟨lbk, lof, none⟩) n2 c2) (by simp [execOp, Act.eval, e2, go_sem]) rfl
    · obtain rfl := Option.some.inj hi
      clear hi hlt
      intro a w1 hL hS hD
      have e25 : a.tmps.getD 25 undef = .int .i64 (k : Int) := (hS.slot 25 (by kernel_rfl)).trans s25
      refine step_yes rfl ?_
      exact ok_value Lat.refl (.int .i64 (k : Int)) (by simp [execOp, Act.eval, e25, go_sem]) rfl
    · obtain rfl := Option.some.inj hi
      clear hi hlt
      intro a w1 hL hS hD
      have d13 : a.tmps.getD 157 undef = .slice (some ⟨lbk, lof, none⟩) n2 c2 := hD ⟨13, .data⟩ (by simp) rfl _ rfl
      have d14 : a.tmps.getD 158 undef = .int .i64 (k : Int) := hD ⟨14, .data⟩ (by simp) rfl _ rfl
      refine step_yes rfl ?_
      exact ok_value Lat.refl (.pointer (some ⟨lbk, lof + k, none⟩)) (by simp [execOp, Act.eval, d13, d14, hk1, hk2, go_sem]) rfl
    · obtain rfl := Option.some.inj hi
      clear hi hlt
      intro a w1 hL hS hD
      have d15 : a.tmps.getD 159 undef = .pointer (some ⟨lbk, lof + k, none⟩) := hD ⟨15, .data⟩ (by simp) rfl _ rfl
      refine step_yes rfl ?_
      exact ok_value Lat.refl (.slice la m lc) (by simp [execOp, Act.eval, d15, hcl w1 hL, go_sem]) rfl
    · obtain rfl := Option.some.inj hi
      clear hi hlt
      intro a w1 hL hS hD
      have d12 : a.tmps.getD 156 undef = .pointer (some ⟨p, 0, none⟩) := hD ⟨12, .data⟩ (by simp) rfl _ rfl
      have d16 : a.tmps.getD 160 undef = .slice la m lc := hD ⟨16, .data⟩ (by simp) rfl _ rfl
      refine step_yes rfl ?_
      refine ok_call (f := 14) (args := #[.pointer (some ⟨p, 0, none⟩), .slice la m lc]) (by simp [execOp, resolve, Act.eval, d12, d16, go_sem]) ?_
      refine (hh2 w1 hL).mono ?_
      rintro e w2 ⟨rfl, b5⟩
      exact ⟨_, rfl, b5, rfl⟩
    · obtain rfl := Option.some.inj hi
      clear hi hlt
      intro a w1 hL hS hD
      have d8 : a.tmps.getD 152 undef = .bool H := hD ⟨8, .data⟩ (by simp) rfl _ rfl
      have d17 : a.tmps.getD 161 undef = .bool H := hD ⟨17, .data⟩ (by simp) rfl _ rfl
      refine step_yes rfl ?_
      exact ok_value Lat.refl (.bool false) (by simp [execOp, Act.eval, d8, d17, go_sem]) rfl

end Go.Proofs.YtanlgplgplncdaaGreatDoor
