import Derived.Test.YtalmpmhnkilalaaGreatDoorDyH
import Derived.Test.YtalmpmhnkilalaaGreatDoorBkD
import Derived.Test.YtalmpmhnkilalaaGreatDoorBkB
/-
  The document's own Read. By gendyl21.py.
-/
namespace Go.Proofs.YtalmpmhnkilalaaGreatDoor
open Go.RowKit
set_option linter.unusedVariables false
set_option linter.unusedSimpArgs false

/-- The document's Read, purely: what it told, and what is left. -/
def docS1 (b : List Int) : Ri := (Ri.mk b true).cnt 999
def docEr (b : List Int) : Int := if (docS1 b).ok then ((Q.dec b).1 : Int) else 0
def docS3 (b : List Int) : Ri := ⟨(docS1 b).one.2.b, (docS1 b).one.2.ok && decide ((docS1 b).one.1 ≤ 4)⟩
def docRd (b : List Int) : (Int × Int × (Nat → FV)) × Ri :=
  if (docS1 b).ok = true ∧ docEr b = 0 then ((docEr b, (docS1 b).one.1, ((docS3 b).ans (docS1 b).one.1).1), ((docS3 b).ans (docS1 b).one.1).2) else ((docEr b, 0, zA), docS1 b)
def docQ (b : List Int) : Option (Int × Int × (Nat → FV)) := if 1048576 < b.length then none else if (docRd b).2.ok = true ∧ (docRd b).2.b.length = 0 then some (docRd b).1 else none
theorem docQ_no {b : List Int} {q : Int × Int × (Nat → FV)} {s : Ri} (h : docRd b = (q, s)) (hn : s.ok = false ∨ ¬ s.b.length = 0) : docQ b = none := by
  unfold docQ
  rw [h]
  split
  · rfl
  · rw [if_neg]
    rintro ⟨h1, h2⟩
    have h1 : s.ok = true := h1
    rcases hn with hn | hn
    · rw [h1] at hn; cases hn
    · exact hn h2
theorem docQ_yes {b : List Int} {q : Int × Int × (Nat → FV)} {s : Ri} (h : docRd b = (q, s)) (hl : ¬ 1048576 < b.length) (h1 : s.ok = true) (h2 : s.b.length = 0) : docQ b = some q := by
  unfold docQ
  rw [h, if_neg hl, if_pos ⟨h1, h2⟩]
theorem it_cell {w : World} {p K : Nat} {s : Ri} (h : It w p K s) : ∃ ad c, w.cell? ⟨p, 0, none⟩ = some (.slice ad s.b.length c) := by
  obtain ⟨_, _, ad, n, c, hB⟩ := h
  refine ⟨ad, c, ?_⟩
  have := hB.blk.cell 0
  rw [hB.sl.len]
  simpa using this
theorem built89 (ad : Option Addr) (n c : Nat) : Tryz.prog.built 89 [(0, .slice ad n c), (1, .bool true)] = some #[.slice ad n c, .bool true] := by kernel_rfl
theorem res_read21 (tmps : Array Value) (w : World) (g : Nat) (l : List Value) (hl : l.length = 6) (hp : tmps.getD 2 undef = .pointer (some ⟨g, 0, none⟩)) (hB : Blk w g 57 l) : (results Tryz.f21 tmps).run Tryz.prog w = .ok (.tuple #[.agg l.toArray, tmps.getD 3 undef]) w := by
  have h : Tryz.f21.results = #[.cell 2 57, .tmp 3] := by kernel_rfl
  have hp' : tmps[2]?.getD undef = .pointer (some ⟨g, 0, none⟩) := by simpa using hp
  match l, hl with
  | [a, b, c, d, e, f], _ =>
    have h0 := hB.cell 0
    have h1 := hB.cell 1
    have h2 := hB.cell 2
    have h3 := hB.cell 3
    have h4 := hB.cell 4
    have h5 := hB.cell 5
    simp at h0 h1 h2 h3 h4 h5
    simp [results, h, hp', asAddr, loadVar, h0, h1, h2, h3, h4, h5, go_sem]
theorem one_bd {s : Ri} (h : Byte s.b) : 0 ≤ s.one.1 ∧ s.one.1 ≤ 255 := by
  obtain ⟨b, ok⟩ := s
  cases ok with
  | false => rw [one_no]; show (0 : Int) ≤ 0 ∧ (0 : Int) ≤ 255; omega
  | true =>
    cases b with
    | nil => show (0 : Int) ≤ 0 ∧ (0 : Int) ≤ 255; omega
    | cons x t =>
      have := h x (by simp)
      show 0 ≤ x ∧ x ≤ 255
      omega

set_option maxHeartbeats 4000000 in
set_option maxRecDepth 100000 in
theorem readI (ad : Option Addr) (n c : Nat) (b : List Int) (K : Nat) (w : World) (hs : Sl w ad n b) (hK : ∀ x, ad = some x → 0 < n → x.block = K ∧ x.spot = none) (hKw : K < w.heap.size) (hno : ad = none → n = 0 ∧ c = 0) (hcap : n ≤ c ∧ c ≤ 9223372036854775807) :
    Calls Tryz.prog 21 #[.slice ad n c] w (ReadP w 0 (docQ b)) := by
  have HS := hidden hs
  have hl := hs.len
  have hby := hs.byte
  have HK := hidden hK
  have HNO := hidden hno
  clear hs hK hno
  by_cases hbig : 1048576 < n
  · have HO : Hid (docQ b = none) := hidden (by unfold docQ; rw [if_pos (by omega)])
    have hbig' : (n : Int) > 1048576 := by omega
    go_enter Tryz.func21, Tryz.ntmps21
    go_wp2_with (first
      | (refine wpList_alloc_blk rfl 57 rfl 2 rfl z57 info57z ?_; intro w1 B1 bl1 hz1; have HB1 := hidden B1; have HL1 := hidden bl1; clear B1 bl1 hz1)
      | (refine wpList_build_to rfl 57 #[] rfl [] z57.toArray rfl built57 ?_)
      | (refine wpList_store_let rfl 57 (.tmp 2) (.tmp 9) rfl rfl w.heap.size (l := z57) HB1.out rfl rfl rfl size57 (cA_one 0 0 (fun i => zM (kdA i))) ?_; intro w2 B2 cg2 hz2; have HB2 := hidden B2; have HC2 := hidden cg2; clear B2 cg2 hz2))
    refine bodyPost_ret (res_read21 _ _ w.heap.size z57 rfl rfl HB2.out) rfl ?_
    rw [HO.out]
    exact ⟨HL1.out.trans (HC2.out.below HL1.out.size (fun i e => by have e : i = w.heap.size := e; omega)), rfl⟩
  · have hbig' : ¬ (n : Int) > 1048576 := by omega
    have hbl : ¬ 1048576 < b.length := by omega
    go_enter Tryz.func21, Tryz.ntmps21
    go_wp2_with (first
      | (refine wpList_alloc_blk rfl 57 rfl 2 rfl z57 info57z ?_; intro w1 B1 bl1 hz1; have HB1 := hidden B1; have HL1 := hidden bl1; have hz1' := hz1; clear B1 bl1 hz1)
      | (refine wpList_build_to rfl 89 #[(0, .tmp 10), (1, .const (.bool true))] rfl [(0, .slice ad n c), (1, .bool true)] #[.slice ad n c, .bool true] rfl (built89 _ _ _) ?_)
      | (refine wpList_box_blk rfl 89 (.tmp 11) rfl [.slice ad n c, .bool true] rfl ?_; intro w2 B2 bl2 hz2; have HP2 := hidden B2; have HB2 := hidden (HB1.out.later bl2); have HL2 := hidden (HL1.out.trans (bl2.mono HL1.out.size)); have hz2' := hz2; clear B2 bl2 hz2; rw [hz1'] at HP2 hz2'; rw [hz1'])
      | (refine wpList_alloc_blk rfl 57 rfl 5 rfl z57 info57z ?_; intro w3 B3 bl3 hz3; have HG3 := hidden B3; have HP3 := hidden (HP2.out.later bl3); have HB3 := hidden (HB2.out.later bl3); have HL3 := hidden (HL2.out.trans (bl3.mono HL2.out.size)); have hz3' := hz3; clear B3 bl3 hz3; rw [hz2'] at HG3 hz3'; rw [hz2']))
    have hIt : It w3 (w.heap.size + 1) K ⟨b, true⟩ := ⟨by omega, by omega, ad, n, c, HP3.out, (Chg.of_below (F := fun _ => False) HL3.out).sl HS.out (fun _ _ _ e => e), HK.out, HNO.out, hcap, by omega⟩
    have HIT := hidden hIt
    clear hIt
    refine (countI (w.heap.size + 1) K ⟨b, true⟩ 999 w3 HIT.out (by omega)).mono ?_
    rintro e w4 ⟨v, rfl, hQ, rfl⟩
    have hs1 : (Ri.mk b true).cnt 999 = docS1 b := rfl
    have hb1 : (Ri.mk b true).b = b := rfl
    have her : (if (docS1 b).ok then ((Q.dec b).1 : Int) else 0) = docEr b := rfl
    rw [hs1] at hQ
    rw [hb1, hs1, her]
    clear hs1 hb1 her
    have her2 : 0 ≤ docEr b ∧ docEr b ≤ 9223372036854775807 := by
      have := (Q.dec_bound b hby).1
      unfold docEr
      split
      · rename_i hh
        unfold docS1 Ri.cnt at hh
        simp at hh
        omega
      · omega
    have hDR : docRd b = if (docS1 b).ok = true ∧ docEr b = 0 then ((docEr b, (docS1 b).one.1, ((docS3 b).ans (docS1 b).one.1).1), ((docS3 b).ans (docS1 b).one.1).2) else ((docEr b, 0, zA), docS1 b) := rfl
    have hS3 : docS3 b = ⟨(docS1 b).one.2.b, (docS1 b).one.2.ok && decide ((docS1 b).one.1 ≤ 4)⟩ := rfl
    have HDR := hidden hDR
    have HS3 := hidden hS3
    clear hDR hS3
    generalize docEr b = er at *
    generalize docS1 b = s1 at *
    generalize docS3 b = s3 at *
    have hGB := hQ.chg.blk HG3.out (by unfold fpr; omega)
    have cg0 := hGB.cell 0
    simp [z57] at cg0
    have fg0 := hGB.frozen 0
    have hsz4 := hQ.chg.size
    have HGX := hidden (hGB.set 0 (.int .i64 er))
    have hS5 : Chg (fun i => i = w.heap.size + 2) w4 (w4.setCell ⟨w.heap.size + 2, 0, none⟩ (.int .i64 er)) := (Chg.set ⟨w.heap.size + 2, 0, none⟩ _ w4).mono (fun i _ hi => hi)
    have HI5 := hidden (hQ.it.chg hS5 (by omega) (by omega))
    have HBR5 := hidden (hS5.blk (hQ.chg.blk HB3.out (by unfold fpr; omega)) (by omega))
    have HL5 : Hid (Below w.heap.size w (w4.setCell ⟨w.heap.size + 2, 0, none⟩ (.int .i64 er))) := hidden ((HL3.out.trans (hQ.chg.below HL3.out.size (fun i e => by have e : i = w.heap.size + 1 := e; omega))).trans (hS5.below (by omega) (fun i e => by omega)))
    have cf1 := HI5.out.flag
    have cg1 := HGX.out.cell 0
    simp [z57] at cg1
    clear hQ hGB hS5
    obtain ⟨ok1, hok1⟩ : ∃ y, s1.ok = y := ⟨_, rfl⟩
    rw [hok1] at cf1
    cases ok1 with
    | false =>
      have HDQ := hidden (HDR.out.trans (if_neg (by rw [hok1]; simp)))
      obtain ⟨wx, hwx⟩ : ∃ wx, w4.setCell ⟨w.heap.size + 2, 0, none⟩ (.int .i64 er) = wx := ⟨_, rfl⟩
      have HNO2 : Hid (docQ b = none) := hidden (docQ_no HDQ.out (.inl hok1))
      rw [hwx] at HBR5 HL5 HGX HI5 cf1 cg1
      have HIX := HI5
      have HLX := HL5
      have HBR := HBR5
      go_wp2_with (first
        | (refine wpList_build_to rfl 57 #[] rfl [] z57.toArray rfl built57 ?_)
        | (refine wpList_store_let rfl 57 (.tmp 2) (.tmp 55) rfl rfl w.heap.size (l := z57) (HBR.out) rfl rfl rfl size57 (cA_one 0 0 (fun i => zM (kdA i))) ?_; intro w9 B9 cg9 hz9; have HB9 := hidden B9; have HC9 := hidden cg9; clear B9 cg9 hz9))
      refine bodyPost_ret (res_read21 _ _ w.heap.size z57 rfl rfl HB9.out) rfl ?_
      rw [HNO2.out]
      exact ⟨HLX.out.trans (HC9.out.below HLX.out.size (fun i e => by have e : i = w.heap.size := e; omega)), rfl⟩
    | true =>
      by_cases he0 : er = 0
      · subst he0
        have HDQ := hidden (HDR.out.trans (if_pos ⟨hok1, rfl⟩))
        clear HDR
        obtain ⟨wy, hwy⟩ : ∃ wy, w4.setCell ⟨w.heap.size + 2, 0, none⟩ (.int .i64 0) = wy := ⟨_, rfl⟩
        rw [hwy] at HBR5 HL5 HGX HI5 cf1 cg1
        have hszy : w4.heap.size ≤ wy.heap.size := by rw [← hwy]; simp [World.setCell]
        go_wp2_with fail
        try rw [hwy]
        refine (oneI (w.heap.size + 1) K s1 wy HI5.out).mono ?_
        rintro e w6 ⟨v, rfl, hQ, rfl⟩
        have hkb := one_bd HI5.out.byte.1
        have hGB := hQ.chg.blk HGX.out (by unfold fpr; omega)
        have cg2 := hGB.cell 1
        simp [z57] at cg2
        have fg2 := hGB.frozen 1
        have hsz6 := hQ.chg.size
        generalize s1.one.1 = kk at *
        generalize s1.one.2 = s2 at *
        have HGB7 := hidden (hGB.set 1 (.int .i64 kk))
        have hS7 : Chg (fun i => i = w.heap.size + 2) w6 (w6.setCell ⟨w.heap.size + 2, 1, none⟩ (.int .i64 kk)) := (Chg.set ⟨w.heap.size + 2, 1, none⟩ _ w6).mono (fun i _ hi => hi)
        have HI7 := hidden (hQ.it.chg hS7 (by omega) (by omega))
        have HBR7 := hidden (hS7.blk (hQ.chg.blk HBR5.out (by unfold fpr; omega)) (by omega))
        have HL7 : Hid (Below w.heap.size w (w6.setCell ⟨w.heap.size + 2, 1, none⟩ (.int .i64 kk))) := hidden ((HL5.out.trans (hQ.chg.below HL5.out.size (fun i e => by have e : i = w.heap.size + 1 := e; omega))).trans (hS7.below (by omega) (fun i e => by omega)))
        have cf7 := HI7.out.flag
        have ff7 := HI7.out.frozen 1
        have cg7 := HGB7.out.cell 1
        simp [z57] at cg7
        clear hQ hGB hS7 cg0 fg0 cf1 cg1 hwy
        obtain ⟨w7, hw7⟩ : ∃ w7, w6.setCell ⟨w.heap.size + 2, 1, none⟩ (.int .i64 kk) = w7 := ⟨_, rfl⟩
        rw [hw7] at HGB7 HI7 HBR7 HL7 cf7 ff7 cg7
        have hsz7 : w6.heap.size = w7.heap.size := by rw [← hw7]; simp [World.setCell]
        have rest : ∀ y : Bool, y = (s2.ok && decide (kk ≤ 4)) → Calls Tryz.prog 49 #[.pointer (some ⟨w.heap.size + 1, 0, none⟩), .pointer (some ⟨w.heap.size + 2, 0, none⟩)] (w7.setCell ⟨w.heap.size + 1, 1, none⟩ (.bool y)) (AnP (w7.setCell ⟨w.heap.size + 1, 1, none⟩ (.bool y)) (w.heap.size + 1) K (w.heap.size + 2) 0 kk (s3.ans kk).1 (s3.ans kk).2) := by
          intro y hy
          subst hy
          have hi := HI7.out.setOk (s2.ok && decide (kk ≤ 4))
          rw [← HS3.out] at hi
          exact answerI (w.heap.size + 1) K (w.heap.size + 2) s3 0 kk _ hi ((chg_ok (w.heap.size + 1) w7 _ 1).blk HGB7.out (by unfold fpr; omega)) (by omega) (by omega)
        have REST := hidden rest
        clear rest
        obtain ⟨ok2, hok2⟩ : ∃ y, s2.ok = y := ⟨_, rfl⟩
        rw [hok2] at cf7
        cases ok2 with
        | false =>
          go_wp2_with fail
          try rw [hw7]
          refine (REST.out false (by rw [hok2]; rfl)).mono ?_
          rintro e wx ⟨rfl, fm, hIx, hBx, hFx, hCx⟩
          have hszs : (w7.setCell ⟨w.heap.size + 1, 1, none⟩ (.bool false)).heap.size = w7.heap.size := by simp [World.setCell]
          have HIX := hidden hIx
          have HBGX := hidden hBx
          have HLX : Hid (Below w.heap.size w wx) := hidden ((HL7.out.trans ((chg_ok (w.heap.size + 1) w7 (.bool false) 1).below HL7.out.size (fun i e => by have e : i = w.heap.size + 1 := e; omega))).trans (hCx.below (by omega) (fun i e => by rcases e with e | e <;> omega)))
          have HBR := hidden (hCx.blk ((chg_ok (w.heap.size + 1) w7 (.bool false) 1).blk HBR7.out (by unfold fpr; omega)) (by rintro (e | e) <;> omega))
          have HFX2 : Hid (∀ j, j < 4 → (fm j).fv = (s3.ans kk).1 j ∧ FO w.heap.size 0 wx (fm j)) := hidden (fun j hj => ⟨(hFx j hj).1, (hFx j hj).2.mono (by omega)⟩)
          clear hIx hBx hFx hCx cf7 ff7 cg7
          have cfx := HIX.out.flag
          obtain ⟨adx, cx, c0x⟩ := it_cell HIX.out
          obtain ⟨okx, hokx⟩ : ∃ y, ((s3.ans kk).2).ok = y := ⟨_, rfl⟩
          rw [hokx] at cfx
          obtain ⟨nx, hnx⟩ : ∃ nx, ((s3.ans kk).2).b.length = nx := ⟨_, rfl⟩
          rw [hnx] at c0x
          cases okx with
          | false =>
            have HNO2 : Hid (docQ b = none) := hidden (docQ_no HDQ.out (.inl hokx))
            go_wp2_with (first
              | (refine wpList_build_to rfl 57 #[] rfl [] z57.toArray rfl built57 ?_)
              | (refine wpList_store_let rfl 57 (.tmp 2) (.tmp 55) rfl rfl w.heap.size (l := z57) (HBR.out) rfl rfl rfl size57 (cA_one 0 0 (fun i => zM (kdA i))) ?_; intro w9 B9 cg9 hz9; have HB9 := hidden B9; have HC9 := hidden cg9; clear B9 cg9 hz9))
            refine bodyPost_ret (res_read21 _ _ w.heap.size z57 rfl rfl HB9.out) rfl ?_
            rw [HNO2.out]
            exact ⟨HLX.out.trans (HC9.out.below HLX.out.size (fun i e => by have e : i = w.heap.size := e; omega)), rfl⟩
          | true =>
            by_cases hn0 : nx = 0
            · have HYES : Hid (docQ b = some (0, kk, (s3.ans kk).1)) := hidden (docQ_yes HDQ.out hbl hokx (hnx.trans hn0))
              subst hn0
              have hlx : (cA 0 kk fm).length = 6 := by simp [cA]
              go_wp2_with (first
                | (refine wpList_load_blk rfl 57 (.tmp 5) rfl (w.heap.size + 2) HBGX.out rfl rfl rfl (by rw [hlx]; exact size57) ?_)
                | (refine wpList_store_let rfl 57 (.tmp 2) (.tmp 56) rfl rfl w.heap.size (l := cA 0 kk fm) HBR.out rfl rfl (by rw [hlx]; rfl) (by rw [hlx]; exact size57) (cA_one 0 kk fm) ?_; intro w9 B9 cg9 hz9; have HB9 := hidden B9; have HC9 := hidden cg9; clear B9 cg9 hz9))
              refine bodyPost_ret (res_read21 _ _ w.heap.size (cA 0 kk fm) hlx rfl HB9.out) rfl ?_
              rw [HYES.out]
              refine ⟨HLX.out.trans (HC9.out.below HLX.out.size (fun i e => by have e : i = w.heap.size := e; omega)), fm, rfl, fun j hj => ⟨(HFX2.out j hj).1, ?_⟩⟩
              refine (HFX2.out j hj).2.chg HC9.out (fun e => by have e : 0 = w.heap.size := e; omega) (fun i hi => ?_)
              have hi : i = w.heap.size := hi
              subst hi
              have ht := ty_blk HBR.out
              exact ⟨fun e => absurd (ht.ne e) (by decide), fun e => absurd (ht.ne e) (by decide), fun e => absurd (ht.ne e) (by decide), fun e => absurd (ht.ne e) (by decide), fun e => absurd (ht.ne e) (by decide), fun e => absurd (ht.ne e) (by decide)⟩
            · have hn1 : (nx : Int) > 0 := by omega
              have HNO2 : Hid (docQ b = none) := hidden (docQ_no HDQ.out (.inr (by rw [hnx]; exact hn0)))
              go_wp2_with (first
                | (refine wpList_build_to rfl 57 #[] rfl [] z57.toArray rfl built57 ?_)
                | (refine wpList_store_let rfl 57 (.tmp 2) (.tmp 55) rfl rfl w.heap.size (l := z57) (HBR.out) rfl rfl rfl size57 (cA_one 0 0 (fun i => zM (kdA i))) ?_; intro w9 B9 cg9 hz9; have HB9 := hidden B9; have HC9 := hidden cg9; clear B9 cg9 hz9))
              refine bodyPost_ret (res_read21 _ _ w.heap.size z57 rfl rfl HB9.out) rfl ?_
              rw [HNO2.out]
              exact ⟨HLX.out.trans (HC9.out.below HLX.out.size (fun i e => by have e : i = w.heap.size := e; omega)), rfl⟩
        | true =>
          by_cases h4 : kk ≤ 4
          · have hd4 := decide_eq_true h4
            go_wp2_with fail
            try rw [hw7]
            refine (REST.out true (by rw [hok2, hd4]; rfl)).mono ?_
            rintro e wx ⟨rfl, fm, hIx, hBx, hFx, hCx⟩
            have hszs : (w7.setCell ⟨w.heap.size + 1, 1, none⟩ (.bool true)).heap.size = w7.heap.size := by simp [World.setCell]
            have HIX := hidden hIx
            have HBGX := hidden hBx
            have HLX : Hid (Below w.heap.size w wx) := hidden ((HL7.out.trans ((chg_ok (w.heap.size + 1) w7 (.bool true) 1).below HL7.out.size (fun i e => by have e : i = w.heap.size + 1 := e; omega))).trans (hCx.below (by omega) (fun i e => by rcases e with e | e <;> omega)))
            have HBR := hidden (hCx.blk ((chg_ok (w.heap.size + 1) w7 (.bool true) 1).blk HBR7.out (by unfold fpr; omega)) (by rintro (e | e) <;> omega))
            have HFX2 : Hid (∀ j, j < 4 → (fm j).fv = (s3.ans kk).1 j ∧ FO w.heap.size 0 wx (fm j)) := hidden (fun j hj => ⟨(hFx j hj).1, (hFx j hj).2.mono (by omega)⟩)
            clear hIx hBx hFx hCx cf7 ff7 cg7
            have cfx := HIX.out.flag
            obtain ⟨adx, cx, c0x⟩ := it_cell HIX.out
            obtain ⟨okx, hokx⟩ : ∃ y, ((s3.ans kk).2).ok = y := ⟨_, rfl⟩
            rw [hokx] at cfx
            obtain ⟨nx, hnx⟩ : ∃ nx, ((s3.ans kk).2).b.length = nx := ⟨_, rfl⟩
            rw [hnx] at c0x
            cases okx with
            | false =>
              have HNO2 : Hid (docQ b = none) := hidden (docQ_no HDQ.out (.inl hokx))
              go_wp2_with (first
                | (refine wpList_build_to rfl 57 #[] rfl [] z57.toArray rfl built57 ?_)
                | (refine wpList_store_let rfl 57 (.tmp 2) (.tmp 55) rfl rfl w.heap.size (l := z57) (HBR.out) rfl rfl rfl size57 (cA_one 0 0 (fun i => zM (kdA i))) ?_; intro w9 B9 cg9 hz9; have HB9 := hidden B9; have HC9 := hidden cg9; clear B9 cg9 hz9))
              refine bodyPost_ret (res_read21 _ _ w.heap.size z57 rfl rfl HB9.out) rfl ?_
              rw [HNO2.out]
              exact ⟨HLX.out.trans (HC9.out.below HLX.out.size (fun i e => by have e : i = w.heap.size := e; omega)), rfl⟩
            | true =>
              by_cases hn0 : nx = 0
              · have HYES : Hid (docQ b = some (0, kk, (s3.ans kk).1)) := hidden (docQ_yes HDQ.out hbl hokx (hnx.trans hn0))
                subst hn0
                have hlx : (cA 0 kk fm).length = 6 := by simp [cA]
                go_wp2_with (first
                  | (refine wpList_load_blk rfl 57 (.tmp 5) rfl (w.heap.size + 2) HBGX.out rfl rfl rfl (by rw [hlx]; exact size57) ?_)
                  | (refine wpList_store_let rfl 57 (.tmp 2) (.tmp 56) rfl rfl w.heap.size (l := cA 0 kk fm) HBR.out rfl rfl (by rw [hlx]; rfl) (by rw [hlx]; exact size57) (cA_one 0 kk fm) ?_; intro w9 B9 cg9 hz9; have HB9 := hidden B9; have HC9 := hidden cg9; clear B9 cg9 hz9))
                refine bodyPost_ret (res_read21 _ _ w.heap.size (cA 0 kk fm) hlx rfl HB9.out) rfl ?_
                rw [HYES.out]
                refine ⟨HLX.out.trans (HC9.out.below HLX.out.size (fun i e => by have e : i = w.heap.size := e; omega)), fm, rfl, fun j hj => ⟨(HFX2.out j hj).1, ?_⟩⟩
                refine (HFX2.out j hj).2.chg HC9.out (fun e => by have e : 0 = w.heap.size := e; omega) (fun i hi => ?_)
                have hi : i = w.heap.size := hi
                subst hi
                have ht := ty_blk HBR.out
                exact ⟨fun e => absurd (ht.ne e) (by decide), fun e => absurd (ht.ne e) (by decide), fun e => absurd (ht.ne e) (by decide), fun e => absurd (ht.ne e) (by decide), fun e => absurd (ht.ne e) (by decide), fun e => absurd (ht.ne e) (by decide)⟩
              · have hn1 : (nx : Int) > 0 := by omega
                have HNO2 : Hid (docQ b = none) := hidden (docQ_no HDQ.out (.inr (by rw [hnx]; exact hn0)))
                go_wp2_with (first
                  | (refine wpList_build_to rfl 57 #[] rfl [] z57.toArray rfl built57 ?_)
                  | (refine wpList_store_let rfl 57 (.tmp 2) (.tmp 55) rfl rfl w.heap.size (l := z57) (HBR.out) rfl rfl rfl size57 (cA_one 0 0 (fun i => zM (kdA i))) ?_; intro w9 B9 cg9 hz9; have HB9 := hidden B9; have HC9 := hidden cg9; clear B9 cg9 hz9))
                refine bodyPost_ret (res_read21 _ _ w.heap.size z57 rfl rfl HB9.out) rfl ?_
                rw [HNO2.out]
                exact ⟨HLX.out.trans (HC9.out.below HLX.out.size (fun i e => by have e : i = w.heap.size := e; omega)), rfl⟩
          · have hd4 := decide_eq_false h4
            go_wp2_with fail
            try rw [hw7]
            refine (REST.out false (by rw [hok2, hd4]; rfl)).mono ?_
            rintro e wx ⟨rfl, fm, hIx, hBx, hFx, hCx⟩
            have hszs : (w7.setCell ⟨w.heap.size + 1, 1, none⟩ (.bool false)).heap.size = w7.heap.size := by simp [World.setCell]
            have HIX := hidden hIx
            have HBGX := hidden hBx
            have HLX : Hid (Below w.heap.size w wx) := hidden ((HL7.out.trans ((chg_ok (w.heap.size + 1) w7 (.bool false) 1).below HL7.out.size (fun i e => by have e : i = w.heap.size + 1 := e; omega))).trans (hCx.below (by omega) (fun i e => by rcases e with e | e <;> omega)))
            have HBR := hidden (hCx.blk ((chg_ok (w.heap.size + 1) w7 (.bool false) 1).blk HBR7.out (by unfold fpr; omega)) (by rintro (e | e) <;> omega))
            have HFX2 : Hid (∀ j, j < 4 → (fm j).fv = (s3.ans kk).1 j ∧ FO w.heap.size 0 wx (fm j)) := hidden (fun j hj => ⟨(hFx j hj).1, (hFx j hj).2.mono (by omega)⟩)
            clear hIx hBx hFx hCx cf7 ff7 cg7
            have cfx := HIX.out.flag
            obtain ⟨adx, cx, c0x⟩ := it_cell HIX.out
            obtain ⟨okx, hokx⟩ : ∃ y, ((s3.ans kk).2).ok = y := ⟨_, rfl⟩
            rw [hokx] at cfx
            obtain ⟨nx, hnx⟩ : ∃ nx, ((s3.ans kk).2).b.length = nx := ⟨_, rfl⟩
            rw [hnx] at c0x
            cases okx with
            | false =>
              have HNO2 : Hid (docQ b = none) := hidden (docQ_no HDQ.out (.inl hokx))
              go_wp2_with (first
                | (refine wpList_build_to rfl 57 #[] rfl [] z57.toArray rfl built57 ?_)
                | (refine wpList_store_let rfl 57 (.tmp 2) (.tmp 55) rfl rfl w.heap.size (l := z57) (HBR.out) rfl rfl rfl size57 (cA_one 0 0 (fun i => zM (kdA i))) ?_; intro w9 B9 cg9 hz9; have HB9 := hidden B9; have HC9 := hidden cg9; clear B9 cg9 hz9))
              refine bodyPost_ret (res_read21 _ _ w.heap.size z57 rfl rfl HB9.out) rfl ?_
              rw [HNO2.out]
              exact ⟨HLX.out.trans (HC9.out.below HLX.out.size (fun i e => by have e : i = w.heap.size := e; omega)), rfl⟩
            | true =>
              by_cases hn0 : nx = 0
              · have HYES : Hid (docQ b = some (0, kk, (s3.ans kk).1)) := hidden (docQ_yes HDQ.out hbl hokx (hnx.trans hn0))
                subst hn0
                have hlx : (cA 0 kk fm).length = 6 := by simp [cA]
                go_wp2_with (first
                  | (refine wpList_load_blk rfl 57 (.tmp 5) rfl (w.heap.size + 2) HBGX.out rfl rfl rfl (by rw [hlx]; exact size57) ?_)
                  | (refine wpList_store_let rfl 57 (.tmp 2) (.tmp 56) rfl rfl w.heap.size (l := cA 0 kk fm) HBR.out rfl rfl (by rw [hlx]; rfl) (by rw [hlx]; exact size57) (cA_one 0 kk fm) ?_; intro w9 B9 cg9 hz9; have HB9 := hidden B9; have HC9 := hidden cg9; clear B9 cg9 hz9))
                refine bodyPost_ret (res_read21 _ _ w.heap.size (cA 0 kk fm) hlx rfl HB9.out) rfl ?_
                rw [HYES.out]
                refine ⟨HLX.out.trans (HC9.out.below HLX.out.size (fun i e => by have e : i = w.heap.size := e; omega)), fm, rfl, fun j hj => ⟨(HFX2.out j hj).1, ?_⟩⟩
                refine (HFX2.out j hj).2.chg HC9.out (fun e => by have e : 0 = w.heap.size := e; omega) (fun i hi => ?_)
                have hi : i = w.heap.size := hi
                subst hi
                have ht := ty_blk HBR.out
                exact ⟨fun e => absurd (ht.ne e) (by decide), fun e => absurd (ht.ne e) (by decide), fun e => absurd (ht.ne e) (by decide), fun e => absurd (ht.ne e) (by decide), fun e => absurd (ht.ne e) (by decide), fun e => absurd (ht.ne e) (by decide)⟩
              · have hn1 : (nx : Int) > 0 := by omega
                have HNO2 : Hid (docQ b = none) := hidden (docQ_no HDQ.out (.inr (by rw [hnx]; exact hn0)))
                go_wp2_with (first
                  | (refine wpList_build_to rfl 57 #[] rfl [] z57.toArray rfl built57 ?_)
                  | (refine wpList_store_let rfl 57 (.tmp 2) (.tmp 55) rfl rfl w.heap.size (l := z57) (HBR.out) rfl rfl rfl size57 (cA_one 0 0 (fun i => zM (kdA i))) ?_; intro w9 B9 cg9 hz9; have HB9 := hidden B9; have HC9 := hidden cg9; clear B9 cg9 hz9))
                refine bodyPost_ret (res_read21 _ _ w.heap.size z57 rfl rfl HB9.out) rfl ?_
                rw [HNO2.out]
                exact ⟨HLX.out.trans (HC9.out.below HLX.out.size (fun i e => by have e : i = w.heap.size := e; omega)), rfl⟩
      · have HDQ := hidden (HDR.out.trans (if_neg (by rintro ⟨_, h⟩; exact he0 h)))
        obtain ⟨wx, hwx⟩ : ∃ wx, w4.setCell ⟨w.heap.size + 2, 0, none⟩ (.int .i64 er) = wx := ⟨_, rfl⟩
        rw [hwx] at HBR5 HL5 HGX HI5 cf1 cg1
        have HIX := HI5
        have HLX := HL5
        have HBR := HBR5
        have HBGX : Hid (Blk wx (w.heap.size + 2) 57 (cA er 0 (fun i => zM (kdA i)))) := HGX
        have HFX : Hid (∀ j, j < 4 → (zM (kdA j)).fv = zA j ∧ FO w.heap.size 0 wx (zM (kdA j))) := hidden (fun j hj => ⟨zM_fv _, zM_fo _ _ _ _⟩)
        clear HGX HI5 HL5 HBR5
        obtain ⟨fm, hfm⟩ : ∃ fm : Nat → FM, (fun i => zM (kdA i)) = fm := ⟨_, rfl⟩
        rw [hfm] at HBGX
        have HFX2 : Hid (∀ j, j < 4 → (fm j).fv = zA j ∧ FO w.heap.size 0 wx (fm j)) := hidden (by rw [← hfm]; exact HFX.out)
        have heb : (er == 0) = false := by simpa using he0
        clear cf1
        have cfx := HIX.out.flag
        obtain ⟨adx, cx, c0x⟩ := it_cell HIX.out
        obtain ⟨okx, hokx⟩ : ∃ y, (s1).ok = y := ⟨_, rfl⟩
        rw [hokx] at cfx
        obtain ⟨nx, hnx⟩ : ∃ nx, (s1).b.length = nx := ⟨_, rfl⟩
        rw [hnx] at c0x
        cases okx with
        | false =>
          have HNO2 : Hid (docQ b = none) := hidden (docQ_no HDQ.out (.inl hokx))
          exact absurd (hok1.symm.trans hokx) (by simp)
        | true =>
          by_cases hn0 : nx = 0
          · have HYES : Hid (docQ b = some (er, 0, zA)) := hidden (docQ_yes HDQ.out hbl hokx (hnx.trans hn0))
            subst hn0
            have hlx : (cA er 0 fm).length = 6 := by simp [cA]
            go_wp2_with (first
              | (refine wpList_load_blk rfl 57 (.tmp 5) rfl (w.heap.size + 2) HBGX.out rfl rfl rfl (by rw [hlx]; exact size57) ?_)
              | (refine wpList_store_let rfl 57 (.tmp 2) (.tmp 56) rfl rfl w.heap.size (l := cA er 0 fm) HBR.out rfl rfl (by rw [hlx]; rfl) (by rw [hlx]; exact size57) (cA_one er 0 fm) ?_; intro w9 B9 cg9 hz9; have HB9 := hidden B9; have HC9 := hidden cg9; clear B9 cg9 hz9))
            refine bodyPost_ret (res_read21 _ _ w.heap.size (cA er 0 fm) hlx rfl HB9.out) rfl ?_
            rw [HYES.out]
            refine ⟨HLX.out.trans (HC9.out.below HLX.out.size (fun i e => by have e : i = w.heap.size := e; omega)), fm, rfl, fun j hj => ⟨(HFX2.out j hj).1, ?_⟩⟩
            refine (HFX2.out j hj).2.chg HC9.out (fun e => by have e : 0 = w.heap.size := e; omega) (fun i hi => ?_)
            have hi : i = w.heap.size := hi
            subst hi
            have ht := ty_blk HBR.out
            exact ⟨fun e => absurd (ht.ne e) (by decide), fun e => absurd (ht.ne e) (by decide), fun e => absurd (ht.ne e) (by decide), fun e => absurd (ht.ne e) (by decide), fun e => absurd (ht.ne e) (by decide), fun e => absurd (ht.ne e) (by decide)⟩
          · have hn1 : (nx : Int) > 0 := by omega
            have HNO2 : Hid (docQ b = none) := hidden (docQ_no HDQ.out (.inr (by rw [hnx]; exact hn0)))
            go_wp2_with (first
              | (refine wpList_build_to rfl 57 #[] rfl [] z57.toArray rfl built57 ?_)
              | (refine wpList_store_let rfl 57 (.tmp 2) (.tmp 55) rfl rfl w.heap.size (l := z57) (HBR.out) rfl rfl rfl size57 (cA_one 0 0 (fun i => zM (kdA i))) ?_; intro w9 B9 cg9 hz9; have HB9 := hidden B9; have HC9 := hidden cg9; clear B9 cg9 hz9))
            refine bodyPost_ret (res_read21 _ _ w.heap.size z57 rfl rfl HB9.out) rfl ?_
            rw [HNO2.out]
            exact ⟨HLX.out.trans (HC9.out.below HLX.out.size (fun i e => by have e : i = w.heap.size := e; omega)), rfl⟩
end Go.Proofs.YtalmpmhnkilalaaGreatDoor

/-
  The document's Read, purely, against the code's.
-/
namespace Go.Proofs.YtalmpmhnkilalaaGreatDoor
open Go.RowKit
set_option linter.unusedVariables false
set_option linter.unusedSimpArgs false

/-- What is told, and what is left, is what a reader tells. -/
def Agr {α : Type} (r : Rdr α) (b : List Int) (v : α) (s : Ri) : Prop := (s.ok = true → r b = some (v, s.b)) ∧ (s.ok = false → r b = none)
/-- Bytes, and not too many. -/
def Ri.P (s : Ri) : Prop := Byte s.b ∧ s.b.length ≤ 1048576
theorem P_drop {b : List Int} (h : Byte b ∧ b.length ≤ 1048576) (n : Nat) (ok : Bool) : (Ri.mk (b.drop n) ok).P := ⟨h.1.drop n, by show (b.drop n).length ≤ _; rw [List.length_drop]; have := h.2; omega⟩
theorem P_num {s : Ri} (h : s.P) : s.num.P := P_drop h _ _
theorem P_cnt {s : Ri} (h : s.P) (m : Nat) : (s.cnt m).P := P_drop h _ _
theorem P_txt {s : Ri} (h : s.P) (m : Nat) : (s.txt m).P := P_drop h _ _
theorem P_smp {s : Ri} (h : s.P) : s.smp.P := P_drop h _ _
theorem P_rep {α : Type} {val : Ri → α} {next : Ri → Ri} (hn : ∀ s : Ri, s.P → (next s).P) : ∀ (n : Nat) (s : Ri) (acc : List α), s.P → (Ri.rep val next n s acc).2.P
  | 0, s, acc, h => h
  | n + 1, s, acc, h => by
    rw [Ri.rep]
    split
    · exact P_rep hn n _ _ (hn s h)
    · exact h
theorem P_labs {s : Ri} (h : s.P) : s.labs.2.P := P_rep (fun s h => P_txt (P_txt h 64) 64) _ _ _ (P_cnt h 16)
theorem P_serN {s : Ri} (h : s.P) : s.serN.P := P_smp (P_labs h)
theorem P_rowN {s : Ri} (h : s.P) : s.rowN.P := P_num (P_labs h)
theorem agr_num {s : Ri} (h : s.P) (ho : s.ok = true) : Agr (rNum U64) s.b (Q.dec s.b).1 s.num := by
  have hb := (Q.dec_bound s.b h.1).1
  unfold Agr Ri.num rNum U64
  simp only [ho, Bool.true_and, decide_eq_true_eq, decide_eq_false_iff_not]
  constructor
  · intro h0
    rw [if_pos ⟨by omega, hb⟩]
  · intro h0
    rw [if_neg (by rintro ⟨h1, _⟩; omega)]
theorem agr_cnt {s : Ri} (h : s.P) (ho : s.ok = true) (m : Nat) : Agr (rNum m) s.b (Q.dec s.b).1 (s.cnt m) := by
  unfold Agr Ri.cnt Ri.num rNum
  simp only [ho, Bool.true_and, Bool.and_eq_true, decide_eq_true_eq, Bool.and_eq_false_iff, decide_eq_false_iff_not]
  constructor
  · rintro ⟨h1, h2⟩
    rw [if_pos ⟨by omega, h2⟩]
  · intro h0
    rw [if_neg (by rintro ⟨h1, h2⟩; rcases h0 with h0 | h0 <;> omega)]
theorem agr_lim {s : Ri} (h : s.P) (ho : s.ok = true) (m m' : Nat) (hm : m = m' ∨ (s.b.length = m ∧ m' = 18446744073709551615)) : Agr (rLim m') s.b (txL s.b m) (s.txt m) := by
  have hd := Q.dec_bound s.b h.1
  have hl := h.2
  unfold Agr Ri.txt txN txL rLim rNum Q.badB
  by_cases hb : (decide ((Q.dec s.b).2 = 0) || decide ((m : Int) < 0) || decide ((m : Int) < ((Q.dec s.b).1 : Int)) || decide (s.b.length - (Q.dec s.b).2 < (Q.dec s.b).1)) = true
  · rw [if_pos hb, if_pos hb]
    refine ⟨fun e => by simp at e, fun _ => ?_⟩
    simp at hb
    by_cases h1 : (Q.dec s.b).2 ≠ 0 ∧ (Q.dec s.b).1 ≤ m'
    · rw [if_pos h1]
      show rCut _ _ = none
      unfold rCut
      rw [if_neg]
      rw [List.length_drop]
      rcases hm with rfl | ⟨h2, h3⟩ <;> omega
    · rw [if_neg h1]
      rfl
  · rw [if_neg hb, if_neg hb]
    simp at hb
    refine ⟨fun _ => ?_, fun e => ?_⟩
    · rw [if_pos ⟨by omega, by rcases hm with rfl | ⟨h2, h3⟩ <;> omega⟩]
      show rCut _ _ = _
      unfold rCut
      rw [if_pos (by rw [List.length_drop]; omega), List.drop_drop]
    · simp [ho] at e
      omega
theorem agr_txt {s : Ri} (h : s.P) (ho : s.ok = true) (m : Nat) : Agr (rTxt m) s.b (strOfNums (txL s.b m)) (s.txt m) := by
  have ha := agr_lim h ho m m (.inl rfl)
  exact ⟨fun e => by unfold rTxt rMap; rw [ha.1 e]; rfl, fun e => by unfold rTxt rMap; rw [ha.2 e]; rfl⟩
theorem rPair_at {α β : Type} (r : Rdr α) (q : Rdr β) (b : List Int) : rPair r q b = (r b).bind (fun x => (q x.2).map (fun p => ((x.1, p.1), p.2))) := rfl
theorem rEach_at {α : Type} (m : Nat) (r : Rdr α) (b : List Int) : rEach m r b = (rNum m b).bind (fun q => rRep r q.1 q.2) := rfl
theorem rSmp_at (b : List Int) : rSmp b = (rLim 18446744073709551615 b).bind (fun q => (rdR q.1).map (fun l => (l, q.2))) := rfl
/-- One behind the other. -/
theorem agr_pair {α β : Type} {r : Rdr α} {q : Rdr β} {b : List Int} {x : α} {y : β} {s t : Ri} (h1 : Agr r b x s) (h2 : s.ok = true → Agr q s.b y t) (h3 : s.ok = false → t.ok = false) : Agr (rPair r q) b (x, y) t := by
  unfold Agr
  rw [rPair_at]
  cases hs : s.ok with
  | false =>
    refine ⟨fun e => ?_, fun _ => ?_⟩
    · rw [h3 hs] at e; cases e
    · rw [h1.2 hs]; rfl
  | true =>
    refine ⟨fun e => ?_, fun e => ?_⟩
    · rw [h1.1 hs]
      show (q s.b).map _ = _
      rw [(h2 hs).1 e]
      rfl
    · rw [h1.1 hs]
      show (q s.b).map _ = _
      rw [(h2 hs).2 e]
      rfl
theorem agr_map {α β : Type} {r : Rdr α} {b : List Int} {x : α} {s : Ri} (f : α → β) (h : Agr r b x s) : Agr (rMap f r) b (f x) s := ⟨fun e => by unfold rMap; rw [h.1 e]; rfl, fun e => by unfold rMap; rw [h.2 e]; rfl⟩
theorem agr_rep {α : Type} {one : Rdr α} {val : Ri → α} {next : Ri → Ri} (hP : ∀ s : Ri, s.P → (next s).P) (hA : ∀ s : Ri, s.P → s.ok = true → Agr one s.b (val s) (next s)) :
    ∀ (n : Nat) (s : Ri) (acc : List α), s.P → s.ok = true → ((Ri.rep val next n s acc).2.ok = true → ∃ l, (Ri.rep val next n s acc).1 = acc ++ l ∧ rRep one n s.b = some (l, (Ri.rep val next n s acc).2.b)) ∧ ((Ri.rep val next n s acc).2.ok = false → rRep one n s.b = none)
  | 0, s, acc, h, ho => by
    refine ⟨fun _ => ⟨[], by simp [Ri.rep], rfl⟩, fun e => ?_⟩
    have e : s.ok = false := e
    rw [ho] at e
    cases e
  | n + 1, s, acc, h, ho => by
    rw [Ri.rep_yes n ho acc]
    have ha := hA s h ho
    cases hn : (next s).ok with
    | false =>
      rw [Ri.rep_no n hn]
      refine ⟨fun e => ?_, fun _ => ?_⟩
      · have e : (next s).ok = true := e
        rw [hn] at e
        cases e
      · unfold rRep
        rw [ha.2 hn]
        rfl
    | true =>
      obtain ⟨i1, i2⟩ := agr_rep hP hA n (next s) (acc ++ [val s]) (hP s h) hn
      refine ⟨fun e => ?_, fun e => ?_⟩
      · obtain ⟨l, h1, h2⟩ := i1 e
        refine ⟨val s :: l, by rw [h1]; simp, ?_⟩
        unfold rRep
        rw [ha.1 hn]
        show (rRep one n (next s).b).map _ = _
        rw [h2]
        rfl
      · unfold rRep
        rw [ha.1 hn]
        show (rRep one n (next s).b).map _ = _
        rw [i2 e]
        rfl
theorem rep_short {α : Type} {one : Rdr α} (hlt : ∀ b y t, Byte b → b.length ≤ 1048576 → one b = some (y, t) → Byte t ∧ t.length < b.length) : ∀ (n : Nat) (b : List Int), Byte b → b.length ≤ 1048576 → b.length < n → rRep one n b = none
  | 0, b, _, _, h => by omega
  | n + 1, b, hb, hl, h => by
    unfold rRep
    cases ho : one b with
    | none => rfl
    | some q =>
      obtain ⟨y, t⟩ := q
      obtain ⟨h1, h2⟩ := hlt b y t hb hl ho
      show (rRep one n t).map _ = none
      rw [rep_short hlt n t h1 (by omega) (by omega)]
      rfl
theorem agr_each {α : Type} {one : Rdr α} {val : Ri → α} {next : Ri → Ri} (hP : ∀ s : Ri, s.P → (next s).P) (hA : ∀ s : Ri, s.P → s.ok = true → Agr one s.b (val s) (next s)) (m m' : Nat) {s : Ri} (h : s.P) (ho : s.ok = true)
    (hm : m = m' ∨ (s.b.length = m ∧ m' = U64 ∧ ∀ b y t, Byte b → b.length ≤ 1048576 → one b = some (y, t) → Byte t ∧ t.length < b.length)) :
    Agr (rEach m' one) s.b (Ri.rep val next (s.many m) (s.cnt m) []).1 (Ri.rep val next (s.many m) (s.cnt m) []).2 := by
  have hd := Q.dec_bound s.b h.1
  have hc := agr_cnt h ho m
  unfold Agr
  rw [rEach_at]
  cases hk : (s.cnt m).ok with
  | false =>
    rw [Ri.rep_no _ hk]
    refine ⟨fun e => ?_, fun _ => ?_⟩
    · have e : (s.cnt m).ok = true := e
      rw [hk] at e
      cases e
    · rcases hm with rfl | ⟨h1, h2, h3⟩
      · rw [hc.2 hk]; rfl
      · have hk2 : ¬ ((Q.dec s.b).2 ≠ 0 ∧ (Q.dec s.b).1 ≤ m) := by
          have := hc.2 hk
          unfold rNum at this
          split at this
          · cases this
          · assumption
        unfold rNum
        by_cases h5 : (Q.dec s.b).2 ≠ 0 ∧ (Q.dec s.b).1 ≤ m'
        · rw [if_pos h5]
          show rRep one _ _ = none
          refine rep_short h3 _ _ (h.1.drop _) (by rw [List.length_drop]; have := h.2; omega) ?_
          rw [List.length_drop]
          have : ¬ (Q.dec s.b).1 ≤ m := fun e => hk2 ⟨h5.1, e⟩
          omega
        · rw [if_neg h5]
          rfl
  | true =>
    have hmany : s.many m = (Q.dec s.b).1 := by unfold Ri.many; rw [hk]; rfl
    have hc1 := hc.1 hk
    have hc2 : rNum m' s.b = some ((Q.dec s.b).1, (s.cnt m).b) := by
      rcases hm with rfl | ⟨h1, h2, h3⟩
      · exact hc1
      · unfold rNum at hc1 ⊢
        split at hc1
        · rename_i h6
          rw [if_pos ⟨h6.1, by unfold U64 at h2; omega⟩]
          exact hc1
        · cases hc1
    rw [hc2, hmany]
    obtain ⟨i1, i2⟩ := agr_rep hP hA (Q.dec s.b).1 (s.cnt m) [] (P_cnt h m) hk
    refine ⟨fun e => ?_, fun e => ?_⟩
    · obtain ⟨l, h1, h2⟩ := i1 e
      show rRep one _ _ = _
      rw [h2, h1]
      rfl
    · exact i2 e
theorem txt_no {s : Ri} (m : Nat) (h : s.ok = false) : (s.txt m).ok = false := by unfold Ri.txt; simp [h]
theorem smp_no {s : Ri} (h : s.ok = false) : s.smp.ok = false := by unfold Ri.smp; simp [txt_no _ h]
theorem num_no {s : Ri} (h : s.ok = false) : s.num.ok = false := by unfold Ri.num; simp [h]
theorem agr_lab {s : Ri} (h : s.P) (ho : s.ok = true) : Agr rLab s.b s.lab s.labN :=
  agr_map (fun p : ByteArray × ByteArray => La.mk p.1 p.2) (agr_pair (agr_txt h ho 64) (fun h2 => agr_txt (P_txt h 64) h2 64) (fun h2 => txt_no 64 h2))
theorem agr_labs {s : Ri} (h : s.P) (ho : s.ok = true) : Agr rLabs s.b s.labs.1 s.labs.2 :=
  agr_each (fun s h => P_txt (P_txt h 64) 64) (fun s h ho => agr_lab h ho) 16 16 h ho (.inl rfl)
theorem agr_smp {s : Ri} (h : s.P) (ho : s.ok = true) : Agr rSmp s.b s.smpV s.smp := by
  have ha := agr_lim h ho s.b.length 18446744073709551615 (.inr ⟨rfl, rfl⟩)
  unfold Agr Ri.smp Ri.smpV
  rw [rSmp_at]
  cases ht : (s.txt s.b.length).ok with
  | false => exact ⟨fun e => by simp at e, fun _ => by rw [ha.2 ht]; rfl⟩
  | true =>
    rw [ha.1 ht]
    cases hr : rdR (txL s.b s.b.length) with
    | none => exact ⟨fun e => by simp at e, fun _ => by show (rdR _).map _ = _; rw [hr]; rfl⟩
    | some l => exact ⟨fun e => by show (rdR _).map _ = _; rw [hr]; rfl, fun e => by simp at e⟩
theorem agr_ser {s : Ri} (h : s.P) (ho : s.ok = true) : Agr rSer s.b s.ser s.serN :=
  agr_pair (agr_labs h ho) (fun h2 => agr_smp (P_labs h) h2) (fun h2 => smp_no h2)
theorem agr_row {s : Ri} (h : s.P) (ho : s.ok = true) : Agr rRow s.b s.row s.rowN :=
  agr_pair (agr_labs h ho) (fun h2 => agr_num (P_labs h) h2) (fun h2 => num_no h2)
theorem lt_cod {α : Type} {r : Rdr α} {ok : α → Prop} {en : α → List Int} (h : Cod r ok en) (hp : ∀ x, 0 < (en x).length) : ∀ b y t, Byte b → b.length ≤ 1048576 → r b = some (y, t) → Byte t ∧ t.length < b.length := by
  intro b y t hb hl hr
  obtain ⟨_, e⟩ := h.forth b y t hb hl hr
  have := hp y
  refine ⟨by rw [e] at hb; exact hb.right, ?_⟩
  rw [e, List.length_append]
  omega
theorem agr_sers {s : Ri} (h : s.P) (ho : s.ok = true) : Agr rSers s.b s.sers.1 s.sers.2 :=
  agr_each (fun s h => P_serN h) (fun s h ho => agr_ser h ho) s.b.length U64 h ho (.inr ⟨rfl, rfl, lt_cod cod_ser (fun x => by unfold enE enLs encE; simp only [List.length_append]; have := enc_pos x.1.length; omega)⟩)
theorem agr_rws {s : Ri} (h : s.P) (ho : s.ok = true) : Agr rRows s.b s.rws.1 s.rws.2 :=
  agr_each (fun s h => P_rowN h) (fun s h ho => agr_row h ho) s.b.length U64 h ho (.inr ⟨rfl, rfl, lt_cod cod_row (fun x => by unfold enR enLs encE; simp only [List.length_append]; have := enc_pos x.1.length; omega)⟩)
theorem agr_txs {s : Ri} (h : s.P) (ho : s.ok = true) : Agr rTxts s.b s.txs.1 s.txs.2 :=
  agr_each (fun s h => P_txt h 64) (fun s h ho => agr_txt h ho 64) s.b.length U64 h ho (.inr ⟨rfl, rfl, lt_cod (cod_txt 64 (by omega)) (fun x => by unfold encT; simp only [List.length_append]; have := enc_pos x.size; omega)⟩)
theorem agr_nu {s : Ri} (h : s.P) (ho : s.ok = true) : Agr (rdV .nu) s.b (.nu s.nuV) (s.cnt 9223372036854775807) := by
  have ha := agr_cnt h ho 9223372036854775807
  rw [show rdV .nu = rMap (fun (n : Nat) => FV.nu (n : Int)) (rNum 9223372036854775807) from rfl]
  refine ⟨fun e => ?_, fun e => ?_⟩
  · unfold rMap Ri.nuV
    rw [ha.1 e, e]
    rfl
  · unfold rMap
    rw [ha.2 e]
    rfl
/-- A response's field. -/
theorem agr_one {s t : Ri} {v : FV} (i : Nat) (h : Agr (rdV (kdA i)) s.b v t) : Agr (rFields kdA [i] zA) s.b (fun j => if j = i then v else zA j) t := by
  refine ⟨fun e => ?_, fun e => ?_⟩
  · show (rdV (kdA i) s.b).bind _ = _
    rw [h.1 e]
    rfl
  · show (rdV (kdA i) s.b).bind _ = _
    rw [h.2 e]
    rfl
theorem agr_ans {s : Ri} (h : s.P) (ho : s.ok = true) (k : Int) (used : List Nat) (hu : fieldsA k = some used) : Agr (rFields kdA used zA) s.b (s.ans k).1 (s.ans k).2 := by
  unfold fieldsA at hu
  split at hu
  · rename_i h0
    injection hu with hu
    subst hu h0
    have e : s.ans 0 = (zA, s) := by unfold Ri.ans; rw [if_neg (by decide), if_neg (by decide), if_neg (by decide), if_neg (by decide)]
    rw [e]
    exact ⟨fun _ => rfl, fun e => by have e : s.ok = false := e; rw [ho] at e; cases e⟩
  split at hu
  · rename_i h1
    injection hu with hu
    subst hu h1
    have e : s.ans 1 = (fun j => if j = 0 then .se s.sers.1 else zA j, s.sers.2) := by unfold Ri.ans; rw [if_pos rfl]
    rw [e]
    have ha := agr_map FV.se (agr_sers h ho)
    exact agr_one 0 ha
  split at hu
  · rename_i h1
    injection hu with hu
    subst hu h1
    have e : s.ans 2 = (fun j => if j = 1 then .ro s.rws.1 else zA j, s.rws.2) := by unfold Ri.ans; rw [if_neg (by decide), if_pos rfl]
    rw [e]
    have ha := agr_map FV.ro (agr_rws h ho)
    exact agr_one 1 ha
  split at hu
  · rename_i h1
    injection hu with hu
    subst hu h1
    have e : s.ans 3 = (fun j => if j = 2 then .nu s.nuV else zA j, s.cnt 9223372036854775807) := by unfold Ri.ans; rw [if_neg (by decide), if_neg (by decide), if_pos rfl]
    rw [e]
    exact agr_one 2 (agr_nu h ho)
  split at hu
  · rename_i h1
    injection hu with hu
    subst hu h1
    have e : s.ans 4 = (fun j => if j = 3 then .ts s.txs.1 else zA j, s.txs.2) := by unfold Ri.ans; rw [if_neg (by decide), if_neg (by decide), if_neg (by decide), if_pos rfl]
    rw [e]
    have ha := agr_map FV.ts (agr_txs h ho)
    exact agr_one 3 ha
  · cases hu
theorem agr_read {b : List Int} (h : (Ri.mk b true).P) : Agr rRs b (docRd b).1 (docRd b).2 := by
  have hc : Agr (rNum 999) b (Q.dec b).1 (docS1 b) := agr_cnt h rfl 999
  have hP1 : (docS1 b).P := P_cnt h 999
  unfold docRd docEr
  cases h1 : (docS1 b).ok with
  | false =>
    rw [if_neg (by simp)]
    refine ⟨fun e => ?_, fun _ => ?_⟩
    · have e : (docS1 b).ok = true := e
      rw [h1] at e
      cases e
    · unfold rRs
      rw [hc.2 h1]
      rfl
  | true =>
    rw [if_pos rfl]
    by_cases h0 : ((Q.dec b).1 : Int) = 0
    · rw [if_pos ⟨rfl, h0⟩]
      have h0' : (Q.dec b).1 = 0 := by omega
      have e1 : rRs b = rAk (docS1 b).b := by
        unfold rRs
        rw [hc.1 h1]
        show (if (Q.dec b).1 ≠ 0 then _ else _) = _
        rw [if_neg (by simp [h0'])]
      unfold Agr
      rw [e1, h0]
      unfold docS3
      clear hc e1
      generalize docS1 b = s1 at *
      obtain ⟨b1, ok1⟩ := s1
      have h1 : ok1 = true := h1
      subst h1
      cases b1 with
      | nil => exact ⟨fun e => (by cases e), fun _ => rfl⟩
      | cons x t =>
        have hx := hP1.1 x (by simp)
        have hPt : (Ri.mk t true).P := ⟨fun y hy => hP1.1 y (by simp [hy]), by have := hP1.2; simp at this; show t.length ≤ _; omega⟩
        show ((((Ri.mk t (true && decide (x ≤ 4))).ans x).2.ok = true → rAk (x :: t) = some ((0, x, ((Ri.mk t (true && decide (x ≤ 4))).ans x).1), ((Ri.mk t (true && decide (x ≤ 4))).ans x).2.b)) ∧ (((Ri.mk t (true && decide (x ≤ 4))).ans x).2.ok = false → rAk (x :: t) = none))
        by_cases hx4 : x ≤ 4
        · rw [decide_eq_true hx4, Bool.true_and]
          obtain ⟨used, hu⟩ : ∃ used, fieldsA x = some used := by
            rcases (by omega : x = 0 ∨ x = 1 ∨ x = 2 ∨ x = 3 ∨ x = 4) with rfl | rfl | rfl | rfl | rfl
            all_goals exact ⟨_, rfl⟩
          have ha := agr_ans hPt rfl x used hu
          have e2 : rAk (x :: t) = (rFields kdA used zA t).map (fun (r : (Nat → FV) × List Int) => ((0, x, r.1), r.2)) := by
            show (match fieldsA x with | some used => _ | none => _) = _
            rw [hu]
          rw [e2]
          exact ⟨fun e => by rw [ha.1 e]; rfl, fun e => by rw [ha.2 e]; rfl⟩
        · rw [decide_eq_false hx4, Bool.and_false]
          have e3 : (Ri.mk t false).ans x = (zA, ⟨t, false⟩) := by
            unfold Ri.ans
            rw [if_neg (by omega), if_neg (by omega), if_neg (by omega), if_neg (by omega)]
          have e4 : fieldsA x = none := by
            unfold fieldsA
            rw [if_neg (by omega), if_neg (by omega), if_neg (by omega), if_neg (by omega), if_neg (by omega)]
          have e2 : rAk (x :: t) = none := by
            show (match fieldsA x with | some used => _ | none => _) = _
            rw [e4]
          rw [e3, e2]
          exact ⟨fun e => (by cases e), fun _ => rfl⟩
    · rw [if_neg (by rintro ⟨_, h⟩; exact h0 h)]
      refine ⟨fun e => ?_, fun e => ?_⟩
      · unfold rRs
        rw [hc.1 h1]
        show (if (Q.dec b).1 ≠ 0 then _ else _) = _
        rw [if_pos (by omega)]
      · have e : (docS1 b).ok = false := e
        rw [h1] at e
        cases e
/-- The document's Read answers as the code's. -/
theorem docQ_eq {b : List Int} (hb : Byte b) : docQ b = readQ b := by
  unfold docQ readQ
  split
  · rfl
  · rename_i hl
    have ha := agr_read (b := b) ⟨hb, by show b.length ≤ _; omega⟩
    generalize docRd b = d at *
    obtain ⟨q, ⟨sb, ok⟩⟩ := d
    cases ok with
    | false =>
      rw [ha.2 rfl, if_neg (by rintro ⟨h, _⟩; cases h)]
    | true =>
      rw [ha.1 rfl]
      cases sb with
      | nil => rw [if_pos ⟨rfl, rfl⟩]
      | cons x t => rw [if_neg (by rintro ⟨_, h⟩; cases h)]
end Go.Proofs.YtalmpmhnkilalaaGreatDoor

/-
  WireTold's walk.
-/
namespace Go.Proofs.YtalmpmhnkilalaaGreatDoor
open Go.RowKit
set_option linter.unusedVariables false
set_option linter.unusedSimpArgs false

def rsV (o : Option (Int × Int × (Nat → FV))) : Int × Int × (Nat → FV) := o.getD (0, 0, zA)
def rsC (o : Option (Int × Int × (Nat → FV))) : Int := if o.isSome then 0 else 180
theorem readP_form {w w' : World} {K : Nat} {o : Option (Int × Int × (Nat → FV))} {e : Ending} (h : ReadP w K o e w') :
    Below w.heap.size w w' ∧ ∃ fm : Nat → FM, e = .returned (.tuple #[.agg (cA (rsV o).1 (rsV o).2.1 fm).toArray, .int .i64 (rsC o)]) ∧ ∀ j, j < 4 → (fm j).fv = (rsV o).2.2 j ∧ (fm j).mem w' := by
  cases o with
  | none => exact ⟨h.1, fun i => zM (kdA i), h.2, fun j hj => ⟨zM_fv _, (zM_fo 0 0 w' _).mem⟩⟩
  | some q =>
    obtain ⟨er, k, f⟩ := q
    obtain ⟨h1, fm, h2, h3⟩ := h
    exact ⟨h1, fm, h2, fun j hj => ⟨(h3 j hj).1, (h3 j hj).2.mem⟩⟩
theorem rsV_kd {b : List Int} (hb : Byte b) (i : Nat) : ((rsV (readQ b)).2.2 i).kd = kdA i := by
  unfold rsV
  cases hq : readQ b with
  | none => exact zeroV_kd _
  | some q =>
    obtain ⟨er, k, f⟩ := q
    exact (ans_readQ hb hq).1.kd i
set_option maxHeartbeats 4000000 in
set_option maxRecDepth 100000 in
theorem told_any (bad : Option Addr) (bn bc : Nat) (b : List Int) (w : World) (hs : Sl w bad bn b) (hno : bad = none → bn = 0 ∧ bc = 0) (hcap : bn ≤ bc ∧ bc ≤ 9223372036854775807) (hG : Gv w) :
    Calls Tryz.prog 6 #[.slice bad bn bc] w fun e w' => e = .returned (.bool true) ∧ Below w.heap.size w w' := by
  obtain ⟨K, hKw, hK⟩ : ∃ K, K < w.heap.size ∧ ∀ x, bad = some x → 0 < bn → x.block = K ∧ x.spot = none := by
    by_cases h0 : 0 < bn
    · obtain ⟨bb, off, rfl, hlt, _⟩ := hs.at h0
      exact ⟨bb, hlt, fun x hx _ => (by cases hx; exact ⟨rfl, rfl⟩)⟩
    · have h2w : 2 ≤ w.heap.size := World.block_lt_of_cell? w _ (hG.tab 0 (by omega))
      exact ⟨0, by omega, fun x hx h => absurd h h0⟩
  have HG := hidden hG
  -- what is read, and both answers to it
  have two : ∀ (m : Nat) (l : List Int), m ≤ bn → (bn = 0 → m = 0) → (0 < m → 0 < bn) → Sl w bad m l →
      Hid ((∀ wx, Below w.heap.size w wx → Calls Tryz.prog 20 #[.slice bad m bc] wx fun e w' => Below wx.heap.size wx w' ∧ ∃ fm : Nat → FM, e = .returned (.tuple #[.agg (cA (rsV (readQ l)).1 (rsV (readQ l)).2.1 fm).toArray, .int .i64 (rsC (readQ l))]) ∧ ∀ j, j < 4 → (fm j).fv = (rsV (readQ l)).2.2 j ∧ (fm j).mem w') ∧
        (∀ wx, Below w.heap.size w wx → Calls Tryz.prog 21 #[.slice bad m bc] wx fun e w' => Below wx.heap.size wx w' ∧ ∃ fm : Nat → FM, e = .returned (.tuple #[.agg (cA (rsV (readQ l)).1 (rsV (readQ l)).2.1 fm).toArray, .int .i64 (rsC (readQ l))]) ∧ ∀ j, j < 4 → (fm j).fv = (rsV (readQ l)).2.2 j ∧ (fm j).mem w') ∧ ∀ i, ((rsV (readQ l)).2.2 i).kd = kdA i) := by
    intro m l hm hm0 hmp hsl
    have hno' : bad = none → m = 0 ∧ bc = 0 := fun e => ⟨hm0 (hno e).1, (hno e).2⟩
    refine hidden ⟨fun wx hx => ?_, fun wx hx => ?_, rsV_kd hsl.byte⟩
    · exact (readW bad m bc l K wx (hsl.later hx) (fun x hx h => hK x hx (hmp h)) (Nat.lt_of_lt_of_le hKw hx.size) hno' ⟨by omega, hcap.2⟩ (hG.later hx)).mono (fun e w' h => readP_form h)
    · refine (readI bad m bc l K wx (hsl.later hx) (fun x hx h => hK x hx (hmp h)) (Nat.lt_of_lt_of_le hKw hx.size) hno' ⟨by omega, hcap.2⟩).mono (fun e w' h => ?_)
      rw [docQ_eq hsl.byte] at h
      exact readP_form h
  have hsk := hs
  have hcap2 := hcap.2
  have hcap1 := hcap.1
  have T1 := two bn b (Nat.le_refl _) id id hs
  have T2 : 1100000 < bn → _ := fun h => two 1100000 (b.take 1100000) (by omega) (by omega) (by omega) (hs.take (by omega))
  have HT2 := hidden T2
  clear two T2 hs hno hcap hG hK hsk
  have go : ∀ (m : Nat) (l : List Int), True := fun _ _ => trivial
  clear go
  by_cases hbig : 1100000 < bn
  · have hbig' : (bn : Int) > 1100000 := by omega
    have hT := HT2.out hbig
    clear T1 HT2
    generalize (rsV (readQ (b.take 1100000))).1 = er at *
    generalize (rsV (readQ (b.take 1100000))).2.1 = k at *
    generalize (rsV (readQ (b.take 1100000))).2.2 = f at *
    generalize rsC (readQ (b.take 1100000)) = E at *
    go_enter Tryz.func6, Tryz.ntmps6
    go_wp2_with fail
    refine (shownP w HG.out).mono ?_
    rintro e w3 ⟨rfl, b3⟩
    have HB3 := hidden b3
    clear b3
    go_wp2_with fail
    refine (hT.out.1 w3 HB3.out).mono ?_
    rintro e w4 ⟨b4, fm1, rfl, hf1⟩
    have HF1 := hidden hf1
    have HB4 := hidden (HB3.out.trans (b4.mono HB3.out.size))
    clear hf1 b4
    have hl1 : (cA er k fm1).length = 6 := by simp [cA]
    go_wp2_with (first
      | (refine wpList_new_var rfl rfl 57 4 (.tmp 18) rfl rfl rfl rfl 6 (by kernel_rfl) (cA er k fm1) hl1 (cA_one er k fm1) (by simp) rfl ?_; intro w5 B5 bl5 hz5; have HV5 := hidden B5; have HL5 := hidden bl5; clear B5 bl5 hz5))
    have HB5 := hidden (HB4.out.trans (HL5.out.mono HB4.out.size))
    refine (hT.out.2.1 w5 HB5.out).mono ?_
    rintro e w6 ⟨b6, fm2, rfl, hf2⟩
    have HF2 := hidden hf2
    have HB6 := hidden (HB5.out.trans (b6.mono HB5.out.size))
    have HL6 := hidden b6
    clear hf2 b6
    have hl2 : (cA er k fm2).length = 6 := by simp [cA]
    have HV6 := hidden (HV5.out.later HL6.out)
    go_wp2_with (first
      | (refine wpList_new_var rfl rfl 57 6 (.tmp 23) rfl rfl rfl rfl 6 (by kernel_rfl) (cA er k fm2) hl2 (cA_one er k fm2) (by simp) rfl ?_; intro w7 B7 bl7 hz7; have HW7 := hidden B7; have HV7 := hidden (HV6.out.later bl7); have HL7 := hidden bl7; clear B7 bl7 hz7)
      | (refine wpList_load_blk rfl 57 (.tmp 4) rfl w4.heap.size HV7.out rfl rfl rfl (by rw [hl1]; exact size57) ?_)
      | (refine wpList_load_blk rfl 57 (.tmp 6) rfl w6.heap.size HW7.out rfl rfl rfl (by rw [hl2]; exact size57) ?_))
    have HB7 := hidden (HB6.out.trans (HL7.out.mono HB6.out.size))
    refine (sameRspY er k fm1 fm2 w7 (fun i hi => by rw [(HF1.out i hi).1]; exact hT.out.2.2 i) (fun i hi => by rw [(HF1.out i hi).1, (HF2.out i hi).1]) (fun i hi => (((HF1.out i hi).2.later HL5.out).later HL6.out).later HL7.out) (fun i hi => (HF2.out i hi).2.later HL7.out)).mono ?_
    rintro e w8 ⟨rfl, b8⟩
    have HB8 := hidden (HB7.out.trans (b8.mono HB7.out.size))
    clear b8
    go_wp2_with fail
    go_ret
    exact ⟨by first | rfl | simp, HB8.out⟩
  · have hbig' : ¬ (bn : Int) > 1100000 := by omega
    have hT := T1
    clear T1 HT2
    generalize (rsV (readQ b)).1 = er at *
    generalize (rsV (readQ b)).2.1 = k at *
    generalize (rsV (readQ b)).2.2 = f at *
    generalize rsC (readQ b) = E at *
    go_enter Tryz.func6, Tryz.ntmps6
    go_wp2_with fail
    refine (shownP w HG.out).mono ?_
    rintro e w3 ⟨rfl, b3⟩
    have HB3 := hidden b3
    clear b3
    go_wp2_with fail
    refine (hT.out.1 w3 HB3.out).mono ?_
    rintro e w4 ⟨b4, fm1, rfl, hf1⟩
    have HF1 := hidden hf1
    have HB4 := hidden (HB3.out.trans (b4.mono HB3.out.size))
    clear hf1 b4
    have hl1 : (cA er k fm1).length = 6 := by simp [cA]
    go_wp2_with (first
      | (refine wpList_new_var rfl rfl 57 4 (.tmp 18) rfl rfl rfl rfl 6 (by kernel_rfl) (cA er k fm1) hl1 (cA_one er k fm1) (by simp) rfl ?_; intro w5 B5 bl5 hz5; have HV5 := hidden B5; have HL5 := hidden bl5; clear B5 bl5 hz5))
    have HB5 := hidden (HB4.out.trans (HL5.out.mono HB4.out.size))
    refine (hT.out.2.1 w5 HB5.out).mono ?_
    rintro e w6 ⟨b6, fm2, rfl, hf2⟩
    have HF2 := hidden hf2
    have HB6 := hidden (HB5.out.trans (b6.mono HB5.out.size))
    have HL6 := hidden b6
    clear hf2 b6
    have hl2 : (cA er k fm2).length = 6 := by simp [cA]
    have HV6 := hidden (HV5.out.later HL6.out)
    go_wp2_with (first
      | (refine wpList_new_var rfl rfl 57 6 (.tmp 23) rfl rfl rfl rfl 6 (by kernel_rfl) (cA er k fm2) hl2 (cA_one er k fm2) (by simp) rfl ?_; intro w7 B7 bl7 hz7; have HW7 := hidden B7; have HV7 := hidden (HV6.out.later bl7); have HL7 := hidden bl7; clear B7 bl7 hz7)
      | (refine wpList_load_blk rfl 57 (.tmp 4) rfl w4.heap.size HV7.out rfl rfl rfl (by rw [hl1]; exact size57) ?_)
      | (refine wpList_load_blk rfl 57 (.tmp 6) rfl w6.heap.size HW7.out rfl rfl rfl (by rw [hl2]; exact size57) ?_))
    have HB7 := hidden (HB6.out.trans (HL7.out.mono HB6.out.size))
    refine (sameRspY er k fm1 fm2 w7 (fun i hi => by rw [(HF1.out i hi).1]; exact hT.out.2.2 i) (fun i hi => by rw [(HF1.out i hi).1, (HF2.out i hi).1]) (fun i hi => (((HF1.out i hi).2.later HL5.out).later HL6.out).later HL7.out) (fun i hi => (HF2.out i hi).2.later HL7.out)).mono ?_
    rintro e w8 ⟨rfl, b8⟩
    have HB8 := hidden (HB7.out.trans (b8.mono HB7.out.size))
    clear b8
    go_wp2_with fail
    go_ret
    exact ⟨by first | rfl | simp, HB8.out⟩
end Go.Proofs.YtalmpmhnkilalaaGreatDoor
