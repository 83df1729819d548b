/-
  PoolPlays: looks.
-/
import Derived.Test.YtjlpkgepiajapaaDoorPpM
import Derived.Deep.CutBlock
namespace Go.Proofs.YtjlpkgepiajapaaDoor
open Go.RowKit
set_option linter.unusedVariables false
set_option linter.unusedSimpArgs false

theorem inf40 : ∃ i0, Tryd.prog.info? 40 = some i0 ∧ i0.zero = some (.slice none 0 0) ∧ i0.size = 1 ∧ i0.bytes = 24 := info_parts (show (Tryd.prog.info? 40).map (fun i => (i.zero, i.size, i.bytes)) = some (some (.slice none 0 0), 1, 24) by kernel_rfl)
theorem inf22 : ∃ i0, Tryd.prog.info? 22 = some i0 ∧ i0.zero = some (.slice none 0 0) ∧ i0.size = 1 ∧ i0.bytes = 24 := info_parts (show (Tryd.prog.info? 22).map (fun i => (i.zero, i.size, i.bytes)) = some (some (.slice none 0 0), 1, 24) by kernel_rfl)
theorem u8_id (i : Nat) (h : i < 60) : IntKind.u8.wrap (i : Int) = (i : Int) := by unfold IntKind.wrap; simp [IntKind.bits, IntKind.signed]; omega
theorem rowform {w : World} {t : TypeId} {v : Value} {xs : List Value} (h : Rw w t v xs) {N : Nat} (hN : xs.length = N) : ∃ ad c, v = .slice ad N c ∧ (N ≠ 0 → ∃ g, ad = some ⟨g, 0, none⟩) := by
  subst hN; exact h.slice
theorem rowsome {w : World} {t : TypeId} {ad : Option Addr} {N c : Nat} {xs : List Value} (h : Rw w t (.slice ad N c) xs) (hN : xs.length = N) (h0 : N ≠ 0) : ∃ g, ad = some ⟨g, 0, none⟩ := by
  obtain ⟨ad', c', e, h1⟩ := rowform h hN
  simp only [Value.slice.injEq] at e
  rw [e.1]
  exact h1 h0
theorem rep_at {k j : Nat} (x : Value) (h : j < k) : (List.replicate k x)[j]? = some x := by simp [h]
set_option maxRecDepth 100000 in
set_option maxHeartbeats 16000000 in
theorem looksP (w0 w : World) (v : Nat) (p r q n : Nat → Nat) (st sr : Nat → Sx) (F : Nat → Nat → Prop) (B : Nat → Nat → Value) (vb vn : Value) (Lb Ln : List Value) (h : PS w0 w v p r q n st sr F B vb vn Lb Ln) :
    Calls Tryd.prog 9 #[.pointer (some ⟨v, 0, none⟩)] w fun e w' => e = .returned (.bool true) ∧ Below w0.heap.size w0 w' := by
  obtain ⟨bd, bc, rfl, hbd⟩ := rowform (Rw.of_owns h.ob) rfl
  obtain ⟨nd, nc, rfl, hnd⟩ := rowform (Rw.of_owns h.on) rfl
  obtain ⟨nb, hnb⟩ : ∃ nb, Lb.length = nb := ⟨_, rfl⟩
  obtain ⟨nn, hnn⟩ : ∃ nn, Ln.length = nn := ⟨_, rfl⟩
  have hlen := h.len
  have hK := LK.ofPS h
  generalize hb2 : w.heap.size = b2 at hK
  clear hb2
  rw [hnb] at hK hbd hlen
  rw [hnn] at hK hnd hlen
  obtain ⟨hn6, hn7⟩ := hlen
  have HK0 := hidden hK
  have HNB := hidden hnb
  have HNN := hidden hnn
  have HBD := hidden hbd
  have HND := hidden hnd
  obtain ⟨i1, hi1⟩ := inf5
  obtain ⟨i3, hi3⟩ := inf3'
  obtain ⟨i2, hi2⟩ := inf40
  obtain ⟨i4, hi4⟩ := inf22
  have HI1 := hidden hi1
  have HI2 := hidden hi2
  have HI3 := hidden hi3
  have HI4 := hidden hi4
  clear h hK hnb hnn hbd hnd hi1 hi2 hi3 hi4
  go_enter Tryd.func9, Tryd.ntmps9
  go_wp2_with fail
  go_loopw [3, 4] (fun vA vI wx => ∃ (i : Nat) (ad1 : Option Addr) (c1 : Nat) (A1 : List Value), vA = .slice ad1 i c1 ∧ vI = .int .i64 (i : Int) ∧ i ≤ nb ∧ Hid (LK b2 w0 wx v (wlC p r (.slice bd nb bc) (.slice nd nn nc)) (.slice bd nb bc) (.slice nd nn nc) (.slice ad1 i c1) (.slice none 0 0) Lb Ln A1 []) ∧ Hid (A1.length = i)) (fun _ vI _ => nb - (intOf vI).toNat)
  case atStart => exact ⟨0, none, 0, [], rfl, rfl, by omega, HK0, hidden rfl⟩
  case round =>
    obtain ⟨i, ad1, c1, A1, rfl, rfl, hi, hK, hAl⟩ := hrel
    clear HK0
    have cF : wr.cell? ⟨v, 6, none⟩ = some (.slice bd nb bc) := by rw [hK.out.blk.cell]; rfl
    by_cases hin : i < nb
    · have hx : Lb[i]? = some (Lb[i]'(by have := HNB.out; omega)) := by simp
      generalize Lb[i]'(by have := HNB.out; omega) = x at hx
      obtain ⟨g0, hg0⟩ := HBD.out (by omega)
      have cX : wr.cell? ⟨g0, i, none⟩ = some x := by
        have h9 := Rw.of_owns hK.out.ob
        rw [hg0] at h9
        exact h9.cell hx
      obtain ⟨k, hC⟩ := Cur.new hK.out.fb hx
      obtain ⟨xa, xc, hxe, -⟩ := rowform hC.row (N := k) (by simp)
      subst hxe
      have HC0 := hidden hC
      have hk6 := hC.le
      have HX := hidden hx
      clear hx hC
      rw [hg0] at cF
      have hcv := u8_id i (by omega)
      have hmk : mkB i = .int .u8 (i : Int) := rfl
      go_wp2_with fail
      clear cF cX
      go_loopw [5, 6] (fun vU vM wx => ∃ (m : Nat) (ua : Option Addr) (uc : Nat), vU = .slice ua (k + m) uc ∧ vM = .int .i64 (m : Int) ∧ m ≤ 40 ∧ Hid (LK b2 w0 wx v (wlC p r (.slice bd nb bc) (.slice nd nn nc)) (.slice bd nb bc) (.slice nd nn nc) (.slice ad1 i c1) (.slice none 0 0) Lb Ln A1 []) ∧ Hid (Cur b2 wx 5 mkB Lb A1 i m k (.slice xa k xc) (.slice ua (k + m) uc))) (fun _ vM _ => 40 - (intOf vM).toNat)
      case atStart => exact ⟨0, xa, xc, rfl, rfl, by omega, hK, HC0⟩
      case round =>
        obtain ⟨m, ua, uc, rfl, rfl, hm, hK2, hC2⟩ := hrel
        clear hK HC0
        by_cases hm4 : m < 40
        · obtain ⟨g9, c9, w9, hr, hf9, hc9, ch9⟩ := Cur.push (P := Tryd.prog) hK2.out.fb (Nat.le_of_eq hAl.out) hC2.out hm4 40 40 i1 (.int .u8 0) 1 Tryd.underlying40 HI1.out.1 HI1.out.2.1 HI1.out.2.2.1 HI1.out.2.2.2 rfl rfl (by omega)
          have hkb : ∀ b, (Value.slice ua (k + m) uc).ownBlock = some b → Tg wr b 5 ∧ w0.heap.size ≤ b := fun b hb => ⟨hC2.out.cur.tg hb, by
            rcases hC2.out.blk b hb with h1 | ⟨h1, _⟩
            · exact hK2.out.lo.1 b ⟨_, List.mem_of_getElem? HX.out, h1⟩
            · have := hK2.out.lo.2.2; omega⟩
          have HR := hidden hr
          have HK9 := hidden (hK2.out.growB ch9 hkb hf9)
          have HC9 := hidden hc9
          clear hr hf9 hc9 ch9 hkb
          go_wp2_with (refine wpList_app_eq rfl (.tmp 35) (.tmp 38) 40 rfl (.slice ua (k + m) uc) (.slice (some ⟨wr.heap.size, 0, none⟩) 1 1) (.slice (some ⟨g9, 0, none⟩) (k + m + 1) c9) rfl rfl HR.out ?_)
          refine ⟨⟨m + 1, some ⟨g9, 0, none⟩, c9, by first | rfl | simp, by first | rfl | simp, by omega, HK9, HC9⟩, ?_⟩
          show 40 - ((m : Int) + 1).toNat < 40 - (m : Int).toNat
          omega
        · have hm40 : m = 40 := by omega
          subst hm40
          have HQ : Hid (∀ (g9 c9 : Nat) (w9 : World), w9.ownsRow w0.heap.size 40 1 (.slice (some ⟨g9, 0, none⟩) (i + 1) c9) (i + 1) (A1 ++ [.slice ua (k + 40) uc]) → Pushed (wr.alloc (.cells #[.slice ua (k + 40) uc] 40)) w9 (.slice ad1 i c1) g9 → LK b2 w0 w9 v (wlC p r (.slice bd nb bc) (.slice nd nn nc)) (.slice bd nb bc) (.slice nd nn nc) (.slice (some ⟨g9, 0, none⟩) (i + 1) c9) (.slice none 0 0) Lb Ln (A1 ++ [.slice ua (k + 40) uc]) []) := hidden (fun g9 c9 w9 h1 h2 => by
            obtain rfl := hAl.out
            exact hK2.out.addB hC2.out h2 h1)
          have hO := hK2.out.oa
          have hsz := hK2.out.bel.size
          have HO := hidden hO
          have HSZ := hidden hsz
          clear hO hsz
          go_wp2_with (refine wpList_push _ rfl (.tmp 40) (.tmp 42) 30 rfl 40 i2 (.slice none 0 0) 24 Tryd.underlying30 HI2.out.1 HI2.out.2.1 HI2.out.2.2.1 HI2.out.2.2.2 rfl w0.heap.size (.slice ad1 i c1) i A1 rfl (by have h9 := HO.out; rw [hAl.out] at h9; exact h9.alloc _) ⟨wr.heap.size, 0, none⟩ (.slice ua (k + 40) uc) rfl (by simp) rfl (by unfold maxLen; omega) (by omega) (by have := HSZ.out; simp; omega) ?_; intro g9 c9 w9 h1 h2; have H9 := hidden (HQ.out g9 c9 w9 h1 h2); clear h1 h2)
          refine ⟨⟨i + 1, some ⟨g9, 0, none⟩, c9, A1 ++ [.slice ua (k + 40) uc], by first | rfl | simp, by first | rfl | simp, by omega, H9, hidden (by rw [List.length_append, hAl.out]; rfl)⟩, ?_⟩
          show nb - ((i : Int) + 1).toNat < nb - (i : Int).toNat
          omega
    · have hie : nb = i := by omega
      subst hie
      go_wp2_with fail
      clear cF
      have HK1 := hK
      have HA1 := hAl
      clear hK hAl
      go_loopw [7, 8] (fun vA vI wx => ∃ (i : Nat) (ad2 : Option Addr) (c2 : Nat) (B1 : List Value), vA = .slice ad2 i c2 ∧ vI = .int .i64 (i : Int) ∧ i ≤ nn ∧ Hid (LK b2 w0 wx v (wlC p r (.slice bd nb bc) (.slice nd nn nc)) (.slice bd nb bc) (.slice nd nn nc) (.slice ad1 nb c1) (.slice ad2 i c2) Lb Ln A1 B1) ∧ Hid (B1.length = i)) (fun _ vI _ => nn - (intOf vI).toNat)
      case atStart => exact ⟨0, none, 0, [], rfl, rfl, by omega, HK1, hidden rfl⟩
      case round =>
        obtain ⟨i, ad2, c2, B1, rfl, rfl, hi, hK, hAl⟩ := hrel
        clear HK1
        have cF : wr.cell? ⟨v, 7, none⟩ = some (.slice nd nn nc) := by rw [hK.out.blk.cell]; rfl
        by_cases hin : i < nn
        · have hx : Ln[i]? = some (Ln[i]'(by have := HNN.out; omega)) := by simp
          generalize Ln[i]'(by have := HNN.out; omega) = x at hx
          obtain ⟨g0, hg0⟩ := HND.out (by omega)
          have cX : wr.cell? ⟨g0, i, none⟩ = some x := by
            have h9 := Rw.of_owns hK.out.on
            rw [hg0] at h9
            exact h9.cell hx
          obtain ⟨k, hC⟩ := Cur.new hK.out.fn hx
          obtain ⟨xa, xc, hxe, -⟩ := rowform hC.row (N := k) (by simp)
          subst hxe
          have HC0 := hidden hC
          have hk6 := hC.le
          have HX := hidden hx
          clear hx hC
          rw [hg0] at cF
          have hmk : mkI i = .int .i64 (-9 - (i : Int)) := rfl
          go_wp2_with fail
          clear cF cX
          go_loopw [9, 10] (fun vU vM wx => ∃ (m : Nat) (ua : Option Addr) (uc : Nat), vU = .slice ua (k + m) uc ∧ vM = .int .i64 (m : Int) ∧ m ≤ 40 ∧ Hid (LK b2 w0 wx v (wlC p r (.slice bd nb bc) (.slice nd nn nc)) (.slice bd nb bc) (.slice nd nn nc) (.slice ad1 nb c1) (.slice ad2 i c2) Lb Ln A1 B1) ∧ Hid (Cur b2 wx 3 mkI Ln B1 i m k (.slice xa k xc) (.slice ua (k + m) uc))) (fun _ vM _ => 40 - (intOf vM).toNat)
          case atStart => exact ⟨0, xa, xc, rfl, rfl, by omega, hK, HC0⟩
          case round =>
            obtain ⟨m, ua, uc, rfl, rfl, hm, hK2, hC2⟩ := hrel
            clear hK HC0
            by_cases hm4 : m < 40
            · obtain ⟨g9, c9, w9, hr, hf9, hc9, ch9⟩ := Cur.push (P := Tryd.prog) hK2.out.fn (Nat.le_of_eq hAl.out) hC2.out hm4 22 22 i3 (.int .i64 0) 8 Tryd.underlying22 HI3.out.1 HI3.out.2.1 HI3.out.2.2.1 HI3.out.2.2.2 rfl rfl (by omega)
              have hkb : ∀ b, (Value.slice ua (k + m) uc).ownBlock = some b → Tg wr b 3 ∧ w0.heap.size ≤ b := fun b hb => ⟨hC2.out.cur.tg hb, by
                rcases hC2.out.blk b hb with h1 | ⟨h1, _⟩
                · exact hK2.out.lo.2.1 b ⟨_, List.mem_of_getElem? HX.out, h1⟩
                · have := hK2.out.lo.2.2; omega⟩
              have HR := hidden hr
              have HK9 := hidden (hK2.out.growN ch9 hkb hf9)
              have HC9 := hidden hc9
              clear hr hf9 hc9 ch9 hkb
              go_wp2_with (refine wpList_app_eq rfl (.tmp 64) (.tmp 67) 22 rfl (.slice ua (k + m) uc) (.slice (some ⟨wr.heap.size, 0, none⟩) 1 1) (.slice (some ⟨g9, 0, none⟩) (k + m + 1) c9) rfl rfl HR.out ?_)
              refine ⟨⟨m + 1, some ⟨g9, 0, none⟩, c9, by first | rfl | simp, by first | rfl | simp, by omega, HK9, HC9⟩, ?_⟩
              show 40 - ((m : Int) + 1).toNat < 40 - (m : Int).toNat
              omega
            · have hm40 : m = 40 := by omega
              subst hm40
              have HQ : Hid (∀ (g9 c9 : Nat) (w9 : World), w9.ownsRow w0.heap.size 22 1 (.slice (some ⟨g9, 0, none⟩) (i + 1) c9) (i + 1) (B1 ++ [.slice ua (k + 40) uc]) → Pushed (wr.alloc (.cells #[.slice ua (k + 40) uc] 22)) w9 (.slice ad2 i c2) g9 → LK b2 w0 w9 v (wlC p r (.slice bd nb bc) (.slice nd nn nc)) (.slice bd nb bc) (.slice nd nn nc) (.slice ad1 nb c1) (.slice (some ⟨g9, 0, none⟩) (i + 1) c9) Lb Ln A1 (B1 ++ [.slice ua (k + 40) uc])) := hidden (fun g9 c9 w9 h1 h2 => by
                obtain rfl := hAl.out
                exact hK2.out.addN hC2.out h2 h1)
              have hO := hK2.out.oc
              have hsz := hK2.out.bel.size
              have HO := hidden hO
              have HSZ := hidden hsz
              clear hO hsz
              go_wp2_with (refine wpList_push _ rfl (.tmp 69) (.tmp 71) 31 rfl 22 i4 (.slice none 0 0) 24 Tryd.underlying31 HI4.out.1 HI4.out.2.1 HI4.out.2.2.1 HI4.out.2.2.2 rfl w0.heap.size (.slice ad2 i c2) i B1 rfl (by have h9 := HO.out; rw [hAl.out] at h9; exact h9.alloc _) ⟨wr.heap.size, 0, none⟩ (.slice ua (k + 40) uc) rfl (by simp) rfl (by unfold maxLen; omega) (by omega) (by have := HSZ.out; simp; omega) ?_; intro g9 c9 w9 h1 h2; have H9 := hidden (HQ.out g9 c9 w9 h1 h2); clear h1 h2)
              refine ⟨⟨i + 1, some ⟨g9, 0, none⟩, c9, B1 ++ [.slice ua (k + 40) uc], by first | rfl | simp, by first | rfl | simp, by omega, H9, hidden (by rw [List.length_append, hAl.out]; rfl)⟩, ?_⟩
              show nn - ((i : Int) + 1).toNat < nn - (i : Int).toNat
              omega
        · have hie : nn = i := by omega
          subst hie
          go_wp2_with fail
          clear cF
          have HK2 := hK
          have HB1 := hAl
          clear hK hAl
          generalize wr = wz at *
          go_loopw [11] (fun vI wx => ∃ i : Nat, vI = .int .i64 (i : Int) ∧ i ≤ nb ∧ wx = wz) (fun vI _ => nb - (intOf vI).toNat)
          case atStart => exact ⟨0, rfl, by omega, rfl⟩
          case round =>
            obtain ⟨i, rfl, hi, rfl⟩ := hrel
            by_cases hin : i < nb
            · have ha : A1[i]? = some (A1[i]'(by have := HA1.out; omega)) := by simp
              generalize A1[i]'(by have := HA1.out; omega) = a at ha
              obtain ⟨x, k, hx, hk6, hRx, hRa, -⟩ := HK2.out.fb.grown i a ha
              obtain ⟨g0, hg0⟩ := HBD.out (by omega)
              obtain ⟨g1, hg1⟩ := rowsome (Rw.of_owns HK2.out.oa) HA1.out (by omega)
              obtain ⟨aa, ac, hae, hga⟩ := rowform hRa (N := k + 40) (by simp)
              obtain ⟨ga, hga⟩ := hga (by omega)
              obtain ⟨xa, xc, hxe, hgx⟩ := rowform hRx (N := k) (by simp)
              subst hae hga hxe
              have cF : wr.cell? ⟨v, 6, none⟩ = some (.slice bd nb bc) := by rw [HK2.out.blk.cell]; rfl
              rw [hg0] at cF
              have cX : wr.cell? ⟨g0, i, none⟩ = some (.slice xa k xc) := by
                have h9 := Rw.of_owns HK2.out.ob
                rw [hg0] at h9
                exact h9.cell hx
              have cA : wr.cell? ⟨g1, i, none⟩ = some (.slice (some ⟨ga, 0, none⟩) (k + 40) ac) := by
                have h9 := Rw.of_owns HK2.out.oa
                rw [hg1] at h9
                exact h9.cell ha
              have HRa := hidden hRa
              have HRx := hidden hRx
              have HGX := hidden hgx
              clear ha hx hRx hRa hgx hg0
              subst hg1
              have hcv := u8_id i (by omega)
              have hmk : mkB i = .int .u8 (i : Int) := rfl
              go_wp2_with fail
              go_loopw [12] (fun vK wx => ∃ z : Nat, vK = .int .i64 (z : Int) ∧ z ≤ k + 40 ∧ wx = wr) (fun vK _ => (k + 40) - (intOf vK).toNat)
              case atStart => exact ⟨0, rfl, by omega, rfl⟩
              case round =>
                obtain ⟨z, rfl, hz, rfl⟩ := hrel
                by_cases hzk : z < k + 40
                · have cz := HRa.out.cell (rep_at (mkB i) hzk)
                  rw [hmk] at cz
                  by_cases hzk2 : z < k
                  · obtain ⟨gx, rfl⟩ := HGX.out (by omega)
                    have cy := HRx.out.cell (rep_at (mkB i) hzk2)
                    rw [hmk] at cy
                    go_wp2_with fail
                    refine ⟨⟨z + 1, by first | rfl | simp, by omega, by first | rfl | trivial⟩, ?_⟩
                    show (k + 40) - ((z : Int) + 1).toNat < (k + 40) - (z : Int).toNat
                    omega
                  · go_wp2_with fail
                    refine ⟨⟨z + 1, by first | rfl | simp, by omega, by first | rfl | trivial⟩, ?_⟩
                    show (k + 40) - ((z : Int) + 1).toNat < (k + 40) - (z : Int).toNat
                    omega
                · go_wp2_with fail
                  refine ⟨⟨i + 1, by first | rfl | simp, by omega, by first | rfl | trivial⟩, ?_⟩
                  show nb - ((i : Int) + 1).toNat < nb - (i : Int).toNat
                  omega
            · go_wp2_with fail
              go_loopw [13] (fun vI wx => ∃ i : Nat, vI = .int .i64 (i : Int) ∧ i ≤ nn ∧ wx = wr) (fun vI _ => nn - (intOf vI).toNat)
              case atStart => exact ⟨0, rfl, by omega, rfl⟩
              case round =>
                obtain ⟨i, rfl, hi, rfl⟩ := hrel
                by_cases hin : i < nn
                · have ha : B1[i]? = some (B1[i]'(by have := HB1.out; omega)) := by simp
                  generalize B1[i]'(by have := HB1.out; omega) = a at ha
                  obtain ⟨x, k, hx, hk6, hRx, hRa, -⟩ := HK2.out.fn.grown i a ha
                  obtain ⟨g0, hg0⟩ := HND.out (by omega)
                  obtain ⟨g1, hg1⟩ := rowsome (Rw.of_owns HK2.out.oc) HB1.out (by omega)
                  obtain ⟨aa, ac, hae, hga⟩ := rowform hRa (N := k + 40) (by simp)
                  obtain ⟨ga, hga⟩ := hga (by omega)
                  obtain ⟨xa, xc, hxe, hgx⟩ := rowform hRx (N := k) (by simp)
                  subst hae hga hxe
                  have cF : wr.cell? ⟨v, 7, none⟩ = some (.slice nd nn nc) := by rw [HK2.out.blk.cell]; rfl
                  rw [hg0] at cF
                  have cX : wr.cell? ⟨g0, i, none⟩ = some (.slice xa k xc) := by
                    have h9 := Rw.of_owns HK2.out.on
                    rw [hg0] at h9
                    exact h9.cell hx
                  have cA : wr.cell? ⟨g1, i, none⟩ = some (.slice (some ⟨ga, 0, none⟩) (k + 40) ac) := by
                    have h9 := Rw.of_owns HK2.out.oc
                    rw [hg1] at h9
                    exact h9.cell ha
                  have HRa := hidden hRa
                  have HRx := hidden hRx
                  have HGX := hidden hgx
                  clear ha hx hRx hRa hgx hg0
                  subst hg1
                  have hmk : mkI i = .int .i64 (-9 - (i : Int)) := rfl
                  go_wp2_with fail
                  go_loopw [14] (fun vK wx => ∃ z : Nat, vK = .int .i64 (z : Int) ∧ z ≤ k + 40 ∧ wx = wr) (fun vK _ => (k + 40) - (intOf vK).toNat)
                  case atStart => exact ⟨0, rfl, by omega, rfl⟩
                  case round =>
                    obtain ⟨z, rfl, hz, rfl⟩ := hrel
                    by_cases hzk : z < k + 40
                    · have cz := HRa.out.cell (rep_at (mkI i) hzk)
                      rw [hmk] at cz
                      by_cases hzk2 : z < k
                      · obtain ⟨gx, rfl⟩ := HGX.out (by omega)
                        have cy := HRx.out.cell (rep_at (mkI i) hzk2)
                        rw [hmk] at cy
                        go_wp2_with fail
                        refine ⟨⟨z + 1, by first | rfl | simp, by omega, by first | rfl | trivial⟩, ?_⟩
                        show (k + 40) - ((z : Int) + 1).toNat < (k + 40) - (z : Int).toNat
                        omega
                      · go_wp2_with fail
                        refine ⟨⟨z + 1, by first | rfl | simp, by omega, by first | rfl | trivial⟩, ?_⟩
                        show (k + 40) - ((z : Int) + 1).toNat < (k + 40) - (z : Int).toNat
                        omega
                    · go_wp2_with fail
                      refine ⟨⟨i + 1, by first | rfl | simp, by omega, by first | rfl | trivial⟩, ?_⟩
                      show nn - ((i : Int) + 1).toNat < nn - (i : Int).toNat
                      omega
                · go_wp2_with fail
                  go_ret
                  exact ⟨rfl, HK2.out.bel⟩

end Go.Proofs.YtjlpkgepiajapaaDoor
