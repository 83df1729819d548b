import Derived.Test.YtfieglepljmmkaaDigM
import Derived.Test.YtfieglepljmmkaaPush
namespace Go.Proofs.Ytfieglepljmmkaa
open Go.RowKit
set_option linter.unusedVariables false

set_option maxRecDepth 100000 in
set_option maxHeartbeats 4000000 in
theorem digits_yes (ad : Option Addr) (len cap : Nat) (l : List Int) (s : ByteArray) (w : World) (hs : Sl w ad len l) (hlc : len ≤ cap) (hcm : cap ≤ 9223372036854775807) (hb : len ≤ 1073741823) (hsz : s.size ≤ 140737488351232) (hok : okL (numsB s) = true) :
    Calls Try.prog 5 #[.slice ad len cap, .string s] w fun e w' => e = .returned (.bool true) ∧ Below w.heap.size w w' := by
  obtain ⟨i0, hi, hz0, hz1, hz2⟩ := info_parts info5
  have hlen := hs.len
  have HLEN := hid2 hlen
  have HBY := hid2 hs.byte
  clear hlen
  obtain ⟨D, hD⟩ : ∃ D, udig s = D := ⟨_, rfl⟩
  have HDB : Hid (Byte D) := by rw [← hD]; exact udig_byte s
  have hDl := udig_len s
  rw [hD] at hDl
  obtain ⟨n, hn⟩ : ∃ n, D.length = n := ⟨_, rfl⟩
  rw [hn] at hDl
  have hn47 : n ≤ 140737488351232 := by omega
  have HN := hid2 hn
  have HUQ : Hid (∀ w, Calls Try.prog 21 #[.string s] w fun e w' => ∃ a c, e = .returned (.tuple #[.slice a n c, .bool true]) ∧ w'.ownsRow w.heap.size 5 1 (.slice a n c) n (cells8 D) ∧ Below w.heap.size w w') := by
    intro w
    have := unhex_q s w (by omega)
    rw [hD, hn, hok] at this
    exact this
  have HRQ : Hid (∀ w, Calls Try.prog 22 #[.string s] w fun e w' => ∃ a c, e = .returned (.tuple #[.slice a n c, .bool true]) ∧ Sl w' a n D ∧ (∀ x, a = some x → 0 < n → w.heap.size ≤ x.block) ∧ Below w.heap.size w w') := by
    intro w
    have := refUnhex_q s w (by omega)
    rw [hD, hn, hok] at this
    exact this
  obtain ⟨T, hT⟩ : ∃ T, strOfNums (hexL l) = T := ⟨_, rfl⟩
  have HBQ : Hid (∀ w, Calls Try.prog 21 #[.string T] w fun e w' => ∃ a c, e = .returned (.tuple #[.slice a len c, .bool true]) ∧ w'.ownsRow w.heap.size 5 1 (.slice a len c) len (cells8 l) ∧ Below w.heap.size w w') := by
    intro w
    obtain ⟨e1, e2⟩ := udig_hex l HBY.out
    have hsz2 : (strOfNums (hexL l)).size ≤ 140737488355328 := by
      rw [str_size, hexL_len, HLEN.out]
      omega
    rw [hT] at e1 e2 hsz2
    have := unhex_q T w hsz2
    rw [e1, e2, HLEN.out] at this
    exact this
  have HTE := hid2 hT
  clear hD hn hDl hok hT
  go_enter Try.func5, Try.ntmps5
  go_wp2_with fail
  refine (shown_any w).mono ?_
  rintro e w1 ⟨rfl, bl1⟩
  have HS1 := hid2 (hs.later bl1)
  have HB1 := hid2 bl1
  clear hs bl1
  go_wp2_with fail
  refine (lent_any ad len cap l w1 HS1.out (by omega)).mono ?_
  rintro e w2 ⟨rfl, hG2, bl2⟩
  obtain ⟨gl, hgl⟩ : ∃ gl, w1.heap.size = gl := ⟨_, rfl⟩
  have HS2 := hid2 (HS1.out.later bl2)
  have HB2 : Hid (Below w.heap.size w w2) := HB1.out.trans (bl2.mono HB1.out.size)
  rw [hgl] at hG2 ⊢
  have HG2 := hid2 hG2
  clear HS1 HB1 hG2 bl2 hgl
  go_wp2_with fail
  refine (hex_any (some ⟨gl, 0, none⟩) len (len + 8) l w2 (lent_sl HG2.out HLEN.out HBY.out) (by omega)).mono ?_
  rw [HTE.out]
  rintro e w3 ⟨rfl, bl3⟩
  have HS3 := hid2 (HS2.out.later bl3)
  have HG3 := hid2 (HG2.out.later bl3)
  have HB3 : Hid (Below w.heap.size w w3) := HB2.out.trans (bl3.mono HB2.out.size)
  clear HS2 HG2 HB2 bl3
  go_wp2_with fail
  refine (still_any gl 0 (len + 8) ad len cap l w3 (lent_cell HG3.out HLEN.out) HS3.out (by omega)).mono ?_
  rintro e w4 ⟨rfl, nd, rfl⟩
  have HS4 : Hid (Sl (w3.drewN nd) ad len l) := ⟨HS3.out.len, HS3.out.byte, HS3.out.cell⟩
  have HB4 : Hid (Below w.heap.size w (w3.drewN nd)) := below_drewN HB3.out nd
  clear HS3 HG3 HB3
  generalize w3.drewN nd = w4 at *
  go_wp2_with fail
  refine (HUQ.out w4).mono ?_
  rintro e w5 ⟨ax, cx, rfl, ox, bl5⟩
  have HS5 := hid2 (HS4.out.later bl5)
  have HB5 : Hid (Below w.heap.size w w5) := HB4.out.trans (bl5.mono HB4.out.size)
  have HXL : Hid (∀ g, (Value.slice ax n cx).ownBlock = some g → w4.heap.size ≤ g ∧ g < w5.heap.size) := fun g hg => ox.lt g hg
  have HAD : Hid (∀ g, (Value.slice ax n cx).ownBlock = some g → Ap ad len g) := fun g hg => Ap.of_lt HS4.out (ox.lt g hg).1
  have HO5 := hid2 ox
  have hb4s := HB4.out.size
  clear ox bl5 HS4 HB4
  go_wp2_with fail
  refine (HUQ.out w5).mono ?_
  rintro e w6 ⟨ay, cy, rfl, oy, bl6⟩
  have HS6 := hid2 (HS5.out.later bl6)
  have HB6 : Hid (Below w.heap.size w w6) := HB5.out.trans (bl6.mono HB5.out.size)
  have HO6 := hid2 (owns_later HO5.out bl6)
  have HY6 := hid2 (sl_of_owns oy HDB.out)
  have HAY : Hid (∀ g, (Value.slice ax n cx).ownBlock = some g → Ap ay n g) := by
    intro g hg x hx hp
    obtain ⟨gy, rfl⟩ := owns_addr2 oy hp
    obtain rfl := Option.some.inj hx
    have h1 := (oy.lt gy rfl).1
    have h2 := (HXL.out g hg).2
    show gy ≠ g
    omega
  have bl6s := bl6.size
  clear oy bl6 HS5 HB5 HO5
  go_wp2_with fail
  refine (HRQ.out w6).mono ?_
  rintro e w7 ⟨aw, cw, rfl, hw7, hrw, bl7⟩
  have HS7 := hid2 (HS6.out.later bl7)
  have HB7 : Hid (Below w.heap.size w w7) := HB6.out.trans (bl7.mono HB6.out.size)
  have HO7 := hid2 (owns_later HO6.out bl7)
  have HY7 := hid2 (HY6.out.later bl7)
  have HW7 := hid2 hw7
  have HAWT : Hid (∀ g, (Value.slice ax n cx).ownBlock = some g → Ap aw n g) := by
    intro g hg x hx hp
    have h2 := (HXL.out g hg).2
    have h1 := hrw x hx hp
    have := bl6s
    omega
  clear hw7 bl7 HS6 HB6 HO6 HY6
  go_wp2_with fail
  refine (refHex_any ad len cap l w7 HS7.out (by omega)).mono ?_
  rw [HTE.out]
  rintro e w8 ⟨rfl, bl8⟩
  have HS8 := hid2 (HS7.out.later bl8)
  have HB8 : Hid (Below w.heap.size w w8) := HB7.out.trans (bl8.mono HB7.out.size)
  have HO8 := hid2 (owns_mono (owns_later HO7.out bl8) hb4s)
  have HY8 := hid2 (HY7.out.later bl8)
  have HW8 := hid2 (HW7.out.later bl8)
  have k1 := conv (cap := cx) (sl_of_owns HO8.out HDB.out)
  have k2 := conv (cap := cy) HY8.out
  have k3 := conv (cap := cw) HW8.out
  have HAW : Hid (∀ g, (Value.slice ax n cx).ownBlock = some g → Ap aw n g) := HAWT
  clear bl8 HS7 HB7 HO7 HY7 HW7
  generalize strOfNums D = S at *
  go_wp2_with fail
  go_loopw [15] (fun iv wr => ∃ i : Nat, i ≤ n ∧ iv = .int .i64 i ∧ wr.ownsRow w.heap.size 5 1 (.slice ax n cx) n (cells8 (List.replicate i 201 ++ D.drop i)) ∧ Sl wr ay n D ∧ Sl wr aw n D ∧ Sl wr ad len l ∧ Below w.heap.size w wr) (fun iv _ => n - (intOf iv).toNat)
  case atStart => exact ⟨0, Nat.zero_le _, rfl, by simpa using HO8.out, HY8.out, HW8.out, HS8.out, HB8.out⟩
  case round =>
    rename World => wr
    obtain ⟨i, hin, rfl, ho, hy, hww, hsd, hbl⟩ := hrel
    clear HO8 HY8 HW8 HS8 HB8 k1 k2 k3
    have HO := hid2 ho
    have HY := hid2 hy
    have HW := hid2 hww
    have HS := hid2 hsd
    have HB := hid2 hbl
    clear ho hy hww hsd hbl
    by_cases hlt : i < n
    · obtain ⟨gx, rfl⟩ := owns_addr2 HO.out (by omega)
      have hgx := (HO.out.lt gx rfl).1
      have hc : ∃ v, wr.cell? ⟨gx, i, none⟩ = some v := by
        have hdn := HN.out
        have h := HO.out.cells rfl i _ (List.getElem?_eq_getElem (by rw [cells8_length]; simp; omega))
        rw [Addr.add_lit, Nat.zero_add] at h
        exact ⟨_, h⟩
      obtain ⟨v, hc⟩ := hc
      have hf := owns_frozen2 HO.out i
      have hst := (HO.out.stored i (.int .u8 201)).1
      rw [fill_set n i D (by rw [HN.out]; exact hlt)] at hst
      have HST := hid2 hst
      have hsg := set_grown gx i (.int .u8 201) wr
      have HY2 := hid2 (sl_grow HY.out hsg (HAY.out gx rfl))
      have HW2 := hid2 (sl_grow HW.out hsg (HAW.out gx rfl))
      have HS2 := hid2 (sl_grow HS.out hsg (HAD.out gx rfl))
      clear hst hsg
      go_wp2_with fail
      refine ⟨⟨i + 1, by omega, rfl, HST.out, HY2.out, HW2.out, HS2.out, HB.out.setCell (by show w.heap.size ≤ gx; omega) _⟩, ?_⟩
      simp only [intOf]; omega
    · have hge : (n : Int) ≤ i := by omega
      have HAPS : Hid (∀ g, (Value.slice ax n cx).ownBlock = some g → Ap ay n g ∧ Ap aw n g ∧ Ap ad len g ∧ w.heap.size ≤ g) := by
        intro g hg
        exact ⟨HAY.out g hg, HAW.out g hg, HAD.out g hg, by have := (HO.out.lt g hg).1; omega⟩
      clear HAY HAW HAD HXL
      go_wp2_with fail
      go_loopw [9, 16] (fun xv iv ws => ∃ (j : Nat) (v : Value) (L2 : List Int), j ≤ 64 ∧ iv = .int .i64 j ∧ xv = v ∧ ws.ownsRow w.heap.size 5 1 v (n + j) (cells8 L2) ∧ (∀ g, v.ownBlock = some g → Ap ay n g ∧ Ap aw n g ∧ Ap ad len g ∧ w.heap.size ≤ g) ∧ Sl ws ay n D ∧ Sl ws aw n D ∧ Sl ws ad len l ∧ Below w.heap.size w ws) (fun _ iv _ => 64 - (intOf iv).toNat)
      case atStart => exact ⟨0, _, _, by omega, rfl, rfl, HO.out, HAPS.out, HY.out, HW.out, HS.out, HB.out⟩
      case round =>
        rename World => ws
        obtain ⟨j, v, L2, hj, rfl, rfl, ho, hap, hy, hww, hsd, hbl⟩ := hrel
        clear HO HAPS HY HW HS HB
        obtain ⟨a9, c9, rfl⟩ := owns_form ho
        have HO := hid2 ho
        have HAP := hid2 hap
        have HY := hid2 hy
        have HW := hid2 hww
        have HS := hid2 hsd
        have HB := hid2 hbl
        clear ho hap hy hww hsd hbl
        by_cases hlt2 : j < 64
        · have hl1 : Below ws.heap.size ws (ws.alloc (.cells #[.int .u8 201] 5)) := (Below.refl _ _).alloc (Nat.le_refl _) _
          have HL1 := hid2 hl1
          have hcell : (ws.alloc (.cells #[.int .u8 201] 5)).cell? ⟨ws.heap.size, 0, none⟩ = some (.int .u8 201) := by
            rw [World.cell?_alloc_mark]
            rfl
          have HC := hid2 hcell
          have HSZ : Hid (w.heap.size ≤ (ws.alloc (.cells #[.int .u8 201] 5)).heap.size) := by
            show w.heap.size ≤ (ws.alloc (.cells #[.int .u8 201] 5)).heap.size
            have := hl1.size
            have := HB.out.size
            omega
          clear hcell hl1
          go_wp2_with (first
            | (at_builtin; refine wpList_push _ rfl (.tmp 110) (.tmp 111) 22 rfl 5 i0 (.int .u8 0) 1 Try.underlying22 hi hz0 hz1 hz2 rfl w.heap.size _ (n + j) (cells8 L2) rfl (owns_later HO.out HL1.out) ⟨ws.heap.size, 0, none⟩ (.int .u8 201) rfl HC.out rfl (by unfold maxLen; omega) (by omega) HSZ.out ?_; intro g2 c2 w9 ho9 hp9; have HO9 := hid2 ho9; have HP9 := hid2 hp9; clear ho9 hp9))
          have HY9 := hid2 (sl_pushed (HY.out.later HL1.out) HP9.out (fun g hg => (HAP.out g hg).1))
          have HW9 := hid2 (sl_pushed (HW.out.later HL1.out) HP9.out (fun g hg => (HAP.out g hg).2.1))
          have HS9 := hid2 (sl_pushed (HS.out.later HL1.out) HP9.out (fun g hg => (HAP.out g hg).2.2.1))
          have HB9 := hid2 (below_pushed (HB.out.trans (HL1.out.mono HB.out.size)) HP9.out (fun g hg => (HAP.out g hg).2.2.2) HSZ.out)
          refine ⟨⟨j + 1, _, L2 ++ [201], by omega, rfl, rfl, ?_, ?_, HY9.out, HW9.out, HS9.out, HB9.out⟩, ?_⟩
          · rw [cells8_append, show n + (j + 1) = n + j + 1 by omega]
            exact HO9.out
          · intro g hg
            obtain rfl : g2 = g := by simpa [Value.ownBlock] using hg
            rcases HP9.out with ⟨h1, _⟩ | ⟨h1, _⟩
            · exact HAP.out _ h1
            · exact ⟨Ap.of_lt (HY.out.later HL1.out) h1, Ap.of_lt (HW.out.later HL1.out) h1, Ap.of_lt (HS.out.later HL1.out) h1, by have := HSZ.out; omega⟩
          · simp only [intOf]; omega
        · have h64 : (64 : Int) ≤ j := by omega
          go_wp2_with fail
          refine (HBQ.out ws).mono ?_
          rintro e w10 ⟨ab, cb, rfl, ob, bl10⟩
          have k1 := conv (cap := cy) (HY.out.later bl10)
          have k2 := conv (cap := cw) (HW.out.later bl10)
          have k3 := conv (cap := cb) (sl_of_owns ob HBY.out)
          have k4 := conv (cap := cap) (HS.out.later bl10)
          have HB10 : Hid (Below w.heap.size w w10) := HB.out.trans (bl10.mono HB.out.size)
          clear ob bl10 HO HAP HY HW HS HB
          generalize strOfNums D = S1 at *
          generalize strOfNums l = S2 at *
          go_wp2_with fail
          go_ret
          exact ⟨rfl, HB10.out⟩

end Go.Proofs.Ytfieglepljmmkaa
