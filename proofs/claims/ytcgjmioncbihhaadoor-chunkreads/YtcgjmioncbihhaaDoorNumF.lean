import Derived.Test.YtcgjmioncbihhaaDoorNumE
import Derived.Test.YtcgjmioncbihhaaDoorChU
namespace Go.Proofs.YtcgjmioncbihhaaDoor.Q
open Go.RowKit
set_option linter.unusedVariables false

theorem hidden {p : Prop} (h : p) : Hid p := h

theorem decAt_bound : ∀ (l : List Int) (i n : Nat), i ≤ 10 → n < 128 ^ i → Byte l → (decAt l i n).1 < 18446744073709551616 ∧ (decAt l i n).2 ≤ 10 ∧ (decAt l i n).2 ≤ i + l.length
  | [], i, n, _, _, _ => by simp [decAt]
  | c :: t, i, n, hi, hn, hb => by
    have hc := hb c (by simp)
    have ht : Byte t := fun x hx => hb x (by simp [hx])
    rw [decAt]
    split
    · simp
    · split
      · simp
      · rename_i h1 h2
        by_cases hge : 128 ≤ c
        · rw [if_pos hge]
          have hbd := acc_bound n i (c.toNat % 128) hn (by omega) (by omega)
          have := decAt_bound t (i + 1) _ (by omega) hbd.1 ht
          simp only [List.length_cons]
          omega
        · have hbd := acc_bound n i (c.toNat % 128) hn (by omega) (by omega)
          rw [if_neg hge]
          split
          · simp
          · simp only [List.length_cons]
            omega
theorem dec_bound (l : List Int) (hb : Byte l) : (dec l).1 ≤ 18446744073709551615 ∧ (dec l).2 ≤ 10 ∧ (dec l).2 ≤ l.length := by
  have := decAt_bound l 0 0 (by omega) (by simp) hb
  unfold dec
  omega

end Go.Proofs.YtcgjmioncbihhaaDoor.Q

/-
  Package chunk: Read.
-/
namespace Go.Proofs.YtcgjmioncbihhaaDoor
open Go.RowKit
set_option linter.unusedVariables false
set_option linter.unusedSimpArgs false

theorem built77 (p : Nat) : Tryd.prog.built 77 [(0, .pointer (some ⟨p, 0, none⟩))] = some #[.pointer (some ⟨p, 0, none⟩), .bool false] := by kernel_rfl
/-- What Read leaves. -/
def RdP (w : World) (b : List Int) (e : Ending) (w' : World) : Prop :=
  ∃ ad c l ec, e = .returned (.tuple #[.slice ad l.length c, .int .i64 ec]) ∧ w'.ownsRow w.heap.size 32 2 (.slice ad l.length c) l.length (cS l) ∧ (∀ x ∈ l, OkS x) ∧ Below w.heap.size w w' ∧ ((rdR b = some l ∧ ec = 0) ∨ (rdR b = none ∧ l = [] ∧ ec = 100))
theorem rdR_go {b : List Int} (h : b ≠ []) (h1 : (Q.dec b).1 ≠ 0) {l : List Sm} {B' : List Bool} {wg : Bool} (hE : RdE (rdF (Q.dec b).1 (ub (b.drop (Q.dec b).2))) l B' wg) :
    ((wg || !decide (B'.length < 8 ∧ vl B' = 0)) = false → rdR b = some l) ∧ ((wg || !decide (B'.length < 8 ∧ vl B' = 0)) = true → rdR b = none) := by
  have hr : rdR b = rdB (Q.dec b).1 (ub (b.drop (Q.dec b).2)) := by unfold rdR; rw [if_neg h, if_neg h1]
  rw [hr, rdB_rdF]
  cases hf : rdF (Q.dec b).1 (ub (b.drop (Q.dec b).2)) with
  | none =>
    have := hE.1 hf
    subst this
    simp
  | some q =>
    obtain ⟨l0, c0⟩ := q
    obtain ⟨rfl, rfl, rfl⟩ := hE.2 _ _ hf
    simp only [Bool.false_or]
    by_cases hh : B'.length < 8 ∧ vl B' = 0
    · simp [hh]
    · simp [hh]

theorem sl_tail {w : World} {b off len K : Nat} {l : List Int} (h : Sl w (some ⟨b, off, none⟩) len l) (hk : K ≤ len) {ad : Option Addr} (hd : 0 < len - K → ad = some ⟨b, off + K, none⟩) : Sl w ad (len - K) (l.drop K) := by
  have h2 := h.cut (K := K) (N := len - K) (by omega) (ad := ad) hd
  rwa [List.take_of_length_le (by rw [List.length_drop, h.len]; exact Nat.le_refl _)] at h2
set_option maxRecDepth 100000 in
set_option maxHeartbeats 8000000 in
theorem readP (w : World) (ad : Option Addr) (len cap : Nat) (b : List Int) (h : Sl w ad len b) (hG : Gv w) (hl : len ≤ 100000000) (hlc : len ≤ cap) (hcm : cap ≤ 9223372036854775807) (hno : ad = none → len = 0 ∧ cap = 0) (hlo : 2 ≤ w.heap.size) :
    Calls Tryd.prog 15 #[.slice ad len cap] w (RdP w b) := by
  have HS := hidden h
  have HG := hidden hG
  have hlen := h.len
  have HU := hidden (Q.uint_any ad len cap b w h (by omega))
  have hdl := Q.dec_le b
  have HN := hidden hno
  by_cases h0 : len = 0
  · subst h0
    have HR : Hid (rdR b = some []) := hidden (by rw [List.eq_nil_of_length_eq_zero hlen]; rfl)
    clear h hG hno hlen hdl
    go_enter Tryd.func15, Tryd.ntmps15
    go_wp2
    go_ret2
    exact ⟨none, 0, [], 0, rfl, World.ownsRow_nil _ _ _ _, by simp, Below.refl _ _, .inl ⟨HR.out, rfl⟩⟩
  · have hbn : b ≠ [] := fun e => h0 (by rw [← hlen, e]; rfl)
    have h0z : ¬ (len : Int) = 0 := by omega
    by_cases h1 : (Q.dec b).1 = 0
    · have HR : Hid (rdR b = none) := hidden (by unfold rdR; rw [if_neg hbn, if_pos h1])
      rw [h1] at HU
      generalize (Q.dec b).2 = k at *
      clear h hG hno hlen hdl h1
      go_enter Tryd.func15, Tryd.ntmps15
      go_wp2_with fail
      refine HU.out.mono ?_
      rintro e w1 ⟨rfl, rfl⟩
      go_wp2
      go_ret2
      exact ⟨none, 0, [], 100, rfl, World.ownsRow_nil _ _ _ _, by simp, Below.refl _ _, .inr ⟨HR.out, rfl, rfl⟩⟩
    · obtain ⟨bb, off, rfl, hbl, _⟩ := h.at (by omega)
      have HGO := hidden (fun (l : List Sm) (B' : List Bool) (wg : Bool) => rdR_go (l := l) (B' := B') (wg := wg) hbn h1)
      have hd64 : (Q.dec b).1 < 18446744073709551616 := by have := (Q.dec_bound b h.byte).1; omega
      generalize (Q.dec b).1 = n at *
      generalize (Q.dec b).2 = k at *
      have hk : k ≤ len := by omega
      have h1z : ¬ (n : Int) = 0 := by omega
      clear h hG hno hbn
      have CUT := hidden (fun (ad : Option Addr) (hh : 0 < len - k → ad = some ⟨bb, off + k, none⟩) => sl_tail HS.out hk hh)
      go_enter Tryd.func15, Tryd.ntmps15
      go_wp2_with fail
      refine HU.out.mono ?_
      rintro e w1 ⟨rfl, rfl⟩
      go_wp2_with fail
      all_goals
        refine (newReader_any _ _ _ (b.drop k) w1 (CUT.out _ (by first | (intro _; rfl) | (intro hh; omega))) (by omega) (by intro e; cases e)).mono ?_
        rintro e w2 ⟨p, rfl, hp, hR, bl2⟩
        have HR := hidden hR
        have BL2 := hidden bl2
        have hpl : p < w2.heap.size := by obtain ⟨_, _, _, hB, _⟩ := hR; exact hB.lt
        clear hR bl2
        go_wp2_with (first
          | (refine wpList_build_to rfl 77 #[(0, .tmp 21)] rfl [(0, .pointer (some ⟨p, 0, none⟩))] #[.pointer (some ⟨p, 0, none⟩), .bool false] rfl (built77 p) ?_)
          | (refine wpList_box_blk rfl 77 (.tmp 22) rfl [.pointer (some ⟨p, 0, none⟩), .bool false] rfl ?_
             intro w3 B3 bl3 hz3
             have X3 : Hid (XS w3 w2.heap.size p (ub (b.drop k)) false) := hidden ⟨B3, ⟨b.drop k, 0, HR.out.same (Chg.of_below bl3), by rw [List.length_drop]; omega, by rw [List.drop_zero]⟩, hpl⟩
             have BL3 := hidden (BL2.out.trans (bl3.mono BL2.out.size))
             have G3 := hidden ((HG.out.later BL2.out).later bl3)
             have hz3' := hz3
             clear B3 bl3 hz3))
        refine (samplesP w3 w2.heap.size p n (ub (b.drop k)) X3.out G3.out (by omega) (by omega) hd64).mono ?_
        rintro e w4 ⟨ad4, c4, l, B4, wg4, rfl, o4, k4, x4, e4, ch4⟩
        have O4 := hidden o4
        have K4 := hidden k4
        have X4 := hidden x4
        have E4 := hidden e4
        have C4 := hidden ch4
        clear o4 k4 x4 e4 ch4
        go_wp2_with fail
        refine (endP w4 w2.heap.size p B4 wg4 X4.out).mono ?_
        rintro e w5 ⟨rfl, ⟨B5, x5⟩, ch5⟩
        have hbl3 := BL3.out.size
        have hle3 := X3.out.blk.lt
        have BL5 : Hid (Below w1.heap.size w1 w5) := hidden (BL3.out.trans ((C4.out.trans ch5 (fun i _ hi => hi)).below hbl3 (fun i hi => by unfold F2 at hi; have := BL2.out.size; omega)))
        have O5 := hidden (ch5.owns O4.out (own_far O4.out hle3 hpl))
        have GO := hidden (HGO.out l B4 wg4 E4.out)
        obtain ⟨wg, hwg⟩ : ∃ wg, (wg4 || !decide (B4.length < 8 ∧ vl B4 = 0)) = wg := ⟨_, rfl⟩
        rw [hwg] at GO x5
        have c1 := x5.blk.cell 1
        simp at c1
        have hol : w1.heap.size ≤ w3.heap.size := hbl3
        have O6 := hidden (show w5.ownsRow w1.heap.size 32 2 (.slice ad4 l.length c4) l.length (cS l) from owns_base O5.out (fun g hg => Nat.le_trans hol (O5.out.lt g hg).1))
        clear x5 ch5 hwg
        cases wg with
        | true =>
          go_wp2
          go_ret2
          exact ⟨none, 0, [], 100, rfl, World.ownsRow_nil _ _ _ _, by simp, BL5.out, .inr ⟨GO.out.2 (by first | rfl | trivial), rfl, rfl⟩⟩
        | false =>
          go_wp2
          go_ret2
          exact ⟨ad4, c4, l, 0, rfl, O6.out, K4.out, BL5.out, .inl ⟨GO.out.1 (by first | rfl | trivial), rfl⟩⟩

end Go.Proofs.YtcgjmioncbihhaaDoor
