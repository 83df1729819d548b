/-
  PoolPlays: the walk.
-/
import Derived.Test.YtjlpkgepiajapaaDoorSaJ
import Derived.Deep.CutBlock
namespace Go.Proofs.YtjlpkgepiajapaaDoor
open Go.RowKit
set_option linter.unusedVariables false
set_option linter.unusedSimpArgs false

set_option maxRecDepth 100000 in
set_option maxHeartbeats 8000000 in
theorem plays_any (zd : Option Addr) (zn zc : Nat) (zl : List Int) (ad : Option Addr) (len cap : Nat) (l : List Stq) (w : World) (hz : zl.length = zn) (hzm : Mi w zd zl) (hzl : zn ≤ 9223372036854775807) (hl : l.length = len) (hs : Scq w ad l) (hlen : len ≤ 9223372036854775807) (hG : Gv w) (hw : 0 < w.heap.size) :
    Calls Tryd.prog 3 #[.slice zd zn zc, .slice ad len cap] w fun e w' => e = .returned (.bool true) ∧ Below w.heap.size w w' := by
  have HG := hidden hG
  have HL := hidden hl
  have HT := hidden hs
  have HW := hidden hw
  have HZ := hidden hz
  have HZM := hidden hzm
  have hb33 : Tryd.prog.built 33 [] = some #[.pointer none, .pointer none, .pointer none, .pointer none, .pointer none, .pointer none, .slice none 0 0, .slice none 0 0] := by kernel_rfl
  clear hG hl hs hw hz hzm
  go_enter Tryd.func3, Tryd.ntmps3
  go_wp2_with fail
  refine (shownP w HG.out HW.out).mono ?_
  rintro e w1 ⟨rfl, b1⟩
  have B1 := hidden b1
  clear b1
  go_wp2_with fail
  have HI : Hid (PI w (w1.alloc (.cells #[.pointer none, .pointer none, .pointer none, .pointer none, .pointer none, .pointer none, .slice none 0 0, .slice none 0 0] 33)) w1.heap.size 0 (fun _ => 0) (fun _ => 0) (fun _ => 0) (fun _ => 0) (fun _ _ => False)) := hidden (by
    have b2 : Below w1.heap.size w1 (w1.alloc (.cells #[.pointer none, .pointer none, .pointer none, .pointer none, .pointer none, .pointer none, .slice none 0 0, .slice none 0 0] 33)) := (Below.refl _ _).alloc (Nat.le_refl _) _
    exact ⟨B1.out.trans (b2.mono B1.out.size), (HG.out.later B1.out).later b2, HW.out, Blk.new w1 33 (iC 0 (fun _ => 0) (fun _ => 0)), fun k hk => absurd hk (by omega), fun k hk => absurd hk (by omega), ⟨B1.out.size, fun k hk => absurd hk (by omega), fun k i hk => absurd hk (by omega)⟩, fun k j hk => absurd hk (by omega), fun k j hk => absurd hk (by omega)⟩)
  clear hb33
  generalize w1.alloc (.cells #[.pointer none, .pointer none, .pointer none, .pointer none, .pointer none, .pointer none, .slice none 0 0, .slice none 0 0] 33) = wi at *
  generalize w1.heap.size = v at *
  go_loopw [7] (fun v7 wx => ∃ (K : Nat) (p r q n : Nat → Nat) (F : Nat → Nat → Prop), v7 = .int .i64 (K : Int) ∧ K ≤ 3 ∧ Hid (PI w wx v K p r q n F)) (fun v7 _ => 3 - (intOf v7).toNat)
  case atStart => exact ⟨0, _, _, _, _, _, rfl, by omega, HI⟩
  case round =>
    obtain ⟨K, p, r, q, n, F, rfl, hK, hI⟩ := hrel
    clear HI
    by_cases hK3 : K < 3
    · have hd3 : decide ((K : Int) < 3) = true := by simp; omega
      by_cases hKz : K < zn
      · obtain ⟨x, hx⟩ : ∃ x, zl[K]? = some x := ⟨zl[K]'(by have := HZ.out; omega), by simp⟩
        obtain ⟨b0, off, rfl, hb0, hcell⟩ := HZM.out.at' (by rintro rfl; simp at hx)
        have cx := hcell K _ hx
        rw [← hI.out.bel.cell (p := ⟨b0, _, none⟩) hb0] at cx
        clear hcell hx hb0
        by_cases hv : 1 ≤ x ∧ x ≤ 65536
        · obtain ⟨m, rfl⟩ : ∃ m : Nat, x = (m : Int) := ⟨x.toNat, by omega⟩
          go_wp2_with fail
          refine (newX m (by omega) (by omega) wr).mono ?_
          rintro e w2 ⟨x1, G, rfl, q2, b2, z2, g2⟩
          have Q2 := hidden (And.intro q2 (And.intro b2 g2))
          clear q2 b2 z2 g2
          go_wp2_with fail
          refine (newR m (by omega) (by omega) w2).mono ?_
          rintro e w3 ⟨y1, z1, rfl, r3, b3, zy, zz⟩
          have R3 := hidden (And.intro r3 (And.intro b3 zz))
          clear r3 b3 zy zz

          have bw : Below wr.heap.size wr w3 := Q2.out.2.1.trans (R3.out.2.1.mono Q2.out.2.1.size)
          have hqq := Q2.out.1.later R3.out.2.1
          have hrr := R3.out.1
          have hgg := Q2.out.2.2
          have hzz := Nat.le_trans Q2.out.2.1.size R3.out.2.2

          have s1 : w3.cell? ⟨v, K, none⟩ = some (pcV K p K) := by rw [(hI.out.later bw).blk.cell]; rcases three hK3 with rfl | rfl | rfl <;> rfl
          have f1 := (hI.out.later bw).blk.frozen K
          have s2 : (w3.setCell ⟨v, K, none⟩ (.pointer (some ⟨x1, 0, none⟩))).cell? ⟨v, 3 + K, none⟩ = some (pcV K r K) := by rw [((hI.out.later bw).blk.set K _).cell]; rcases three hK3 with rfl | rfl | rfl <;> rfl
          have f2 := ((hI.out.later bw).blk.set K (.pointer (some ⟨x1, 0, none⟩))).frozen (3 + K)
          have HA := hidden (PI.add hK3 hI.out bw hqq hrr hgg hzz)
          clear bw hqq hrr hgg hzz
          go_wp2_with fail
          refine ⟨⟨K + 1, _, _, _, _, _, by first | rfl | simp, by omega, HA⟩, ?_⟩
          show 3 - ((K : Int) + 1).toNat < 3 - (K : Int).toNat
          omega
        · go_wp2_with fail
          refine (newBad x (by omega) wr).mono ?_
          rintro e w9 ⟨rfl, rfl⟩
          go_wp2_with fail
          refine (newRbad x (by omega) w9).mono ?_
          rintro e w8 ⟨rfl, rfl⟩

          go_wp2_with fail
          refine (newX 4 (by omega) (by omega) w8).mono ?_
          rintro e w2 ⟨x1, G, rfl, q2, b2, z2, g2⟩
          have Q2 := hidden (And.intro q2 (And.intro b2 g2))
          clear q2 b2 z2 g2
          go_wp2_with fail
          refine (newR 4 (by omega) (by omega) w2).mono ?_
          rintro e w3 ⟨y1, z1, rfl, r3, b3, zy, zz⟩
          have R3 := hidden (And.intro r3 (And.intro b3 zz))
          clear r3 b3 zy zz

          have bw : Below w8.heap.size w8 w3 := Q2.out.2.1.trans (R3.out.2.1.mono Q2.out.2.1.size)
          have hqq := Q2.out.1.later R3.out.2.1
          have hrr := R3.out.1
          have hgg := Q2.out.2.2
          have hzz := Nat.le_trans Q2.out.2.1.size R3.out.2.2

          have s1 : w3.cell? ⟨v, K, none⟩ = some (pcV K p K) := by rw [(hI.out.later bw).blk.cell]; rcases three hK3 with rfl | rfl | rfl <;> rfl
          have f1 := (hI.out.later bw).blk.frozen K
          have s2 : (w3.setCell ⟨v, K, none⟩ (.pointer (some ⟨x1, 0, none⟩))).cell? ⟨v, 3 + K, none⟩ = some (pcV K r K) := by rw [((hI.out.later bw).blk.set K _).cell]; rcases three hK3 with rfl | rfl | rfl <;> rfl
          have f2 := ((hI.out.later bw).blk.set K (.pointer (some ⟨x1, 0, none⟩))).frozen (3 + K)
          have HA := hidden (PI.add hK3 hI.out bw hqq hrr hgg hzz)
          clear bw hqq hrr hgg hzz
          go_wp2_with fail
          refine ⟨⟨K + 1, _, _, _, _, _, by first | rfl | simp, by omega, HA⟩, ?_⟩
          show 3 - ((K : Int) + 1).toNat < 3 - (K : Int).toNat
          omega
      · go_wp2_with fail
        refine (newX 4 (by omega) (by omega) wr).mono ?_
        rintro e w2 ⟨x1, G, rfl, q2, b2, z2, g2⟩
        have Q2 := hidden (And.intro q2 (And.intro b2 g2))
        clear q2 b2 z2 g2
        go_wp2_with fail
        refine (newR 4 (by omega) (by omega) w2).mono ?_
        rintro e w3 ⟨y1, z1, rfl, r3, b3, zy, zz⟩
        have R3 := hidden (And.intro r3 (And.intro b3 zz))
        clear r3 b3 zy zz

        have bw : Below wr.heap.size wr w3 := Q2.out.2.1.trans (R3.out.2.1.mono Q2.out.2.1.size)
        have hqq := Q2.out.1.later R3.out.2.1
        have hrr := R3.out.1
        have hgg := Q2.out.2.2
        have hzz := Nat.le_trans Q2.out.2.1.size R3.out.2.2

        have s1 : w3.cell? ⟨v, K, none⟩ = some (pcV K p K) := by rw [(hI.out.later bw).blk.cell]; rcases three hK3 with rfl | rfl | rfl <;> rfl
        have f1 := (hI.out.later bw).blk.frozen K
        have s2 : (w3.setCell ⟨v, K, none⟩ (.pointer (some ⟨x1, 0, none⟩))).cell? ⟨v, 3 + K, none⟩ = some (pcV K r K) := by rw [((hI.out.later bw).blk.set K _).cell]; rcases three hK3 with rfl | rfl | rfl <;> rfl
        have f2 := ((hI.out.later bw).blk.set K (.pointer (some ⟨x1, 0, none⟩))).frozen (3 + K)
        have HA := hidden (PI.add hK3 hI.out bw hqq hrr hgg hzz)
        clear bw hqq hrr hgg hzz
        go_wp2_with fail
        refine ⟨⟨K + 1, _, _, _, _, _, by first | rfl | simp, by omega, HA⟩, ?_⟩
        show 3 - ((K : Int) + 1).toNat < 3 - (K : Int).toNat
        omega
    · have hK9 : K = 3 := by omega
      have HX : Hid (PX w v p r q n wr) := hidden (by have h9 := hI.out; rw [hK9] at h9; exact h9.px)
      clear hI hK9 hK
      go_wp2_with fail
      clear hK3
      go_loopw [13] (fun v13 wx => ∃ i : Nat, v13 = .int .i64 (i : Int) ∧ i ≤ len ∧ Hid (PX w v p r q n wx)) (fun v13 _ => len - (intOf v13).toNat)
      case atStart => exact ⟨0, rfl, by omega, HX⟩
      case round =>
        obtain ⟨i, rfl, hi, hX⟩ := hrel
        clear HX
        by_cases hlt : i < len ∧ i < 300
        · obtain ⟨hlt, h300⟩ := hlt
          obtain ⟨o, ho⟩ : ∃ o, l[i]? = some o := ⟨l[i]'(by have := HL.out; omega), by simp⟩
          obtain ⟨bb, off, rfl, hbb, hcell⟩ := HT.out.at' (by rintro rfl; simp at ho)
          have hok := HT.out.ok o (List.mem_of_getElem? ho)
          have hbel : Below w.heap.size w wr := by obtain ⟨_, _, _, _, _, _, _, hP, _⟩ := hX.out; exact hP.bel
          have cc : ∀ (j : Nat) (u : Value), o.cells[j]? = some u → wr.cell? ⟨bb, off + i * 5 + j, none⟩ = some u := fun j u hu => by
            rw [hbel.cell (p := ⟨bb, off + i * 5 + j, none⟩) hbb]
            exact hcell i o ho j u hu
          have d0 := cc 0 _ rfl
          have d1 := cc 1 _ rfl
          have d2 := cc 2 _ rfl
          have d3 := cc 3 _ rfl
          have d4 := cc 4 _ rfl
          rw [Nat.add_zero] at d0
          have HQ := hidden (stepP w v p r q n o.kd o.on o.sl o.s o.ad o.len o.c o.l wr hX.out hok.on hok.sl hok.byt hok.no hok.lc hok.cm)
          clear cc hok hbel hcell ho hbb
          go_wp2_with (refine HQ.out.mono ?_; clear HQ; rintro e w5 ⟨rfl, h5⟩; have H5 := hidden h5; clear h5)
          refine ⟨⟨i + 1, by first | rfl | simp, by omega, H5⟩, ?_⟩
          show len - ((i : Int) + 1).toNat < len - (i : Int).toNat
          omega
        · have hend : ¬ (i : Int) < (len : Int) ∨ ((i : Int) < (len : Int) ∧ ¬ (i : Int) < 300) := by omega
          clear hlt
          obtain ⟨st, F9, B9, vb, vn, Lb, Ln, hP, _⟩ := hX.out
          have HQ := hidden (looksP w wr v p r q n st st F9 B9 vb vn Lb Ln hP)
          clear hP hX
          rcases hend with h1 | ⟨h1, h2⟩
          · go_wp2_with (refine HQ.out.mono ?_; clear HQ; rintro e w5 ⟨rfl, h5⟩; have H5 := hidden h5; clear h5)
            go_ret
            exact ⟨rfl, H5.out⟩
          · go_wp2_with (refine HQ.out.mono ?_; clear HQ; rintro e w5 ⟨rfl, h5⟩; have H5 := hidden h5; clear h5)
            go_ret
            exact ⟨rfl, H5.out⟩

end Go.Proofs.YtjlpkgepiajapaaDoor
