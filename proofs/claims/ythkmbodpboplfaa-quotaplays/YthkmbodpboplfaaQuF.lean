/-
  Statement QuotaBounds: its walk.
-/
import Derived.Test.YthkmbodpboplfaaQuE
import Derived.LoopTactic
namespace Go.Proofs.Ythkmbodpboplfaa
open Go.RowKit
set_option linter.unusedVariables false
set_option linter.unusedSimpArgs false

/-- Takes as they came in. -/
structure Tk (w : World) (ad : Option Addr) (l : List (Int × Int × Int)) : Prop where
  ok : ∀ y ∈ l, I64 y.1 ∧ I64 y.2.1 ∧ I64 y.2.2
  at' : l ≠ [] → ∃ b off, ad = some ⟨b, off, none⟩ ∧ b < w.heap.size ∧ ∀ i y, l[i]? = some y → w.cell? ⟨b, off + i * 3, none⟩ = some (.int .i64 y.1) ∧ w.cell? ⟨b, off + i * 3 + 1, none⟩ = some (.int .i64 y.2.1) ∧ w.cell? ⟨b, off + i * 3 + 2, none⟩ = some (.int .i64 y.2.2)

def tT : ByteArray := ⟨#[116]⟩
/-- What a round holds. -/
structure BI (w wr : World) (p b : Nat) (a : Ac) (ms mx : Int) : Prop where
  bk : Bk wr p b (updA (fun _ => none) tT (some a))
  ok : OkA a
  ms : a.ms = ms
  mx : a.mx = mx
  bel : Below w.heap.size w wr
  hb : w.heap.size ≤ b
theorem upd_get (a : Ac) : getA (updA (fun _ => none) tT (some a)) tT = a := by simp [getA, updA]
theorem upd_some (a : Ac) : (updA (fun _ => none) tT (some a) tT).isSome = true := by simp [updA]
theorem upd_upd (a c : Ac) : updA (updA (fun _ => none) tT (some a)) tT (some c) = updA (fun _ => none) tT (some c) := by
  funext t
  unfold updA
  split <;> rfl
theorem take_yes (a : Ac) (n x y : Int) (h0 : 0 ≤ x) (h1 : 0 ≤ y) (h2 : x ≤ (roomA a n).1) (h3 : y ≤ (roomA a n).2) :
    takeA (updA (fun _ => none) tT (some a)) tT n x y = (0, updA (fun _ => none) tT (some ⟨(durA a n).ms, (durA a n).mx, (durA a n).se + x, (durA a n).wr + y, (durA a n).wi⟩)) := by
  unfold takeA
  rw [upd_some, upd_get, if_neg (by simp), if_neg (by omega), if_neg (by omega), if_neg (by omega), upd_upd]
theorem take_no (a : Ac) (n x y : Int) (h : x < 0 ∨ y < 0 ∨ (roomA a n).1 < x ∨ (roomA a n).2 < y) :
    ∃ c : Int, takeA (updA (fun _ => none) tT (some a)) tT n x y = (c, updA (fun _ => none) tT (some a)) ∧ (c == 0) = false ∧ I64 c := by
  unfold takeA
  rw [upd_some, upd_get, if_neg (by simp)]
  split
  · exact ⟨1, rfl, rfl, by unfold I64; omega⟩
  · split
    · exact ⟨150, rfl, rfl, by unfold I64; omega⟩
    · split
      · exact ⟨151, rfl, rfl, by unfold I64; omega⟩
      · omega

set_option maxRecDepth 100000 in
set_option maxHeartbeats 8000000 in
theorem bounds_any (ms mx : Int) (ad : Option Addr) (len cap : Nat) (l : List (Int × Int × Int)) (w : World) (hl : l.length = len) (hs : Tk w ad l) (hlen : len ≤ 9223372036854775807) :
    Calls Try.prog 5 #[.int .i64 ms, .int .i64 mx, .slice ad len cap] w fun e w' => e = .returned (.bool true) ∧ Below w.heap.size w w' := by
  have HS := hidden (shownP w)
  have HL := hidden hl
  have HT := hidden hs
  clear hl hs
  go_enter Try.func5, Try.ntmps5
  go_wp2_with (refine HS.out.mono ?_; clear HS; rintro e w1 ⟨rfl, b1⟩)
  have BL1 := hidden b1
  have HN := hidden (newP w1)
  go_wp2_with (refine HN.out.mono ?_; rintro e w2 ⟨p, b, rfl, h2, b2, hp, hb⟩)
  have H2 := hidden h2
  have BL2 := hidden (b1.trans (b2.mono b1.size))
  have hb' : w.heap.size ≤ b := by have := b1.size; omega
  clear h2 b2 HN hp hb b1
  have HC := hidden (setP tT ms mx p b _ w2 H2.out)
  by_cases hq : ∃ a : Ac, OkA a ∧ a.ms = ms ∧ a.mx = mx ∧ a.se = 0 ∧ a.wr = 0 ∧ a.wi = 0
  · obtain ⟨a, ha, e1, e2, e3, e4, e5⟩ := hq
    have ea : putA (fun _ => none) tT ⟨ms, mx, 0, 0, 0⟩ = (0, updA (fun _ => none) tT (some a)) := by
      have h1 := ha.ms
      have h2 := ha.mx
      rw [e1] at h1
      rw [e2] at h2
      unfold putA
      rw [if_neg (by simp [limB]; omega), if_neg (by simp [bndA]; omega), if_neg (by simp)]
      have : a = ⟨ms, mx, 0, 0, 0⟩ := Ac.ext e1 e2 e3 e4 e5
      rw [this]
    rw [ea] at HC
    clear ea
    go_wp2_with (refine HC.out.mono ?_; clear HC; rintro e w3 ⟨rfl, h3, c3⟩)
    have HB3 : Hid (BI w w3 p b a ms mx) := hidden ⟨h3, ha, e1, e2, BL2.out.trans (c3.below BL2.out.size (fun i hi => by omega)), hb'⟩
    clear h3 c3 ha e1 e2
    go_loopw [9, 10, 11, 12] (fun v9 v10 v11 v12 wx => ∃ (i : Nat) (a : Ac), v9 = .int .i64 a.se ∧ v10 = .int .i64 a.wi ∧ v11 = .int .i64 a.wr ∧ v12 = .int .i64 (i : Int) ∧ i ≤ len ∧ Hid (BI w wx p b a ms mx)) (fun _ _ _ v12 _ => len - (intOf v12).toNat)
    case atStart => exact ⟨0, a, by rw [e3], by rw [e5], by rw [e4], rfl, by omega, HB3⟩
    case round =>
      obtain ⟨i, ⟨s1, s2, c, d, q⟩, rfl, rfl, rfl, rfl, hi, hI⟩ := hrel
      obtain rfl : s1 = ms := hI.out.ms
      obtain rfl : s2 = mx := hI.out.mx
      clear e3 e4 e5 HB3 H2 BL1 BL2
      by_cases hlt : i < len
      · obtain ⟨⟨n, x, y⟩, hz⟩ : ∃ z, l[i]? = some z := ⟨l[i]'(by have := HL.out; omega), by simp⟩
        obtain ⟨bb, off, rfl, hbb, hcell⟩ := HT.out.at' (by rintro rfl; simp at hz)
        obtain ⟨t0, t1, t2⟩ := hcell i _ hz
        obtain ⟨z0, z1, z2⟩ := HT.out.ok _ (List.mem_of_getElem? hz)
        clear hcell hz
        simp only at t0 t1 t2 z0 z1 z2
        rw [← hI.out.bel.cell (p := ⟨bb, _, none⟩) hbb] at t0 t1 t2
        have hok := hI.out.ok
        have o1 := hok.ms
        have o2 := hok.mx
        have o3 := hok.se
        have o4 := hok.wr
        have o5 := hok.wi
        simp only at o1 o2 o3 o4 o5
        clear hok
        unfold I64 at z0 z1 z2
        have K0 := hidden (Blk.new wr 50 [.int .i64 n, .int .i64 x, .int .i64 y])
        have H0 := hidden (hI.out.bk.later (below_alloc (o := .cells [.int .i64 n, .int .i64 x, .int .i64 y].toArray 50)))
        have HR := hidden (roomBP tT n p b _ _ H0.out)
        rw [upd_get] at HR
        have hbl : b < wr.heap.size := hI.out.bk.mp.lt
        by_cases hw : q < n
        · have ed : durA ⟨s1, s2, c, d, q⟩ n = ⟨s1, s2, c, 0, n⟩ := by simp [durA, hw]
          have er : roomA ⟨s1, s2, c, d, q⟩ n = (s1 - c, s2) := by unfold roomA; rw [ed]; simp
          rw [er] at HR
          by_cases hf : 0 ≤ x ∧ 0 ≤ y ∧ x ≤ s1 - c ∧ y ≤ s2
          · obtain ⟨f1, f2, f3, f4⟩ := hf
            have et := take_yes ⟨s1, s2, c, d, q⟩ n x y f1 f2 (by rw [er]; exact f3) (by rw [er]; exact f4)
            rw [ed] at et
            have HA := hidden (ok_take (n := n) (x := x) (y := y) hI.out.ok (by omega) (by omega) (by rw [er]; simp only; omega) (by rw [er]; simp only; omega))
            rw [ed] at HA
            clear ed er
            simp only [Int.zero_add] at et HA
            have ET := hidden et
            clear et
            go_wp2_with (first
              | (refine HR.out.mono ?_; clear HR; rintro e w4 ⟨rfl, b4⟩; have K4 := hidden (K0.out.later b4); have f50 := K4.out.cell 0; have f51 := K4.out.cell 1; have f52 := K4.out.cell 2; simp only [List.getElem?_cons_zero, List.getElem?_cons_succ] at f50 f51 f52; have HK := hidden (takeP tT n x y p b _ _ (H0.out.later b4) (by omega)); rw [ET.out] at HK)
              | (refine HK.out.mono ?_; clear HK; rintro e w5 ⟨rfl, h5, c5⟩; have K5 := hidden (c5.blk K4.out (by omega)); have f60 := K5.out.cell 0; have f61 := K5.out.cell 1; have f62 := K5.out.cell 2; simp only [List.getElem?_cons_zero, List.getElem?_cons_succ] at f60 f61 f62))
            have H5 := hidden h5
            have BL5 := hidden ((below_more hI.out.bel _).trans ((b4.mono (below_more hI.out.bel _).size).trans (c5.below (Nat.le_trans (below_more hI.out.bel _).size b4.size) (fun i hi => by omega))))
            clear h5
            refine ⟨⟨i + 1, ⟨s1, s2, c + x, y, n⟩, by first | rfl | simp, by first | rfl | simp, by first | rfl | simp, by first | rfl | simp, by omega, hidden ⟨H5.out, HA.out, rfl, rfl, BL5.out, hb'⟩⟩, ?_⟩
            show len - ((i : Int) + 1).toNat < len - (i : Int).toNat
            omega
          · obtain ⟨cc, et, hcc, hci⟩ := take_no ⟨s1, s2, c, d, q⟩ n x y (by rw [er]; simp only; omega)
            clear ed er
            rcases (show x < 0 ∨ (0 ≤ x ∧ y < 0) ∨ (0 ≤ x ∧ 0 ≤ y ∧ s1 - c < x) ∨ (0 ≤ x ∧ 0 ≤ y ∧ x ≤ s1 - c ∧ s2 < y) by omega) with f1 | ⟨f1, f2⟩ | ⟨f1, f2, f3⟩ | ⟨f1, f2, f3, f4⟩
            all_goals
              clear hf
              try have f5 : decide (y ≤ s2) = false := by (simp; omega)
              have ET := hidden et
              clear et
              go_wp2_with (first
                | (refine HR.out.mono ?_; clear HR; rintro e w4 ⟨rfl, b4⟩; have K4 := hidden (K0.out.later b4); have f50 := K4.out.cell 0; have f51 := K4.out.cell 1; have f52 := K4.out.cell 2; simp only [List.getElem?_cons_zero, List.getElem?_cons_succ] at f50 f51 f52; have HK := hidden (takeP tT n x y p b _ _ (H0.out.later b4) (by omega)); rw [ET.out] at HK)
                | (refine HK.out.mono ?_; clear HK; rintro e w5 ⟨rfl, h5, c5⟩; have K5 := hidden (c5.blk K4.out (by omega)); have f60 := K5.out.cell 0; have f61 := K5.out.cell 1; have f62 := K5.out.cell 2; simp only [List.getElem?_cons_zero, List.getElem?_cons_succ] at f60 f61 f62))
              have H5 := hidden h5
              have BL5 := hidden ((below_more hI.out.bel _).trans ((b4.mono (below_more hI.out.bel _).size).trans (c5.below (Nat.le_trans (below_more hI.out.bel _).size b4.size) (fun i hi => by omega))))
              clear h5
              refine ⟨⟨i + 1, ⟨s1, s2, c, d, q⟩, by first | rfl | simp, by first | rfl | simp, by first | rfl | simp, by first | rfl | simp, by omega, hidden ⟨H5.out, hI.out.ok, rfl, rfl, BL5.out, hb'⟩⟩, ?_⟩
              show len - ((i : Int) + 1).toNat < len - (i : Int).toNat
              omega
        · have ed : durA ⟨s1, s2, c, d, q⟩ n = ⟨s1, s2, c, d, q⟩ := by simp [durA, hw]
          have er : roomA ⟨s1, s2, c, d, q⟩ n = (s1 - c, s2 - d) := by unfold roomA; rw [ed]
          rw [er] at HR
          by_cases hf : 0 ≤ x ∧ 0 ≤ y ∧ x ≤ s1 - c ∧ y ≤ s2 - d
          · obtain ⟨f1, f2, f3, f4⟩ := hf
            have et := take_yes ⟨s1, s2, c, d, q⟩ n x y f1 f2 (by rw [er]; exact f3) (by rw [er]; exact f4)
            rw [ed] at et
            have HA := hidden (ok_take (n := n) (x := x) (y := y) hI.out.ok (by omega) (by omega) (by rw [er]; simp only; omega) (by rw [er]; simp only; omega))
            rw [ed] at HA
            clear ed er
            simp only at et HA
            have ET := hidden et
            clear et
            go_wp2_with (first
              | (refine HR.out.mono ?_; clear HR; rintro e w4 ⟨rfl, b4⟩; have K4 := hidden (K0.out.later b4); have f50 := K4.out.cell 0; have f51 := K4.out.cell 1; have f52 := K4.out.cell 2; simp only [List.getElem?_cons_zero, List.getElem?_cons_succ] at f50 f51 f52; have HK := hidden (takeP tT n x y p b _ _ (H0.out.later b4) (by omega)); rw [ET.out] at HK)
              | (refine HK.out.mono ?_; clear HK; rintro e w5 ⟨rfl, h5, c5⟩; have K5 := hidden (c5.blk K4.out (by omega)); have f60 := K5.out.cell 0; have f61 := K5.out.cell 1; have f62 := K5.out.cell 2; simp only [List.getElem?_cons_zero, List.getElem?_cons_succ] at f60 f61 f62))
            have H5 := hidden h5
            have BL5 := hidden ((below_more hI.out.bel _).trans ((b4.mono (below_more hI.out.bel _).size).trans (c5.below (Nat.le_trans (below_more hI.out.bel _).size b4.size) (fun i hi => by omega))))
            clear h5
            refine ⟨⟨i + 1, ⟨s1, s2, c + x, d + y, q⟩, by first | rfl | simp, by first | rfl | simp, by first | rfl | simp, by first | rfl | simp, by omega, hidden ⟨H5.out, HA.out, rfl, rfl, BL5.out, hb'⟩⟩, ?_⟩
            show len - ((i : Int) + 1).toNat < len - (i : Int).toNat
            omega
          · obtain ⟨cc, et, hcc, hci⟩ := take_no ⟨s1, s2, c, d, q⟩ n x y (by rw [er]; simp only; omega)
            clear ed er
            rcases (show x < 0 ∨ (0 ≤ x ∧ y < 0) ∨ (0 ≤ x ∧ 0 ≤ y ∧ s1 - c < x) ∨ (0 ≤ x ∧ 0 ≤ y ∧ x ≤ s1 - c ∧ s2 - d < y) by omega) with f1 | ⟨f1, f2⟩ | ⟨f1, f2, f3⟩ | ⟨f1, f2, f3, f4⟩
            all_goals
              clear hf
              try have f5 : decide (y ≤ s2 - d) = false := by (simp; omega)
              have ET := hidden et
              clear et
              go_wp2_with (first
                | (refine HR.out.mono ?_; clear HR; rintro e w4 ⟨rfl, b4⟩; have K4 := hidden (K0.out.later b4); have f50 := K4.out.cell 0; have f51 := K4.out.cell 1; have f52 := K4.out.cell 2; simp only [List.getElem?_cons_zero, List.getElem?_cons_succ] at f50 f51 f52; have HK := hidden (takeP tT n x y p b _ _ (H0.out.later b4) (by omega)); rw [ET.out] at HK)
                | (refine HK.out.mono ?_; clear HK; rintro e w5 ⟨rfl, h5, c5⟩; have K5 := hidden (c5.blk K4.out (by omega)); have f60 := K5.out.cell 0; have f61 := K5.out.cell 1; have f62 := K5.out.cell 2; simp only [List.getElem?_cons_zero, List.getElem?_cons_succ] at f60 f61 f62))
              have H5 := hidden h5
              have BL5 := hidden ((below_more hI.out.bel _).trans ((b4.mono (below_more hI.out.bel _).size).trans (c5.below (Nat.le_trans (below_more hI.out.bel _).size b4.size) (fun i hi => by omega))))
              clear h5
              refine ⟨⟨i + 1, ⟨s1, s2, c, d, q⟩, by first | rfl | simp, by first | rfl | simp, by first | rfl | simp, by first | rfl | simp, by omega, hidden ⟨H5.out, hI.out.ok, rfl, rfl, BL5.out, hb'⟩⟩, ?_⟩
              show len - ((i : Int) + 1).toNat < len - (i : Int).toNat
              omega
      · obtain rfl : i = len := by omega
        go_wp2_with fail
        go_ret
        exact ⟨rfl, hI.out.bel⟩
  · have ea : ∃ cc, putA (fun _ => none) tT ⟨ms, mx, 0, 0, 0⟩ = (cc, fun _ => none) ∧ (cc == 0) = false := by
      unfold putA
      split
      · exact ⟨152, rfl, rfl⟩
      · next h1 =>
        exfalso
        simp [limB] at h1
        exact hq ⟨⟨ms, mx, 0, 0, 0⟩, ⟨by simp; omega, by simp; omega, by simp; omega, by simp; omega, by simp⟩, rfl, rfl, rfl, rfl, rfl⟩
    obtain ⟨cc, ea, hcc⟩ := ea
    rw [ea] at HC
    clear ea hq
    go_wp2_with (refine HC.out.mono ?_; clear HC; rintro e w3 ⟨rfl, h3, c3⟩)
    go_ret
    exact ⟨rfl, BL2.out.trans (c3.below BL2.out.size (fun i hi => by omega))⟩

end Go.Proofs.Ythkmbodpboplfaa
