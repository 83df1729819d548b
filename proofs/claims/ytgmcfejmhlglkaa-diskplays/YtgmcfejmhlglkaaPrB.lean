/-
  What is kept is looked at.
-/
import Derived.Test.YtgmcfejmhlglkaaPrA
namespace Go.Proofs.Ytgmcfejmhlglkaa
open Go.RowKit
set_option linter.unusedVariables false
set_option linter.unusedSimpArgs false

/-- A pair, with what it keeps. -/
def PS (w : World) (m : PM) (t : It) (st : List It) (ks : List Kp) (Z : Nat → Prop) : Prop := PR w m t st (ks.map Kp.v) (ks.map fun k => (k.m : Int)) Z ∧ ∀ (i : Nat) (k : Kp), ks[i]? = some k → k.ok w Z
theorem PS.chg {w w' : World} {m : PM} {t : It} {st : List It} {ks : List Kp} {Z G : Nat → Prop} (h : PS w m t st ks Z) (hc : Chg G w w') (hG : ∀ k, FPp m t st k → ¬ G k) (hZ : ∀ k, Z k → ¬ G k) : PS w' m t st ks Z := ⟨h.1.chg hc hG hZ, fun i k hk => (h.2 i k hk).chg hc hZ⟩
theorem PS.later {w w' : World} {m : PM} {t : It} {st : List It} {ks : List Kp} {Z : Nat → Prop} (h : PS w m t st ks Z) (hb : Below w.heap.size w w') : PS w' m t st ks Z := h.chg (Chg.of_below (F := fun _ => False) hb) (fun _ _ h => h) (fun _ _ h => h)

/-- A list is kept. -/
theorem keep_ps (w : World) (m : PM) (t : It) (st : List It) (ks : List Kp) (Z : Nat → Prop) (h : PS w m t st ks Z) (ad : Option Addr) (n c : Nat) (xs : List Int) (ho : w.ownsRow 0 5 1 (.slice ad n c) n (cells8 xs)) (hn : n ≤ 16777216) (hll : ks.length ≤ 1099511627776)
    (hv : ∀ g, (Value.slice ad n c).ownBlock = some g → ¬ FPp m t st g ∧ ¬ Z g) :
    Calls Try.prog 53 #[.pointer (some ⟨m.pp, 0, none⟩), .slice ad n c] w fun e w' => e = .returned (.tuple #[]) ∧ ∃ m' k1 k2 Z', m'.pp = m.pp ∧ PS w' m' t st (ks ++ [k1] ++ [k2]) Z' ∧
      (∀ k, Z k → Z' k) ∧ (∀ k, Z' k → Z k ∨ (Value.slice ad n c).ownBlock = some k ∨ w.heap.size ≤ k) ∧ Chg (fun k => m.F k ∨ (Value.slice ad n c).ownBlock = some k) w w' ∧ (∀ k, m'.F k → m.F k ∨ w.heap.size ≤ k) := by
  have hxm : (((ks.length + 1) % 256 : Nat) : Int) = (((ks.map Kp.v).length + 1 : Nat) : Int) % 256 := by simp
  refine (keep_any w m t st _ _ Z h.1 ad n c xs ho hn (by simp) (by simpa using hll) hv _ hxm).mono ?_
  rintro e w' ⟨rfl, m', a', c', Z', h1, h2, h3, h4, h5, h6, h7, h8, h9, h10, h11, h12⟩
  refine ⟨rfl, m', ⟨ad, n, c, (ks.length + 1) % 256⟩, ⟨a', n + 40, c', (ks.length + 1) % 256⟩, Z', h1, ⟨?_, ?_⟩, h7, h8, h11, h12⟩
  · simpa [List.map_append, Kp.v] using h4
  · intro i k hk
    have hzm : ∀ j, Z j → ¬ (m.F j ∨ (Value.slice ad n c).ownBlock = some j) := by
      rintro j hj (e | e)
      · exact h.1.zF j hj (.inl e)
      · exact (hv j e).2 hj
    rw [List.append_assoc] at hk
    by_cases hi : i < ks.length
    · rw [List.getElem?_append_left hi] at hk
      exact ((h.2 i k hk).chg h11 hzm).mono h7
    · rw [List.getElem?_append_right (by omega)] at hk
      have hm256 : (ks.length + 1) % 256 < 256 := Nat.mod_lt _ (by decide)
      rcases (show i - ks.length = 0 ∨ i - ks.length = 1 ∨ 2 ≤ i - ks.length by omega) with e | e | e
      · rw [e] at hk
        simp at hk
        subst hk
        exact ⟨h5, h9, hm256, by show n ≤ _; omega⟩
      · rw [e] at hk
        simp at hk
        subst hk
        exact ⟨h6, h10, hm256, by show n + 40 ≤ _; omega⟩
      · rw [List.getElem?_eq_none (by simpa using e)] at hk
        cases hk

set_option maxRecDepth 10000 in
set_option maxHeartbeats 4000000 in
theorem looks_any (w : World) (m : PM) (t : It) (st : List It) (ks : List Kp) (Z : Nat → Prop) (h : PS w m t st ks Z) (from_ : Int) (hf : -9223372036854775808 ≤ from_ ∧ from_ ≤ 9223372036854775807) (hll : ks.length ≤ 1099511627776) :
    Calls Try.prog 8 #[.pointer (some ⟨m.pp, 0, none⟩), .int .i64 from_] w fun e w' => e = .returned (.bool true) ∧ ∃ n, w' = w.drewN n := by
  obtain ⟨pp, hpp⟩ : ∃ pp, m.pp = pp := ⟨_, rfl⟩
  obtain ⟨N, hN⟩ : ∃ N, ks.length = N := ⟨_, rfl⟩
  obtain ⟨la, lc, hlv⟩ := owns_form h.1.lv
  obtain ⟨ma, mc, hmv⟩ := owns_form h.1.mv
  simp only [List.length_map, hN] at hlv hmv
  have c4 := h.1.blk.cell 4
  have c5 := h.1.blk.cell 5
  simp only [List.getElem?_cons_succ, List.getElem?_cons_zero, hpp, hlv, hmv] at c4 c5
  have hol : w.ownsRow 0 27 1 (.slice la N lc) N (ks.map Kp.v) := by have := h.1.lv; simp only [hlv, List.length_map, hN] at this; exact this
  have hom : w.ownsRow 0 5 1 (.slice ma N mc) N (cells8 (ks.map fun k => (k.m : Int))) := by have := h.1.mv; simp only [hmv, List.length_map, hN] at this; exact this
  have HH := hidden h
  have HN := hidden hN
  have HOL := hidden hol
  have HOM := hidden hom
  rw [hN] at hll
  simp only [hpp]
  clear h hN hol hom hlv hmv hpp
  have goal : ∀ (F0 : Int), 0 ≤ F0 → F0 ≤ 9223372036854775807 → True := fun _ _ _ => trivial
  clear goal
  obtain ⟨f0, hf0⟩ : ∃ f0 : Nat, max from_ 0 = (f0 : Int) := ⟨(max from_ 0).toNat, by omega⟩
  have hf1 : (f0 : Int) ≤ 9223372036854775807 := by omega
  have HF0 := hidden hf0
  clear hf0
  go_enter Try.func8, Try.ntmps8
  go_upto_region 1 with fail
  go_cut [5] from 7 to 8 (fun s5 wx => s5 = .int .i64 (f0 : Int) ∧ wx = w)
  case first =>
    by_cases hneg : 0 ≤ from_
    · have e : from_ = (f0 : Int) := by have := HF0.out; omega
      subst e
      go_wp2_with fail
      all_goals
        go_meet
        case rel => first | exact ⟨rfl, rfl⟩ | (refine ⟨?_, rfl⟩; congr 1; omega)
    · have e : f0 = 0 := by have := HF0.out; omega
      subst e
      go_wp2_with fail
      all_goals
        go_meet
        case rel => first | exact ⟨rfl, rfl⟩ | (refine ⟨?_, rfl⟩; congr 1; omega)
  case rest =>
    obtain ⟨rfl, hwc⟩ := hcut
    obtain rfl := hwc.symm
    clear hwc
    go_wp2_with fail
    go_loopw [5] (fun iv wr => ∃ (i q : Nat), (i : Int) ≤ 9223372036854775807 ∧ iv = .int .i64 (i : Int) ∧ wr = w.drewN q) (fun iv _ => (N - (intOf iv).toNat))
    case atStart => exact ⟨f0, 0, hf1, rfl, rfl⟩
    case round =>
      obtain ⟨i, q, hi, rfl, rfl⟩ := hrel
      by_cases hin : i < N
      · obtain ⟨k, hk⟩ : ∃ k, ks[i]? = some k := ⟨_, List.getElem?_eq_getElem (by have := HN.out; omega)⟩
        obtain ⟨hS, _, hm, hn⟩ := HH.out.2 i k hk
        obtain ⟨lb, lcc, hlb, _⟩ := owns_some HOL.out (by omega)
        obtain ⟨mb, mcc, hmb, _⟩ := owns_some HOM.out (by omega)
        simp only [Value.slice.injEq] at hlb hmb
        obtain ⟨rfl, _, rfl⟩ := hlb
        obtain ⟨rfl, _, rfl⟩ := hmb
        have d1 : w.cell? ⟨lb, i, none⟩ = some (.slice k.ad k.n k.c) := owns_cell HOL.out i _ (by simp [hk, Kp.v])
        have d2 : w.cell? ⟨mb, i, none⟩ = some (.int .u8 (k.m : Int)) := owns_cell HOM.out i _ (by simp [cells8, hk])
        have HS := hidden hS
        have hii : (i : Int) < (N : Int) := by omega
        clear hS hk
        obtain ⟨kad, kn, kc, km⟩ := k
        simp only at d1 d2 HS hm hn
        go_wp2_with fail
        go_loopw [6] (fun jv wr => ∃ (j q : Nat), j ≤ kn ∧ jv = .int .i64 (j : Int) ∧ wr = w.drewN q) (fun jv _ => (kn - (intOf jv).toNat))
        case atStart => exact ⟨0, q, by omega, rfl, rfl⟩
        case round =>
          obtain ⟨j, q2, hj, rfl, rfl⟩ := hrel
          by_cases hjn : j < kn
          · obtain ⟨b, off, rfl, _, hcc⟩ := HS.out.at (by omega)
            have d3 := hcc j hjn
            have e3 : (List.replicate kn (km : Int)).getD j 0 = (km : Int) := by simp [List.getD, hjn]
            rw [e3] at d3
            clear hcc e3
            have hji : (j : Int) < (kn : Int) := by omega
            go_wp2_with fail
            go_quiet (fail)
            go_wp2_with fail
            refine ⟨⟨j + 1, _, by omega, by first | rfl | simp, rfl⟩, ?_⟩
            simp [intOf]
            omega
          · have hjj : kn ≤ j := by omega
            go_wp2_with fail
            refine ⟨⟨i + 1, q2, by omega, by first | rfl | simp, rfl⟩, ?_⟩
            simp [intOf]
            omega
      · have hii : N ≤ i := by omega
        go_wp2_with fail
        go_ret
        exact ⟨rfl, q, rfl⟩

end Go.Proofs.Ytgmcfejmhlglkaa
