import Derived.Test.YtgmcfejmhlglkaaRkF
import Derived.Test.YtgmcfejmhlglkaaKpA
/-
  Lists that are lent.
-/
namespace Go.Proofs.Ytgmcfejmhlglkaa
open Go.RowKit
set_option linter.unusedVariables false
set_option linter.unusedSimpArgs false

theorem moved_ge {w : World} {v : Value} {g : Nat} (h : Moved w (Value.slice none 0 0).ownBlock v.ownBlock) (hg : v.ownBlock = some g) : w.heap.size ≤ g := by
  rcases h with e | ⟨g', e, hg'⟩
  · rw [hg] at e
    cases e
  · rw [hg] at e
    obtain rfl := Option.some.inj e
    exact hg'
theorem owns_baseG {w : World} {base : Nat} {e : TypeId} {s : Nat} {v : Value} {n : Nat} {xs : List Value} (h : w.ownsRow 0 e s v n xs) (hb : ∀ g, v.ownBlock = some g → base ≤ g) : w.ownsRow base e s v n xs := by
  refine ⟨h.1, ?_⟩
  rcases h.2 with h0 | ⟨g, cap, cur, rfl, _, r⟩
  · exact .inl h0
  · exact .inr ⟨g, cap, cur, rfl, hb g rfl, r⟩
/-- Two appends, the first to nothing, the second of what was laid between. -/
theorem two_apps {wb w5 w6 : World} {o : Obj} {v5 v6 : Value} {e : TypeId} {n : Nat} {xs : List Value} (hc5 : Chg (fun i => (Value.slice none 0 0).ownBlock = some i) wb w5) (hm5 : Moved wb (Value.slice none 0 0).ownBlock v5.ownBlock) (hc6 : Chg (fun i => v5.ownBlock = some i) (w5.alloc o) w6) (hm6 : Moved (w5.alloc o) v5.ownBlock v6.ownBlock) (ho6 : w6.ownsRow 0 e 1 v6 n xs) :
    Below wb.heap.size wb w6 ∧ w6.ownsRow wb.heap.size e 1 v6 n xs := by
  have h5 : ∀ g, v5.ownBlock = some g → wb.heap.size ≤ g := fun g hg => moved_ge hm5 hg
  have b5 : Below wb.heap.size wb w5 := hc5.bel_none (fun g hg => by cases hg)
  have hs : wb.heap.size ≤ (w5.alloc o).heap.size := by have := b5.size; simp; omega
  refine ⟨(b5.alloc b5.size o).trans ⟨hc6.os, hc6.tape, hc6.output, hc6.size, fun k hk => hc6.block k (Nat.lt_of_lt_of_le hk hs) (fun e => by have := h5 k e; omega)⟩, owns_baseG ho6 (fun g hg => ?_)⟩
  rcases hm6 with e | ⟨g', e, hg'⟩
  · exact h5 g (by rw [← e]; exact hg)
  · rw [hg] at e
    obtain rfl := Option.some.inj e
    exact Nat.le_trans hs hg'
theorem owns_some {w : World} {base : Nat} {e : TypeId} {v : Value} {n : Nat} {xs : List Value} (h : w.ownsRow base e 1 v n xs) (hn : 0 < n) : ∃ g c, v = .slice (some ⟨g, 0, none⟩) n c ∧ n ≤ c ∧ base ≤ g ∧ g < w.heap.size := by
  rcases h.2 with ⟨_, h0⟩ | ⟨g, cap, cur, rfl, hb, hg, hc, _⟩
  · omega
  · exact ⟨g, cap, rfl, hc, hb, (Array.getElem?_eq_some_iff.1 hg).1⟩
theorem fill_at (k : IntKind) (L : List Int) (i : Nat) (h : i < L.length) : (List.map (Value.int k) (List.replicate i 77 ++ L.drop i))[i]? = some (.int k (L.getD i 0)) := by
  rw [List.getElem?_map, List.getElem?_append_right (by simp)]
  simp [List.getD, h]
theorem fill_len (k : IntKind) (L : List Int) (i : Nat) (h : i < L.length) : i < (List.map (Value.int k) (List.replicate i 77 ++ L.drop i)).length := by
  simp
  omega
theorem fill_set (k : IntKind) (L : List Int) (i : Nat) (h : i < L.length) : (List.map (Value.int k) (List.replicate i 77 ++ L.drop i)).set i (.int k 77) = List.map (Value.int k) (List.replicate (i + 1) 77 ++ L.drop (i + 1)) := by
  rw [List.drop_eq_getElem_cons h, ← List.map_set, List.set_append, if_neg (by simp), List.length_replicate, Nat.sub_self, List.set_cons_zero, List.replicate_succ']
  simp
theorem sl_noneQ {w : World} {ad : Option Addr} {n : Nat} {l : List Int} (h : Sl w ad n l) (h0 : ad = none) : n = 0 := by
  rcases Nat.eq_zero_or_pos n with e | e
  · exact e
  · obtain ⟨x, hx, _⟩ := h.cell 0 e
    rw [h0] at hx
    cases hx

set_option maxHeartbeats 1000000 in
theorem lent_any (ad : Option Addr) (len cap : Nat) (l : List Int) (w : World) (hs : Sl w ad len l) (hnone : ad = none → len = 0 ∧ cap = 0) (hb : len ≤ 2147483648) : Calls Try.prog 25 #[.slice ad len cap] w fun e w' =>
    ∃ g c, e = .returned (.slice (some ⟨g, 0, none⟩) len c) ∧ w.heap.size ≤ g ∧ len + 4 ≤ c ∧ w'.ownsRow w.heap.size 5 1 (.slice (some ⟨g, 0, none⟩) (len + 4) c) (len + 4) (cells8 (l ++ [201, 201, 201, 201])) ∧ Below w.heap.size w w' := by
  obtain ⟨i0, hi0, hz0, hz1, hz2⟩ := info_parts info5
  have HS := hidden hs
  have HNO := hidden hnone
  clear hs hnone
  go_enter Try.func25, Try.ntmps25
  go_wp2_with (first
    | (refine wpList_appends _ rfl (.tmp 4) (.tmp 5) 27 rfl 5 i0 (.int .u8 0) Try.underlying27 hi0 hz0 hz1 hz2 rfl (.slice none 0 0) 0 [] rfl (World.ownsRow_nil _ _ _ _) ad len cap l rfl HS.out HNO.out (by omega) ?_; intro v5 w5 ho5 hc5 hm5; rw [Nat.zero_add, List.nil_append] at ho5; obtain ⟨a5, c5, rfl⟩ := owns_form ho5; have HO5 := hidden ho5; have HC5 := hidden hc5; have HM5 := hidden hm5; clear ho5 hc5 hm5)
    | (refine wpList_appends _ rfl (.tmp 7) (.tmp 8) 27 rfl 5 i0 (.int .u8 0) Try.underlying27 hi0 hz0 hz1 hz2 rfl (.slice a5 len c5) len l rfl (HO5.out.alloc _) (some ⟨w5.heap.size, 0, none⟩) 4 4 [201, 201, 201, 201] rfl (sl_lit w5 [201, 201, 201, 201] (fun z hz => by simp at hz; omega) 5 (0, 0) 4 rfl _ rfl _ rfl) (fun h => by cases h) (by omega) ?_; intro v6 w6 ho6 hc6 hm6; obtain ⟨bl6, on6⟩ := two_apps HC5.out HM5.out hc6 hm6 ho6; obtain ⟨g6, c6, rfl, hc6', hg6, _⟩ := owns_some on6 (by omega); have HB6 := hidden bl6; have HO6 := hidden on6; clear ho6 hc6 hm6 bl6 on6))
  go_ret
  exact ⟨g6, c6, rfl, hg6, hc6', HO6.out, HB6.out⟩

set_option maxHeartbeats 2000000 in
theorem still_any (g c : Nat) (sa : Option Addr) (len cs : Nat) (l : List Int) (w : World) (hO : w.ownsRow 0 5 1 (.slice (some ⟨g, 0, none⟩) (len + 4) c) (len + 4) (cells8 (l ++ [201, 201, 201, 201]))) (hc : len + 4 ≤ c) (hs : Sl w sa len l) (hne : ∀ x, sa = some x → 0 < len → x.block ≠ g) (hb : len ≤ 2147483648) :
    Calls Try.prog 26 #[.slice (some ⟨g, 0, none⟩) len c, .slice sa len cs] w fun e w' => e = .returned (.bool true) ∧ Chg (fun i => i = g) w w' ∧ w'.ownsRow 0 5 1 (.slice (some ⟨g, 0, none⟩) (len + 4) c) (len + 4) (cells8 (List.replicate (len + 4) 77)) := by
  have HO := hidden hO
  have HS := hidden hs
  have HNE := hidden hne
  have HL := hidden hs.len
  clear hO hs hne
  have hcap : ((len : Int) + 4) = ((len + 4 : Nat) : Int) := by omega
  obtain ⟨N, hN⟩ : ∃ N, len + 4 = N := ⟨_, rfl⟩
  rw [hN] at hcap hc HO ⊢
  have HN := hidden hN
  go_enter Try.func26, Try.ntmps26
  go_wp2_with fail
  go_loopw [6, 7] (fun okv iv wr => ∃ i : Nat, i ≤ N ∧ okv = .bool true ∧ iv = .int .i64 (i : Int) ∧ wr.ownsRow 0 5 1 (.slice (some ⟨g, 0, none⟩) N c) N (cells8 (List.replicate i 77 ++ (l ++ [201, 201, 201, 201]).drop i)) ∧ Chg (fun k => k = g) w wr) (fun _ iv _ => N - (intOf iv).toNat)
  case atStart => exact ⟨0, Nat.zero_le _, rfl, rfl, by simpa using HO.out, Chg.refl _ _⟩
  case round =>
    rename World => wr
    obtain ⟨i, hi, rfl, rfl, hOr, hC⟩ := hrel
    by_cases hlt : i < N
    · have hll : (l ++ [201, 201, 201, 201]).length = N := by simp [HL.out]; omega
      have hxi : wr.cell? ⟨g, i, none⟩ = some (.int .u8 ((l ++ [201, 201, 201, 201]).getD i 0)) := owns_cell hOr _ _ (fill_at .u8 (l ++ [201, 201, 201, 201]) i (by omega))
      have hfi := owns_frozen hOr i
      have HOr := hidden hOr
      have HC := hidden hC
      have fin : ∀ w2, (∃ n, w2 = ((wr.setCell ⟨g, i, none⟩ (.int .u8 77)).drewN n)) → w2.ownsRow 0 5 1 (.slice (some ⟨g, 0, none⟩) N c) N (cells8 (List.replicate (i + 1) 77 ++ (l ++ [201, 201, 201, 201]).drop (i + 1))) ∧ Chg (fun k => k = g) w w2 := by
        rintro w2 ⟨n, rfl⟩
        have h1 := owns_setv HOr.out i (.int .u8 77) (fill_len .u8 (l ++ [201, 201, 201, 201]) i (by omega))
        have e : (cells8 (List.replicate i 77 ++ (l ++ [201, 201, 201, 201]).drop i)).set i (.int .u8 77) = cells8 (List.replicate (i + 1) 77 ++ (l ++ [201, 201, 201, 201]).drop (i + 1)) := fill_set .u8 (l ++ [201, 201, 201, 201]) i (by omega)
        rw [e] at h1
        exact ⟨(Chg.drewN (fun _ => False) _ n).owns h1 (fun _ _ h => h), (HC.out.trans (Chg.set ⟨g, i, none⟩ _ wr) (fun _ _ h => h)).trans (Chg.drewN _ _ n) (fun _ _ h => h)⟩
      have HFIN := hidden fin
      clear fin hOr hC
      by_cases hk2 : i < len
      · have hv : (l ++ [201, 201, 201, 201]).getD i 0 = l.getD i 0 := by simp [List.getD, List.getElem?_append_left (by rw [HL.out]; exact hk2)]
        rw [hv] at hxi
        have hsr : Sl wr sa len l := HC.out.sl HS.out (fun x hx h0 e => HNE.out x hx h0 e)
        obtain ⟨b, off, hcc⟩ := hsr.at (by omega)
        obtain ⟨rfl, hcell⟩ : sa = some ⟨b, off, none⟩ ∧ ∀ j, j < len → wr.cell? ⟨b, off + j, none⟩ = some (.int .u8 (l.getD j 0)) := by first | exact ⟨hcc.1, hcc.2.2⟩ | exact hcc
        have hsk := hcell i hk2
        clear hcell hcc hsr hv
        generalize l.getD i 0 = z at *
        have hd : decide (len ≤ i) = false := by simp; omega
        have hki : (i : Int) < (len : Int) := by omega
        go_wp2_with fail
        go_quiet (fail)
        go_wp2_with fail
        obtain ⟨q1, q2⟩ := HFIN.out _ ⟨_, rfl⟩
        refine ⟨⟨i + 1, by omega, by first | rfl | simp, by first | rfl | simp, q1, q2⟩, ?_⟩
        simp [intOf]
        omega
      · have hv : (l ++ [201, 201, 201, 201]).getD i 0 = 201 := by
          have hl2 := HL.out
          have hd3 : i - l.length < 4 := by have := HN.out; omega
          simp only [List.getD, List.getElem?_append_right (by omega : l.length ≤ i)]
          rcases (show i - l.length = 0 ∨ i - l.length = 1 ∨ i - l.length = 2 ∨ i - l.length = 3 by omega) with e | e | e | e <;> rw [e] <;> rfl
        rw [hv] at hxi
        have hd : decide ((i : Int) < (len : Int)) = false := by simp; omega
        have hki : (len : Int) ≤ (i : Int) := by omega
        go_wp2_with fail
        go_quiet (fail)
        go_wp2_with fail
        obtain ⟨q1, q2⟩ := HFIN.out _ ⟨_, rfl⟩
        refine ⟨⟨i + 1, by omega, by first | rfl | simp, by first | rfl | simp, q1, q2⟩, ?_⟩
        simp [intOf]
        omega
    · have hiN : i = N := by omega
      subst hiN
      have HOr := hidden hOr
      have HC := hidden hC
      clear hOr hC
      go_wp2_with fail
      go_ret
      refine ⟨rfl, HC.out, ?_⟩
      have := HOr.out
      rw [List.drop_eq_nil_of_le (by simp [HL.out]; omega), List.append_nil] at this
      exact this

end Go.Proofs.Ytgmcfejmhlglkaa

namespace Go.Proofs.Ytgmcfejmhlglkaa
open Go.RowKit
set_option linter.unusedVariables false
set_option linter.unusedSimpArgs false

set_option maxHeartbeats 1000000 in
theorem numbers_any (ad : Option Addr) (len cap : Nat) (l : List Int) (w : World) (hs : Sn w ad len l) (hnone : ad = none → len = 0 ∧ cap = 0) (hb : len ≤ 2147483648) : Calls Try.prog 31 #[.slice ad len cap] w fun e w' =>
    ∃ g c, e = .returned (.slice (some ⟨g, 0, none⟩) len c) ∧ w.heap.size ≤ g ∧ len + 2 ≤ c ∧ w'.ownsRow w.heap.size 3 1 (.slice (some ⟨g, 0, none⟩) (len + 2) c) (len + 2) (cellsI (l ++ [201, 201])) ∧ Below w.heap.size w w' := by
  obtain ⟨i0, hi0, hz0, hz1, hz2⟩ := info_parts info3
  have HS := hidden hs
  have HNO := hidden hnone
  clear hs hnone
  go_enter Try.func31, Try.ntmps31
  go_wp2_with (first
    | (refine wpList_appendsI _ rfl (.tmp 4) (.tmp 5) rfl (.slice none 0 0) 0 [] rfl (World.ownsRow_nil _ _ _ _) ad len cap l rfl HS.out HNO.out (by omega) ?_; intro v5 w5 ho5 hc5 hm5; rw [Nat.zero_add, List.nil_append] at ho5; obtain ⟨a5, c5, rfl⟩ := owns_form ho5; have HO5 := hidden ho5; have HC5 := hidden hc5; have HM5 := hidden hm5; clear ho5 hc5 hm5)
    | (refine wpList_appendsI _ rfl (.tmp 7) (.tmp 8) rfl (.slice a5 len c5) len l rfl (HO5.out.alloc _) (some ⟨w5.heap.size, 0, none⟩) 2 2 [201, 201] rfl (sn_lit w5 [201, 201] (fun z hz => by simp at hz; omega) 3 (0, 0) 2 rfl _ rfl _ rfl) (fun h => by cases h) (by omega) ?_; intro v6 w6 ho6 hc6 hm6; obtain ⟨bl6, on6⟩ := two_apps HC5.out HM5.out hc6 hm6 ho6; obtain ⟨g6, c6, rfl, hc6', hg6, _⟩ := owns_some on6 (by omega); have HB6 := hidden bl6; have HO6 := hidden on6; clear ho6 hc6 hm6 bl6 on6))
  go_ret
  exact ⟨g6, c6, rfl, hg6, hc6', HO6.out, HB6.out⟩

set_option maxHeartbeats 2000000 in
theorem left_any (g c : Nat) (sa : Option Addr) (len cs : Nat) (l : List Int) (w : World) (hO : w.ownsRow 0 3 1 (.slice (some ⟨g, 0, none⟩) (len + 2) c) (len + 2) (cellsI (l ++ [201, 201]))) (hc : len + 2 ≤ c) (hs : Sn w sa len l) (hne : ∀ x, sa = some x → 0 < len → x.block ≠ g) (hb : len ≤ 2147483648) :
    Calls Try.prog 32 #[.slice (some ⟨g, 0, none⟩) len c, .slice sa len cs] w fun e w' => e = .returned (.bool true) ∧ Chg (fun i => i = g) w w' ∧ w'.ownsRow 0 3 1 (.slice (some ⟨g, 0, none⟩) (len + 2) c) (len + 2) (cellsI (List.replicate (len + 2) 77)) := by
  have HO := hidden hO
  have HS := hidden hs
  have HNE := hidden hne
  have HL := hidden hs.len
  clear hO hs hne
  have hcap : ((len : Int) + 2) = ((len + 2 : Nat) : Int) := by omega
  obtain ⟨N, hN⟩ : ∃ N, len + 2 = N := ⟨_, rfl⟩
  rw [hN] at hcap hc HO ⊢
  have HN := hidden hN
  go_enter Try.func32, Try.ntmps32
  go_wp2_with fail
  go_loopw [6, 7] (fun okv iv wr => ∃ i : Nat, i ≤ N ∧ okv = .bool true ∧ iv = .int .i64 (i : Int) ∧ wr.ownsRow 0 3 1 (.slice (some ⟨g, 0, none⟩) N c) N (cellsI (List.replicate i 77 ++ (l ++ [201, 201]).drop i)) ∧ Chg (fun k => k = g) w wr) (fun _ iv _ => N - (intOf iv).toNat)
  case atStart => exact ⟨0, Nat.zero_le _, rfl, rfl, by simpa using HO.out, Chg.refl _ _⟩
  case round =>
    rename World => wr
    obtain ⟨i, hi, rfl, rfl, hOr, hC⟩ := hrel
    by_cases hlt : i < N
    · have hll : (l ++ [201, 201]).length = N := by simp [HL.out]; omega
      have hxi : wr.cell? ⟨g, i, none⟩ = some (.int .i64 ((l ++ [201, 201]).getD i 0)) := owns_cell hOr _ _ (fill_at .i64 (l ++ [201, 201]) i (by omega))
      have hfi := owns_frozen hOr i
      have HOr := hidden hOr
      have HC := hidden hC
      have fin : ∀ w2, (∃ n, w2 = ((wr.setCell ⟨g, i, none⟩ (.int .i64 77)).drewN n)) → w2.ownsRow 0 3 1 (.slice (some ⟨g, 0, none⟩) N c) N (cellsI (List.replicate (i + 1) 77 ++ (l ++ [201, 201]).drop (i + 1))) ∧ Chg (fun k => k = g) w w2 := by
        rintro w2 ⟨n, rfl⟩
        have h1 := owns_setv HOr.out i (.int .i64 77) (fill_len .i64 (l ++ [201, 201]) i (by omega))
        have e : (cellsI (List.replicate i 77 ++ (l ++ [201, 201]).drop i)).set i (.int .i64 77) = cellsI (List.replicate (i + 1) 77 ++ (l ++ [201, 201]).drop (i + 1)) := fill_set .i64 (l ++ [201, 201]) i (by omega)
        rw [e] at h1
        exact ⟨(Chg.drewN (fun _ => False) _ n).owns h1 (fun _ _ h => h), (HC.out.trans (Chg.set ⟨g, i, none⟩ _ wr) (fun _ _ h => h)).trans (Chg.drewN _ _ n) (fun _ _ h => h)⟩
      have HFIN := hidden fin
      clear fin hOr hC
      by_cases hk2 : i < len
      · have hv : (l ++ [201, 201]).getD i 0 = l.getD i 0 := by simp [List.getD, List.getElem?_append_left (by rw [HL.out]; exact hk2)]
        rw [hv] at hxi
        have hsr : Sn wr sa len l := HC.out.sn HS.out (fun x hx h0 e => HNE.out x hx h0 e)
        obtain ⟨b, off, hcc⟩ := hsr.at (by omega)
        obtain ⟨rfl, hcell⟩ : sa = some ⟨b, off, none⟩ ∧ ∀ j, j < len → wr.cell? ⟨b, off + j, none⟩ = some (.int .i64 (l.getD j 0)) := by first | exact ⟨hcc.1, hcc.2.2⟩ | exact hcc
        have hsk := hcell i hk2
        clear hcell hcc hsr hv
        generalize l.getD i 0 = z at *
        have hd : decide (len ≤ i) = false := by simp; omega
        have hki : (i : Int) < (len : Int) := by omega
        go_wp2_with fail
        go_quiet (fail)
        go_wp2_with fail
        obtain ⟨q1, q2⟩ := HFIN.out _ ⟨_, rfl⟩
        refine ⟨⟨i + 1, by omega, by first | rfl | simp, by first | rfl | simp, q1, q2⟩, ?_⟩
        simp [intOf]
        omega
      · have hv : (l ++ [201, 201]).getD i 0 = 201 := by
          have hl2 := HL.out
          have hd3 : i - l.length < 2 := by have := HN.out; omega
          simp only [List.getD, List.getElem?_append_right (by omega : l.length ≤ i)]
          rcases (show i - l.length = 0 ∨ i - l.length = 1 by omega) with e | e <;> rw [e] <;> rfl
        rw [hv] at hxi
        have hd : decide ((i : Int) < (len : Int)) = false := by simp; omega
        have hki : (len : Int) ≤ (i : Int) := by omega
        go_wp2_with fail
        go_quiet (fail)
        go_wp2_with fail
        obtain ⟨q1, q2⟩ := HFIN.out _ ⟨_, rfl⟩
        refine ⟨⟨i + 1, by omega, by first | rfl | simp, by first | rfl | simp, q1, q2⟩, ?_⟩
        simp [intOf]
        omega
    · have hiN : i = N := by omega
      subst hiN
      have HOr := hidden hOr
      have HC := hidden hC
      clear hOr hC
      go_wp2_with fail
      go_ret
      refine ⟨rfl, HC.out, ?_⟩
      have := HOr.out
      rw [List.drop_eq_nil_of_le (by simp [HL.out]; omega), List.append_nil] at this
      exact this

end Go.Proofs.Ytgmcfejmhlglkaa
