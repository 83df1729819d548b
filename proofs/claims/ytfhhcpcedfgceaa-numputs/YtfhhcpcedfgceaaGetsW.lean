import Derived.Test.YtfhhcpcedfgceaaGetsA
import Derived.Test.YtfhhcpcedfgceaaGetsB
import Derived.Test.YtfhhcpcedfgceaaGetsM
import Derived.Test.YtfhhcpcedfgceaaLooks
namespace Go.Proofs.Ytfhhcpcedfgceaa
open Go.RowKit
set_option linter.unusedVariables false

theorem take_lent (l : List Int) (n : Nat) (h : l.length = n) : (l ++ List.replicate 8 201).take n = l := by
  subst h; simp

def inc (c : Int) : Int := (c + 1) % 256
/-- The first k have been raised. -/
def bump (X : List Int) (k : Nat) : List Int := (X.take k).map inc ++ X.drop k
theorem bump_at (X : List Int) (k : Nat) (h : k < X.length) : (cells8 (bump X k))[k]? = some (.int .u8 (X.getD k 0)) := by
  unfold cells8 bump
  rw [List.map_append, List.getElem?_append_right (by simp; omega)]
  simp [List.getD, Nat.min_eq_left (Nat.le_of_lt h), h]
theorem bump_set (X : List Int) (k : Nat) (h : k < X.length) : (cells8 (bump X k)).set k (.int .u8 (inc (X.getD k 0))) = cells8 (bump X (k + 1)) := by
  unfold cells8
  rw [← List.map_set]
  congr 1
  unfold bump
  rw [List.set_append, if_neg (by simp; omega), List.length_map, List.length_take, Nat.min_eq_left (Nat.le_of_lt h), Nat.sub_self, List.drop_eq_getElem_cons h, List.set_cons_zero, List.take_succ_eq_append_getElem h, List.map_append]
  simp [List.getD, h]
theorem bump_zero (X : List Int) : bump X 0 = X := by simp [bump]
theorem bump_all (X : List Int) (n : Nat) (h : X.length = n) : bump X n = X.map inc := by subst h; simp [bump]
theorem inc_byte (c : Int) : 0 ≤ inc c ∧ inc c ≤ 255 := by unfold inc; omega
theorem bump_byte (X : List Int) : Byte (X.map inc) := by
  intro n hn
  obtain ⟨c, _, rfl⟩ := List.mem_map.1 hn
  exact inc_byte c

/-- What 'looks' asks, out of what 'fill' leaves. -/
theorem looks_of {w0 w : World} {B p m : Nat} {tch : Nat → Prop} {a b : Value} {ad : Nat → Option Addr} {nn cc : Nat → Nat} {gl cl gm cm : Nat} {D : Nat → Value} {N : Nat → Nat} {L : Nat → List Int}
    (hf : R w0 B p m tch w a b (.slice (some ⟨gl, 0, none⟩) (m + m) cl) (m + m) ((List.range m).map (VV ad nn cc) ++ (List.range m).map D) (.slice (some ⟨gm, 0, none⟩) (m + m) cm) (m + m) (mks m ++ mks m) D N L)
    (hL : ∀ k, k < m → L k = List.replicate (N k) ((k : Int) + 1)) (hrd : Rd m ad nn w) (hm : m ≤ 100) (hnn : ∀ k, k < m → nn k ≤ 140737488351232) (q : Nat) (hq : q < m + m) :
    ∃ A N C K, w.cell? ⟨gl, q, none⟩ = some (.slice A N C) ∧ w.cell? ⟨gm, q, none⟩ = some (.int .u8 K) ∧ Sl w A N (List.replicate N K) ∧ N ≤ 9223372036854775807 := by
  have hmk : ∀ k, k < m → (cells8 (mks m))[k]? = some (.int .u8 ((k : Int) + 1)) := by
    intro k hk
    simp [cells8, mks, hk]
  have hlm : (cells8 (mks m)).length = m := by rw [cells8_length, mks_length]
  by_cases h1 : q < m
  · refine ⟨ad q, nn q, cc q, (q : Int) + 1, ?_, ?_, hrd q h1, by have := hnn q h1; omega⟩
    · rw [hf.l.cellAt q (by omega), List.getElem?_append_left (by simpa using h1)]
      simp [VV, h1]
    · rw [hf.mm.cellAt q (by omega), cells8_append, List.getElem?_append_left (by omega)]
      exact hmk q h1
  · obtain ⟨k, rfl⟩ : ∃ k, q = m + k := ⟨q - m, by omega⟩
    have hk : k < m := by omega
    have hrow := hf.row k hk
    rw [hL k hk] at hrow
    obtain ⟨A, C, hD⟩ := owns_form hrow
    rw [hD] at hrow
    have hcap := owns_cap hrow
    unfold maxLen at hcap
    refine ⟨A, N k, C, (k : Int) + 1, ?_, ?_, sl_of_owns hrow (fun n hn => by have := List.eq_of_mem_replicate hn; omega), by omega⟩
    · rw [hf.l.cellAt (m + k) (by omega), List.getElem?_append_right (by simp)]
      simp [hk, hD]
    · rw [hf.mm.cellAt (m + k) (by omega), cells8_append, List.getElem?_append_right (by omega), hlm, Nat.add_sub_cancel_left]
      exact hmk k hk

theorem range_add (ad : Nat → Option Addr) (nn cc : Nat → Nat) (t : Nat) (a' : Option Addr) (n' c' : Nat) :
    (List.range t).map (VV ad nn cc) ++ [Value.slice a' n' c'] = (List.range (t + 1)).map (VV (fun k => if k = t then a' else ad k) (fun k => if k = t then n' else nn k) (fun k => if k = t then c' else cc k)) := by
  rw [← vv_add, range_d]
theorem nn_add {nn : Nat → Nat} {t n len : Nat} (h : ∀ k, k < t → nn k ≤ len) (hn : n ≤ len) (k : Nat) (hk : k < t + 1) : (if k = t then n else nn k) ≤ len := by
  by_cases e : k = t
  · simpa [e] using hn
  · simp only [e, if_false]; exact h k (by omega)

set_option maxRecDepth 100000 in
set_option maxHeartbeats 4000000 in
theorem gets_main (a0 : Option Addr) (len cap : Nat) (most : Int) (l : List Int) (w : World) (hs : Sl w a0 len l) (hlc : len ≤ cap) (hcm : cap ≤ 9223372036854775807) (hb : len ≤ 140737488351232) (hm0 : -9223372036854775808 ≤ most) (hm : most ≤ 9223372036854775807) :
    Calls Try.prog 4 #[.slice a0 len cap, .int .i64 most] w fun e w' => e = .returned (.bool true) ∧ Below w.heap.size w w' := by
  obtain ⟨i0, hi, hz0, hz1, hz2⟩ := info_parts info5
  obtain ⟨i2, hi2, hy0, hy1, hy2⟩ := info_parts info22
  go_enter Try.func4, Try.ntmps4
  go_wp2_with fail
  refine (shown_any w).mono ?_
  rintro e w1 ⟨rfl, hB1⟩
  go_wp2_with fail
  refine (lent_any a0 len cap l w1 (hs.later hB1) hb).mono ?_
  rintro e w2 ⟨rfl, hox, hB2⟩
  have HS := hidden hs
  have hB12 := hB1.trans (hB2.mono hB1.size)
  have hgx : w1.heap.size < w2.heap.size := (own_lt hox rfl).2
  have hle := hidden hs.len
  have hby := hidden hs.byte
  clear hs
  have hz11 := hB1.size
  clear hB1 hB2
  generalize w1.heap.size = gx at *
  have hx3 := hox.alloc (.cells #[.slice none 0 0, .slice none 0 0] 28)
  have hp3 : (w2.alloc (.cells #[.slice none 0 0, .slice none 0 0] 28)).heap[w2.heap.size]? = some (.cells #[.slice none 0 0, .slice none 0 0] 28 (0, 0)) := heap_alloc_new w2 _
  have hz3 : (w2.alloc (.cells #[.slice none 0 0, .slice none 0 0] 28)).heap.size = w2.heap.size + 1 := by simp
  have hB3 : Below w.heap.size w (w2.alloc (.cells #[.slice none 0 0, .slice none 0 0] 28)) := hB12.alloc hB12.size _
  have hz4 := hB12.size
  clear hox hB12
  go_wp2_with fail
  generalize w2.alloc (.cells #[.slice none 0 0, .slice none 0 0] 28) = w3 at *
  generalize w2.heap.size = p at *
  have HR := hidden (r_start w3 p w3.heap.size rfl (by omega) hp3 (VV (fun _ => none) (fun _ => 0) (fun _ => 0)) (fun _ => 0) (fun _ => []))
  have HX3 := hidden hx3
  have HZ3 := hidden hz3
  have HB3 := hidden hB3
  have hpz : p < w3.heap.size := by omega
  clear hx3 hz3 hB3 hp3
  go_loopw [8, 9] (fun av tv wr => ∃ (t : Nat) (ad : Nat → Option Addr) (nn cc : Nat → Nat) (L : Nat → List Int), t ≤ 3 ∧ tv = .int .i64 t ∧ R w3 w3.heap.size p t (fun _ => False) wr (.slice none 0 0) (.slice none 0 0) av t ((List.range t).map (VV ad nn cc)) (.slice none 0 0) 0 [] (VV ad nn cc) nn L ∧ ∀ k, k < t → nn k ≤ len) (fun _ tv _ => 3 - (intOf tv).toNat)
  case atStart => exact ⟨0, _, _, _, _, by omega, rfl, HR.out, fun k hk => by omega⟩
  case round =>
    rename World => wo
    obtain ⟨t, ad, nn, cc, L, ht, rfl, hr, hnn⟩ := hrel
    obtain ⟨aA, cA, rfl⟩ := owns_form hr.l
    have hxo := hr.other HX3.out (fun x hx => by simp [Value.ownBlock] at hx; subst hx; exact ⟨by omega, by omega, fun h => h⟩)
    have hbw : Below w.heap.size w wo := HB3.out.trans (hr.below rfl hz4 (fun x h => h.elim))
    have hsx := sl_of_owns hxo (lent_byte hby.out)
    have hsx2 := hsx.take (N := len) (by omega)
    rw [take_lent l len hle.out] at hsx2
    have HR2 := hidden hr
    have HNN := hidden hnn
    have HXO := hidden hxo
    have HBW := hidden hbw
    clear hr hnn hxo hbw
    by_cases hlt : t < 3
    · go_wp2_with fail
      refine (gets_any (some ⟨gx, 0, none⟩) len (len + 8) most l wo hsx2 (by omega) (by omega) (by omega) hm0 hm).mono ?_
      rintro e w4 ⟨ad4, n4, c4, L4, rfl, ho4, hb4, hn4, hB4⟩
      have hs4 := HS.out.later (HBW.out.trans (hB4.mono HBW.out.size))
      have hx4 := hsx.later hB4
      have hr4 := (HR2.out.later hB4).add (v := .slice ad4 n4 c4) (n := n4) (l := L4) ⟨ho4.1, by
          rcases ho4.2 with h1 | ⟨g, c, cur, h1, h2, h3⟩
          · exact .inl h1
          · exact .inr ⟨g, c, cur, h1, Nat.zero_le _, h3⟩⟩ (fun x hx => ⟨Nat.le_trans HR2.out.size (own_lt ho4 hx).1, by simp [Value.ownBlock], fun k hk e => by have h5 := (own_lt (HR2.out.row k hk) e).2; have h6 := (own_lt ho4 hx).1; omega⟩)
      rw [vv_add] at hr4
      go_wp2_with fail
      have hxc : ∀ j, j < len + 8 → w4.cell? ⟨gx, 0 + j, none⟩ = some (.int .u8 ((l ++ List.replicate 8 201).getD j 0)) := by
        obtain ⟨b, off, hb1, _, hc⟩ := hx4.at (by omega)
        simp only [Option.some.injEq, Addr.mk.injEq, and_true] at hb1
        obtain ⟨rfl, rfl⟩ := hb1
        exact hc
      refine (still_any gx 0 (len + 8) a0 len cap l w4 hxc hs4 hb).mono ?_
      rintro e w5 ⟨rfl, n5, hw5⟩
      have hr5 := hr4.drewN n5
      rw [← hw5] at hr5
      have HR5 := hidden hr5
      have hsz5 := hr5.size
      clear hr4 hr5 hxc hx4 hs4 ho4 hw5
      go_wp2_with (first
        | (at_builtin; refine wpList_push _ rfl _ _ 26 rfl 22 i2 (.slice none 0 0) 24 Try.underlying26 hi2 hy0 hy1 hy2 rfl w3.heap.size (.slice aA t cA) t ((List.range t).map (VV ad nn cc)) rfl (by exact (HR5.out.alloc _).l) ⟨w5.heap.size, 0, none⟩ (.slice ad4 n4 c4) rfl (by simp) rfl (by unfold maxLen; omega) (by omega) (by simp; omega) ?_; intro g6 c6 w6 ho6 hp6))
      have hr6 := (HR5.out.alloc (.cells #[.slice ad4 n4 c4] 22)).pushL ho6 hp6
      rw [range_add] at hr6
      have HR6 := hidden hr6
      clear hr6 ho6 hp6
      go_wp2
      go_roundw
      case rel => exact ⟨t + 1, _, _, _, _, by omega, by go_num, HR6.out, fun k hk => nn_add HNN.out hn4 k hk⟩
      case measure => simp [intOf]; omega
    · obtain rfl : t = 3 := by omega
      clear hlt ht
      obtain ⟨gA, rfl⟩ := owns_addr HR2.out.l (by omega)
      go_wp2_with fail
      refine (fill_any p gA 3 cA ad nn cc L _ wo HR2.out.restart (fun k hk => ?hA) ?hg1 ?hg2 ?hg3 (by omega) (fun k hk => ?hnn)).mono ?_
      case hA =>
        rw [HR2.out.l.cellAt k (by omega)]
        simp [VV, hk]
      case hg1 => exact (own_lt HR2.out.l rfl).2
      case hg2 =>
        have h5 : w3.heap.size ≤ gA := (own_lt HR2.out.l rfl).1
        omega
      case hg3 =>
        rintro ⟨k, hk, hx⟩
        exact owns_apart (HR2.out.row k hk) HR2.out.l (by decide) hx rfl
      case hnn => have := HNN.out k hk; omega
      rintro e w4 ⟨rfl, vl, vm, D, N, L4, hf, hL4, hrd⟩
      have hdm : ∀ x, (∃ k, k < 3 ∧ (VV ad nn cc k).ownBlock = some x) → w3.heap.size ≤ x := by
        rintro x ⟨k, hk, hx⟩
        rcases (HR2.out.dom k hk x hx).2.1 with h1 | h1
        · exact h1.elim
        · exact h1
      have hsz := HR2.out.size
      have hxo4 := hf.other HXO.out (fun x hx => by simp [Value.ownBlock] at hx; subst hx; exact ⟨by omega, by omega, fun h => by have := hdm _ h; omega⟩)
      have hbw4 : Below w.heap.size w w4 := HBW.out.trans (hf.below rfl hz4 (fun x h => by have := hdm _ h; omega))
      obtain ⟨al4, cl4, rfl⟩ := owns_form hf.l
      obtain ⟨am4, cm4, rfl⟩ := owns_form hf.mm
      obtain ⟨gl, rfl⟩ := owns_addr hf.l (by omega)
      obtain ⟨gm, rfl⟩ := owns_addr hf.mm (by omega)
      have hlook := hidden (looks_any p gl cl4 gm cm4 6 w4 (r_cell hf).1 (r_cell hf).2.1 (fun q hq => looks_of hf hL4 hrd (by omega) (fun k hk => by have := HNN.out k hk; omega) q hq) (by omega))
      have HXO4 := hidden hxo4
      have HBW4 := hidden hbw4
      clear hxo4 hbw4 hf hL4 hrd hdm HR2 HR HXO HBW hsx hsx2
      go_wp2_with fail
      refine hlook.out.mono ?_
      rintro e w5 ⟨rfl, n5, hw5⟩
      have hxo5 : w5.ownsRow gx 5 1 (.slice (some ⟨gx, 0, none⟩) (len + 8) (len + 8)) (len + 8) (cells8 (l ++ List.replicate 8 201)) := by rw [hw5]; exact HXO4.out
      have hbw5 : Below w.heap.size w w5 := by rw [hw5]; exact below_drewN HBW4.out _
      clear hlook hw5 HXO4 HBW4
      go_wp2_with fail
      have hsx5 := sl_of_owns hxo5 (lent_byte hby.out)
      have hxc : ∀ j, j < len + 8 → w5.cell? ⟨gx, 0 + j, none⟩ = some (.int .u8 ((l ++ List.replicate 8 201).getD j 0)) := by
        obtain ⟨b, off, hb1, _, hc⟩ := hsx5.at (by omega)
        simp only [Option.some.injEq, Addr.mk.injEq, and_true] at hb1
        obtain ⟨rfl, rfl⟩ := hb1
        exact hc
      refine (still_any gx 0 (len + 8) a0 len cap l w5 hxc (HS.out.later hbw5) hb).mono ?_
      rintro e w6 ⟨rfl, n6, hw6⟩
      have hxo6 : w6.ownsRow gx 5 1 (.slice (some ⟨gx, 0, none⟩) (len + 8) (len + 8)) (len + 8) (cells8 (bump (l ++ List.replicate 8 201) 0)) := by rw [hw6, bump_zero]; exact hxo5
      have hbw6 : Below w.heap.size w w6 := by rw [hw6]; exact below_drewN hbw5 _
      clear hw6 hxo5 hbw5 hsx5 hxc
      have hXl : (l ++ List.replicate 8 201).length = len + 8 := by simp [hle.out]
      have hXb := lent_byte hby.out
      generalize l ++ List.replicate 8 201 = X at *
      have HXO6 := hidden hxo6
      have HBW6 := hidden hbw6
      have HXL := hidden hXl
      have HXB := hidden hXb
      clear hxo6 hbw6 hXl hXb HX3
      go_wp2_with fail
      go_loopw [15] (fun kv wr => ∃ k : Nat, k ≤ len + 8 ∧ kv = .int .i64 k ∧ wr.ownsRow gx 5 1 (.slice (some ⟨gx, 0, none⟩) (len + 8) (len + 8)) (len + 8) (cells8 (bump X k)) ∧ Below w.heap.size w wr) (fun kv _ => len + 8 - (intOf kv).toNat)
      case atStart => exact ⟨0, Nat.zero_le _, rfl, HXO6.out, HBW6.out⟩
      case round =>
        obtain ⟨k, hk, rfl, hown, hbel⟩ := hrel
        by_cases hk8 : k < len + 8
        · have hcell : wr.cell? ⟨gx, k, none⟩ = some (.int .u8 (X.getD k 0)) := by
            rw [hown.cellAt k (by omega)]
            exact bump_at X k (by rw [HXL.out]; exact hk8)
          have hfr := hown.frozenAt k
          have hst := hidden (hown.stored k (.int .u8 (inc (X.getD k 0))))
          have hcb := HXB.out.at k
          have HOWN := hidden hown
          have HX1 := hidden (bump_set X k (by rw [HXL.out]; exact hk8))
          clear hown
          generalize X.getD k 0 = c at *
          go_wp2
          refine ⟨⟨k + 1, by omega, by go_num, ?_, ?_⟩, by simp [intOf]; omega⟩
          · have h1 := hst.out.1
            rw [HX1.out] at h1
            exact h1
          · exact hbel.grown hst.out.2 hbel.size (fun x hx => by obtain rfl := Option.some.inj hx; exact hz11)
        · obtain rfl : k = len + 8 := by omega
          rw [bump_all X _ HXL.out] at hown
          have hs7 := sl_of_owns hown (bump_byte X)
          have hs8 := hs7.take (N := len) (by omega)
          have HBEL := hidden hbel
          clear hown hbel hs7
          go_wp2_with fail
          refine (gets_any (some ⟨gx, 0, none⟩) len (len + 8) most _ wr hs8 (by omega) (by omega) (by omega) hm0 hm).mono ?_
          rintro e w8 ⟨ad8, n8, c8, L8, rfl, ho8, hb8, hn8, hB8⟩
          go_wp2
          go_ret
          exact ⟨rfl, HBEL.out.trans (hB8.mono HBEL.out.size)⟩

end Go.Proofs.Ytfhhcpcedfgceaa
