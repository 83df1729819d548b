/-
  Package post: Put.
-/
import Derived.Test.YtjpelnbffodaiaaPoG
import Derived.Test.YtjpelnbffodaiaaPoI
namespace Go.Proofs.Ytjpelnbffodaiaa
open Go.RowKit
set_option linter.unusedVariables false
set_option linter.unusedSimpArgs false

theorem own_lit0 (w : World) (e : TypeId) : (w.alloc (.cells #[] e)).ownsRow w.heap.size e 1 (.slice (some ⟨w.heap.size, 0, none⟩) 0 0) 0 [] := by
  refine ⟨rfl, .inr ⟨w.heap.size, 0, #[], rfl, Nat.le_refl _, ?_, by omega, by unfold maxLen; omega, rfl, rfl⟩⟩
  exact heap_alloc_new w _
theorem own8_len {w : World} {base : Nat} {v : Value} {n : Nat} {l : List Int} (h : w.ownsRow base 5 1 v n (cells8 l)) : l.length = n := by
  have := h.1; rw [cells8_length] at this; omega

/-- Bytes that come out. -/
def OutY (B : Nat) (w : World) (e : Ending) (w' : World) (L : List Int) : Prop :=
  ∃ ad c, e = .returned (.slice ad L.length c) ∧ w'.ownsRow B 5 1 (.slice ad L.length c) L.length (cells8 L) ∧ Below B w w'

theorem cloneP (w : World) (ad : Option Addr) (n c : Nat) (b : List Int) (hs : Sl w ad n b) (hno : ad = none → n = 0 ∧ c = 0) (hn : n ≤ 100000000) :
    Calls Try.prog 41 #[.slice ad n c] w fun e w' => OutY w.heap.size w e w' b := by
  obtain ⟨i0, hi, hz0, hz1, hz2⟩ := info_parts info5
  have HS := hidden hs
  have hl := hs.len
  clear hs
  go_enter Try.func41, Try.ntmps41
  cases ad with
  | none =>
    obtain ⟨rfl, rfl⟩ := hno rfl
    have : b = [] := List.eq_nil_of_length_eq_zero hl
    subst this
    have heq := fun (w : World) => Go.Lib.run_eql_slice_nil (P := Try.prog) w 41 5 none 0 0 0 0 Try.underlying41
    go_wp2_with fail
    go_ret
    exact ⟨none, 0, rfl, World.ownsRow_nil _ _ _ _, Below.refl _ _⟩
  | some x =>
    have heq := fun (w : World) => Go.Lib.run_eql_slice_nil (P := Try.prog) w 41 5 (some x) n c 0 0 Try.underlying41
    have hb0 : Below w.heap.size w (w.alloc (.cells #[] 5)) := (Below.refl _ _).alloc (Nat.le_refl _) _
    go_wp2_with (refine wpList_append_sl _ rfl (.tmp 5) (.tmp 6) 41 rfl w.heap.size 5 i0 _ Try.underlying41 hi hz0 hz1 hz2 rfl (.slice (some ⟨w.heap.size, 0, none⟩) 0 0) 0 [] rfl (own_lit0 w 5) (some x) n c b rfl (HS.out.later hb0) (fun e => absurd e (by simp)) (by omega) hb0.size ?_; intro a1 c1 w1 o1 b1)
    go_ret
    rw [List.nil_append, Nat.zero_add] at o1
    subst hl
    exact ⟨a1, c1, by simp, o1, hb0.trans (grown_below b1 (own_lit0 w 5) hb0.size)⟩

theorem appU (w : World) (B : Nat) (ad : Option Addr) (c N : Nat) (xs : List Int) (ho : w.ownsRow B 5 1 (.slice ad xs.length c) xs.length (cells8 xs)) (hB : B ≤ w.heap.size) (hN : N ≤ 18446744073709551615) (hn : xs.length ≤ 100000000) :
    Calls Try.prog 40 #[.slice ad xs.length c, .int .u64 (N : Int)] w fun e w' => OutY B w e w' (xs ++ enc N) := by
  obtain ⟨i0, hi, hz0, hz1, hz2⟩ := info_parts info5
  have HO := hidden ho
  clear ho
  have hg := grp_le N
  have hlen := enc_length N
  obtain ⟨n, hn'⟩ : ∃ n, xs.length = n := ⟨_, rfl⟩
  have HN := hidden hn'
  rw [hn'] at HO hn ⊢
  clear hn'
  go_enter Try.func40, Try.ntmps40
  go_wp2_with fail
  refine (putUint_any none 0 0 N [] w (Sl.nil _ _) (by omega) hN).mono ?_
  rintro e w1 ⟨rfl, ho1, hb1⟩
  simp only [List.nil_append, Nat.zero_add] at ho1
  simp only [Nat.zero_add]
  have HO1 := hidden (owns_later HO.out hb1)
  have HS1 := hidden (sl_of_owns ho1 (enc_byte N (by omega)))
  have HB1 := hidden (hb1.mono hB)
  clear ho1 hb1
  go_wp2_with (refine wpList_append_sl _ rfl (.tmp 5) (.tmp 7) 41 rfl B 5 i0 _ Try.underlying41 hi hz0 hz1 hz2 rfl (.slice ad n c) n xs rfl HO1.out _ (grp N + 1) _ (enc N) rfl HS1.out (fun e => absurd e (by simp)) (by omega) (Nat.le_trans hB HB1.out.size) ?_; intro a2 c2 w2 o2 b2)
  go_ret
  have hL : (xs ++ enc N).length = n + (grp N + 1) := by rw [List.length_append, HN.out, hlen]
  rw [OutY, hL]
  exact ⟨a2, c2, by simp, o2, HB1.out.trans (grown_below b2 HO1.out (Nat.le_trans hB HB1.out.size))⟩

theorem lv_zero (l : List Nat) : lv l 0 = 0 := rfl
theorem lv_succ (l : List Nat) (i : Nat) : lv l (i + 1) = l.getD i 0 + 1 := by simp [lv]
theorem lv_le {l : List Nat} (h : Ris l) {i : Nat} (hi : i < l.length) : lv l i ≤ l.getD i 0 := by
  cases i with
  | zero => simp [lv]
  | succ i =>
    rw [lv_succ]
    exact (ris_adj l).1 h i hi
theorem encL_step {l : List Nat} {i : Nat} (hi : i < l.length) : encL (lv l i) (l.drop i) = enc (l.getD i 0 - lv l i) ++ encL (lv l (i + 1)) (l.drop (i + 1)) := by
  conv => lhs; rw [List.drop_eq_getElem_cons hi]
  rw [encL, lv_succ]
  simp [List.getD, hi]

/-- Bytes and a yes or no. -/
def OutYB (w : World) (e : Ending) (w' : World) (L : List Int) (ok : Bool) : Prop :=
  ∃ ad c, e = .returned (.tuple #[.slice ad L.length c, .bool ok]) ∧ w'.ownsRow w.heap.size 5 1 (.slice ad L.length c) L.length (cells8 L) ∧ Below w.heap.size w w'

set_option maxRecDepth 100000 in
set_option maxHeartbeats 4000000 in
theorem putP (w : World) (ad a2 : Option Addr) (n c m c2 : Nat) (b : List Int) (l : List Nat) (hs : Sl w ad n b) (hno : ad = none → n = 0 ∧ c = 0) (hn : n ≤ 1000000) (ha : Ar w a2 m c2 l) (hm : m ≤ 1000000) :
    Calls Try.prog 27 #[.slice ad n c, .slice a2 m c2] w fun e w' => OutYB w e w' (if Ris l then b ++ putF l else []) (decide (Ris l)) := by
  have HS := hidden hs
  have HA := hidden ha
  have hl := ha.sw.len
  have hbl := hs.len
  clear hs ha
  subst hbl hl
  go_enter Try.func27, Try.ntmps27
  go_wp2_with fail
  refine (risesP w a2 _ c2 l HA.out.sw (by omega)).mono ?_
  rintro e w1 ⟨rfl, hb1⟩
  by_cases hr : Ris l
  · simp only [hr, decide_true, if_true]
    have HR := hidden hr
    have HB1 := hidden hb1
    clear hb1
    go_wp2_with fail
    refine (cloneP w1 ad _ c b (HS.out.later HB1.out) hno (by omega)).mono ?_
    rintro e w2 ⟨a3, c3, rfl, ho2, hb2⟩
    have HB2 := hidden (HB1.out.trans (hb2.mono HB1.out.size))
    have HO2 := hidden (owns_base ho2 HB1.out.size)
    clear ho2 hb2
    go_wp2_with fail
    refine (appU w2 w.heap.size a3 c3 l.length b HO2.out HB2.out.size (by omega) (by omega)).mono ?_
    rintro e w3 ⟨a4, c4, rfl, ho3, hb3⟩
    have HB3 := hidden (HB2.out.trans hb3)
    have HO3 := hidden ho3
    clear ho3 hb3
    have hlen := enc_length l.length
    have hgl := grp_le l.length
    have HSL := hidden (fun (wx : World) (h : Below w.heap.size w wx) => HA.out.sw.later h)
    go_wp2_with fail
    go_loopw [6, 7, 21] (fun s6 s7 s21 wr => ∃ (i c' : Nat) (a' : Option Addr) (out : List Int), s6 = .slice a' out.length c' ∧ s7 = .int .u32 ((lv l i % 4294967296 : Nat) : Int) ∧ s21 = .int .i64 (i : Int) ∧ i ≤ l.length ∧ Hid (wr.ownsRow w.heap.size 5 1 (.slice a' out.length c') out.length (cells8 out)) ∧ Hid (out ++ encL (lv l i) (l.drop i) = b ++ putF l) ∧ Hid (out.length ≤ b.length + 10 + 10 * i) ∧ Hid (Below w.heap.size w wr)) (fun _ _ s21 _ => l.length - (intOf s21).toNat)
    case atStart => exact ⟨0, c4, a4, b ++ enc l.length, by simp [hlen], by rw [lv_zero]; rfl, rfl, by omega, HO3, hidden (by simp [putF, lv_zero]), hidden (by simp; omega), HB3⟩
    case round =>
      rename World => wr
      obtain ⟨i, c', a', out, rfl, rfl, rfl, hi, hown, hsum, hlo, hbel⟩ := hrel
      by_cases hlt : i < l.length
      · have hltz : (i : Int) < (l.length : Int) := by omega
        obtain ⟨b2, o2, rfl, _, hc⟩ := (HSL.out wr hbel.out).at (by omega)
        have k1 := hc i hlt
        have hle := lv_le HR.out hlt
        have hx32 := HA.out.sw.bd.at i
        have hst := hidden (encL_step hlt)
        have hls := hidden (lv_succ l i)
        obtain ⟨x, hx⟩ : ∃ x, l.getD i 0 = x := ⟨_, rfl⟩
        obtain ⟨K, hK⟩ : ∃ K, lv l i = K := ⟨_, rfl⟩
        rw [hx] at k1 hle hx32 hst hls
        rw [hK] at hle hst hsum
        rw [hK]
        rw [show K % 4294967296 = K by omega]
        obtain ⟨d, hd⟩ : ∃ d, x - K = d := ⟨_, rfl⟩
        rw [hd] at hst
        have hz : (x : Int) - (K : Int) = (d : Int) := by omega
        have hd32 : d ≤ 4294967295 := by omega
        clear hd
        have hol := hlo.out
        clear hc hx hK
        go_wp2_with fail
        refine (appU wr w.heap.size a' c' d out hown.out hbel.out.size (by omega) (by omega)).mono ?_
        rintro e w5 ⟨a5, c5, rfl, ho5, hb5⟩
        have HB5 := hidden (hbel.out.trans hb5)
        have HO5 := hidden ho5
        have hgd := grp_le d
        have hld := enc_length d
        have HL5 : Hid ((out ++ enc d).length = out.length + (grp d + 1)) := hidden (by rw [List.length_append, hld])
        have HS5 : Hid ((out ++ enc d) ++ encL (lv l (i + 1)) (l.drop (i + 1)) = b ++ putF l) := hidden (by rw [← hsum.out, hst.out, List.append_assoc])
        generalize out ++ enc d = out5 at *
        clear ho5 hb5 hz hld
        by_cases hmx : x = 4294967295
        · subst hmx
          go_wp2
          refine ⟨⟨i + 1, c5, a5, out5, rfl, by rw [hls.out]; first | rfl | simp, by first | rfl | simp, by omega, HO5, HS5, hidden (by rw [HL5.out]; omega), HB5⟩, ?_⟩
          simp [intOf]
          omega
        · go_wp2
          refine ⟨⟨i + 1, c5, a5, out5, rfl, by rw [hls.out, Nat.mod_eq_of_lt (by omega)]; first | rfl | simp, by first | rfl | simp, by omega, HO5, HS5, hidden (by rw [HL5.out]; omega), HB5⟩, ?_⟩
          simp [intOf]
          omega
      · have hltz : ¬ (i : Int) < (l.length : Int) := by omega
        have hE := hsum.out
        rw [List.drop_eq_nil_of_le (by omega), encL, List.append_nil] at hE
        have HE := hidden hE
        clear hE
        go_wp2
        go_ret2
        exact ⟨a', c', by rw [← HE.out]; rfl, by rw [← HE.out]; exact hown.out, hbel.out⟩
  · simp only [hr, decide_false, if_false]
    go_wp2
    go_ret2
    exact ⟨none, 0, rfl, World.ownsRow_nil _ _ _ _, hb1⟩

end Go.Proofs.Ytjpelnbffodaiaa
