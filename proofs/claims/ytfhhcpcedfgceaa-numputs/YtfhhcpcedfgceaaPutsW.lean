import Derived.Test.YtfhhcpcedfgceaaPutsD
namespace Go.Proofs.Ytfhhcpcedfgceaa
open Go.RowKit
set_option linter.unusedVariables false

def inc3 (c : Int) : Int := (c + 3) % 256
def bump3 (X : List Int) (k : Nat) : List Int := (X.take k).map inc3 ++ X.drop k
theorem bump3_at (X : List Int) (k : Nat) (h : k < X.length) : (cells8 (bump3 X k))[k]? = some (.int .u8 (X.getD k 0)) := by
  unfold cells8 bump3
  rw [List.map_append, List.getElem?_append_right (by simp; omega)]
  simp [List.getD, Nat.min_eq_left (Nat.le_of_lt h), h]
theorem bump3_set (X : List Int) (k : Nat) (h : k < X.length) : (cells8 (bump3 X k)).set k (.int .u8 (inc3 (X.getD k 0))) = cells8 (bump3 X (k + 1)) := by
  unfold cells8
  rw [← List.map_set]
  congr 1
  unfold bump3
  rw [List.set_append, if_neg (by simp; omega), List.length_map, List.length_take, Nat.min_eq_left (Nat.le_of_lt h), Nat.sub_self, List.drop_eq_getElem_cons h, List.set_cons_zero, List.take_succ_eq_append_getElem h, List.map_append]
  simp [List.getD, h]
theorem bump3_zero (X : List Int) : bump3 X 0 = X := by simp [bump3]
theorem bump3_all (X : List Int) (n : Nat) (h : X.length = n) : bump3 X n = X.map inc3 := by subst h; simp [bump3]
theorem bump3_byte (X : List Int) : Byte (X.map inc3) := by
  intro n hn
  obtain ⟨c, _, rfl⟩ := List.mem_map.1 hn
  unfold inc3
  omega
theorem put_size' (a : Act) (d : Tmp) (v : Value) : (a.put (some d) v).tmps.size = a.tmps.size := by
  have e : (a.put (some d) v).tmps = a.tmps.setIfInBounds d v := rfl
  rw [e, Array.size_setIfInBounds]
theorem lent_cells {w : World} {b g len : Nat} {l : List Int} (h : w.ownsRow b 5 1 (.slice (some ⟨g, 0, none⟩) (len + 8) (len + 8)) (len + 8) (cells8 (l ++ List.replicate 8 201))) (hb : Byte l) :
    ∀ j, j < len + 8 → w.cell? ⟨g, 0 + j, none⟩ = some (.int .u8 ((l ++ List.replicate 8 201).getD j 0)) := by
  obtain ⟨b, off, hb1, _, hc⟩ := (sl_of_owns h (lent_byte hb)).at (by omega)
  simp only [Option.some.injEq, Addr.mk.injEq, and_true] at hb1
  obtain ⟨rfl, rfl⟩ := hb1
  exact hc
theorem want_cell {w : World} {g8 : Nat} {l s : List Int} {N F len2 : Nat} (h : w.heap[g8]? = some (.cells #[.string (strOfNums (l ++ enc N)), .string (strOfNums (l ++ enc F)), .string (strOfNums (l ++ enc len2 ++ s))] 33 (0, 0))) (k : Nat) :
    w.cell? ⟨g8, k % 3, none⟩ = some (.string (strOfNums (WL l s N F len2 k))) := by
  rcases (show k % 3 = 0 ∨ k % 3 = 1 ∨ k % 3 = 2 by omega) with e | e | e <;> simp [World.cell?, h, WL, e]
theorem wl_byte {l s : List Int} (hl : Byte l) (hs : Byte s) (N F len2 : Nat) (hN : N ≤ 18446744073709551615) (hF : F ≤ 18446744073709551615) (h2 : len2 ≤ 18446744073709551615) (k : Nat) : Byte (WL l s N F len2 k) := by
  unfold WL
  split
  · exact hl.append (enc_byte N (by omega))
  · split
    · exact hl.append (enc_byte F (by omega))
    · exact (hl.append (enc_byte len2 (by omega))).append hs
theorem wn_le (len N F len2 k : Nat) (h : len ≤ 536870912) (h2 : len2 ≤ 536870912) : WN len N F len2 k ≤ 1073741900 := by
  have := grp_le N
  have := grp_le F
  have := grp_le len2
  unfold WN
  split
  · omega
  · split <;> omega
theorem sl_drewN {w : World} {ad : Option Addr} {len : Nat} {l : List Int} (h : Sl w ad len l) (n : Nat) : Sl (w.drewN n) ad len l := ⟨h.len, h.byte, h.cell⟩
theorem want_next {l s : List Int} {len N F len2 : Nat} {nn nn' : Nat → Nat} {L L' : Nat → List Int} (t : Nat) (h : ∀ k, k < 3 * t → nn k = WN len N F len2 k ∧ L k = WL l s N F len2 k) (h1 : ∀ k, k < 3 * t → nn' k = nn k ∧ L' k = L k)
    (q1 : nn' (3 * t) = len + grp N + 1 ∧ L' (3 * t) = l ++ enc N) (q2 : nn' (3 * t + 1) = len + grp F + 1 ∧ L' (3 * t + 1) = l ++ enc F) (q3 : nn' (3 * t + 2) = len + grp len2 + 1 + len2 ∧ L' (3 * t + 2) = l ++ enc len2 ++ s) (k : Nat) (hk : k < 3 * (t + 1)) :
    nn' k = WN len N F len2 k ∧ L' k = WL l s N F len2 k := by
  rcases (show k < 3 * t ∨ k = 3 * t ∨ k = 3 * t + 1 ∨ k = 3 * t + 2 by omega) with h2 | rfl | rfl | rfl
  · obtain ⟨p1, p2⟩ := h1 k h2
    rw [p1, p2]
    exact h k h2
  · unfold WN WL
    rw [if_pos (by omega), if_pos (by omega)]
    exact q1
  · unfold WN WL
    rw [if_neg (by omega), if_pos (by omega), if_neg (by omega), if_pos (by omega)]
    exact q2
  · unfold WN WL
    rw [if_neg (by omega), if_neg (by omega), if_neg (by omega), if_neg (by omega)]
    exact q3

set_option maxRecDepth 100000 in
set_option maxHeartbeats 4000000 in
theorem puts_main (ad : Option Addr) (len cap : Nat) (l : List Int) (N : Nat) (m : Int) (ae : Option Addr) (len2 cap2 : Nat) (s : List Int) (w : World) (hs : Sl w ad len l) (hn1 : ad = none → len = 0 ∧ cap = 0) (hs2 : Sl w ae len2 s) (hn2 : ae = none → len2 = 0 ∧ cap2 = 0)
    (hb : len ≤ 536870912) (hb2 : len2 ≤ 536870912) (hN : N ≤ 18446744073709551615) (hm0 : -9223372036854775808 ≤ m) (hm1 : m ≤ 9223372036854775807) :
    Calls Try.prog 3 #[.slice ad len cap, .int .u64 N, .int .i64 m, .slice ae len2 cap2] w fun e w' => e = .returned (.bool true) ∧ Below w.heap.size w w' := by
  go_enter Try.func3, Try.ntmps3
  go_wp2_with fail
  refine (shown_any w).mono ?_
  rintro e w1 ⟨rfl, hB1⟩
  have HS := hidden hs
  have HS2 := hidden hs2
  have hle := hidden hs.len
  have hby := hidden hs.byte
  have hle2 := hidden hs2.len
  have hby2 := hidden hs2.byte
  clear hs hs2
  have hp2 : (w1.alloc (.cells #[.slice none 0 0, .slice none 0 0] 28)).heap[w1.heap.size]? = some (.cells #[.slice none 0 0, .slice none 0 0] 28 (0, 0)) := heap_alloc_new w1 _
  have hz2 : (w1.alloc (.cells #[.slice none 0 0, .slice none 0 0] 28)).heap.size = w1.heap.size + 1 := by simp
  have hB2 : Below w.heap.size w (w1.alloc (.cells #[.slice none 0 0, .slice none 0 0] 28)) := hB1.alloc hB1.size _
  have hpw := hB1.size
  clear hB1
  go_wp2_with fail
  generalize w1.alloc (.cells #[.slice none 0 0, .slice none 0 0] 28) = w2 at *
  generalize w1.heap.size = p at *
  refine (lent_any ad len cap l w2 (HS.out.later hB2) (by omega)).mono ?_
  rintro e w3 ⟨rfl, hox, hB3⟩
  have hp3 := (hB3.block p (by omega)).trans hp2
  have hgx : w2.heap.size < w3.heap.size := (own_lt hox rfl).2
  have hB3' := hB2.trans (hB3.mono hB2.size)
  have hgxz : w.heap.size ≤ w2.heap.size := hB2.size
  clear hB3 hB2 hp2
  go_wp2_with fail
  rw [hz2] at hox hgx hgxz
  refine (lent_any ae len2 cap2 s w3 (HS2.out.later hB3') (by omega)).mono ?_
  rintro e w4 ⟨rfl, hoy, hB4⟩
  have hp4 := (hB4.block p (by omega)).trans hp3
  have hgy : w3.heap.size < w4.heap.size := (own_lt hoy rfl).2
  have hox4 := kept_later hox hB4
  have hB4' := hB3'.trans (hB4.mono hB3'.size)
  clear hB4 hB3' hp3 hox
  go_wp2_with fail
  refine region8 ad len cap N m ae len2 cap2 l s w4 _ _ (HS.out.later hB4') (HS2.out.later hB4') hn1 hn2 (by omega) hN hm0 hm1 rfl rfl rfl rfl rfl ?_
  intro v45 v46 v47 v48 v49 v50 v51 v52 v53 v54 v55 v56 v57 g8 w5 hg8 hw5 hB5
  have hp5 := (hB5.block p (by omega)).trans hp4
  have hz5 := hB5.size
  have HX5 := hidden (kept_later hox4 hB5)
  have HY5 := hidden (kept_later hoy hB5)
  have HB5 := hidden (hB4'.trans (hB5.mono hB4'.size))
  have hg8z : g8 < w5.heap.size := heap_lt hw5
  have HW5 := hidden hw5
  clear hox4 hoy hB4' hB5 hp4 hw5
  generalize w3.heap.size = gy at *
  have HR := hidden (r_start w5 p w5.heap.size rfl (by omega) hp5 (VV (fun _ => none) (fun _ => 0) (fun _ => 0)) (fun _ => 0) (fun _ => []))
  clear hp5
  go_wp2_with fail
  go_loopw [13, 15] (fun av tv wr => ∃ (t : Nat) (adk : Nat → Option Addr) (nn cc : Nat → Nat) (L : Nat → List Int), t ≤ 3 ∧ tv = .int .i64 t ∧ R w5 w5.heap.size p (3 * t) (fun _ => False) wr (.slice none 0 0) (.slice none 0 0) av (3 * t) ((List.range (3 * t)).map (VV adk nn cc)) (.slice none 0 0) 0 [] (VV adk nn cc) nn L ∧ ∀ k, k < 3 * t → nn k = WN len N (fold m) len2 k ∧ L k = WL l s N (fold m) len2 k) (fun _ tv _ => 3 - (intOf tv).toNat)
  case atStart => exact ⟨0, _, _, _, _, by omega, rfl, HR.out, fun k hk => by omega⟩
  case round =>
    rename World => wo
    obtain ⟨t, adk, nn, cc, L, ht, rfl, hr, hnn⟩ := hrel
    obtain ⟨aA, cA, rfl⟩ := owns_form hr.l
    have HXO := hidden (hr.other HX5.out (fun x hx => by simp [Value.ownBlock] at hx; subst hx; exact ⟨by omega, by omega, fun h => h⟩))
    have HYO := hidden (hr.other HY5.out (fun x hx => by simp [Value.ownBlock] at hx; subst hx; exact ⟨by omega, by omega, fun h => h⟩))
    have HBW := hidden (HB5.out.trans (hr.below rfl hpw (fun x h => h.elim)))
    have HR2 := hidden hr
    have HNN := hidden hnn
    clear hr hnn
    by_cases hlt : t < 3
    · go_wp2_with fail
      refine region12 ad len cap N m ae len2 cap2 (p + 1) gy _ _ l s (3 * t) w5.heap.size (.slice aA (3 * t) cA) _ wo _ _ HXO.out HYO.out hle.out hle2.out hby.out hby2.out HR2.out.l (by omega) HR2.out.size (by omega) hN hm0 hm1 rfl rfl rfl rfl rfl rfl rfl rfl ?_
      intro v62 v63 v64 v65 v66 v67 v68 v69 v70 v71 v72 v73 v74 v75 v76 v77 v78 v79 v80 v81 v82 v83 v84 v85 g6 c6 x1 x2 x3 w6 ho6 ht6 hg6
      obtain ⟨adk', nn', cc', L', hr6, hk1, hk2, hk3, hk4⟩ := HR2.out.three ho6 ht6 hg6
      clear ho6 ht6 hg6
      have hx6 := hr6.other HX5.out (fun x hx => by simp [Value.ownBlock] at hx; subst hx; exact ⟨by omega, by omega, fun h => h⟩)
      have hy6 := hr6.other HY5.out (fun x hx => by simp [Value.ownBlock] at hx; subst hx; exact ⟨by omega, by omega, fun h => h⟩)
      have hbw6 := HB5.out.trans (hr6.below rfl hpw (fun x h => h.elim))
      have HR6 := hidden hr6
      have HX6 := hidden (lent_cells hx6 hby.out)
      have HY6 := hidden (lent_cells hy6 hby2.out)
      have HS6 := hidden (HS.out.later hbw6)
      have HT6 := hidden (HS2.out.later hbw6)
      have HK := hidden (And.intro hk1 (And.intro hk2 (And.intro hk3 hk4)))
      clear hr6 hx6 hy6 hbw6 hk1 hk2 hk3 hk4
      go_wp2_with fail
      refine (still_any (p + 1) 0 (len + 8) ad len cap l w6 HX6.out HS6.out (by omega)).mono ?_
      rintro e _ ⟨rfl, n7, rfl⟩
      go_wp2_with fail
      refine (still_any gy 0 (len2 + 8) ae len2 cap2 s (w6.drewN n7) HY6.out (sl_drewN HT6.out _) (by omega)).mono ?_
      rintro e _ ⟨rfl, n8, rfl⟩
      have HR8 := hidden (HR6.out.drewN (n7 + n8))
      go_wp2
      go_roundw
      case rel =>
        refine ⟨t + 1, _, _, _, _, by omega, by go_num, HR8.out, fun k hk => ?_⟩
        obtain ⟨q1, q2, q3, q4⟩ := HK.out
        exact want_next t HNN.out q1 q2 q3 q4 k hk
      case measure => simp [intOf]; omega
    · obtain rfl : t = 3 := by omega
      clear hlt ht
      obtain ⟨gA, rfl⟩ := owns_addr HR2.out.l (by omega)
      have hfl := fold_le m hm0 hm1
      have HALL := hidden (show ∀ k, k < 9 → wo.cell? ⟨gA, k, none⟩ = some (.slice (adk k) (nn k) (cc k)) from fun k hk => by
        rw [HR2.out.l.cellAt k (by omega)]
        simp [VV, hk])
      have HROW := hidden (show ∀ k, k < 9 → Sl wo (adk k) (nn k) (WL l s N (fold m) len2 k) from fun k hk => by
        have h1 := HR2.out.row k hk
        rw [(HNN.out k hk).2] at h1
        exact sl_of_owns h1 (wl_byte hby.out hby2.out N (fold m) len2 hN hfl (by omega) k))
      have HW8 := hidden ((HR2.out.keep g8 hg8z (by omega) (fun h => h)).trans HW5.out)
      clear hfl
      go_wp2_with fail
      go_loopw [18] (fun iv wr => ∃ k n : Nat, k ≤ 9 ∧ iv = .int .i64 k ∧ wr = wo.drewN n) (fun iv _ => 9 - (intOf iv).toNat)
      case atStart => exact ⟨0, 0, by omega, rfl, rfl⟩
      case round =>
        obtain ⟨k, n, hk, rfl, rfl⟩ := hrel
        by_cases hk9 : k < 9
        · have hc := HALL.out k hk9
          have kc : ∀ n, (convert 22 9 (.slice (adk k) (nn k) (cc k))).run Try.prog (wo.drewN n) = .ok (.string (strOfNums (WL l s N (fold m) len2 k))) (wo.drewN n) := fun n => conv (sl_drewN (HROW.out k hk9) n)
          have hw := want_cell HW8.out k
          generalize WL l s N (fold m) len2 k = Z at *
          generalize adk k = ak at *
          generalize nn k = nk at *
          generalize cc k = ck at *
          go_wp2_with fail
          go_quiet (fail)
          go_wp2
          exact ⟨⟨k + 1, n + nq, by omega, by go_num, rfl⟩, by simp [intOf]; omega⟩
        · obtain rfl : k = 9 := by omega
          clear hk hk9
          have hr9 : R w5 w5.heap.size p 9 (fun _ => False) (wo.drewN n) (.slice none 0 0) (.slice none 0 0) (.slice (some ⟨gA, 0, none⟩) 9 cA) 9 ((List.range 9).map (VV adk nn cc)) (.slice none 0 0) 0 [] (VV adk nn cc) nn L := HR2.out.drewN n
          have hxn : (wo.drewN n).ownsRow (p + 1) 5 1 (.slice (some ⟨p + 1, 0, none⟩) (len + 8) (len + 8)) (len + 8) (cells8 (l ++ List.replicate 8 201)) := HXO.out
          have hyn : (wo.drewN n).ownsRow gy 5 1 (.slice (some ⟨gy, 0, none⟩) (len2 + 8) (len2 + 8)) (len2 + 8) (cells8 (s ++ List.replicate 8 201)) := HYO.out
          have hbn := below_drewN HBW.out n
          have HR9 := hidden hr9
          have HXN := hidden hxn
          have HYN := hidden hyn
          have HBN := hidden hbn
          have HN9 := hidden (show ∀ k, k < 9 → nn k ≤ 140737488351232 from fun k hk => by
            have h1 := (HNN.out k hk).1
            have h2 := wn_le len N (fold m) len2 k hb hb2
            omega)
          clear hr9 hxn hyn hbn HALL HROW HW8 HR2 HXO HYO HBW HNN HR
          go_wp2_with fail
          generalize wo.drewN n = wd at *
          refine (fill_any p gA 9 cA adk nn cc L _ wd HR9.out.restart (fun k hk => ?hA) ?hg1 ?hg2 ?hg3 (by omega) (fun k hk => HN9.out k hk)).mono ?_
          case hA =>
            rw [HR9.out.l.cellAt k (by omega)]
            simp [VV, hk]
          case hg1 => exact (own_lt HR9.out.l rfl).2
          case hg2 =>
            have h5 : w5.heap.size ≤ gA := (own_lt HR9.out.l rfl).1
            omega
          case hg3 =>
            rintro ⟨k, hk, hx⟩
            exact owns_apart (HR9.out.row k hk) HR9.out.l (by decide) hx rfl
          rintro e w6 ⟨rfl, vl, vm, D, N4, L4, hf, hL4, hrd⟩
          have hdm : ∀ x, (∃ k, k < 9 ∧ (VV adk nn cc k).ownBlock = some x) → w5.heap.size ≤ x := by
            rintro x ⟨k, hk, hx⟩
            rcases (HR9.out.dom k hk x hx).2.1 with h1 | h1
            · exact h1.elim
            · exact h1
          have hsz := HR9.out.size
          have hxo6 := hf.other HXN.out (fun x hx => by simp [Value.ownBlock] at hx; subst hx; exact ⟨by omega, by omega, fun h => by have := hdm _ h; omega⟩)
          have hyo6 := hf.other HYN.out (fun x hx => by simp [Value.ownBlock] at hx; subst hx; exact ⟨by omega, by omega, fun h => by have := hdm _ h; omega⟩)
          have hbw6 := HBN.out.trans (hf.below rfl hpw (fun x h => by have := hdm _ h; omega))
          obtain ⟨al4, cl4, rfl⟩ := owns_form hf.l
          obtain ⟨am4, cm4, rfl⟩ := owns_form hf.mm
          obtain ⟨gl, rfl⟩ := owns_addr hf.l (by omega)
          obtain ⟨gm, rfl⟩ := owns_addr hf.mm (by omega)
          have hlook := hidden (looks_any p gl cl4 gm cm4 18 w6 (r_cell hf).1 (r_cell hf).2.1 (fun q hq => looks_of hf hL4 hrd (by omega) (fun k hk => HN9.out k hk) q hq) (by omega))
          have HXO6 := hidden hxo6
          have HYO6 := hidden hyo6
          have HBW6 := hidden hbw6
          clear hxo6 hyo6 hbw6 hf hL4 hrd hdm HR9 HXN HYN HBN HN9
          go_wp2_with fail
          refine hlook.out.mono ?_
          rintro e _ ⟨rfl, n7, rfl⟩
          clear hlook
          have HX7 := hidden (lent_cells HXO6.out hby.out)
          have HY7 := hidden (lent_cells HYO6.out hby2.out)
          have HS7 := hidden (HS.out.later HBW6.out)
          have HT7 := hidden (HS2.out.later HBW6.out)
          go_wp2_with fail
          refine (still_any (p + 1) 0 (len + 8) ad len cap l (w6.drewN n7) HX7.out (sl_drewN HS7.out _) (by omega)).mono ?_
          rintro e _ ⟨rfl, n8, rfl⟩
          go_wp2_with fail
          refine (still_any gy 0 (len2 + 8) ae len2 cap2 s (w6.drewN (n7 + n8)) HY7.out (sl_drewN HT7.out _) (by omega)).mono ?_
          rintro e _ ⟨rfl, n9, rfl⟩
          clear HX7 HY7 HS7 HT7
          have hxo9 : (w6.drewN (n7 + n8 + n9)).ownsRow (p + 1) 5 1 (.slice (some ⟨p + 1, 0, none⟩) (len + 8) (len + 8)) (len + 8) (cells8 (bump (l ++ List.replicate 8 201) 0)) := by rw [bump_zero]; exact HXO6.out
          have hyo9 : (w6.drewN (n7 + n8 + n9)).ownsRow gy 5 1 (.slice (some ⟨gy, 0, none⟩) (len2 + 8) (len2 + 8)) (len2 + 8) (cells8 (s ++ List.replicate 8 201)) := HYO6.out
          have HXO9 := hidden hxo9
          have HYO9 := hidden hyo9
          have HBW9 := hidden (below_drewN HBW6.out (n7 + n8 + n9))
          have HXL := hidden (show (l ++ List.replicate 8 201).length = len + 8 by simp [hle.out])
          have HYL := hidden (show (s ++ List.replicate 8 201).length = len2 + 8 by simp [hle2.out])
          have HXB := hidden (lent_byte hby.out)
          have HYB := hidden (lent_byte hby2.out)
          clear hxo9 hyo9 HXO6 HYO6 HBW6 HX5 HY5 HB5 HW5
          go_wp2_with fail
          generalize w6.drewN (n7 + n8 + n9) = w9 at *
          generalize l ++ List.replicate 8 201 = X at *
          generalize s ++ List.replicate 8 201 = Y at *
          go_loopw [22] (fun kv wr => ∃ k : Nat, k ≤ len + 8 ∧ kv = .int .i64 k ∧ wr.ownsRow (p + 1) 5 1 (.slice (some ⟨p + 1, 0, none⟩) (len + 8) (len + 8)) (len + 8) (cells8 (bump X k)) ∧ wr.ownsRow gy 5 1 (.slice (some ⟨gy, 0, none⟩) (len2 + 8) (len2 + 8)) (len2 + 8) (cells8 Y) ∧ Below w.heap.size w wr) (fun kv _ => len + 8 - (intOf kv).toNat)
          case atStart => exact ⟨0, Nat.zero_le _, rfl, HXO9.out, HYO9.out, HBW9.out⟩
          case round =>
            obtain ⟨k, hk, rfl, hown, hyr, hbel⟩ := hrel
            by_cases hk8 : k < len + 8
            · have hcell : wr.cell? ⟨p + 1, k, none⟩ = some (.int .u8 (X.getD k 0)) := by
                rw [hown.cellAt k (by omega)]
                exact bump_at X k (by rw [HXL.out]; exact hk8)
              have hfr := hown.frozenAt k
              have hst := hidden (hown.stored k (.int .u8 (inc (X.getD k 0))))
              have hcb := HXB.out.at k
              have HYR := hidden hyr
              have HX1 := hidden (bump_set X k (by rw [HXL.out]; exact hk8))
              clear hown hyr
              generalize X.getD k 0 = c at *
              go_wp2
              refine ⟨⟨k + 1, by omega, by go_num, ?_, ?_, ?_⟩, by simp [intOf]; omega⟩
              · have h1 := hst.out.1
                rw [HX1.out] at h1
                exact h1
              · exact kept' HYR.out hst.out.2 (fun x hx e => by simp [Value.ownBlock] at hx; obtain rfl := Option.some.inj e; omega)
              · exact hbel.grown hst.out.2 hbel.size (fun x hx => by obtain rfl := Option.some.inj hx; omega)
            · obtain rfl : k = len + 8 := by omega
              rw [bump_all X _ HXL.out] at hown
              have HXR := hidden hown
              have HYR := hidden (show wr.ownsRow gy 5 1 (.slice (some ⟨gy, 0, none⟩) (len2 + 8) (len2 + 8)) (len2 + 8) (cells8 (bump3 Y 0)) by rw [bump3_zero]; exact hyr)
              have HBR := hidden hbel
              clear hown hyr hbel HXO9 HYO9 HBW9 hk hk8
              go_wp2_with fail
              rename World => wa
              go_loopw [23] (fun kv wr => ∃ k : Nat, k ≤ len2 + 8 ∧ kv = .int .i64 k ∧ wr.ownsRow (p + 1) 5 1 (.slice (some ⟨p + 1, 0, none⟩) (len + 8) (len + 8)) (len + 8) (cells8 (X.map inc)) ∧ wr.ownsRow gy 5 1 (.slice (some ⟨gy, 0, none⟩) (len2 + 8) (len2 + 8)) (len2 + 8) (cells8 (bump3 Y k)) ∧ Below w.heap.size w wr) (fun kv _ => len2 + 8 - (intOf kv).toNat)
              case atStart => exact ⟨0, Nat.zero_le _, rfl, HXR.out, HYR.out, HBR.out⟩
              case round =>
                obtain ⟨k, hk, rfl, hxr, hown, hbel⟩ := hrel
                by_cases hk8 : k < len2 + 8
                · have hcell : wr.cell? ⟨gy, k, none⟩ = some (.int .u8 (Y.getD k 0)) := by
                    rw [hown.cellAt k (by omega)]
                    exact bump3_at Y k (by rw [HYL.out]; exact hk8)
                  have hfr := hown.frozenAt k
                  have hst := hidden (hown.stored k (.int .u8 (inc3 (Y.getD k 0))))
                  have hcb := HYB.out.at k
                  have HXQ := hidden hxr
                  have HX1 := hidden (bump3_set Y k (by rw [HYL.out]; exact hk8))
                  clear hown hxr
                  generalize Y.getD k 0 = c at *
                  go_wp2
                  refine ⟨⟨k + 1, by omega, by go_num, ?_, ?_, ?_⟩, by simp [intOf]; omega⟩
                  · exact kept' HXQ.out hst.out.2 (fun x hx e => by simp [Value.ownBlock] at hx; obtain rfl := Option.some.inj e; omega)
                  · have h1 := hst.out.1
                    rw [HX1.out] at h1
                    exact h1
                  · exact hbel.grown hst.out.2 hbel.size (fun x hx => by obtain rfl := Option.some.inj hx; omega)
                · obtain rfl : k = len2 + 8 := by omega
                  rw [bump3_all Y _ HYL.out] at hown
                  have HX10 := hidden ((sl_of_owns hxr (bump_byte X)).take (N := len) (by omega))
                  have HY10 := hidden ((sl_of_owns hown (bump3_byte Y)).take (N := len2) (by omega))
                  have HB10 := hidden hbel
                  clear hown hxr hbel HXR HYR HBR hk hk8
                  go_wp2_with fail
                  refine region34 ad len cap ae len2 cap2 (p + 1) gy _ _ wr _ _ HX10.out HY10.out (by omega) rfl rfl rfl rfl rfl ?_
                  intro v153 v154 v155 v156 v157 v158 v159 v160 v161 az cz w11 hz11 hB11
                  have HX11 := hidden (HX10.out.later hB11)
                  have HY11 := hidden (HY10.out.later hB11)
                  have HB11 := hidden (HB10.out.trans (hB11.mono HB10.out.size))
                  have HZ11 := hidden hz11
                  clear hz11 hB11
                  go_wp2_with fail
                  refine region35 ad len cap ae len2 cap2 (p + 1) gy _ _ w11 _ _ az cz _ HZ11.out HX11.out HY11.out (by omega) (by (iterate 10 rw [put_size']); rfl) (by (iterate 10 rw [put_slot _ _ _ _ (by decide)]); rfl) (by (iterate 10 rw [put_slot _ _ _ _ (by decide)]); rfl) (by (iterate 10 rw [put_slot _ _ _ _ (by decide)]); rfl) (by (iterate 10 rw [put_slot _ _ _ _ (by decide)]); rfl) (by (iterate 10 rw [put_slot _ _ _ _ (by decide)]); rfl) (by (iterate 10 rw [put_slot _ _ _ _ (by decide)]); rfl) (by (iterate 10 rw [put_slot _ _ _ _ (by decide)]); rfl) (by (iterate 10 rw [put_slot _ _ _ _ (by decide)]); rfl) (put_same _ 24 _ (by (iterate 9 rw [put_size']); exact (by decide : 24 < 187))) ?_
                  intro a wz ha hda hbz
                  obtain ⟨tz, dz⟩ := a
                  obtain rfl : dz = [] := hda
                  have HA := hidden ha
                  clear ha
                  go_wp2
                  go_ret
                  exact ⟨congrArg Ending.returned HA.out, HB11.out.trans (hbz.mono HB11.out.size)⟩

end Go.Proofs.Ytfhhcpcedfgceaa
