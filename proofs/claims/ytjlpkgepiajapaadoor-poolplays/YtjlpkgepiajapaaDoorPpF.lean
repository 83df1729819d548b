/-
  The document's pool: Slots, Used, Drop.
-/
import Derived.Test.YtjlpkgepiajapaaDoorPpE
namespace Go.Proofs.YtjlpkgepiajapaaDoor
open Go.RowKit
set_option linter.unusedVariables false
set_option linter.unusedSimpArgs false

theorem str_eqR (s T : ByteArray) : (s.toList == T.toList) = decide (s = T) := by
  rw [Bool.eq_iff_iff]
  simp only [beq_iff_eq, decide_eq_true_eq]
  constructor
  · intro h
    rw [ByteArray.toList_eq, ByteArray.toList_eq] at h
    obtain ⟨⟨x⟩⟩ := s
    obtain ⟨⟨y⟩⟩ := T
    simpa using h
  · rintro rfl
    rfl

theorem slL_succ (st : Sx) (i : Nat) (o : ByteArray) : slL st (i + 1) o = slL st i o ++ (match st i with | some x => if x.1 = o then [(i : Int)] else [] | none => []) := by
  unfold slL setL
  rw [List.range_succ, List.filterMap_append, List.map_append]
  congr 1
  cases e : st i with
  | none => simp [e]
  | some x =>
    by_cases h : x.1 = o
    · simp [e, h]
    · simp [e, h]
theorem inf3' : ∃ i0, Tryd.prog.info? 3 = some i0 ∧ i0.zero = some (.int .i64 0) ∧ i0.size = 1 ∧ i0.bytes = 8 := info_parts (show (Tryd.prog.info? 3).map (fun i => (i.zero, i.size, i.bytes)) = some (some (.int .i64 0), 1, 8) by kernel_rfl)
theorem slL_le (st : Sx) (i : Nat) (o : ByteArray) : (slL st i o).length ≤ i := by rw [slL_len]; exact setL_len st i o
set_option maxHeartbeats 2000000 in
theorem slotsR (o : ByteArray) (r q n : Nat) (st : Sx) (B : Nat → Value) (w : World) (h : RP w r q n st B) :
    Calls Tryd.prog 26 #[.pointer (some ⟨r, 0, none⟩), .string o] w fun e w' => ∃ v, e = .returned v ∧ w'.ownsRow w.heap.size 3 1 v (slL st n o).length ((slL st n o).map encZ) ∧ Below w.heap.size w w' := by
  have hn := h.n1
  have HR := hidden h
  obtain ⟨i0, hi0, hz0, hz1, hz2⟩ := inf3'
  have HI0 := hidden (And.intro hi0 (And.intro hz0 (And.intro hz1 hz2)))
  clear h hi0 hz0 hz1 hz2
  go_enter Tryd.func26, Tryd.ntmps26
  go_wp2_with fail
  go_loopw [5, 6] (fun v5 v6 wx => ∃ (i : Nat) (ad : Option Addr) (c : Nat), v5 = .slice ad (slL st i o).length c ∧ v6 = .int .i64 (i : Int) ∧ i ≤ n ∧ Hid (wx.ownsRow w.heap.size 3 1 (.slice ad (slL st i o).length c) (slL st i o).length ((slL st i o).map encZ)) ∧ Hid (Below w.heap.size w wx)) (fun _ v6 _ => n - (intOf v6).toNat)
  case atStart => exact ⟨0, none, 0, rfl, rfl, by omega, hidden (World.ownsRow_nil _ _ _ _), hidden (Below.refl _ _)⟩
  case round =>
    obtain ⟨i, ad, c, rfl, rfl, hi, hO, hB⟩ := hrel
    have R1 := hidden (HR.out.later hB.out)
    have c0 := R1.out.c0
    have hls := slL_le st i o
    have hsu := slL_succ st i o
    obtain ⟨L, hL⟩ : ∃ L, (slL st i o).length = L := ⟨_, rfl⟩
    rw [hL] at hO hls ⊢
    have HL := hidden hL
    have HSU := hidden hsu
    have HSZ := hidden hB.out.size
    clear hL hsu
    by_cases hin : i < n
    · have k1 := R1.out.k1 hin
      cases hs : st i with
      | none =>
        have k0 := R1.out.k0 hin (show (st i).isSome = false by rw [hs]; rfl)
        have hnx : slL st (i + 1) o = slL st i o := by rw [HSU.out, hs]; simp
        have HNX := hidden hnx
        clear hnx hs k1
        go_wp2_with fail
        refine ⟨⟨i + 1, ad, c, by rw [HNX.out, HL.out], by first | rfl | simp, by omega, by rw [HNX.out, HL.out]; exact hO, hB⟩, ?_⟩
        show n - ((i : Int) + 1).toNat < n - (i : Int).toNat
        omega
      | some x =>
        have k0 := R1.out.k0 hin (show (st i).isSome = true by rw [hs]; rfl)
        rw [hs] at k1
        simp only [Option.map_some, Option.getD_some] at k1
        by_cases hx : x.1 = o
        · have hnx : slL st (i + 1) o = slL st i o ++ [(i : Int)] := by rw [HSU.out, hs]; simp [hx]
          have HNX := hidden hnx
          rw [hx] at k1
          clear hnx hs hx
          go_wp2_with (refine wpList_push _ rfl (.tmp 36) (.tmp 38) 22 rfl 3 i0 (.int .i64 0) 8 Tryd.underlying22 HI0.out.1 HI0.out.2.1 HI0.out.2.2.1 HI0.out.2.2.2 rfl w.heap.size (.slice ad L c) L ((slL st i o).map encZ) rfl (hO.out.alloc _) ⟨wr.heap.size, 0, none⟩ (.int .i64 (i : Int)) rfl (by simp) rfl (by unfold maxLen; omega) (by omega) (by have := HSZ.out; simp; omega) ?_; intro g9 c9 w9 h1 h2; have H9 := hidden h1; have B9 := hidden (hB.out.trans (h2.chg.1.below hB.out.size (fun k hk => (hO.out.lt k hk).1))); clear h1 h2)
          refine ⟨⟨i + 1, some ⟨g9, 0, none⟩, c9, ?_, by first | rfl | simp, by omega, ?_, B9⟩, ?_⟩
          · rw [HNX.out, List.length_append, HL.out]; rfl
          · rw [HNX.out, List.length_append, HL.out, List.map_append]; exact H9
          · show n - ((i : Int) + 1).toNat < n - (i : Int).toNat
            omega
        · have hnx : slL st (i + 1) o = slL st i o := by rw [HSU.out, hs]; simp [hx]
          have HNX := hidden hnx
          have hb1 : (x.1.toList == o.toList) = false := by rw [str_eqR]; simpa using hx
          clear hnx hs
          go_wp2_with fail
          refine ⟨⟨i + 1, ad, c, by rw [HNX.out, HL.out], by first | rfl | simp, by omega, by rw [HNX.out, HL.out]; exact hO, hB⟩, ?_⟩
          show n - ((i : Int) + 1).toNat < n - (i : Int).toNat
          omega
    · have hni : i = n := by omega
      subst hni
      go_wp2_with fail
      go_ret
      exact ⟨_, rfl, by rw [HL.out]; exact hO.out, hB.out⟩

theorem Nw.trans {w w1 : World} {F G K : Nat → Prop} (h : Nw w F G) (k : Nw w1 G K) (hs : w.heap.size ≤ w1.heap.size) : Nw w F K := fun i hi => by
  rcases k i hi with h1 | h1
  · exact h i h1
  · exact .inr (by omega)
theorem RPo.trans {w w1 w2 : World} {r q n : Nat} {st st' st'' : Sx} {B B' : Nat → Value} (h1 : RP w1 r q n st' B') (h2 : Chg (fun i => i = q) w w1) (h3 : Nw w (RG st B) (RG st' B')) (k : RPo w1 w2 r q n st' B' st'') : RPo w w2 r q n st B st'' := by
  obtain ⟨B2, k1, k2, k3⟩ := k
  exact ⟨B2, k1, h2.trans k2 (fun _ _ e => e), h3.trans k3 h2.size⟩
theorem RPo.later {w w1 w2 : World} {r q n : Nat} {st st' : Sx} {B : Nat → Value} (h : RPo w w1 r q n st B st') (b : Below w1.heap.size w1 w2) : RPo w w2 r q n st B st' := by
  obtain ⟨B2, k1, k2, k3⟩ := h
  exact ⟨B2, k1.later b, k2.trans (Chg.of_below (F := fun i => i = q) b) (fun _ _ e => e), k3⟩
theorem usedR (o : ByteArray) (r q n : Nat) (st : Sx) (B : Nat → Value) (w : World) (h : RP w r q n st B) :
    Calls Tryd.prog 28 #[.pointer (some ⟨r, 0, none⟩), .string o] w fun e w' => e = .returned (.int .i64 ((setL st n o).length : Int)) ∧ Below w.heap.size w w' := by
  have HS := hidden (slotsR o r q n st B w h)
  have hle := setL_len st n o
  have hn := h.n1
  have e1 := slL_len st n o
  obtain ⟨L, hL⟩ : ∃ L, (setL st n o).length = L := ⟨_, rfl⟩
  rw [hL] at e1 hle ⊢
  have E1 := hidden e1
  clear h e1 hL
  go_enter Tryd.func28, Tryd.ntmps28
  go_wp2_with (refine HS.out.mono ?_; clear HS; rintro e w1 ⟨v, rfl, h1, h2⟩; obtain ⟨ad, c, rfl⟩ := owns_form h1; rw [E1.out]; have H2 := hidden h2; clear h1 h2)
  go_ret
  exact ⟨rfl, H2.out⟩
set_option maxHeartbeats 4000000 in
theorem dropR (o : ByteArray) (r q n : Nat) (st : Sx) (B : Nat → Value) (w : World) (h : RP w r q n st B) :
    Calls Tryd.prog 30 #[.pointer (some ⟨r, 0, none⟩), .string o] w fun e w' => e = .returned (.int .i64 ((setL st n o).length : Int)) ∧ RPo w w' r q n st B (drpS st o) := by
  have HS := hidden (slotsR o r q n st B w h)
  have HR := hidden h
  have hn := h.n1
  have hln := slL_len st n o
  have hle := setL_len st n o
  have hb85 : Tryd.prog.built 85 [] = some #[.bool false, .string ⟨#[]⟩, .slice none 0 0] := by kernel_rfl
  rw [← hln] at hle ⊢
  clear h hln
  go_enter Tryd.func30, Tryd.ntmps30
  go_wp2_with (refine HS.out.mono ?_; clear HS; rintro e w1 ⟨v, rfl, h1, h2⟩; obtain ⟨ad, c, rfl⟩ := owns_form h1; have H1 := hidden h1; have H2 := hidden h2; clear h1 h2)
  obtain ⟨l, hl⟩ : ∃ l, slL st n o = l := ⟨_, rfl⟩
  have hmem : Hid (∀ k (x : Int), l[k]? = some x → ∃ i : Nat, x = (i : Int) ∧ i < n ∧ ∃ d, st i = some (o, d)) := hidden (fun k x hx => by
    have hm := List.mem_of_getElem? hx
    rw [← hl, mem_slL] at hm
    obtain ⟨i, h1, h2, h3⟩ := hm
    exact ⟨i, h3, h1, h2⟩)
  have hall : Hid (relS st (l.take l.length).reverse = drpS st o) := hidden (by
    rw [List.take_length]
    refine rel_all (n := n) HR.out.fin (fun p hp => ?_) (fun a ha => ?_)
    · rw [List.mem_reverse, ← hl]
      exact List.mem_map_of_mem hp
    · rw [List.mem_reverse, ← hl, mem_slL] at ha
      obtain ⟨i, h1, ⟨d, h2⟩, h3⟩ := ha
      exact ⟨i, d, h1, h2, h3⟩)
  have HHL := hidden hl
  rw [hl] at hle H1 ⊢
  clear hl
  obtain ⟨L, hL⟩ : ∃ L, l.length = L := ⟨_, rfl⟩
  have HL := hidden hL
  rw [hL] at hle ⊢
  clear hL
  go_loopw [6] (fun v6 wx => ∃ k : Nat, v6 = .int .i64 (k : Int) ∧ k ≤ L ∧ Hid (wx.ownsRow w.heap.size 3 1 (.slice ad L c) l.length (l.map encZ)) ∧ Hid (RPo w wx r q n st B (relS st (l.take k).reverse))) (fun v6 _ => L - (intOf v6).toNat)
  case atStart =>
    refine ⟨0, rfl, by omega, ?_, hidden ?_⟩
    · have h := H1.out; rw [HL.out] at h; rw [HL.out]; exact hidden h
    · rw [List.take_zero, List.reverse_nil, relS_nil]; exact RPo.later HR.out.same H2.out
  case round =>
    obtain ⟨k, rfl, hk, hO, hP⟩ := hrel
    clear H1 H2
    obtain ⟨B1, R1, C1, N1⟩ := hP.out
    have HR1 := hidden R1
    have HC1 := hidden C1
    have HN1 := hidden N1
    clear R1 C1 N1 hP
    by_cases hkL : k < L
    · have hx : l[k]? = some (l[k]'(by have := HL.out; omega)) := by simp
      generalize l[k]'(by have := HL.out; omega) = x at hx
      obtain ⟨i, rfl, hi, -⟩ := hmem.out k x hx
      obtain ⟨g, rfl⟩ : ∃ g, ad = some ⟨g, 0, none⟩ := by
        rcases hO.out.2 with ⟨h0, h1⟩ | ⟨g', cap, cur, hv, _⟩
        · have := HL.out; omega
        · simp only [Value.slice.injEq] at hv; exact ⟨g', hv.1⟩
      have cx := owns_at hO.out rfl hx
      have c0 := HR1.out.c0
      have k0 := HR1.out.k0 hi rfl
      have k1 := HR1.out.k1 hi
      obtain ⟨v2, k2⟩ := HR1.out.k2' hi
      have f0 := HR1.out.row.frozen (i * 3)
      have f1 := HR1.out.row.frozen (i * 3 + 1)
      have f2 := HR1.out.row.frozen (i * 3 + 2)
      have htk : l.take (k + 1) = l.take k ++ [(i : Int)] := by rw [List.take_add_one, hx]; rfl
      have HTK := hidden htk
      clear hx htk
      go_wp2_with fail
      go_region
      all_goals
        go_wp2_with fail
        have h2 := HR1.out.three hi none (fun _ _ e => by cases e)
        have hc := h2
        obtain ⟨_, _, hc, _⟩ := hc
        have h3 := RPo.trans HR1.out HC1.out HN1.out h2
        have e9 : relS st (l.take (k + 1)).reverse = upS (relS st (l.take k).reverse) i none := by rw [HTK.out, List.reverse_append, relS_cons]; rfl
        have ho := hc.owns hO.out (fun z hz e => (owns_tg hO.out z hz).ne HR1.out.row.tg (by decide) e)
        refine ⟨⟨k + 1, by first | rfl | simp, by omega, hidden ((Chg.drew (fun _ => False) _).owns ho (fun _ _ h => h)), hidden ?_⟩, ?_⟩
        · rw [e9]
          exact h3.later (below_drewN (Below.refl _ _) 1)
        · show L - ((k : Int) + 1).toNat < L - (k : Int).toNat
          omega
    · have hkl : k = L := by omega
      subst hkl
      go_wp2_with fail
      go_ret
      refine ⟨by rw [HHL.out, HL.out]; rfl, ?_⟩
      have h9 := hall.out
      rw [HL.out] at h9
      rw [← h9]
      exact ⟨B1, HR1.out, HC1.out, HN1.out⟩

end Go.Proofs.YtjlpkgepiajapaaDoor
