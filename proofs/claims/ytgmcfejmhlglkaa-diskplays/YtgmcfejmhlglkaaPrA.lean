/-
  A list is kept.
-/
import Derived.Test.YtgmcfejmhlglkaaPrM
namespace Go.Proofs.Ytgmcfejmhlglkaa
open Go.RowKit
set_option linter.unusedVariables false
set_option linter.unusedSimpArgs false

theorem info27 : (Try.prog.info? 27).map (fun i => (i.zero, i.size, i.bytes)) = some (some (.slice none 0 0), 1, 24) := by kernel_rfl
theorem fillx_set (L : List Int) (x : Int) (i : Nat) (h : i < L.length) : (cells8 (List.replicate i x ++ L.drop i)).set i (.int .u8 x) = cells8 (List.replicate (i + 1) x ++ L.drop (i + 1)) := by
  unfold cells8
  rw [List.drop_eq_getElem_cons h, ← List.map_set, List.set_append, if_neg (by simp), List.length_replicate, Nat.sub_self, List.set_cons_zero, List.replicate_succ']
  simp
theorem fillx_cell (L : List Int) (x : Int) (i : Nat) (h : i < L.length) : (cells8 (List.replicate i x ++ L.drop i))[i]? = some (.int .u8 (L.getD i 0)) := by
  unfold cells8
  rw [List.getElem?_map, List.getElem?_append_right (by simp)]
  simp [List.getD, h]
theorem byte_rep (n : Nat) {x : Int} (hx : 0 ≤ x ∧ x ≤ 255) : Byte (List.replicate n x) := fun z hz => by
  have := List.eq_of_mem_replicate hz
  omega
/-- What came out stays readable when it is grown. -/
theorem sl_pushed {w w' : World} {ad : Option Addr} {n j : Nat} {x : Int} {v : Value} {g c6 : Nat} {o : Obj} (hx : 0 ≤ x ∧ x ≤ 255) (hS : Sl w ad n (List.replicate n x)) (had : ad = none ∨ ∃ b, ad = some ⟨b, 0, none⟩) (ho : w'.ownsRow 0 5 1 (.slice (some ⟨g, 0, none⟩) (n + j) c6) (n + j) (cells8 (List.replicate (n + j) x))) (hp : Pushed (w.alloc o) w' v g) : Sl w' ad n (List.replicate n x) := by
  have hS2 := hS.later ((Below.refl _ w).alloc (Nat.le_refl _) o)
  rcases had with rfl | ⟨b, rfl⟩
  · have h0 : n = 0 := sl_noneQ hS rfl
    subst h0
    exact ⟨by simp, fun z hz => by simp at hz, fun k hk => by omega⟩
  · by_cases hbg : b = g
    · subst hbg
      have := (sl_of_owns ho (byte_rep _ hx)).take (Nat.le_add_right n j)
      rw [List.take_replicate, Nat.min_eq_left (Nat.le_add_right n j)] at this
      exact this
    · have hc : Chg (fun k => k = g) (w.alloc o) w' := by
        rcases hp with ⟨_, h⟩ | ⟨_, h⟩
        · exact Chg.of_grown h (fun i hi => (Option.some.inj hi).symm)
        · exact Chg.of_grown h (fun i hi => by cases hi)
      exact hc.sl hS2 (fun y hy _ e => hbg (by have e1 := Option.some.inj hy; subst e1; exact e))

set_option maxRecDepth 10000 in
set_option maxHeartbeats 4000000 in
theorem keep_any (w : World) (m : PM) (t : It) (st : List It) (L : List Value) (M : List Int) (Z : Nat → Prop) (h : PR w m t st L M Z) (ad : Option Addr) (n c : Nat) (xs : List Int) (ho : w.ownsRow 0 5 1 (.slice ad n c) n (cells8 xs)) (hn : n ≤ 16777216) (hml : M.length = L.length) (hll : L.length ≤ 1099511627776)
    (hv : ∀ g, (Value.slice ad n c).ownBlock = some g → ¬ FPp m t st g ∧ ¬ Z g) (x : Int) (hx : x = ((L.length + 1 : Nat) : Int) % 256) :
    Calls Try.prog 53 #[.pointer (some ⟨m.pp, 0, none⟩), .slice ad n c] w fun e w' => e = .returned (.tuple #[]) ∧ ∃ m' a' c' Z', m'.pp = m.pp ∧ m'.dv = m.dv ∧ m'.xv = m.xv ∧ PR w' m' t st (L ++ [.slice ad n c] ++ [.slice a' (n + 40) c']) (M ++ [x] ++ [x]) Z' ∧ Sl w' ad n (List.replicate n x) ∧ Sl w' a' (n + 40) (List.replicate (n + 40) x) ∧ (∀ k, Z k → Z' k) ∧
      (∀ k, Z' k → Z k ∨ (Value.slice ad n c).ownBlock = some k ∨ w.heap.size ≤ k) ∧ (∀ y, ad = some y → Z' y.block) ∧ (∀ y, a' = some y → Z' y.block) ∧ Chg (fun k => m.F k ∨ (Value.slice ad n c).ownBlock = some k) w w' ∧ (∀ k, m'.F k → m.F k ∨ w.heap.size ≤ k) := by
  have hxb : 0 ≤ x ∧ x ≤ 255 := by omega
  have hlen : xs.length = n := by have := ho.1; rw [cells8_length] at this; omega
  have had : ad = none ∨ ∃ b, ad = some ⟨b, 0, none⟩ := by
    rcases ho.2 with ⟨h0, _⟩ | ⟨g, cap, cur, h0, _⟩
    · simp only [Value.slice.injEq] at h0
      exact .inl h0.1
    · simp only [Value.slice.injEq] at h0
      exact .inr ⟨g, h0.1⟩
  have c4 := h.blk.cell 4
  simp only [List.getElem?_cons_succ, List.getElem?_cons_zero] at c4
  obtain ⟨la, lc, hlv⟩ := owns_form h.lv
  rw [hlv] at c4
  obtain ⟨ma, mc, hmv⟩ := owns_form h.mv
  obtain ⟨N, hN⟩ : ∃ N, L.length = N := ⟨_, rfl⟩
  rw [hN] at c4 hll hx
  have hwr : IntKind.u8.wrap ((N : Int) + 1) = x := by
    rw [hx]
    simp [IntKind.wrap, IntKind.signed, IntKind.bits]
  have HH := hidden h
  have HO := hidden ho
  have HV := hidden hv
  have HAD := hidden had
  have HN := hidden hN
  have HLEN := hidden hlen
  have HLV := hidden hlv
  have HMV := hidden hmv
  have HMV2 := hidden hmv
  have HML := hidden hml
  have HX := hidden hxb
  have HXE := hidden hx
  obtain ⟨pp, hpp⟩ : ∃ pp, m.pp = pp := ⟨_, rfl⟩
  have HPP := hidden hpp
  rw [hpp] at c4
  simp only [hpp]
  clear h ho hv had hN hlen hlv hml hx hpp hmv
  obtain ⟨i0, hi0, hz0, hz1, hz2⟩ := info_parts info5
  obtain ⟨i27, hi27, hy0, hy1, hy2⟩ := info_parts info27
  go_enter Try.func53, Try.ntmps53
  go_wp2_with fail
  go_loopw [5] (fun iv wr => ∃ i : Nat, i ≤ n ∧ iv = .int .i64 (i : Int) ∧ wr.ownsRow 0 5 1 (.slice ad n c) n (cells8 (List.replicate i x ++ xs.drop i)) ∧ Chg (fun k => (Value.slice ad n c).ownBlock = some k) w wr) (fun iv _ => n - (intOf iv).toNat)
  case atStart => exact ⟨0, Nat.zero_le _, rfl, by simpa using HO.out, Chg.refl _ _⟩
  case round =>
    rename World => wr
    obtain ⟨i, hi, rfl, hO, hC⟩ := hrel
    have HC := hidden hC
    have HOr := hidden hO
    clear hC
    by_cases hin : i < n
    · obtain ⟨b, rfl⟩ : ∃ b, ad = some ⟨b, 0, none⟩ := by
        rcases HAD.out with rfl | hb
        · have := (owns_none HO.out rfl).1
          omega
        · exact hb
      have hci : wr.cell? ⟨b, i, none⟩ = some (.int .u8 (xs.getD i 0)) := owns_cell hO _ _ (fillx_cell xs x i (by rw [HLEN.out]; exact hin))
      have hfi := owns_frozen hO i
      clear hO
      have H2 : Hid ((wr.setCell ⟨b, i, none⟩ (.int .u8 x)).ownsRow 0 5 1 (.slice (some ⟨b, 0, none⟩) n c) n (cells8 (List.replicate (i + 1) x ++ xs.drop (i + 1)))) := by
        have := owns_setv HOr.out i (.int .u8 x) (by rw [cells8_length]; have := HLEN.out; simp; omega)
        rw [fillx_set xs x i (by rw [HLEN.out]; exact hin)] at this
        exact this
      have H3 : Hid (Chg (fun k => (Value.slice (some ⟨b, 0, none⟩) n c).ownBlock = some k) w (wr.setCell ⟨b, i, none⟩ (.int .u8 x))) := HC.out.trans (Chg.set ⟨b, i, none⟩ _ wr) (fun k _ e => by have e2 : k = b := e; subst e2; rfl)
      go_wp2_with fail
      refine ⟨⟨i + 1, by omega, by first | rfl | simp, H2.out, H3.out⟩, ?_⟩
      simp [intOf]
      omega
    · have hie : i = n := by omega
      subst hie
      clear hO
      have hPR1 : PR wr m t st L M Z := HH.out.chg HC.out (fun k hk e => (HV.out k e).1 hk) (fun k hk e => (HV.out k e).2 hk)
      have hO1 : wr.ownsRow 0 5 1 (.slice ad i c) i (cells8 (List.replicate i x)) := by
        have := HOr.out
        rw [List.drop_eq_nil_of_le (by rw [HLEN.out]; exact Nat.le_refl _), List.append_nil] at this
        exact this
      have d4 := hPR1.blk.cell 4
      simp only [List.getElem?_cons_succ, List.getElem?_cons_zero] at d4
      rw [HPP.out, HLV.out, HN.out] at d4
      have hol : wr.ownsRow 0 27 1 (.slice la N lc) N L := by
        have := hPR1.lv
        rw [HLV.out, HN.out] at this
        exact this
      have HOL := hidden hol
      have HPR1 := hidden hPR1
      have HO1 := hidden hO1
      clear hPR1 hO1 hol HOr
      go_upto_region 6 with (at_builtin; (refine wpList_push _ rfl (.tmp 28) (.tmp 30) 37 rfl 27 i27 (.slice none 0 0) 24 Try.underlying37 hi27 hy0 hy1 hy2 rfl 0 (.slice la N lc) N L rfl (by exact (Chg.alloc (fun _ => False) wr _).owns HOL.out (fun _ _ h => h)) ⟨wr.heap.size, 0, none⟩ (.slice ad i c) rfl (by first | (simp; done) | (simp; omega)) rfl (by unfold maxLen; omega) (by omega) (Nat.zero_le _) ?_); intro g6 c6 w6 ho6 hp6; obtain ⟨B6, P6, C6, G6⟩ := HPR1.out.pushL (by rw [HN.out]; exact ho6) (by rw [HLV.out, HN.out]; exact hp6); rw [HPP.out, HLV.out, HMV.out, HML.out, HN.out] at B6; rw [HPP.out, HN.out] at P6 C6; have d0 : w6.cell? ⟨pp, 4, none⟩ = some (.slice la N lc) := B6.cell 4; have f0 := B6.frozen 4; have HP6 := hidden P6; have HC6 := hidden C6; have HG6 := hidden G6; clear B6 P6 C6 G6 ho6 hp6)
      generalize w6.setCell ⟨pp, 4, none⟩ (.slice (some ⟨g6, 0, none⟩) (N + 1) c6) = w7 at HP6 HC6 ⊢
      clear d0 f0 d4
      have d5 : w7.cell? ⟨pp, 5, none⟩ = some (.slice ma N mc) := by have := HP6.out.blk.cell 5; simp only [List.getElem?_cons_succ, List.getElem?_cons_zero, HPP.out, HMV.out, HML.out, HN.out] at this; exact this
      have hmv7 : w7.ownsRow 0 5 1 (.slice ma N mc) N (cells8 M) := by have := HP6.out.mv; simp only [HMV.out, HML.out, HN.out] at this; exact this
      have HMV7 := hidden hmv7
      clear hmv7
      go_upto_region 7 with (at_builtin; (refine wpList_push _ rfl (.tmp 38) (.tmp 40) 27 rfl 5 i0 (.int .u8 0) 1 Try.underlying27 hi0 hz0 hz1 hz2 rfl 0 (.slice ma N mc) N (cells8 M) rfl (by exact (Chg.alloc (fun _ => False) w7 _).owns HMV7.out (fun _ _ h => h)) ⟨w7.heap.size, 0, none⟩ (.int .u8 x) rfl (by first | (simp; done) | (simp; omega)) rfl (by unfold maxLen; omega) (by omega) (Nat.zero_le _) ?_); intro g7 c7 w8 ho8 hp8; obtain ⟨B8, P8, C8, G8⟩ := HP6.out.pushM HX.out (by rw [HML.out, HN.out]; exact ho8) (by simp only [HMV.out, HML.out, HN.out]; exact hp8); simp only [HPP.out, HMV.out, HML.out, HN.out] at B8 P8 C8; have d0 : w8.cell? ⟨pp, 5, none⟩ = some (.slice ma N mc) := B8.cell 5; have f0 := B8.frozen 5; have HP8 := hidden P8; have HC8 := hidden C8; have HG8 := hidden G8; clear B8 P8 C8 G8 ho8 hp8)
      generalize w8.setCell ⟨pp, 5, none⟩ (.slice (some ⟨g7, 0, none⟩) (N + 1) c7) = w9 at HP8 HC8 ⊢
      clear d0 f0 d5
      have hvb : ∀ g, (Value.slice ad i c).ownBlock = some g → g < wr.heap.size ∧ g ≠ pp ∧ (Value.slice la N lc).ownBlock ≠ some g ∧ (Value.slice ma N mc).ownBlock ≠ some g := by
        intro g hg
        refine ⟨(HO1.out.lt g hg).2, fun e => (HV.out g hg).1 (.inl (.inl (by rw [HPP.out]; exact e))), fun e => (HV.out g hg).1 (.inl (.inr (.inr (.inr (.inl ?_))))), fun e => (HV.out g hg).1 (.inl (.inr (.inr (.inr (.inr ?_)))))⟩
        · rw [HLV.out, HN.out]
          exact e
        · rw [HMV.out, HML.out, HN.out]
          exact e
      have hC6' : Chg (fun k => k = pp ∨ (Value.slice la N lc).ownBlock = some k) wr w7 := by have := HC6.out; rw [HLV.out, HN.out] at this; exact this
      have hO9 : w9.ownsRow 0 5 1 (.slice ad i c) i (cells8 (List.replicate i x)) := by
        refine HC8.out.owns (hC6'.owns HO1.out (fun g hg e => ?_)) (fun g hg e => ?_)
        · obtain ⟨_, h1, h2, h3⟩ := hvb g hg
          rcases e with e | e
          · exact h1 e
          · exact h2 e
        · obtain ⟨_, h1, h2, h3⟩ := hvb g hg
          rcases e with e | e
          · exact h1 e
          · exact h3 e
      obtain ⟨m9, hm9⟩ : ∃ m9 : PM, ({ pp := pp, dv := m.dv, xv := m.xv, lv := Value.slice (some ⟨g6, 0, none⟩) (N + 1) c6, mv := Value.slice (some ⟨g7, 0, none⟩) (N + 1) c7 } : PM) = m9 := ⟨_, rfl⟩
      have hw7 : wr.heap.size ≤ w7.heap.size := hC6'.size
      have hgl6 : m.lv.ownBlock = some g6 ∨ wr.heap.size ≤ g6 := HG6.out
      have hgm7 : m.mv.ownBlock = some g7 ∨ w7.heap.size ≤ g7 := HG8.out
      have hwr0 : w.heap.size ≤ wr.heap.size := HC.out.size
      have hm9F : ∀ k, m9.F k → m.F k ∨ w.heap.size ≤ k := by
        rintro k hk
        rw [← hm9] at hk
        rcases hk with e | e | e | e | e
        · exact .inl (.inl (by rw [HPP.out]; exact e))
        · exact .inl (.inr (.inl e))
        · exact .inl (.inr (.inr (.inl e)))
        · have e1 : g6 = k := Option.some.inj e
          subst e1
          rcases hgl6 with e2 | e2
          · exact .inl (.inr (.inr (.inr (.inl e2))))
          · exact .inr (by omega)
        · have e1 : g7 = k := Option.some.inj e
          subst e1
          rcases hgm7 with e2 | e2
          · exact .inl (.inr (.inr (.inr (.inr e2))))
          · exact .inr (by omega)
      have hnF9 : ∀ g, (Value.slice ad i c).ownBlock = some g → ¬ FPp m9 t st g ∧ ¬ Z g := by
        intro g hg
        refine ⟨?_, (HV.out g hg).2⟩
        rintro (hk | hk)
        · rw [← hm9] at hk
          have hgl := (hvb g hg).1
          rcases hk with e | e | e | e | e
          · exact (hvb g hg).2.1 e
          · exact (HV.out g hg).1 (.inl (.inr (.inl e)))
          · exact (HV.out g hg).1 (.inl (.inr (.inr (.inl e))))
          · have e1 : g6 = g := Option.some.inj e
            subst e1
            rcases hgl6 with e2 | e2
            · exact (HV.out g6 hg).1 (.inl (.inr (.inr (.inr (.inl e2)))))
            · omega
          · have e1 : g7 = g := Option.some.inj e
            subst e1
            rcases hgm7 with e2 | e2
            · exact (HV.out g7 hg).1 (.inl (.inr (.inr (.inr (.inr e2)))))
            · omega
        · exact (HV.out g hg).1 (.inr hk)
      have hC9 : Chg (fun k => m.F k ∨ (Value.slice ad i c).ownBlock = some k) w w9 := by
        refine ((HC.out.mono (fun _ _ h => .inr h)).trans hC6' (fun k hk e => ?_)).trans HC8.out (fun k hk e => ?_)
        · rcases e with e | e
          · exact .inl (.inl (by rw [HPP.out]; exact e))
          · exact .inl (.inr (.inr (.inr (.inl (by rw [HLV.out, HN.out]; exact e)))))
        · rcases e with e | e
          · exact .inl (.inl (by rw [HPP.out]; exact e))
          · exact .inl (.inr (.inr (.inr (.inr (by rw [HMV.out, HML.out, HN.out]; exact e)))))
      rw [hm9] at HP8
      have hpp9 : m9.pp = pp := by rw [← hm9]
      have hlv9 : m9.lv = .slice (some ⟨g6, 0, none⟩) (N + 1) c6 := by rw [← hm9]
      have hmv9 : m9.mv = .slice (some ⟨g7, 0, none⟩) (N + 1) c7 := by rw [← hm9]
      have hdv9 : m9.dv = m.dv ∧ m9.xv = m.xv := by rw [← hm9]; exact ⟨rfl, rfl⟩
      have HO9 := hidden hO9
      have HNF := hidden hnF9
      have HC9 := hidden hC9
      have HMF := hidden hm9F
      have HPP9 := hidden hpp9
      have HLV9 := hidden hlv9
      have HMV9 := hidden hmv9
      have HDV9 := hidden hdv9
      clear hvb hC6' hO9 hw7 hgl6 hgm7 hwr0 hm9F hnF9 hC9 hpp9 hlv9 hmv9 hdv9 hm9 HC6 HC8 HG6 HG8 HP6 HMV7 HOL HPR1 HO1 HC
      go_wp2_with fail
      go_loopw [1, 6] (fun sv jv wz => ∃ (j : Nat) (a' : Option Addr) (c' : Nat), j ≤ 40 ∧ jv = .int .i64 (j : Int) ∧ sv = .slice a' (i + j) c' ∧ wz.ownsRow 0 5 1 (.slice a' (i + j) c') (i + j) (cells8 (List.replicate (i + j) x)) ∧ Sl wz ad i (List.replicate i x) ∧ PR wz m9 t st (L ++ [.slice ad i c]) (M ++ [x]) Z ∧ (∀ g, (Value.slice a' (i + j) c').ownBlock = some g → ((Value.slice ad i c).ownBlock = some g ∨ w.heap.size ≤ g) ∧ ¬ FPp m9 t st g ∧ ¬ Z g) ∧ (∀ g, (Value.slice ad i c).ownBlock = some g → ¬ FPp m9 t st g ∧ Tg wz g 5) ∧ Chg (fun k => m.F k ∨ (Value.slice ad i c).ownBlock = some k) w wz) (fun _ jv _ => 40 - (intOf jv).toNat)
      case atStart => exact ⟨0, ad, c, by omega, rfl, rfl, HO9.out, sl_of_owns HO9.out (byte_rep _ HX.out), HP8.out, fun g hg => ⟨.inl hg, HNF.out g hg⟩, fun g hg => ⟨(HNF.out g hg).1, owns_tg HO9.out g hg⟩, HC9.out⟩
      case round =>
        rename World => wz
        obtain ⟨j, a', c', hj, rfl, rfl, r1, r2, r3, r4, r5, r6⟩ := hrel
        have R1 := hidden r1
        have R2 := hidden r2
        have R3 := hidden r3
        have R4 := hidden r4
        have R5 := hidden r5
        have R6 := hidden r6
        clear r1 r2 r3 r4 r5 r6 HO9 HP8 HC9
        by_cases hj40 : j < 40
        · go_wp2_with (at_builtin; (refine wpList_push _ rfl (.tmp 48) (.tmp 50) 27 rfl 5 i0 (.int .u8 0) 1 Try.underlying27 hi0 hz0 hz1 hz2 rfl 0 (.slice a' (i + j) c') (i + j) (cells8 (List.replicate (i + j) x)) rfl (by exact (Chg.alloc (fun _ => False) wz _).owns R1.out (fun _ _ h => h)) ⟨wz.heap.size, 0, none⟩ (.int .u8 x) rfl (by first | (simp; done) | (simp; omega)) rfl (by unfold maxLen; omega) (by omega) (Nat.zero_le _) ?_); intro gj cj wj hoj hpj; have HOJ := hidden hoj; have HPJ := hidden hpj; clear hoj hpj)
          have e1 : cells8 (List.replicate (i + j) x) ++ [.int .u8 x] = cells8 (List.replicate (i + (j + 1)) x) := by
            rw [← Nat.add_assoc, List.replicate_succ', cells8_append]
            rfl
          have hoj := HOJ.out
          rw [e1] at hoj
          obtain ⟨hcj, hmj⟩ := HPJ.out.chg
          have hnew : ∀ g, (Value.slice (some ⟨gj, 0, none⟩) (i + (j + 1)) cj).ownBlock = some g → (Value.slice a' (i + j) c').ownBlock = some g ∨ wz.heap.size ≤ g := by
            intro g hg
            have e2 : gj = g := Option.some.inj hg
            subst e2
            rcases hmj with e | ⟨g', e, hg'⟩
            · exact .inl e.symm
            · obtain rfl := Option.some.inj e
              exact .inr hg'
          refine ⟨⟨j + 1, some ⟨gj, 0, none⟩, cj, by omega, by first | rfl | simp, by first | rfl | (rw [Nat.add_assoc]), hoj, sl_pushed HX.out R2.out HAD.out hoj HPJ.out, R3.out.chg hcj (fun k hk e => (R4.out k e).2.1 hk) (fun k hk e => (R4.out k e).2.2 hk), fun g hg => ?_, fun g hg => ⟨(R5.out g hg).1, ?_⟩, R6.out.trans hcj (fun k hk e => ?_)⟩, ?_⟩
          · rcases hnew g hg with e | e
            · exact R4.out g e
            · have hs := R6.out.size
              refine ⟨.inr (by omega), fun hk => ?_, fun hk => ?_⟩
              · have := R3.out.lt g hk
                omega
              · have := R3.out.zl g hk
                omega
          · obtain ⟨cs, fr, hh⟩ := (R5.out g hg).2
            have hgl := (Array.getElem?_eq_some_iff.1 hh).1
            by_cases he : g = gj
            · subst he
              exact owns_tg hoj g rfl
            · have hgr : wj.heap[g]? = wz.heap[g]? := by
                have ha : (wz.alloc (.cells #[.int .u8 x] 5)).heap[g]? = wz.heap[g]? := Below.heap_alloc _ _ _ hgl
                rcases HPJ.out with ⟨q1, q2⟩ | ⟨q1, q2⟩
                · rw [q2.block g (by simp; omega) (fun e => he (Option.some.inj e)), ha]
                · rw [q2.block g (by simp; omega) (fun e => by cases e), ha]
              exact ⟨cs, fr, by rw [hgr]; exact hh⟩
          · rcases (R4.out k e).1 with e2 | e2
            · exact .inr e2
            · omega
          · simp [intOf]
            omega
        · have hj4 : j = 40 := by omega
          subst hj4
          have d4 : wz.cell? ⟨pp, 4, none⟩ = some (.slice (some ⟨g6, 0, none⟩) (N + 1) c6) := by have := R3.out.blk.cell 4; simp only [List.getElem?_cons_succ, List.getElem?_cons_zero, HPP9.out, HLV9.out] at this; exact this
          have hol : wz.ownsRow 0 27 1 (.slice (some ⟨g6, 0, none⟩) (N + 1) c6) (N + 1) (L ++ [.slice ad i c]) := by have := R3.out.lv; simp only [HLV9.out, List.length_append, List.length_cons, List.length_nil, HN.out, Nat.zero_add] at this; exact this
          have HOL := hidden hol
          have hlen1 : (L ++ [Value.slice ad i c]).length = N + 1 := by simp [HN.out]
          have hlen2 : (M ++ [x]).length = N + 1 := by simp [HML.out, HN.out]
          have HL1 := hidden hlen1
          have HL2 := hidden hlen2
          clear hol hlen1 hlen2
          go_upto_region 12 with (at_builtin; (refine wpList_push _ rfl (.tmp 56) (.tmp 58) 37 rfl 27 i27 (.slice none 0 0) 24 Try.underlying37 hi27 hy0 hy1 hy2 rfl 0 (.slice (some ⟨g6, 0, none⟩) (N + 1) c6) (N + 1) (L ++ [.slice ad i c]) rfl (by exact (Chg.alloc (fun _ => False) wz _).owns HOL.out (fun _ _ h => h)) ⟨wz.heap.size, 0, none⟩ (.slice a' (i + 40) c') rfl (by first | (simp; done) | (simp; omega)) rfl (by unfold maxLen; omega) (by omega) (Nat.zero_le _) ?_); intro ga ca wa hoa hpa; obtain ⟨B6, P6, C6, G6⟩ := R3.out.pushL (by rw [HL1.out]; exact hoa) (by rw [HLV9.out]; exact hpa); simp only [HPP9.out, HLV9.out, HL1.out] at B6 P6 C6 G6; have d0 : wa.cell? ⟨pp, 4, none⟩ = some (.slice (some ⟨g6, 0, none⟩) (N + 1) c6) := B6.cell 4; have f0 := B6.frozen 4; have HPa := hidden P6; have HCa := hidden C6; have HGa := hidden G6; clear B6 P6 C6 G6 hoa hpa)
          generalize wa.setCell ⟨pp, 4, none⟩ (.slice (some ⟨ga, 0, none⟩) (N + 1 + 1) ca) = wb at HPa HCa ⊢
          clear d0 f0 d4
          have d5 : wb.cell? ⟨pp, 5, none⟩ = some (.slice (some ⟨g7, 0, none⟩) (N + 1) c7) := by have := HPa.out.blk.cell 5; simp only [List.getElem?_cons_succ, List.getElem?_cons_zero, HMV9.out] at this; exact this
          have hmvb : wb.ownsRow 0 5 1 (.slice (some ⟨g7, 0, none⟩) (N + 1) c7) (N + 1) (cells8 (M ++ [x])) := by have := HPa.out.mv; simp only [HMV9.out, HL2.out] at this; exact this
          have HMVb := hidden hmvb
          clear hmvb
          go_wp2_with (at_builtin; (refine wpList_push _ rfl (.tmp 66) (.tmp 68) 27 rfl 5 i0 (.int .u8 0) 1 Try.underlying27 hi0 hz0 hz1 hz2 rfl 0 (.slice (some ⟨g7, 0, none⟩) (N + 1) c7) (N + 1) (cells8 (M ++ [x])) rfl (by exact (Chg.alloc (fun _ => False) wb _).owns HMVb.out (fun _ _ h => h)) ⟨wb.heap.size, 0, none⟩ (.int .u8 x) rfl (by first | (simp; done) | (simp; omega)) rfl (by unfold maxLen; omega) (by omega) (Nat.zero_le _) ?_); intro gc cc wc hoc hpc; obtain ⟨B8, P8, C8, G8⟩ := HPa.out.pushM HX.out (by rw [HL2.out]; exact hoc) (by simp only [HMV9.out]; exact hpc); simp only [HMV9.out, HL2.out] at B8 P8 C8 G8; have d0 : wc.cell? ⟨pp, 5, none⟩ = some (.slice (some ⟨g7, 0, none⟩) (N + 1) c7) := B8.cell 5; have f0 := B8.frozen 5; have HPc := hidden P8; have HCc := hidden C8; have HGc := hidden G8; clear B8 P8 C8 G8 hoc hpc)
          go_end0
          generalize wc.setCell ⟨pp, 5, none⟩ (.slice (some ⟨gc, 0, none⟩) (N + 1 + 1) cc) = wd at HPc HCc ⊢
          have h9pp : m9.F pp := .inl HPP9.out.symm
          have h9g6 : m9.F g6 := .inr (.inr (.inr (.inl (by rw [HLV9.out]; rfl))))
          have h9g7 : m9.F g7 := .inr (.inr (.inr (.inr (by rw [HMV9.out]; rfl))))
          have offA : ∀ g, ¬ FPp m9 t st g → ¬ (g = pp ∨ (Value.slice (some ⟨g6, 0, none⟩) (N + 1) c6).ownBlock = some g) := by
            rintro g hg (e | e)
            · subst e
              exact hg (.inl h9pp)
            · have e1 : g6 = g := Option.some.inj e
              subst e1
              exact hg (.inl h9g6)
          have offC : ∀ g, ¬ FPp m9 t st g → ¬ (g = pp ∨ (Value.slice (some ⟨g7, 0, none⟩) (N + 1) c7).ownBlock = some g) := by
            rintro g hg (e | e)
            · subst e
              exact hg (.inl h9pp)
            · have e1 : g7 = g := Option.some.inj e
              subst e1
              exact hg (.inl h9g7)
          have nF : ∀ g, g < wz.heap.size → ¬ FPp m9 t st g → ¬ FPp { pp := pp, dv := m9.dv, xv := m9.xv, lv := Value.slice (some ⟨ga, 0, none⟩) (N + 1 + 1) ca, mv := Value.slice (some ⟨gc, 0, none⟩) (N + 1 + 1) cc } t st g := by
            rintro g hgl hg (hk | hk)
            · rcases hk with e | e | e | e | e
              · exact (offA g hg) (.inl e)
              · exact hg (.inl (.inr (.inl e)))
              · exact hg (.inl (.inr (.inr (.inl e))))
              · have e1 : ga = g := Option.some.inj e
                subst e1
                rcases HGa.out with e2 | e2
                · exact (offA ga hg) (.inr e2)
                · omega
              · have e1 : gc = g := Option.some.inj e
                subst e1
                rcases HGc.out with e2 | e2
                · exact (offC gc hg) (.inr e2)
                · have := HCa.out.size
                  omega
            · exact hg (.inr hk)
          have q1 : wd.ownsRow 0 5 1 (.slice a' (i + 40) c') (i + 40) (cells8 (List.replicate (i + 40) x)) := HCc.out.owns (HCa.out.owns R1.out (fun g hg => offA g (R4.out g hg).2.1)) (fun g hg => offC g (R4.out g hg).2.1)
          have vblk : ∀ y, ad = some y → (Value.slice ad i c).ownBlock = some y.block := by
            rintro y rfl
            rfl
          have q2 : Sl wd ad i (List.replicate i x) := HCc.out.sl (HCa.out.sl R2.out (fun y hy _ => offA y.block (R5.out _ (vblk y hy)).1)) (fun y hy _ => offC y.block (R5.out _ (vblk y hy)).1)
          have hz1 := HPc.out.addZs a' (i + 40) c' _ q1 (fun g hg => nF g (R1.out.lt g hg).2 (R4.out g hg).2.1)
          have hz2 : PR wd { pp := pp, dv := m9.dv, xv := m9.xv, lv := Value.slice (some ⟨ga, 0, none⟩) (N + 1 + 1) ca, mv := Value.slice (some ⟨gc, 0, none⟩) (N + 1 + 1) cc } t st (L ++ [.slice ad i c] ++ [.slice a' (i + 40) c']) (M ++ [x] ++ [x]) (fun k => (Z k ∨ (Value.slice a' (i + 40) c').ownBlock = some k) ∨ (Value.slice ad i c).ownBlock = some k) := by
            cases hb : (Value.slice ad i c).ownBlock with
            | none =>
              have e : (fun k => (Z k ∨ (Value.slice a' (i + 40) c').ownBlock = some k) ∨ (none : Option Nat) = some k) = (fun k => Z k ∨ (Value.slice a' (i + 40) c').ownBlock = some k) := by
                funext k
                simp
              rw [e]
              exact hz1
            | some g =>
              obtain ⟨r1, cs, fr, hh⟩ := R5.out g hb
              have hgl := (Array.getElem?_eq_some_iff.1 hh).1
              have htg : Tg wd g 5 := ⟨cs, fr, by rw [HCc.out.block g (Nat.lt_of_lt_of_le hgl HCa.out.size) (offC g r1), HCa.out.block g hgl (offA g r1)]; exact hh⟩
              have := hz1.addZ g htg (nF g hgl r1)
              have e : (fun k => (Z k ∨ (Value.slice a' (i + 40) c').ownBlock = some k) ∨ (some g : Option Nat) = some k) = (fun k => (Z k ∨ (Value.slice a' (i + 40) c').ownBlock = some k) ∨ k = g) := by
                funext k
                simp [eq_comm]
              rw [e]
              exact this
          refine ⟨rfl, { pp := pp, dv := m9.dv, xv := m9.xv, lv := Value.slice (some ⟨ga, 0, none⟩) (N + 1 + 1) ca, mv := Value.slice (some ⟨gc, 0, none⟩) (N + 1 + 1) cc }, a', c', (fun k => (Z k ∨ (Value.slice a' (i + 40) c').ownBlock = some k) ∨ (Value.slice ad i c).ownBlock = some k), rfl, HDV9.out.1, HDV9.out.2, hz2, q2, sl_of_owns q1 (byte_rep _ HX.out), fun k hk => .inl (.inl hk), ?_, fun y hy => .inr (vblk y hy), ?_, ?_, ?_⟩
          · rintro k ((hk | hk) | hk)
            · exact .inl hk
            · rcases (R4.out k hk).1 with e | e
              · exact .inr (.inl e)
              · exact .inr (.inr e)
            · exact .inr (.inl hk)
          · rintro y rfl
            exact .inl (.inr rfl)
          · refine (R6.out.trans HCa.out (fun k hk e => ?_)).trans HCc.out (fun k hk e => ?_)
            · rcases e with e | e
              · subst e
                exact .inl (.inl HPP.out.symm)
              · have e1 : g6 = k := Option.some.inj e
                subst e1
                rcases HMF.out g6 h9g6 with f | f
                · exact .inl f
                · omega
            · rcases e with e | e
              · subst e
                exact .inl (.inl HPP.out.symm)
              · have e1 : g7 = k := Option.some.inj e
                subst e1
                rcases HMF.out g7 h9g7 with f | f
                · exact .inl f
                · omega
          · have hs := R6.out.size
            have hs2 := HCa.out.size
            rintro k (e | e | e | e | e)
            · exact .inl (.inl (by rw [HPP.out]; exact e))
            · exact .inl (.inr (.inl (by rw [← HDV9.out.1]; exact e)))
            · exact .inl (.inr (.inr (.inl (by rw [← HDV9.out.2]; exact e))))
            · have e1 : ga = k := Option.some.inj e
              subst e1
              rcases HGa.out with e2 | e2
              · have e3 : g6 = ga := Option.some.inj e2
                subst e3
                exact HMF.out g6 h9g6
              · exact .inr (by omega)
            · have e1 : gc = k := Option.some.inj e
              subst e1
              rcases HGc.out with e2 | e2
              · have e3 : g7 = gc := Option.some.inj e2
                subst e3
                exact HMF.out g7 h9g7
              · exact .inr (by omega)

end Go.Proofs.Ytgmcfejmhlglkaa
