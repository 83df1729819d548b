/-
  The head that a frame says.
-/
import Derived.Test.YtnfjhdedcnbdbaaGreatWlR
import Derived.Test.YtnfjhdedcnbdbaaGreatDkB
namespace Go.Proofs.YtnfjhdedcnbdbaaGreat
open Go.RowKit
set_option linter.unusedVariables false
set_option linter.unusedSimpArgs false

theorem results_row3 {P : Program} {fn : Func} {p q r : Tmp} {ty : TypeId} (h : fn.results = #[.cell p ty, .tmp q, .tmp r]) (tmps : Array Value) (w : World) (g : Nat) (t : TypeId) (l : List Value) (d : TypeDesc)
    (hp : tmps.getD p undef = .pointer (some ⟨g, 0, none⟩)) (hg : Blk w g t l) (hu : P.underlying ty = some d) (hd : (match d with | .struct _ | .array _ _ => true | _ => false) = true) (hi : (P.info? ty).map (·.size) = some l.length) :
    (results fn tmps).run P w = .ok (.tuple #[.agg l.toArray, tmps.getD q undef, tmps.getD r undef]) w := by
  have hp' : tmps[p]?.getD undef = .pointer (some ⟨g, 0, none⟩) := by simpa using hp
  simp [results, h, hp', asAddr, run_loadVar_row w g t ty l.toArray (0, 0) d hg hu hd (by simpa using hi)]
theorem strOfNums_inj {l m : List Int} (hl : Byte l) (hm : Byte m) (h : strOfNums l = strOfNums m) : l = m := by
  have h2 := congrArg (fun s : ByteArray => s.data.toList) h
  simp only [strOfNums_data] at h2
  have hlen : l.length = m.length := by simpa using congrArg List.length h2
  apply List.ext_getElem hlen
  intro i h1 h3
  have h4 := congrArg (fun s => s[i]?) h2
  simp only [List.getElem?_map, List.getElem?_eq_getElem h1, List.getElem?_eq_getElem h3, Option.map_some, Option.some.injEq] at h4
  have b1 := hl _ (List.getElem_mem h1)
  have b2 := hm _ (List.getElem_mem h3)
  have h5 := congrArg UInt8.toNat h4
  simp only [UInt8.toNat_ofNat'] at h5
  omega
theorem str_mark : strOfNums mark = ⟨#[116, 117, 114, 110, 107, 101, 121, 49]⟩ := by decide
theorem str_ne {d : List Int} (hb : Byte d) (h : d.take 8 ≠ mark) : ¬ strOfNums (d.take 8) = ⟨#[116, 117, 114, 110, 107, 101, 121, 49]⟩ := fun e => h (strOfNums_inj (fun x hx => hb x (List.mem_of_mem_take hx)) mark_byte (by rw [e, str_mark]))
theorem str_ne2 {d : List Int} (hb : Byte d) (h : d.take 8 ≠ mark) : ((strOfNums (d.take 8)).toList == [116, 117, 114, 110, 107, 101, 121, 49]) = false := by
  rw [beq_eq_false_iff_ne]
  intro e
  apply str_ne hb h
  rw [ByteArray.toList_eq] at e
  have : (strOfNums (d.take 8)).data = #[116, 117, 114, 110, 107, 101, 121, 49] := by
    rw [← Array.toArray_toList (xs := (strOfNums (d.take 8)).data), e]
  cases hh : strOfNums (d.take 8) with
  | mk x =>
    rw [hh] at this
    simp only at this
    rw [this]
theorem zero83 : (Tryz.prog.info? 66).map (fun i => i.zero.map (·.cells)) = some (some [Value.int .u64 0, .int .i64 0, .int .i64 0].toArray) := by kernel_rfl
theorem built83z : Tryz.prog.built 66 [] = some #[.int .u64 0, .int .i64 0, .int .i64 0] := by kernel_rfl

set_option maxRecDepth 100000 in
set_option maxHeartbeats 2000000 in
theorem headOfP (k : Int) (ad : Option Addr) (n c : Nat) (d : List Int) (w : World) (hs : Sl w ad n d) (hc : n ≤ c) (hk : 0 ≤ k ∧ k ≤ 255) :
    Calls Tryz.prog 92 #[.int .u8 k, .slice ad n c] w fun e w' => Below w.heap.size w w' ∧ ((headIn k d = none ∧ e = .returned (.tuple #[.agg #[.int .u64 0, .int .i64 0, .int .i64 0], .slice none 0 0, .bool false])) ∨
      (∃ h s b off off', headIn k d = some (h, s) ∧ ad = some ⟨b, off, none⟩ ∧ (0 < n - 24 → off' = off + 24) ∧ e = .returned (.tuple #[.agg #[.int .u64 (h.g : Int), .int .i64 (h.cap : Int), .int .i64 (h.slots : Int)], .slice (some ⟨b, off', none⟩) (n - 24) (c - 24), .bool true]))) := by
  have HS := hidden hs
  have hl := hidden hs.len
  clear hs
  by_cases h1 : k = 1
  · subst h1
    by_cases h2 : 24 ≤ n
    · obtain ⟨b, off, rfl, _, _⟩ := HS.out.at (by omega)
      have HS8 : Hid (Sl w (some ⟨b, off, none⟩) 8 (d.take 8)) := HS.out.cutT (by omega)
      have h2' : ¬ (n : Int) < 24 := by omega
      have hc8 : ¬ (c : Int) < 8 := by omega
      by_cases h3 : d.take 8 = mark
      · have hcv : ∀ w2 : World, Below w.heap.size w w2 → (convert 28 9 (.slice (some ⟨b, off, none⟩) 8 c)).run Tryz.prog w2 = .ok (.string ⟨#[116, 117, 114, 110, 107, 101, 121, 49]⟩) w2 := fun w2 hb => by have := convS (cap := c) (HS8.out.later hb); rw [h3, str_mark] at this; exact this
        have HCV := hidden hcv
        clear hcv
        have HH3 := hidden h3
        clear h3
        have hby := HS.out.byte
        have hg1 := num_lt ((d.drop 8).take 8) (fun x hx => hby x (List.mem_of_mem_drop (List.mem_of_mem_take hx)))
        have hp1 := num_lt ((d.drop 16).take 4) (fun x hx => hby x (List.mem_of_mem_drop (List.mem_of_mem_take hx)))
        have hs1 := num_lt ((d.drop 20).take 4) (fun x hx => hby x (List.mem_of_mem_drop (List.mem_of_mem_take hx)))
        have n1 : ∀ w1 : World, Below w.heap.size w w1 → Calls Tryz.prog 100 #[.slice (some ⟨b, off + 8, none⟩) 8 (c - 8)] w1 fun e w2 => e = .returned (.int .u64 ((num ((d.drop 8).take 8) : Nat) : Int)) ∧ Lat w1 w2 := fun w1 hb => (numberP _ 8 _ _ _ (((HS.out.later hb).cutL (K := 8) (by omega)).cutT (K := 8) (by omega)) (by omega)).mono (fun e w2 h => ⟨h.1, by rw [h.2]; exact Lat.refl _⟩)
        have n2 : ∀ w1 : World, Below w.heap.size w w1 → Calls Tryz.prog 100 #[.slice (some ⟨b, off + 16, none⟩) 4 (c - 16)] w1 fun e w2 => e = .returned (.int .u64 ((num ((d.drop 16).take 4) : Nat) : Int)) ∧ Lat w1 w2 := fun w1 hb => (numberP _ 4 _ _ _ (((HS.out.later hb).cutL (K := 16) (by omega)).cutT (K := 4) (by omega)) (by omega)).mono (fun e w2 h => ⟨h.1, by rw [h.2]; exact Lat.refl _⟩)
        have n3 : ∀ w1 : World, Below w.heap.size w w1 → Calls Tryz.prog 100 #[.slice (some ⟨b, off + 20, none⟩) 4 (c - 20)] w1 fun e w2 => e = .returned (.int .u64 ((num ((d.drop 20).take 4) : Nat) : Int)) ∧ Lat w1 w2 := fun w1 hb => (numberP _ 4 _ _ _ (((HS.out.later hb).cutL (K := 20) (by omega)).cutT (K := 4) (by omega)) (by omega)).mono (fun e w2 h => ⟨h.1, by rw [h.2]; exact Lat.refl _⟩)
        have hlen : d.length = n := hl.out
        rw [List.length_take, List.length_drop, hlen, Nat.min_eq_left (by omega)] at hg1 hp1 hs1
        have HQ : Hid (headIn 1 d = if okH (num ((d.drop 8).take 8)) (num ((d.drop 16).take 4)) (num ((d.drop 20).take 4)) = true then some (⟨num ((d.drop 8).take 8), num ((d.drop 16).take 4), num ((d.drop 20).take 4)⟩, d.drop 24) else none) := by
          show _ = _
          unfold headIn
          by_cases ho : okH (num ((d.drop 8).take 8)) (num ((d.drop 16).take 4)) (num ((d.drop 20).take 4)) = true
          · rw [if_pos ho, if_pos ⟨rfl, by rw [hlen]; exact h2, HH3.out, ho⟩]
            rfl
          · rw [if_neg ho, if_neg (fun h => ho h.2.2.2)]
        generalize num ((d.drop 8).take 8) = g at *
        generalize num ((d.drop 16).take 4) = p at *
        generalize num ((d.drop 20).take 4) = s at *
        have HN1 := hidden n1
        have HN2 := hidden n2
        have HN3 := hidden n3
        clear n1 n2 n3 hby hlen
        have hg2 : g < 18446744073709551616 := by simpa using hg1
        have hp2 : p < 4294967296 := by simpa using hp1
        have hs2 : s < 4294967296 := by simpa using hs1
        clear hg1 hp1 hs1
        go_enter Tryz.func92, Tryz.ntmps92
        go_wp2_with (refine wpList_alloc_blk rfl 66 rfl 4 rfl [Value.int .u64 0, .int .i64 0, .int .i64 0] zero83 ?_; intro w2 B2 bl2 hz2; have HB := hidden B2; have HL := hidden bl2; have hcv := HCV.out _ bl2; clear B2 bl2 hz2)
        refine head_r3 b off n c w.heap.size g p s w2 _ _ (by rfl) (by rfl) (by rfl) (by omega) (by omega) (by omega) (by omega) (by omega) (by omega) (wrapI _ (by omega) (by omega)) (wrapI _ (by omega) (by omega)) (fun w1 h => HN1.out _ (HL.out.trans (h.mono HL.out.size))) (fun w1 h => HN2.out _ (HL.out.trans (h.mono HL.out.size))) (fun w1 h => HN3.out _ (HL.out.trans (h.mono HL.out.size))) (fun w1 h => (HB.out.later h).there 0 3 (by simp)) ?_
        intro v21 v22 v23 v24 v25 v26 v27 v28 v29 v30 v31 v32 w1 hL1
        have B3 := hidden (blk_stored (l := [.int .u64 (g : Int), .int .i64 (p : Int), .int .i64 (s : Int)]) (HB.out.later hL1) rfl)
        have BL3 : Hid (Below w.heap.size w (w1.setCells w.heap.size 0 [.int .u64 (g : Int), .int .i64 (p : Int), .int .i64 (s : Int)])) := (HL.out.trans (hL1.mono HL.out.size)).trans ((chg_sets (fun i => i = w.heap.size) w.heap.size rfl _ 0 w1).below (Nat.le_trans HL.out.size hL1.size) (fun i hi => by omega))
        clear hcv hL1
        generalize w1.setCells w.heap.size 0 [.int .u64 (g : Int), .int .i64 (p : Int), .int .i64 (s : Int)] = w3 at *
        simp only [Act.put, List.setIfInBounds_toArray, List.set_cons_succ, List.set_cons_zero]
        go_wp2_with (refine wpList_load_blk rfl 66 (.tmp 4) rfl w.heap.size B3.out rfl Tryz.underlying66 rfl size83 ?_)
        refine (allowedP g p s w3 hg2).mono ?_
        rintro e w4 ⟨rfl, hb4⟩
        have B4 := hidden (B3.out.later hb4)
        have BL4 := hidden (BL3.out.trans (hb4.mono BL3.out.size))
        clear hb4
        obtain ⟨ok, hok⟩ : ∃ ok, okH g p s = ok := ⟨_, rfl⟩
        rw [hok] at HQ ⊢
        cases ok with
        | false =>
          go_wp2_with (first
            | (refine wpList_build_to rfl 66 #[] rfl [] #[.int .u64 0, .int .i64 0, .int .i64 0] ?_ built83z ?_; kernel_rfl)
            | (refine wpList_store_blk rfl 66 (.tmp 4) (.tmp 36) rfl rfl w.heap.size (l := [.int .u64 0, .int .i64 0, .int .i64 0]) B4.out rfl rfl rfl size83 (by simp [Value.oneCell']) ?_))
          have HB2 := blk_stored (l := [.int .u64 0, .int .i64 0, .int .i64 0]) B4.out rfl
          refine bodyPost_ret (results_row3 rfl _ _ w.heap.size 66 _ _ rfl HB2 Tryz.underlying66 rfl size83) rfl ?_
          exact ⟨BL4.out.trans ((chg_sets (fun i => i = w.heap.size) w.heap.size rfl _ 0 w4).below BL4.out.size (fun i hi => by omega)), .inl ⟨by rw [HQ.out, if_neg (by simp)], rfl⟩⟩
        | true =>
          have hc24 : ¬ (c : Int) < 24 := by omega
          have hth := B4.out.there 0 3 (by simp)
          have c0 := B4.out.cell 0
          have c1 := B4.out.cell 1
          have c2 := B4.out.cell 2
          have f0 := B4.out.frozen 0
          have f1 := B4.out.frozen 1
          have f2 := B4.out.frozen 2
          simp only [List.getElem?_cons_succ, List.getElem?_cons_zero] at c0 c1 c2
          by_cases hc : c = 24
          · have e24 : n = 24 := by omega
            subst hc
            subst e24
            go_wp2_with fail
            go_region
            all_goals
              go_wp2_with fail
              have HB5 := ((B4.out.set 0 (.int .u64 (g : Int))).set 1 (.int .i64 (p : Int))).set 2 (.int .i64 (s : Int))
              simp only [List.set_cons_succ, List.set_cons_zero] at HB5
              have HB6 : Blk (((w4.setCell ⟨w.heap.size, 0, none⟩ (.int .u64 (g : Int))).setCell ⟨w.heap.size, 1, none⟩ (.int .i64 (p : Int))).setCell ⟨w.heap.size, 2, none⟩ (.int .i64 (s : Int))).drew w.heap.size 66 [.int .u64 (g : Int), .int .i64 (p : Int), .int .i64 (s : Int)] := HB5
              have HC5 : Chg (fun i => i = w.heap.size) w4 (((w4.setCell ⟨w.heap.size, 0, none⟩ (.int .u64 (g : Int))).setCell ⟨w.heap.size, 1, none⟩ (.int .i64 (p : Int))).setCell ⟨w.heap.size, 2, none⟩ (.int .i64 (s : Int))).drew := (((Chg.set ⟨w.heap.size, 0, none⟩ _ w4).trans (Chg.set ⟨w.heap.size, 1, none⟩ _ _) (fun _ _ h => h)).trans (Chg.set ⟨w.heap.size, 2, none⟩ _ _) (fun _ _ h => h)).trans (Chg.drew _ _) (fun _ _ h => h)
              refine bodyPost_ret (results_row3 rfl _ _ w.heap.size 66 _ _ rfl HB6 Tryz.underlying66 rfl size83) rfl ?_
              exact ⟨BL4.out.trans (HC5.below BL4.out.size (fun i hi => by omega)), .inr ⟨⟨g, p, s⟩, d.drop 24, b, off, off, by rw [HQ.out, if_pos trivial], rfl, fun h => by omega, rfl⟩⟩
          · go_wp2_with fail
            go_region
            all_goals
              go_wp2_with fail
              have HB5 := ((B4.out.set 0 (.int .u64 (g : Int))).set 1 (.int .i64 (p : Int))).set 2 (.int .i64 (s : Int))
              simp only [List.set_cons_succ, List.set_cons_zero] at HB5
              have HB6 : Blk (((w4.setCell ⟨w.heap.size, 0, none⟩ (.int .u64 (g : Int))).setCell ⟨w.heap.size, 1, none⟩ (.int .i64 (p : Int))).setCell ⟨w.heap.size, 2, none⟩ (.int .i64 (s : Int))).drew w.heap.size 66 [.int .u64 (g : Int), .int .i64 (p : Int), .int .i64 (s : Int)] := HB5
              have HC5 : Chg (fun i => i = w.heap.size) w4 (((w4.setCell ⟨w.heap.size, 0, none⟩ (.int .u64 (g : Int))).setCell ⟨w.heap.size, 1, none⟩ (.int .i64 (p : Int))).setCell ⟨w.heap.size, 2, none⟩ (.int .i64 (s : Int))).drew := (((Chg.set ⟨w.heap.size, 0, none⟩ _ w4).trans (Chg.set ⟨w.heap.size, 1, none⟩ _ _) (fun _ _ h => h)).trans (Chg.set ⟨w.heap.size, 2, none⟩ _ _) (fun _ _ h => h)).trans (Chg.drew _ _) (fun _ _ h => h)
              refine bodyPost_ret (results_row3 rfl _ _ w.heap.size 66 _ _ rfl HB6 Tryz.underlying66 rfl size83) rfl ?_
              exact ⟨BL4.out.trans (HC5.below BL4.out.size (fun i hi => by omega)), .inr ⟨⟨g, p, s⟩, d.drop 24, b, off, off + 24, by rw [HQ.out, if_pos trivial], rfl, fun h => rfl, rfl⟩⟩
      · have hq : Hid (headIn 1 d = none) := by show _ = _; unfold headIn; rw [if_neg (fun h => h3 h.2.2.1)]
        have hne := str_ne2 HS.out.byte h3
        have hne2 := beq_eq_false_iff_ne.1 hne
        go_enter Tryz.func92, Tryz.ntmps92
        go_wp2_with (first
          | (refine wpList_alloc_blk rfl 66 rfl 4 rfl [Value.int .u64 0, .int .i64 0, .int .i64 0] zero83 ?_; intro w2 B2 bl2 hz2; have HB := hidden B2; have HL := hidden bl2; have hcv := convS (cap := c) (HS8.out.later bl2); clear B2 bl2 hz2)
          | (refine wpList_build_to rfl 66 #[] rfl [] #[.int .u64 0, .int .i64 0, .int .i64 0] ?_ built83z ?_; kernel_rfl)
          | (refine wpList_store_blk rfl 66 (.tmp 4) (.tmp 20) rfl rfl w.heap.size (l := [.int .u64 0, .int .i64 0, .int .i64 0]) HB.out rfl rfl rfl size83 (by simp [Value.oneCell']) ?_))
        have HB2 := blk_stored (l := [.int .u64 0, .int .i64 0, .int .i64 0]) HB.out rfl
        refine bodyPost_ret (results_row3 rfl _ _ w.heap.size 66 _ _ rfl HB2 Tryz.underlying66 rfl size83) rfl ?_
        refine ⟨?_, .inl ⟨hq.out, rfl⟩⟩
        exact HL.out.trans ((chg_sets (fun i => i = w.heap.size) w.heap.size rfl _ 0 w2).below HL.out.size (fun i hi => by omega))
    · have hq : Hid (headIn 1 d = none) := by show _ = _; unfold headIn; rw [if_neg (fun h => h2 (by rw [hl.out] at h; exact h.2.1))]
      have h2' : (n : Int) < 24 := by omega
      go_enter Tryz.func92, Tryz.ntmps92
      go_wp2_with (first
        | (refine wpList_alloc_blk rfl 66 rfl 4 rfl [Value.int .u64 0, .int .i64 0, .int .i64 0] zero83 ?_; intro w2 B2 bl2 hz2; have HB := hidden B2; have HL := hidden bl2; clear B2 bl2 hz2)
        | (refine wpList_build_to rfl 66 #[] rfl [] #[.int .u64 0, .int .i64 0, .int .i64 0] ?_ built83z ?_; kernel_rfl)
        | (refine wpList_store_blk rfl 66 (.tmp 4) (.tmp 20) rfl rfl w.heap.size (l := [.int .u64 0, .int .i64 0, .int .i64 0]) HB.out rfl rfl rfl size83 (by simp [Value.oneCell']) ?_))
      have HB2 := blk_stored (l := [.int .u64 0, .int .i64 0, .int .i64 0]) HB.out rfl
      refine bodyPost_ret (results_row3 rfl _ _ w.heap.size 66 _ _ rfl HB2 Tryz.underlying66 rfl size83) rfl ?_
      refine ⟨?_, .inl ⟨hq.out, rfl⟩⟩
      exact HL.out.trans ((chg_sets (fun i => i = w.heap.size) w.heap.size rfl _ 0 w2).below HL.out.size (fun i hi => by omega))
  · have hq : Hid (headIn k d = none) := by show _ = _; unfold headIn; rw [if_neg (fun h => h1 h.1)]
    have h1' : ¬ k = 1 := h1
    go_enter Tryz.func92, Tryz.ntmps92
    go_wp2_with (first
        | (refine wpList_alloc_blk rfl 66 rfl 4 rfl [Value.int .u64 0, .int .i64 0, .int .i64 0] zero83 ?_; intro w2 B2 bl2 hz2; have HB := hidden B2; have HL := hidden bl2; clear B2 bl2 hz2)
        | (refine wpList_build_to rfl 66 #[] rfl [] #[.int .u64 0, .int .i64 0, .int .i64 0] ?_ built83z ?_; kernel_rfl)
        | (refine wpList_store_blk rfl 66 (.tmp 4) (.tmp 20) rfl rfl w.heap.size (l := [.int .u64 0, .int .i64 0, .int .i64 0]) HB.out rfl rfl rfl size83 (by simp [Value.oneCell']) ?_))
    have HB2 := blk_stored (l := [.int .u64 0, .int .i64 0, .int .i64 0]) HB.out rfl
    refine bodyPost_ret (results_row3 rfl _ _ w.heap.size 66 _ _ rfl HB2 Tryz.underlying66 rfl size83) rfl ?_
    refine ⟨?_, .inl ⟨hq.out, rfl⟩⟩
    exact HL.out.trans ((chg_sets (fun i => i = w.heap.size) w.heap.size rfl _ 0 w2).below HL.out.size (fun i hi => by omega))

end Go.Proofs.YtnfjhdedcnbdbaaGreat
