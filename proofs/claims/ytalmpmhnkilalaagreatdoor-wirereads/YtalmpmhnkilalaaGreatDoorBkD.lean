/-
  WireBack: shown.
-/
import Derived.Test.YtalmpmhnkilalaaGreatDoorRqO
import Derived.Lib.SlBytesConst
namespace Go.Proofs.YtalmpmhnkilalaaGreatDoor
open Go Go.RowKit
set_option linter.unusedVariables false
set_option linter.unusedSimpArgs false

/-- A function of fields that is zero but at some places. -/
def fmQ (l : List (Nat × FM)) : Nat → FM := fun i => match l.find? (fun q => q.1 == i) with | some q => q.2 | none => zM (kdQ i)
def fmA (l : List (Nat × FM)) : Nat → FM := fun i => match l.find? (fun q => q.1 == i) with | some q => q.2 | none => zM (kdA i)
theorem fmA_one : True := trivial

theorem sho1 (a b : Addr) : encE2 4 (fun i => (fmQ [(0, .tx ⟨#[116]⟩), (1, .tk (some a) 1 1 [107]), (3, .ms (some b) 1 [⟨⟨#[97]⟩, 1, ⟨#[120]⟩⟩])] i).fv) = (0, [4, 1, 116, 1, 107, 1, 1, 97, 1, 1, 120]) := by
  kernel_rfl
theorem sho2 : encE2 1 (fun i => (fmQ [(0, .tx ⟨#[116]⟩)] i).fv) = (180, []) := by
  kernel_rfl
theorem sho3 : ansQ 160 0 (fun i => (fmA [] i).fv) = (0, [160, 1]) := by
  kernel_rfl
theorem sho4 (a : Addr) : ansQ 0 4 (fun i => (fmA [(3, .ts (some a) 2 [⟨#[97]⟩, ⟨#[98]⟩])] i).fv) = (0, [0, 4, 2, 1, 97, 1, 98]) := by
  kernel_rfl
theorem sho5 : (decQ [7, 1, 116, 1, 107, 0]).isNone = true := by
  kernel_rfl
theorem sho6 : (decQ [7, 1, 116, 1, 107]).map (fun q => (q.1, (match q.2 0 with | .tx d => d.data.toList | _ => [1]), (match q.2 1 with | .tk l => l | _ => [1]))) = some (7, [116], [107]) := by
  kernel_rfl
theorem sho7 : (readQ [0, 3, 3]).map (fun q => (q.1, q.2.1, (match q.2.2 2 with | .nu n => n | _ => 0))) = some (0, 3, 3) := by
  kernel_rfl

theorem constBytes (w : World) (C : Array Value) (n c g : Nat) (hg : g = w.heap.size) : (convert 22 22 (.slice (some ⟨g, 0, none⟩) n c)).run Tryz.prog (w.alloc (.cells C 5)) = .ok (.slice (some ⟨g, 0, none⟩) n c) (w.alloc (.cells C 5 (C.size, C.size + 1))) := by
  subst hg
  exact Lib.run_convert_bytes_const (P := Tryz.prog) w 22 5 C n c Tryz.underlying22 Tryz.underlying5
theorem byte_of {l : List Int} (h : l.all (fun x => decide (0 ≤ x) && decide (x ≤ 255)) = true) : Byte l := by
  intro x hx
  have := List.all_eq_true.1 h x hx
  simp at this
  omega
theorem fmQ_kd (l : List (Nat × FM)) (hl : ∀ q ∈ l, q.2.fv.kd = kdQ q.1) (i : Nat) : (fmQ l i).fv.kd = kdQ i := by
  unfold fmQ
  split
  · rename_i q hq
    have h1 := List.find?_some hq
    have h2 := hl q (List.mem_of_find?_eq_some hq)
    simp at h1
    rw [h2, h1]
  · rw [zM_fv]; exact zeroV_kd _
theorem fmA_kd (l : List (Nat × FM)) (hl : ∀ q ∈ l, q.2.fv.kd = kdA q.1) (i : Nat) : (fmA l i).fv.kd = kdA i := by
  unfold fmA
  split
  · rename_i q hq
    have h1 := List.find?_some hq
    have h2 := hl q (List.mem_of_find?_eq_some hq)
    simp at h1
    rw [h2, h1]
  · rw [zM_fv]; exact zeroV_kd _
theorem fmQ_mem (l : List (Nat × FM)) (w : World) (hl : ∀ q ∈ l, q.2.mem w) (hG : Gv w) (n : Nat) : Mem (fmQ l) n w := by
  refine ⟨fun i _ => ?_, hG⟩
  unfold fmQ
  split
  · rename_i q hq
    exact hl q (List.mem_of_find?_eq_some hq)
  · exact (zM_fo 0 0 w _).mem
theorem fmA_mem (l : List (Nat × FM)) (w : World) (hl : ∀ q ∈ l, q.2.mem w) (hG : Gv w) (n : Nat) : Mem (fmA l) n w := by
  refine ⟨fun i _ => ?_, hG⟩
  unfold fmA
  split
  · rename_i q hq
    exact hl q (List.mem_of_find?_eq_some hq)
  · exact (zM_fo 0 0 w _).mem
abbrev q1 (a b : Addr) : List (Nat × FM) := [(0, .tx ⟨#[116]⟩), (1, .tk (some a) 1 1 [107]), (3, .ms (some b) 1 [⟨⟨#[97]⟩, 1, ⟨#[120]⟩⟩])]
theorem bui1 (a b : Addr) : Tryz.prog.built 26 [(0, .int .i64 4), (1, .string ⟨#[116]⟩), (2, .slice (some a) 1 1), (4, .slice (some b) 1 1)] = some (cQ 4 (fmQ (q1 a b))).toArray := by kernel_rfl
theorem bui2 : Tryz.prog.built 26 [(0, .int .i64 1), (1, .string ⟨#[116]⟩)] = some (cQ 1 (fmQ [(0, .tx ⟨#[116]⟩)])).toArray := by kernel_rfl
theorem bui3 : Tryz.prog.built 57 [(0, .int .i64 160)] = some (cA 160 0 (fmA [])).toArray := by kernel_rfl
theorem bui4 (a : Addr) : Tryz.prog.built 57 [(1, .int .i64 4), (5, .slice (some a) 2 2)] = some (cA 0 4 (fmA [(3, .ts (some a) 2 [⟨#[97]⟩, ⟨#[98]⟩])])).toArray := by kernel_rfl
theorem bui5 : Tryz.prog.built 52 [(0, .string ⟨#[97]⟩), (1, .int .i64 1), (2, .string ⟨#[120]⟩)] = some #[.string ⟨#[97]⟩, .int .i64 1, .string ⟨#[120]⟩] := by kernel_rfl
theorem es_blk {α : Type} {cells : α → List Value} {k : Nat} (hk : ∀ x, (cells x).length = k) {w : World} {g : Nat} {ty : TypeId} {xs : List α} (h : Blk w g ty (xs.flatMap cells)) : Es w (some ⟨g, 0, none⟩) k (xs.map cells) := by
  intro h0
  refine ⟨g, 0, rfl, h.lt, fun i x hx j v hv => ?_⟩
  rw [List.getElem?_map] at hx
  cases hxi : xs[i]? with
  | none => rw [hxi] at hx; cases hx
  | some y =>
    rw [hxi] at hx
    simp at hx
    subst hx
    rw [Nat.zero_add, h.cell]
    exact flat_get hk xs i y hxi j v hv

theorem eq180 (w : World) : (binOp .eql 36 (.iface 30 (.int .i64 180)) (.iface 30 (.int .i64 180))).run Tryz.prog w = .ok (.bool true) w := by kernel_rfl

set_option maxHeartbeats 16000000 in
set_option maxRecDepth 100000 in
theorem shownP (w : World) (hG : Gv w) : Calls Tryz.prog 9 #[] w fun e w' => e = .returned (.bool true) ∧ Below w.heap.size w w' := by
  have HG := hidden hG
  have h2w : 2 ≤ w.heap.size := World.block_lt_of_cell? w _ (hG.tab 0 (by omega))
  have kc := constBytes
  clear hG
  go_enter Tryz.func9, Tryz.ntmps9
  go_wp2_with fail
  obtain ⟨wA, hwA⟩ : ∃ wA, (w.alloc (.cells #[.int .u8 107] 5 (1, 2))).alloc (.cells #[.string ⟨#[97]⟩, .int .i64 1, .string ⟨#[120]⟩] 52) = wA := ⟨_, rfl⟩
  have blA : Below w.heap.size w wA := by rw [← hwA]; exact ((Below.refl _ _).alloc (Nat.le_refl _) _).alloc (by simp) _
  have HMA : Hid (Mem (fmQ (q1 ⟨w.heap.size, 0, none⟩ ⟨w.heap.size + 1, 0, none⟩)) 12 wA) := hidden (fmQ_mem _ _ (fun q hq => by
    simp only [q1, List.mem_cons, List.not_mem_nil, or_false] at hq
    rcases hq with rfl | rfl | rfl
    · trivial
    · refine ⟨?_, by omega⟩
      rw [← hwA]
      exact (Chg.alloc (fun _ => False) _ _).sl (sl_lit w [107] (byte_of rfl) 5 (1, 2) 1 rfl _ rfl _ rfl) (fun _ _ _ e => e)
    · refine ⟨by simp, ?_, fun x hx => ?_⟩
      · have hb := Blk.new (w.alloc (.cells #[.int .u8 107] 5 (1, 2))) 52 [.string ⟨#[97]⟩, .int .i64 1, .string ⟨#[120]⟩]
        rw [World.size_alloc, hwA] at hb
        exact es_blk (cells := Ma.cells) (k := 3) (fun _ => rfl) (xs := [⟨⟨#[97]⟩, 1, ⟨#[120]⟩⟩]) hb
      · simp at hx
        subst hx
        exact ⟨by show (-9223372036854775808 : Int) ≤ 1; omega, by show (1 : Int) ≤ 9223372036854775807; omega⟩) (HG.out.later blA) 12)
  have HE1 := hidden (encodeP 4 (fmQ (q1 ⟨w.heap.size, 0, none⟩ ⟨w.heap.size + 1, 0, none⟩)) wA (fun i _ => fmQ_kd _ (fun q hq => by simp only [q1, List.mem_cons, List.not_mem_nil, or_false] at hq; rcases hq with rfl | rfl | rfl <;> rfl) i) HMA.out ⟨by omega, by omega⟩ (by have := blA.size; omega))
  rw [sho1] at HE1
  have HBA := hidden blA
  rw [hwA]
  clear hwA blA HMA
  refine HE1.out.mono ?_
  rintro e w1 ⟨ad1, n1, cp1, rfl, o1, hl1, by1, _, b1⟩
  obtain rfl : 11 = n1 := hl1
  have HS1 := hidden (sl_of_owns o1 by1)
  have HB1 := hidden (HBA.out.trans (b1.mono HBA.out.size))
  clear o1 by1 b1 HE1
  go_wp2_with fail
  obtain ⟨wa2, hwa2⟩ : ∃ wx, w1.alloc (.cells #[.int .u8 7, .int .u8 1, .int .u8 116, .int .u8 1, .int .u8 107] 5 (5, 6)) = wx := ⟨_, rfl⟩
  have bla2 : Below w1.heap.size w1 wa2 := by rw [← hwa2]; exact (Below.refl _ _).alloc (Nat.le_refl _) _
  have sla2 : Sl wa2 (some ⟨w1.heap.size, 0, none⟩) 5 [7, 1, 116, 1, 107] := by rw [← hwa2]; exact sl_lit w1 [7, 1, 116, 1, 107] (byte_of rfl) 5 (5, 6) 5 rfl _ rfl _ rfl
  have HWA2 := hidden (HB1.out.trans (bla2.mono HB1.out.size))
  have HSA2 := hidden sla2
  have T2a := hidden bla2
  rw [hwa2]
  clear sla2 bla2 hwa2
  refine (decodeP (some ⟨w1.heap.size, 0, none⟩) 5 5 [7, 1, 116, 1, 107] wa2 HSA2.out (fun h => by cases h) (HG.out.later HWA2.out)).mono ?_
  rintro e w2 hD
  obtain ⟨f2, hf2, hd2, hk2⟩ : ∃ f, decQ [7, 1, 116, 1, 107] = some (7, f) ∧ f 0 = .tx ⟨#[116]⟩ ∧ f 1 = .tk [107] := by
    cases hq : decQ [7, 1, 116, 1, 107] with
    | none => have := sho6; rw [hq] at this; cases this
    | some q =>
      obtain ⟨k, f⟩ := q
      have h6 := sho6
      rw [hq] at h6
      simp at h6
      obtain ⟨rfl, h7, h8⟩ := h6
      have hsh := (enc_decQ (byte_of rfl) hq).1
      have k0 := hsh.kd 0
      have k1 := hsh.kd 1
      refine ⟨f, rfl, ?_, ?_⟩
      · cases hf : f 0 <;> rw [hf] at k0 h7 <;> first | (cases k0; done) | skip
        rename_i d
        congr 1
        obtain ⟨a⟩ := d
        have h7 : a.toList = [116] := h7
        congr 1
        exact Array.toList_inj.1 h7
      · cases hf : f 1 <;> rw [hf] at k1 h8 <;> first | (cases k1; done) | skip
        rename_i l
        have h8 : l = [107] := h8
        rw [h8]
  unfold DecR at hD
  rw [hf2] at hD
  obtain ⟨bD, K2, fm2, rfl, _, hfm2⟩ := hD
  obtain ⟨d2, e20, _⟩ : ∃ d, fm2 0 = .tx d ∧ d = ⟨#[116]⟩ := by
    have h9 := (hfm2 0 (by omega)).1
    rw [hd2] at h9
    cases hm : fm2 0 <;> rw [hm] at h9 <;> first | (cases h9; done) | (injection h9 with h9; exact ⟨_, rfl, h9⟩)
  subst_vars
  obtain ⟨ta, tn, tc, e21⟩ : ∃ a n c, fm2 1 = .tk a n c [107] := by
    have h9 := (hfm2 1 (by omega)).1
    rw [hk2] at h9
    cases hm : fm2 1 <;> rw [hm] at h9 <;> first | (cases h9; done) | (injection h9 with h9; subst h9; exact ⟨_, _, _, rfl⟩)
  have hst : Sl w2 ta tn [107] := by
    have := (hfm2 1 (by omega)).2.mem
    rw [e21] at this
    exact this.1
  have HST := hidden hst
  have HB2 := hidden (HWA2.out.trans (bD.mono HWA2.out.size))
  have T2 := hidden bD
  have HE2 := hidden (And.intro e20 e21)
  clear hfm2 hst bD hf2 hd2 hk2 e20 e21
  go_wp2_with (first
    | (refine wpList_new_var rfl rfl 26 3 (.tmp 29) rfl rfl rfl rfl 13 (by kernel_rfl) (cQ 7 fm2) rfl (cQ_one _ _) (by simp) rfl ?_; intro w3 B3 bl3 hz3; have HV3 := hidden B3; have HB3 := hidden (HB2.out.trans (bl3.mono HB2.out.size)); have T3 := hidden bl3; clear B3 bl3 hz3))
  obtain ⟨wa4, hwa4⟩ : ∃ wx, w3.alloc (.cells #[.int .u8 7, .int .u8 1, .int .u8 116, .int .u8 1, .int .u8 107, .int .u8 0] 5 (6, 7)) = wx := ⟨_, rfl⟩
  have bla4 : Below w3.heap.size w3 wa4 := by rw [← hwa4]; exact (Below.refl _ _).alloc (Nat.le_refl _) _
  have sla4 : Sl wa4 (some ⟨w3.heap.size, 0, none⟩) 6 [7, 1, 116, 1, 107, 0] := by rw [← hwa4]; exact sl_lit w3 [7, 1, 116, 1, 107, 0] (byte_of rfl) 5 (6, 7) 6 rfl _ rfl _ rfl
  have HWA4 := hidden (HB3.out.trans (bla4.mono HB3.out.size))
  have HSA4 := hidden sla4
  have T4a := hidden bla4
  rw [hwa4]
  clear sla4 bla4 hwa4
  refine (decodeP (some ⟨w3.heap.size, 0, none⟩) 6 6 [7, 1, 116, 1, 107, 0] wa4 HSA4.out (fun h => by cases h) (HG.out.later HWA4.out)).mono ?_
  rintro e w4 hD
  have hn4 : decQ [7, 1, 116, 1, 107, 0] = none := by
    have := sho5
    cases hq : decQ [7, 1, 116, 1, 107, 0] with
    | none => rfl
    | some q => rw [hq] at this; cases this
  unfold DecR at hD
  rw [hn4] at hD
  obtain ⟨bD, rfl⟩ := hD
  have HB4 := hidden (HWA4.out.trans (bD.mono HWA4.out.size))
  have T4 := hidden bD
  clear bD hn4
  go_wp2_with (first
    | (refine wpList_new_var rfl rfl 26 5 (.tmp 35) rfl rfl rfl rfl 13 (by kernel_rfl) (cQ 0 (fun i => zM (kdQ i))) rfl (cQ_one _ _) (by simp) rfl ?_; intro w5 B5 bl5 hz5; have HB5 := hidden (HB4.out.trans (bl5.mono HB4.out.size)); have T5 := hidden bl5; clear B5 bl5 hz5))
  have HE5 := hidden (encodeP 1 (fmQ [(0, .tx ⟨#[116]⟩)]) w5 (fun i _ => fmQ_kd _ (fun q hq => by simp at hq; subst hq; rfl) i) (fmQ_mem _ _ (fun q hq => by simp at hq; subst hq; trivial) (HG.out.later HB5.out) 12) ⟨by omega, by omega⟩ (by have := HB5.out.size; omega))
  rw [sho2] at HE5
  refine HE5.out.mono ?_
  rintro e w6 ⟨ad6, n6, cp6, rfl, _, _, _, _, b6⟩
  have HB6 := hidden (HB5.out.trans (b6.mono HB5.out.size))
  have T6 := hidden b6
  clear b6 HE5
  go_wp2_with fail
  have HE6 := hidden (answerP 160 0 (fmA []) w6 (fun i _ => fmA_kd _ (fun q hq => by cases hq) i) (fmA_mem _ _ (fun q hq => by cases hq) (HG.out.later HB6.out) 4) ⟨by omega, by omega⟩ ⟨by omega, by omega⟩ (by have := HB6.out.size; omega))
  rw [sho3] at HE6
  refine HE6.out.mono ?_
  rintro e w7 ⟨ad7, n7, cp7, rfl, o7, hl7, by7, _, b7⟩
  obtain rfl : 2 = n7 := hl7
  have HS7 := hidden (sl_of_owns o7 by7)
  have HB7 := hidden (HB6.out.trans (b7.mono HB6.out.size))
  have T7 := hidden b7
  clear o7 by7 b7 HE6
  go_wp2_with fail
  obtain ⟨w8, hw8⟩ : ∃ wx, w7.alloc (.cells #[.string ⟨#[97]⟩, .string ⟨#[98]⟩] 9) = wx := ⟨_, rfl⟩
  have bl8 : Below w7.heap.size w7 w8 := by rw [← hw8]; exact (Below.refl _ _).alloc (Nat.le_refl _) _
  have B8 : Blk w8 w7.heap.size 9 [.string ⟨#[97]⟩, .string ⟨#[98]⟩] := by rw [← hw8]; exact Blk.new w7 9 _
  have HB8 := hidden (HB7.out.trans (bl8.mono HB7.out.size))
  have HE8 := hidden (answerP 0 4 (fmA [(3, .ts (some ⟨w7.heap.size, 0, none⟩) 2 [⟨#[97]⟩, ⟨#[98]⟩])]) w8 (fun i _ => fmA_kd _ (fun q hq => by simp at hq; subst hq; rfl) i) (fmA_mem _ _ (fun q hq => by simp at hq; subst hq; exact ⟨by simp, es_blk (cells := fun d => [Value.string d]) (k := 1) (fun _ => rfl) (xs := [⟨#[97]⟩, ⟨#[98]⟩]) B8⟩) (HG.out.later HB8.out) 4) ⟨by omega, by omega⟩ ⟨by omega, by omega⟩ (by have := HB8.out.size; omega))
  rw [sho4] at HE8
  rw [hw8]
  have T8 := hidden bl8
  clear bl8 B8 hw8
  refine HE8.out.mono ?_
  rintro e w9 ⟨ad9, n9, cp9, rfl, o9, hl9, by9, _, b9⟩
  obtain rfl : 7 = n9 := hl9
  have HS9 := hidden (sl_of_owns o9 by9)
  have HB9 := hidden (HB8.out.trans (b9.mono HB8.out.size))
  have T9 := hidden b9
  clear o9 by9 b9 HE8
  go_wp2_with fail
  obtain ⟨wa10, hwa10⟩ : ∃ wx, w9.alloc (.cells #[.int .u8 0, .int .u8 3, .int .u8 3] 5 (3, 4)) = wx := ⟨_, rfl⟩
  have bla10 : Below w9.heap.size w9 wa10 := by rw [← hwa10]; exact (Below.refl _ _).alloc (Nat.le_refl _) _
  have sla10 : Sl wa10 (some ⟨w9.heap.size, 0, none⟩) 3 [0, 3, 3] := by rw [← hwa10]; exact sl_lit w9 [0, 3, 3] (byte_of rfl) 5 (3, 4) 3 rfl _ rfl _ rfl
  have HWA10 := hidden (HB9.out.trans (bla10.mono HB9.out.size))
  have HSA10 := hidden sla10
  have T10a := hidden bla10
  rw [hwa10]
  clear sla10 bla10 hwa10
  refine (readW (some ⟨w9.heap.size, 0, none⟩) 3 3 [0, 3, 3] w9.heap.size wa10 HSA10.out (fun x hx _ => by cases hx; exact ⟨rfl, rfl⟩) (HSA10.out.lt _ rfl (by omega)) (fun h => by cases h) (by omega) (HG.out.later HWA10.out)).mono ?_
  rintro e w10 hR
  obtain ⟨f10, hf10, hn10⟩ : ∃ f, readQ [0, 3, 3] = some (0, 3, f) ∧ f 2 = .nu 3 := by
    cases hq : readQ [0, 3, 3] with
    | none => have := sho7; rw [hq] at this; cases this
    | some q =>
      obtain ⟨er, k, f⟩ := q
      have h6 := sho7
      rw [hq] at h6
      simp at h6
      obtain ⟨rfl, rfl, h8⟩ := h6
      have hsh := (ans_readQ (byte_of rfl) hq).1
      have k2 := hsh.kd 2
      refine ⟨f, rfl, ?_⟩
      cases hf : f 2 <;> rw [hf] at k2 h8 <;> first | (cases k2; done) | skip
      rename_i m
      have h8 : m = 3 := h8
      rw [h8]
  unfold ReadR at hR
  rw [hf10] at hR
  obtain ⟨bR, fmr, rfl, hfmr⟩ := hR
  have e10 : fmr 2 = .nu 3 := by
    have h9 := (hfmr 2 (by omega)).1
    rw [hn10] at h9
    cases hm : fmr 2 <;> rw [hm] at h9 <;> first | (cases h9; done) | (injection h9 with h9; subst h9; rfl)
  have HE10 := hidden e10
  have HB10 := hidden (HWA10.out.trans (bR.mono HWA10.out.size))
  have T10 := hidden bR
  clear hfmr bR hf10 hn10 e10
  go_wp2_with (first
    | (refine wpList_new_var rfl rfl 57 13 (.tmp 57) rfl rfl rfl rfl 6 (by kernel_rfl) (cA 0 3 fmr) rfl (cA_one _ _ _) (by simp) rfl ?_; intro w11 B11 bl11 hz11
       have HB11 := hidden (HB10.out.trans (bl11.mono HB10.out.size))
       have x10 : Lat w9 w11 := Lat.trans _ _ _ T10a.out (Lat.trans _ _ _ T10.out bl11)
       have x7 : Lat w7 w11 := Lat.trans _ _ _ T8.out (Lat.trans _ _ _ T9.out x10)
       have x3 : Lat w3 w11 := Lat.trans _ _ _ T4a.out (Lat.trans _ _ _ T4.out (Lat.trans _ _ _ T5.out (Lat.trans _ _ _ T6.out (Lat.trans _ _ _ T7.out x7))))
       have x2 : Lat w2 w11 := Lat.trans _ _ _ T3.out x3
       have x1 : Lat w1 w11 := Lat.trans _ _ _ T2a.out (Lat.trans _ _ _ T2.out x2)
       have s1 := run_string_of (P := Tryz.prog) 22 5 9 Tryz.underlying22 Tryz.underlying5 Tryz.underlying9 (cap := cp1) ((Chg.of_below (F := fun _ => False) x1).sl HS1.out (fun _ _ _ e => e))
       have s2 := run_string_of (P := Tryz.prog) 22 5 9 Tryz.underlying22 Tryz.underlying5 Tryz.underlying9 (cap := tc) ((Chg.of_below (F := fun _ => False) x2).sl HST.out (fun _ _ _ e => e))
       have s7 := run_string_of (P := Tryz.prog) 22 5 9 Tryz.underlying22 Tryz.underlying5 Tryz.underlying9 (cap := cp7) ((Chg.of_below (F := fun _ => False) x7).sl HS7.out (fun _ _ _ e => e))
       have s9 := run_string_of (P := Tryz.prog) 22 5 9 Tryz.underlying22 Tryz.underlying5 Tryz.underlying9 (cap := cp9) ((Chg.of_below (F := fun _ => False) x10).sl HS9.out (fun _ _ _ e => e))
       rw [show strOfNums [4, 1, 116, 1, 107, 1, 1, 97, 1, 1, 120] = ⟨#[4, 1, 116, 1, 107, 1, 1, 97, 1, 1, 120]⟩ from rfl] at s1
       rw [show strOfNums [107] = ⟨#[107]⟩ from rfl] at s2
       rw [show strOfNums [160, 1] = ⟨#[160, 1]⟩ from rfl] at s7
       rw [show strOfNums [0, 4, 2, 1, 97, 1, 98] = ⟨#[0, 4, 2, 1, 97, 1, 98]⟩ from rfl] at s9
       have V3 := HV3.out.later x3
       have y0 : w11.cell? ⟨w2.heap.size, 0, none⟩ = some (.int .i64 7) := V3.cell 0
       have y1 : w11.cell? ⟨w2.heap.size, 1, none⟩ = some (fm2 0).val := by rw [V3.cell]; exact cQ_at 7 fm2 0 (by omega)
       have y2 : w11.cell? ⟨w2.heap.size, 2, none⟩ = some (fm2 1).val := by rw [V3.cell]; exact cQ_at 7 fm2 1 (by omega)
       rw [HE2.out.1] at y1
       rw [HE2.out.2] at y2
       simp only [FM.val] at y1 y2
       have r1 : w11.cell? ⟨w10.heap.size, 1, none⟩ = some (.int .i64 3) := B11.cell 1
       have r4 : w11.cell? ⟨w10.heap.size, 4, none⟩ = some (fmr 2).val := by rw [B11.cell]; exact cA_at 0 3 fmr 2 (by omega)
       rw [HE10.out] at r4
       simp only [FM.val] at r4
       simp only [errW]
       have hq180 := eq180 w11
       clear B11 bl11 hz11 V3 x1 x2 x3 x7 x10))
  go_ret
  exact ⟨by first | rfl | simp, HB11.out⟩

end Go.Proofs.YtalmpmhnkilalaaGreatDoor
