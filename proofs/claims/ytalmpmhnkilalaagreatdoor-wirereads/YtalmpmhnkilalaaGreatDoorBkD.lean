import Derived.Test.YtalmpmhnkilalaaGreatDoorRqM
import Derived.Lib.SlBytesConst
import Derived.Laws.StructEq
import Derived.BigQuiet
import Derived.Deep.CutRange
/-
  WireBack: shown.
-/
namespace Go.Proofs.YtalmpmhnkilalaaGreatDoor
open Go Go.RowKit
set_option linter.unusedVariables false
set_option linter.unusedSimpArgs false

/-- A function of fields that is zero but at some places. -/
def fmQ (l : List (Nat × FM)) : Nat → FM := fun i => match l.find? (fun q => q.1 == i) with | some q => q.2 | none => zM (kdQ i)
def fmA (l : List (Nat × FM)) : Nat → FM := fun i => match l.find? (fun q => q.1 == i) with | some q => q.2 | none => zM (kdA i)
theorem fmA_one : True := trivial

theorem sho1 (a b : Addr) : encE2 4 (fun i => (fmQ [(0, .tx ⟨#[116]⟩), (1, .tk (some a) 1 1 [107]), (3, .ms (some b) 1 [⟨⟨#[97]⟩, 1, ⟨#[120]⟩⟩])] i).fv) = (0, [4, 1, 116, 1, 107, 1, 1, 97, 1, 1, 120]) := by
  kernel_rfl
theorem sho2 : encE2 1 (fun i => (fmQ [(0, .tx ⟨#[116]⟩)] i).fv) = (180, []) := by
  kernel_rfl
theorem sho3 : ansQ 160 0 (fun i => (fmA [] i).fv) = (0, [160, 1]) := by
  kernel_rfl
theorem sho4 (a : Addr) : ansQ 0 4 (fun i => (fmA [(3, .ts (some a) 2 [⟨#[97]⟩, ⟨#[98]⟩])] i).fv) = (0, [0, 4, 2, 1, 97, 1, 98]) := by
  kernel_rfl
theorem sho5 : (decQ [7, 1, 116, 1, 107, 0]).isNone = true := by
  kernel_rfl
theorem sho6 : (decQ [7, 1, 116, 1, 107]).map (fun q => (q.1, (match q.2 0 with | .tx d => d.data.toList | _ => [1]), (match q.2 1 with | .tk l => l | _ => [1]))) = some (7, [116], [107]) := by
  kernel_rfl
theorem sho7 : (readQ [0, 3, 3]).map (fun q => (q.1, q.2.1, (match q.2.2 2 with | .nu n => n | _ => 0))) = some (0, 3, 3) := by
  kernel_rfl

theorem constBytes (w : World) (C : Array Value) (n c g : Nat) (hg : g = w.heap.size) : (convert 22 22 (.slice (some ⟨g, 0, none⟩) n c)).run Tryz.prog (w.alloc (.cells C 5)) = .ok (.slice (some ⟨g, 0, none⟩) n c) (w.alloc (.cells C 5 (C.size, C.size + 1))) := by
  subst hg
  exact Lib.run_convert_bytes_const (P := Tryz.prog) w 22 5 C n c Tryz.underlying22 Tryz.underlying5
theorem byte_of {l : List Int} (h : l.all (fun x => decide (0 ≤ x) && decide (x ≤ 255)) = true) : Byte l := by
  intro x hx
  have := List.all_eq_true.1 h x hx
  simp at this
  omega
theorem fmQ_kd (l : List (Nat × FM)) (hl : ∀ q ∈ l, q.2.fv.kd = kdQ q.1) (i : Nat) : (fmQ l i).fv.kd = kdQ i := by
  unfold fmQ
  split
  · rename_i q hq
    have h1 := List.find?_some hq
    have h2 := hl q (List.mem_of_find?_eq_some hq)
    simp at h1
    rw [h2, h1]
  · rw [zM_fv]; exact zeroV_kd _
theorem fmA_kd (l : List (Nat × FM)) (hl : ∀ q ∈ l, q.2.fv.kd = kdA q.1) (i : Nat) : (fmA l i).fv.kd = kdA i := by
  unfold fmA
  split
  · rename_i q hq
    have h1 := List.find?_some hq
    have h2 := hl q (List.mem_of_find?_eq_some hq)
    simp at h1
    rw [h2, h1]
  · rw [zM_fv]; exact zeroV_kd _
theorem fmQ_mem (l : List (Nat × FM)) (w : World) (hl : ∀ q ∈ l, q.2.mem w) (hG : Gv w) (n : Nat) : Mem (fmQ l) n w := by
  refine ⟨fun i _ => ?_, hG⟩
  unfold fmQ
  split
  · rename_i q hq
    exact hl q (List.mem_of_find?_eq_some hq)
  · exact (zM_fo 0 0 w _).mem
theorem fmA_mem (l : List (Nat × FM)) (w : World) (hl : ∀ q ∈ l, q.2.mem w) (hG : Gv w) (n : Nat) : Mem (fmA l) n w := by
  refine ⟨fun i _ => ?_, hG⟩
  unfold fmA
  split
  · rename_i q hq
    exact hl q (List.mem_of_find?_eq_some hq)
  · exact (zM_fo 0 0 w _).mem
abbrev q1 (a b : Addr) : List (Nat × FM) := [(0, .tx ⟨#[116]⟩), (1, .tk (some a) 1 1 [107]), (3, .ms (some b) 1 [⟨⟨#[97]⟩, 1, ⟨#[120]⟩⟩])]
theorem bui1 (a b : Addr) : Tryz.prog.built 26 [(0, .int .i64 4), (1, .string ⟨#[116]⟩), (2, .slice (some a) 1 1), (4, .slice (some b) 1 1)] = some (cQ 4 (fmQ (q1 a b))).toArray := by kernel_rfl
theorem bui2 : Tryz.prog.built 26 [(0, .int .i64 1), (1, .string ⟨#[116]⟩)] = some (cQ 1 (fmQ [(0, .tx ⟨#[116]⟩)])).toArray := by kernel_rfl
theorem bui3 : Tryz.prog.built 57 [(0, .int .i64 160)] = some (cA 160 0 (fmA [])).toArray := by kernel_rfl
theorem bui4 (a : Addr) : Tryz.prog.built 57 [(1, .int .i64 4), (5, .slice (some a) 2 2)] = some (cA 0 4 (fmA [(3, .ts (some a) 2 [⟨#[97]⟩, ⟨#[98]⟩])])).toArray := by kernel_rfl
theorem bui5 : Tryz.prog.built 52 [(0, .string ⟨#[97]⟩), (1, .int .i64 1), (2, .string ⟨#[120]⟩)] = some #[.string ⟨#[97]⟩, .int .i64 1, .string ⟨#[120]⟩] := by kernel_rfl
theorem es_blk {α : Type} {cells : α → List Value} {k : Nat} (hk : ∀ x, (cells x).length = k) {w : World} {g : Nat} {ty : TypeId} {xs : List α} (h : Blk w g ty (xs.flatMap cells)) : Es w (some ⟨g, 0, none⟩) k (xs.map cells) := by
  intro h0
  refine ⟨g, 0, rfl, h.lt, fun i x hx j v hv => ?_⟩
  rw [List.getElem?_map] at hx
  cases hxi : xs[i]? with
  | none => rw [hxi] at hx; cases hx
  | some y =>
    rw [hxi] at hx
    simp at hx
    subst hx
    rw [Nat.zero_add, h.cell]
    exact flat_get hk xs i y hxi j v hv

theorem eq180 (w : World) : (binOp .eql 36 (.iface 30 (.int .i64 180)) (.iface 30 (.int .i64 180))).run Tryz.prog w = .ok (.bool true) w := by kernel_rfl

set_option maxHeartbeats 16000000 in
set_option maxRecDepth 100000 in
theorem shownP (w : World) (hG : Gv w) : Calls Tryz.prog 9 #[] w fun e w' => e = .returned (.bool true) ∧ Below w.heap.size w w' := by
  have HG := hidden hG
  have h2w : 2 ≤ w.heap.size := World.block_lt_of_cell? w _ (hG.tab 0 (by omega))
  have kc := constBytes
  clear hG
  go_enter Tryz.func9, Tryz.ntmps9
  go_wp2_with fail
  obtain ⟨wA, hwA⟩ : ∃ wA, (w.alloc (.cells #[.int .u8 107] 5 (1, 2))).alloc (.cells #[.string ⟨#[97]⟩, .int .i64 1, .string ⟨#[120]⟩] 52) = wA := ⟨_, rfl⟩
  have blA : Below w.heap.size w wA := by rw [← hwA]; exact ((Below.refl _ _).alloc (Nat.le_refl _) _).alloc (by simp) _
  have HMA : Hid (Mem (fmQ (q1 ⟨w.heap.size, 0, none⟩ ⟨w.heap.size + 1, 0, none⟩)) 12 wA) := hidden (fmQ_mem _ _ (fun q hq => by
    simp only [q1, List.mem_cons, List.not_mem_nil, or_false] at hq
    rcases hq with rfl | rfl | rfl
    · trivial
    · refine ⟨?_, by omega⟩
      rw [← hwA]
      exact (Chg.alloc (fun _ => False) _ _).sl (sl_lit w [107] (byte_of rfl) 5 (1, 2) 1 rfl _ rfl _ rfl) (fun _ _ _ e => e)
    · refine ⟨by simp, ?_, fun x hx => ?_⟩
      · have hb := Blk.new (w.alloc (.cells #[.int .u8 107] 5 (1, 2))) 52 [.string ⟨#[97]⟩, .int .i64 1, .string ⟨#[120]⟩]
        rw [World.size_alloc, hwA] at hb
        exact es_blk (cells := Ma.cells) (k := 3) (fun _ => rfl) (xs := [⟨⟨#[97]⟩, 1, ⟨#[120]⟩⟩]) hb
      · simp at hx
        subst hx
        exact ⟨by show (-9223372036854775808 : Int) ≤ 1; omega, by show (1 : Int) ≤ 9223372036854775807; omega⟩) (HG.out.later blA) 12)
  have HE1 := hidden (encodeP 4 (fmQ (q1 ⟨w.heap.size, 0, none⟩ ⟨w.heap.size + 1, 0, none⟩)) wA (fun i _ => fmQ_kd _ (fun q hq => by simp only [q1, List.mem_cons, List.not_mem_nil, or_false] at hq; rcases hq with rfl | rfl | rfl <;> rfl) i) HMA.out ⟨by omega, by omega⟩ (by have := blA.size; omega))
  rw [sho1] at HE1
  have HBA := hidden blA
  rw [hwA]
  clear hwA blA HMA
  refine HE1.out.mono ?_
  rintro e w1 ⟨ad1, n1, cp1, rfl, o1, hl1, by1, _, b1⟩
  obtain rfl : 11 = n1 := hl1
  have HS1 := hidden (sl_of_owns o1 by1)
  have HB1 := hidden (HBA.out.trans (b1.mono HBA.out.size))
  clear o1 by1 b1 HE1
  go_wp2_with fail
  obtain ⟨wa2, hwa2⟩ : ∃ wx, w1.alloc (.cells #[.int .u8 7, .int .u8 1, .int .u8 116, .int .u8 1, .int .u8 107] 5 (5, 6)) = wx := ⟨_, rfl⟩
  have bla2 : Below w1.heap.size w1 wa2 := by rw [← hwa2]; exact (Below.refl _ _).alloc (Nat.le_refl _) _
  have sla2 : Sl wa2 (some ⟨w1.heap.size, 0, none⟩) 5 [7, 1, 116, 1, 107] := by rw [← hwa2]; exact sl_lit w1 [7, 1, 116, 1, 107] (byte_of rfl) 5 (5, 6) 5 rfl _ rfl _ rfl
  have HWA2 := hidden (HB1.out.trans (bla2.mono HB1.out.size))
  have HSA2 := hidden sla2
  have T2a := hidden bla2
  rw [hwa2]
  clear sla2 bla2 hwa2
  refine (decodeP (some ⟨w1.heap.size, 0, none⟩) 5 5 [7, 1, 116, 1, 107] wa2 HSA2.out (fun h => by cases h) (HG.out.later HWA2.out)).mono ?_
  rintro e w2 hD
  obtain ⟨f2, hf2, hd2, hk2⟩ : ∃ f, decQ [7, 1, 116, 1, 107] = some (7, f) ∧ f 0 = .tx ⟨#[116]⟩ ∧ f 1 = .tk [107] := by
    cases hq : decQ [7, 1, 116, 1, 107] with
    | none => have := sho6; rw [hq] at this; cases this
    | some q =>
      obtain ⟨k, f⟩ := q
      have h6 := sho6
      rw [hq] at h6
      simp at h6
      obtain ⟨rfl, h7, h8⟩ := h6
      have hsh := (enc_decQ (byte_of rfl) hq).1
      have k0 := hsh.kd 0
      have k1 := hsh.kd 1
      refine ⟨f, rfl, ?_, ?_⟩
      · cases hf : f 0 <;> rw [hf] at k0 h7 <;> first | (cases k0; done) | skip
        rename_i d
        congr 1
        obtain ⟨a⟩ := d
        have h7 : a.toList = [116] := h7
        congr 1
        exact Array.toList_inj.1 h7
      · cases hf : f 1 <;> rw [hf] at k1 h8 <;> first | (cases k1; done) | skip
        rename_i l
        have h8 : l = [107] := h8
        rw [h8]
  unfold DecR at hD
  rw [hf2] at hD
  obtain ⟨bD, K2, fm2, rfl, _, hfm2⟩ := hD
  obtain ⟨d2, e20, _⟩ : ∃ d, fm2 0 = .tx d ∧ d = ⟨#[116]⟩ := by
    have h9 := (hfm2 0 (by omega)).1
    rw [hd2] at h9
    cases hm : fm2 0 <;> rw [hm] at h9 <;> first | (cases h9; done) | (injection h9 with h9; exact ⟨_, rfl, h9⟩)
  subst_vars
  obtain ⟨ta, tn, tc, e21⟩ : ∃ a n c, fm2 1 = .tk a n c [107] := by
    have h9 := (hfm2 1 (by omega)).1
    rw [hk2] at h9
    cases hm : fm2 1 <;> rw [hm] at h9 <;> first | (cases h9; done) | (injection h9 with h9; subst h9; exact ⟨_, _, _, rfl⟩)
  have hst : Sl w2 ta tn [107] := by
    have := (hfm2 1 (by omega)).2.mem
    rw [e21] at this
    exact this.1
  have HST := hidden hst
  have HB2 := hidden (HWA2.out.trans (bD.mono HWA2.out.size))
  have T2 := hidden bD
  have HE2 := hidden (And.intro e20 e21)
  clear hfm2 hst bD hf2 hd2 hk2 e20 e21
  go_wp2_with (first
    | (refine wpList_new_var rfl rfl 26 3 (.tmp 29) rfl rfl rfl rfl 13 (by kernel_rfl) (cQ 7 fm2) rfl (cQ_one _ _) (by simp) rfl ?_; intro w3 B3 bl3 hz3; have HV3 := hidden B3; have HB3 := hidden (HB2.out.trans (bl3.mono HB2.out.size)); have T3 := hidden bl3; clear B3 bl3 hz3))
  obtain ⟨wa4, hwa4⟩ : ∃ wx, w3.alloc (.cells #[.int .u8 7, .int .u8 1, .int .u8 116, .int .u8 1, .int .u8 107, .int .u8 0] 5 (6, 7)) = wx := ⟨_, rfl⟩
  have bla4 : Below w3.heap.size w3 wa4 := by rw [← hwa4]; exact (Below.refl _ _).alloc (Nat.le_refl _) _
  have sla4 : Sl wa4 (some ⟨w3.heap.size, 0, none⟩) 6 [7, 1, 116, 1, 107, 0] := by rw [← hwa4]; exact sl_lit w3 [7, 1, 116, 1, 107, 0] (byte_of rfl) 5 (6, 7) 6 rfl _ rfl _ rfl
  have HWA4 := hidden (HB3.out.trans (bla4.mono HB3.out.size))
  have HSA4 := hidden sla4
  have T4a := hidden bla4
  rw [hwa4]
  clear sla4 bla4 hwa4
  refine (decodeP (some ⟨w3.heap.size, 0, none⟩) 6 6 [7, 1, 116, 1, 107, 0] wa4 HSA4.out (fun h => by cases h) (HG.out.later HWA4.out)).mono ?_
  rintro e w4 hD
  have hn4 : decQ [7, 1, 116, 1, 107, 0] = none := by
    have := sho5
    cases hq : decQ [7, 1, 116, 1, 107, 0] with
    | none => rfl
    | some q => rw [hq] at this; cases this
  unfold DecR at hD
  rw [hn4] at hD
  obtain ⟨bD, rfl⟩ := hD
  have HB4 := hidden (HWA4.out.trans (bD.mono HWA4.out.size))
  have T4 := hidden bD
  clear bD hn4
  go_wp2_with (first
    | (refine wpList_new_var rfl rfl 26 5 (.tmp 35) rfl rfl rfl rfl 13 (by kernel_rfl) (cQ 0 (fun i => zM (kdQ i))) rfl (cQ_one _ _) (by simp) rfl ?_; intro w5 B5 bl5 hz5; have HB5 := hidden (HB4.out.trans (bl5.mono HB4.out.size)); have T5 := hidden bl5; clear B5 bl5 hz5))
  have HE5 := hidden (encodeP 1 (fmQ [(0, .tx ⟨#[116]⟩)]) w5 (fun i _ => fmQ_kd _ (fun q hq => by simp at hq; subst hq; rfl) i) (fmQ_mem _ _ (fun q hq => by simp at hq; subst hq; trivial) (HG.out.later HB5.out) 12) ⟨by omega, by omega⟩ (by have := HB5.out.size; omega))
  rw [sho2] at HE5
  refine HE5.out.mono ?_
  rintro e w6 ⟨ad6, n6, cp6, rfl, _, _, _, _, b6⟩
  have HB6 := hidden (HB5.out.trans (b6.mono HB5.out.size))
  have T6 := hidden b6
  clear b6 HE5
  go_wp2_with fail
  have HE6 := hidden (answerP 160 0 (fmA []) w6 (fun i _ => fmA_kd _ (fun q hq => by cases hq) i) (fmA_mem _ _ (fun q hq => by cases hq) (HG.out.later HB6.out) 4) ⟨by omega, by omega⟩ ⟨by omega, by omega⟩ (by have := HB6.out.size; omega))
  rw [sho3] at HE6
  refine HE6.out.mono ?_
  rintro e w7 ⟨ad7, n7, cp7, rfl, o7, hl7, by7, _, b7⟩
  obtain rfl : 2 = n7 := hl7
  have HS7 := hidden (sl_of_owns o7 by7)
  have HB7 := hidden (HB6.out.trans (b7.mono HB6.out.size))
  have T7 := hidden b7
  clear o7 by7 b7 HE6
  go_wp2_with fail
  obtain ⟨w8, hw8⟩ : ∃ wx, w7.alloc (.cells #[.string ⟨#[97]⟩, .string ⟨#[98]⟩] 9) = wx := ⟨_, rfl⟩
  have bl8 : Below w7.heap.size w7 w8 := by rw [← hw8]; exact (Below.refl _ _).alloc (Nat.le_refl _) _
  have B8 : Blk w8 w7.heap.size 9 [.string ⟨#[97]⟩, .string ⟨#[98]⟩] := by rw [← hw8]; exact Blk.new w7 9 _
  have HB8 := hidden (HB7.out.trans (bl8.mono HB7.out.size))
  have HE8 := hidden (answerP 0 4 (fmA [(3, .ts (some ⟨w7.heap.size, 0, none⟩) 2 [⟨#[97]⟩, ⟨#[98]⟩])]) w8 (fun i _ => fmA_kd _ (fun q hq => by simp at hq; subst hq; rfl) i) (fmA_mem _ _ (fun q hq => by simp at hq; subst hq; exact ⟨by simp, es_blk (cells := fun d => [Value.string d]) (k := 1) (fun _ => rfl) (xs := [⟨#[97]⟩, ⟨#[98]⟩]) B8⟩) (HG.out.later HB8.out) 4) ⟨by omega, by omega⟩ ⟨by omega, by omega⟩ (by have := HB8.out.size; omega))
  rw [sho4] at HE8
  rw [hw8]
  have T8 := hidden bl8
  clear bl8 B8 hw8
  refine HE8.out.mono ?_
  rintro e w9 ⟨ad9, n9, cp9, rfl, o9, hl9, by9, _, b9⟩
  obtain rfl : 7 = n9 := hl9
  have HS9 := hidden (sl_of_owns o9 by9)
  have HB9 := hidden (HB8.out.trans (b9.mono HB8.out.size))
  have T9 := hidden b9
  clear o9 by9 b9 HE8
  go_wp2_with fail
  obtain ⟨wa10, hwa10⟩ : ∃ wx, w9.alloc (.cells #[.int .u8 0, .int .u8 3, .int .u8 3] 5 (3, 4)) = wx := ⟨_, rfl⟩
  have bla10 : Below w9.heap.size w9 wa10 := by rw [← hwa10]; exact (Below.refl _ _).alloc (Nat.le_refl _) _
  have sla10 : Sl wa10 (some ⟨w9.heap.size, 0, none⟩) 3 [0, 3, 3] := by rw [← hwa10]; exact sl_lit w9 [0, 3, 3] (byte_of rfl) 5 (3, 4) 3 rfl _ rfl _ rfl
  have HWA10 := hidden (HB9.out.trans (bla10.mono HB9.out.size))
  have HSA10 := hidden sla10
  have T10a := hidden bla10
  rw [hwa10]
  clear sla10 bla10 hwa10
  refine (readW (some ⟨w9.heap.size, 0, none⟩) 3 3 [0, 3, 3] w9.heap.size wa10 HSA10.out (fun x hx _ => by cases hx; exact ⟨rfl, rfl⟩) (HSA10.out.lt _ rfl (by omega)) (fun h => by cases h) (by omega) (HG.out.later HWA10.out)).mono ?_
  rintro e w10 hR
  obtain ⟨f10, hf10, hn10⟩ : ∃ f, readQ [0, 3, 3] = some (0, 3, f) ∧ f 2 = .nu 3 := by
    cases hq : readQ [0, 3, 3] with
    | none => have := sho7; rw [hq] at this; cases this
    | some q =>
      obtain ⟨er, k, f⟩ := q
      have h6 := sho7
      rw [hq] at h6
      simp at h6
      obtain ⟨rfl, rfl, h8⟩ := h6
      have hsh := (ans_readQ (byte_of rfl) hq).1
      have k2 := hsh.kd 2
      refine ⟨f, rfl, ?_⟩
      cases hf : f 2 <;> rw [hf] at k2 h8 <;> first | (cases k2; done) | skip
      rename_i m
      have h8 : m = 3 := h8
      rw [h8]
  unfold ReadR at hR
  rw [hf10] at hR
  obtain ⟨bR, fmr, rfl, hfmr⟩ := hR
  have e10 : fmr 2 = .nu 3 := by
    have h9 := (hfmr 2 (by omega)).1
    rw [hn10] at h9
    cases hm : fmr 2 <;> rw [hm] at h9 <;> first | (cases h9; done) | (injection h9 with h9; subst h9; rfl)
  have HE10 := hidden e10
  have HB10 := hidden (HWA10.out.trans (bR.mono HWA10.out.size))
  have T10 := hidden bR
  clear hfmr bR hf10 hn10 e10
  go_wp2_with (first
    | (refine wpList_new_var rfl rfl 57 13 (.tmp 57) rfl rfl rfl rfl 6 (by kernel_rfl) (cA 0 3 fmr) rfl (cA_one _ _ _) (by simp) rfl ?_; intro w11 B11 bl11 hz11
       have HB11 := hidden (HB10.out.trans (bl11.mono HB10.out.size))
       have x10 : Lat w9 w11 := Lat.trans _ _ _ T10a.out (Lat.trans _ _ _ T10.out bl11)
       have x7 : Lat w7 w11 := Lat.trans _ _ _ T8.out (Lat.trans _ _ _ T9.out x10)
       have x3 : Lat w3 w11 := Lat.trans _ _ _ T4a.out (Lat.trans _ _ _ T4.out (Lat.trans _ _ _ T5.out (Lat.trans _ _ _ T6.out (Lat.trans _ _ _ T7.out x7))))
       have x2 : Lat w2 w11 := Lat.trans _ _ _ T3.out x3
       have x1 : Lat w1 w11 := Lat.trans _ _ _ T2a.out (Lat.trans _ _ _ T2.out x2)
       have s1 := run_string_of (P := Tryz.prog) 22 5 9 Tryz.underlying22 Tryz.underlying5 Tryz.underlying9 (cap := cp1) ((Chg.of_below (F := fun _ => False) x1).sl HS1.out (fun _ _ _ e => e))
       have s2 := run_string_of (P := Tryz.prog) 22 5 9 Tryz.underlying22 Tryz.underlying5 Tryz.underlying9 (cap := tc) ((Chg.of_below (F := fun _ => False) x2).sl HST.out (fun _ _ _ e => e))
       have s7 := run_string_of (P := Tryz.prog) 22 5 9 Tryz.underlying22 Tryz.underlying5 Tryz.underlying9 (cap := cp7) ((Chg.of_below (F := fun _ => False) x7).sl HS7.out (fun _ _ _ e => e))
       have s9 := run_string_of (P := Tryz.prog) 22 5 9 Tryz.underlying22 Tryz.underlying5 Tryz.underlying9 (cap := cp9) ((Chg.of_below (F := fun _ => False) x10).sl HS9.out (fun _ _ _ e => e))
       rw [show strOfNums [4, 1, 116, 1, 107, 1, 1, 97, 1, 1, 120] = ⟨#[4, 1, 116, 1, 107, 1, 1, 97, 1, 1, 120]⟩ from rfl] at s1
       rw [show strOfNums [107] = ⟨#[107]⟩ from rfl] at s2
       rw [show strOfNums [160, 1] = ⟨#[160, 1]⟩ from rfl] at s7
       rw [show strOfNums [0, 4, 2, 1, 97, 1, 98] = ⟨#[0, 4, 2, 1, 97, 1, 98]⟩ from rfl] at s9
       have V3 := HV3.out.later x3
       have y0 : w11.cell? ⟨w2.heap.size, 0, none⟩ = some (.int .i64 7) := V3.cell 0
       have y1 : w11.cell? ⟨w2.heap.size, 1, none⟩ = some (fm2 0).val := by rw [V3.cell]; exact cQ_at 7 fm2 0 (by omega)
       have y2 : w11.cell? ⟨w2.heap.size, 2, none⟩ = some (fm2 1).val := by rw [V3.cell]; exact cQ_at 7 fm2 1 (by omega)
       rw [HE2.out.1] at y1
       rw [HE2.out.2] at y2
       simp only [FM.val] at y1 y2
       have r1 : w11.cell? ⟨w10.heap.size, 1, none⟩ = some (.int .i64 3) := B11.cell 1
       have r4 : w11.cell? ⟨w10.heap.size, 4, none⟩ = some (fmr 2).val := by rw [B11.cell]; exact cA_at 0 3 fmr 2 (by omega)
       rw [HE10.out] at r4
       simp only [FM.val] at r4
       simp only [errW]
       have hq180 := eq180 w11
       clear B11 bl11 hz11 V3 x1 x2 x3 x7 x10))
  go_ret
  exact ⟨by first | rfl | simp, HB11.out⟩

end Go.Proofs.YtalmpmhnkilalaaGreatDoor

/-
  WireBack: are two lists one? By gensame19.py.
-/
namespace Go.Proofs.YtalmpmhnkilalaaGreatDoor
open Go Go.RowKit
set_option linter.unusedVariables false
set_option linter.unusedSimpArgs false

/-- What a test of two lists that are one leaves. -/
def YesP (w : World) (e : Ending) (w' : World) : Prop := e = .returned (.bool true) ∧ Below w.heap.size w w'

set_option maxHeartbeats 2000000 in
set_option maxRecDepth 8000 in
theorem sameLabelsY (a1 a2 : Option Addr) (N c1 c2 : Nat) (l : List La) (w : World) (h1 : Es w a1 2 (l.map La.cells)) (h2 : Es w a2 2 (l.map La.cells)) (hN : l.length = N) (hN9 : N ≤ 9223372036854775807) :
    Calls Tryz.prog 65 #[.slice a1 N c1, .slice a2 N c2] w (YesP w) := by
  have H1 := hidden h1
  have H2 := hidden h2
  have HN := hidden hN
  clear h1 h2 hN
  go_enter Tryz.func65, Tryz.ntmps65
  go_wp2_with fail
  go_loopw [5] (fun v5 wx => ∃ i : Nat, v5 = .int .i64 (i : Int) ∧ i ≤ N ∧ Hid (Below w.heap.size w wx)) (fun v5 _ => N - (intOf v5).toNat)
  case atStart => exact ⟨0, rfl, by omega, hidden (Below.refl _ _)⟩
  case round =>
    obtain ⟨i, rfl, hi, hI⟩ := hrel
    by_cases hin : i < N
    · obtain ⟨x, hx⟩ : ∃ x, l[i]? = some x := ⟨l[i]'(by have := HN.out; omega), by simp⟩
      have hxm : (l.map La.cells)[i]? = some [.string x.n, .string x.v] := by rw [List.getElem?_map, hx]; rfl
      obtain ⟨b1, o1, rfl, hb1, hcell1⟩ := (H1.out.later hI.out) (by intro h0; rw [h0] at hxm; simp at hxm)
      obtain ⟨b2, o2, rfl, hb2, hcell2⟩ := (H2.out.later hI.out) (by intro h0; rw [h0] at hxm; simp at hxm)
      have hin' : (i : Int) < (N : Int) := by omega
      have c0 := hcell1 i _ hxm 0 _ rfl
      have d0 := hcell2 i _ hxm 0 _ rfl
      have c1 := hcell1 i _ hxm 1 _ rfl
      have d1 := hcell2 i _ hxm 1 _ rfl
      rw [Nat.add_zero] at c0 d0
      clear hcell1 hcell2 hx hb1 hb2 hxm
      go_wp2_with fail
      go_quiet (fail)
      go_wp2_with fail
      refine ⟨⟨i + 1, by first | rfl | simp, by omega, hidden (below_drewN hI.out nq)⟩, ?_⟩
      show N - ((i : Int) + 1).toNat < N - (i : Int).toNat
      omega
    · obtain rfl : i = N := by omega
      go_wp2_with fail
      go_ret
      exact ⟨rfl, hI.out⟩

set_option maxHeartbeats 2000000 in
set_option maxRecDepth 8000 in
theorem sameMatchersY (a1 a2 : Option Addr) (N c1 c2 : Nat) (l : List Ma) (w : World) (h1 : Es w a1 3 (l.map Ma.cells)) (h2 : Es w a2 3 (l.map Ma.cells)) (hN : l.length = N) (hN9 : N ≤ 9223372036854775807) :
    Calls Tryz.prog 39 #[.slice a1 N c1, .slice a2 N c2] w (YesP w) := by
  have H1 := hidden h1
  have H2 := hidden h2
  have HN := hidden hN
  clear h1 h2 hN
  go_enter Tryz.func39, Tryz.ntmps39
  go_wp2_with fail
  go_loopw [5] (fun v5 wx => ∃ i : Nat, v5 = .int .i64 (i : Int) ∧ i ≤ N ∧ Hid (Below w.heap.size w wx)) (fun v5 _ => N - (intOf v5).toNat)
  case atStart => exact ⟨0, rfl, by omega, hidden (Below.refl _ _)⟩
  case round =>
    obtain ⟨i, rfl, hi, hI⟩ := hrel
    by_cases hin : i < N
    · obtain ⟨x, hx⟩ : ∃ x, l[i]? = some x := ⟨l[i]'(by have := HN.out; omega), by simp⟩
      have hxm : (l.map Ma.cells)[i]? = some [.string x.n, .int .i64 x.op, .string x.t] := by rw [List.getElem?_map, hx]; rfl
      obtain ⟨b1, o1, rfl, hb1, hcell1⟩ := (H1.out.later hI.out) (by intro h0; rw [h0] at hxm; simp at hxm)
      obtain ⟨b2, o2, rfl, hb2, hcell2⟩ := (H2.out.later hI.out) (by intro h0; rw [h0] at hxm; simp at hxm)
      have hin' : (i : Int) < (N : Int) := by omega
      have c0 := hcell1 i _ hxm 0 _ rfl
      have d0 := hcell2 i _ hxm 0 _ rfl
      have c1 := hcell1 i _ hxm 1 _ rfl
      have d1 := hcell2 i _ hxm 1 _ rfl
      have c2 := hcell1 i _ hxm 2 _ rfl
      have d2 := hcell2 i _ hxm 2 _ rfl
      rw [Nat.add_zero] at c0 d0
      clear hcell1 hcell2 hx hb1 hb2 hxm
      go_wp2_with fail
      go_quiet (fail)
      go_wp2_with fail
      refine ⟨⟨i + 1, by first | rfl | simp, by omega, hidden (below_drewN hI.out nq)⟩, ?_⟩
      show N - ((i : Int) + 1).toNat < N - (i : Int).toNat
      omega
    · obtain rfl : i = N := by omega
      go_wp2_with fail
      go_ret
      exact ⟨rfl, hI.out⟩

set_option maxHeartbeats 2000000 in
set_option maxRecDepth 8000 in
theorem sameSamplesY (a1 a2 : Option Addr) (N c1 c2 : Nat) (l : List Sm) (w : World) (h1 : Es w a1 2 (l.map encS)) (h2 : Es w a2 2 (l.map encS)) (hN : l.length = N) (hN9 : N ≤ 9223372036854775807) :
    Calls Tryz.prog 66 #[.slice a1 N c1, .slice a2 N c2] w (YesP w) := by
  have H1 := hidden h1
  have H2 := hidden h2
  have HN := hidden hN
  clear h1 h2 hN
  go_enter Tryz.func66, Tryz.ntmps66
  go_wp2_with fail
  go_loopw [5] (fun v5 wx => ∃ i : Nat, v5 = .int .i64 (i : Int) ∧ i ≤ N ∧ Hid (Below w.heap.size w wx)) (fun v5 _ => N - (intOf v5).toNat)
  case atStart => exact ⟨0, rfl, by omega, hidden (Below.refl _ _)⟩
  case round =>
    obtain ⟨i, rfl, hi, hI⟩ := hrel
    by_cases hin : i < N
    · obtain ⟨x, hx⟩ : ∃ x, l[i]? = some x := ⟨l[i]'(by have := HN.out; omega), by simp⟩
      have hxm : (l.map encS)[i]? = some [.int .i64 x.t, .int .u64 (x.v : Int)] := by rw [List.getElem?_map, hx]; rfl
      obtain ⟨b1, o1, rfl, hb1, hcell1⟩ := (H1.out.later hI.out) (by intro h0; rw [h0] at hxm; simp at hxm)
      obtain ⟨b2, o2, rfl, hb2, hcell2⟩ := (H2.out.later hI.out) (by intro h0; rw [h0] at hxm; simp at hxm)
      have hin' : (i : Int) < (N : Int) := by omega
      have c0 := hcell1 i _ hxm 0 _ rfl
      have d0 := hcell2 i _ hxm 0 _ rfl
      have c1 := hcell1 i _ hxm 1 _ rfl
      have d1 := hcell2 i _ hxm 1 _ rfl
      rw [Nat.add_zero] at c0 d0
      clear hcell1 hcell2 hx hb1 hb2 hxm
      go_wp2_with fail
      go_quiet (fail)
      go_wp2_with fail
      refine ⟨⟨i + 1, by first | rfl | simp, by omega, hidden (below_drewN hI.out nq)⟩, ?_⟩
      show N - ((i : Int) + 1).toNat < N - (i : Int).toNat
      omega
    · obtain rfl : i = N := by omega
      go_wp2_with fail
      go_ret
      exact ⟨rfl, hI.out⟩

set_option maxHeartbeats 2000000 in
set_option maxRecDepth 8000 in
theorem sameTextsY (a1 a2 : Option Addr) (N c1 c2 : Nat) (l : List ByteArray) (w : World) (h1 : Es w a1 1 (l.map (fun d => [Value.string d]))) (h2 : Es w a2 1 (l.map (fun d => [Value.string d]))) (hN : l.length = N) (hN9 : N ≤ 9223372036854775807) :
    Calls Tryz.prog 51 #[.slice a1 N c1, .slice a2 N c2] w (YesP w) := by
  have H1 := hidden h1
  have H2 := hidden h2
  have HN := hidden hN
  clear h1 h2 hN
  go_enter Tryz.func51, Tryz.ntmps51
  go_wp2_with fail
  go_loopw [5] (fun v5 wx => ∃ i : Nat, v5 = .int .i64 (i : Int) ∧ i ≤ N ∧ Hid (Below w.heap.size w wx)) (fun v5 _ => N - (intOf v5).toNat)
  case atStart => exact ⟨0, rfl, by omega, hidden (Below.refl _ _)⟩
  case round =>
    obtain ⟨i, rfl, hi, hI⟩ := hrel
    by_cases hin : i < N
    · obtain ⟨x, hx⟩ : ∃ x, l[i]? = some x := ⟨l[i]'(by have := HN.out; omega), by simp⟩
      have hxm : (l.map (fun d => [Value.string d]))[i]? = some [.string x] := by rw [List.getElem?_map, hx]; rfl
      obtain ⟨b1, o1, rfl, hb1, hcell1⟩ := (H1.out.later hI.out) (by intro h0; rw [h0] at hxm; simp at hxm)
      obtain ⟨b2, o2, rfl, hb2, hcell2⟩ := (H2.out.later hI.out) (by intro h0; rw [h0] at hxm; simp at hxm)
      have hin' : (i : Int) < (N : Int) := by omega
      have c0 := hcell1 i _ hxm 0 _ rfl
      have d0 := hcell2 i _ hxm 0 _ rfl
      rw [Nat.add_zero] at c0 d0
      rw [Nat.mul_one] at c0 d0
      clear hcell1 hcell2 hx hb1 hb2 hxm
      go_wp2_with fail
      go_quiet (fail)
      go_wp2_with fail
      refine ⟨⟨i + 1, by first | rfl | simp, by omega, hidden (below_drewN hI.out nq)⟩, ?_⟩
      show N - ((i : Int) + 1).toNat < N - (i : Int).toNat
      omega
    · obtain rfl : i = N := by omega
      go_wp2_with fail
      go_ret
      exact ⟨rfl, hI.out⟩

end Go.Proofs.YtalmpmhnkilalaaGreatDoor

/-
  WireBack: are two lists of series, of rows, one?
-/
namespace Go.Proofs.YtalmpmhnkilalaaGreatDoor
open Go Go.RowKit
set_option linter.unusedVariables false
set_option linter.unusedSimpArgs false

theorem ss_es {w : World} {ad : Option Addr} {l : List Sm} (h : Ss w ad l) : Es w ad 2 (l.map encS) := by
  intro h0
  have h1 : l ≠ [] := fun e => h0 (by rw [e]; rfl)
  obtain ⟨b, off, e, hlt, hc⟩ := h.at' h1
  refine ⟨b, off, e, hlt, fun i x hx j v hv => ?_⟩
  rw [List.getElem?_map] at hx
  cases hxi : l[i]? with
  | none => rw [hxi] at hx; cases hx
  | some y =>
    rw [hxi] at hx
    simp at hx
    subst hx
    have hk := hc i y hxi
    match j, hv with
    | 0, hv => simp [encS] at hv; subst hv; exact hk.1
    | 1, hv => simp [encS] at hv; subst hv; exact hk.2
    | j + 2, hv => simp [encS] at hv
theorem map_at {α β : Type} {pr : α → β} {xs ys : List α} (h : xs.map pr = ys.map pr) {i : Nat} {x : α} (hx : xs[i]? = some x) : ∃ y, ys[i]? = some y ∧ pr y = pr x := by
  have h2 := congrArg (fun l => l[i]?) h
  simp only [List.getElem?_map, hx, Option.map_some] at h2
  cases hy : ys[i]? with
  | none => rw [hy] at h2; cases h2
  | some y => rw [hy] at h2; simp at h2; exact ⟨y, rfl, h2.symm⟩

set_option maxHeartbeats 2000000 in
set_option maxRecDepth 8000 in
theorem sameSeriesY (a1 a2 : Option Addr) (N c1 c2 : Nat) (xs ys : List Ser) (w : World) (h1 : Es w a1 2 (xs.map Ser.cells)) (h2 : Es w a2 2 (ys.map Ser.cells)) (m1 : ∀ x ∈ xs, SerN w x) (m2 : ∀ x ∈ ys, SerN w x) (he : xs.map prS = ys.map prS) (hN : xs.length = N) (hN9 : N ≤ 9223372036854775807) :
    Calls Tryz.prog 32 #[.slice a1 N c1, .slice a2 N c2] w (YesP w) := by
  have H1 := hidden h1
  have H2 := hidden h2
  have HN := hidden hN
  have M1 := hidden m1
  have M2 := hidden m2
  have HE := hidden he
  clear h1 h2 hN m1 m2 he
  go_enter Tryz.func32, Tryz.ntmps32
  go_wp2_with fail
  go_loopw [5, 6, 7] (fun v5 v6 v7 wx => ∃ i : Nat, v5 = .int .i64 (i : Int) ∧ i ≤ N ∧ Hid (Below w.heap.size w wx)) (fun v5 _ _ _ => N - (intOf v5).toNat)
  case atStart => exact ⟨0, rfl, by omega, hidden (Below.refl _ _)⟩
  case round =>
    obtain ⟨i, rfl, hi, hI⟩ := hrel
    by_cases hin : i < N
    · obtain ⟨x, hx⟩ : ∃ x, xs[i]? = some x := ⟨xs[i]'(by have := HN.out; omega), by simp⟩
      obtain ⟨y, hy, hxy⟩ := map_at HE.out hx
      have hxm : (xs.map Ser.cells)[i]? = some [.slice x.la x.ln x.lc, .slice x.sa x.sn x.sc] := by rw [List.getElem?_map, hx]; rfl
      have hym : (ys.map Ser.cells)[i]? = some [.slice y.la y.ln y.lc, .slice y.sa y.sn y.sc] := by rw [List.getElem?_map, hy]; rfl
      obtain ⟨b1, o1, rfl, hb1, hcell1⟩ := (H1.out.later hI.out) (by intro h0; rw [h0] at hxm; simp at hxm)
      obtain ⟨b2, o2, rfl, hb2, hcell2⟩ := (H2.out.later hI.out) (by intro h0; rw [h0] at hym; simp at hym)
      have hin' : (i : Int) < (N : Int) := by omega
      have hmx := (M1.out x (List.mem_of_getElem? hx)).later hI.out
      have hmy := (M2.out y (List.mem_of_getElem? hy)).later hI.out
      have hL : x.L = y.L := (congrArg Prod.fst hxy).symm
      have hS : x.S = y.S := (congrArg Prod.snd hxy).symm
      have hln : y.ln = x.ln := by rw [← hmy.2.1, ← hmx.2.1, hL]
      have hsn : y.sn = x.sn := by rw [← hmy.2.2.2.2.1, ← hmx.2.2.2.2.1, hS]
      have HCL : Hid (∀ wx, Below wr.heap.size wr wx → Calls Tryz.prog 65 #[.slice x.la x.ln x.lc, .slice y.la x.ln y.lc] wx (YesP wx)) := hidden (fun wx hb => sameLabelsY x.la y.la x.ln x.lc y.lc x.L wx ((hmx.later hb).1) (by rw [hL]; exact (hmy.later hb).1) hmx.2.1 hmx.2.2.1)
      have HCS : Hid (∀ wx, Below wr.heap.size wr wx → Calls Tryz.prog 66 #[.slice x.sa x.sn x.sc, .slice y.sa x.sn y.sc] wx (YesP wx)) := hidden (fun wx hb => sameSamplesY x.sa y.sa x.sn x.sc y.sc x.S wx (ss_es (hmx.later hb).2.2.2.1) (by rw [hS]; exact ss_es (hmy.later hb).2.2.2.1) hmx.2.2.2.2.1 (by have := hmx.2.2.2.2.2; omega))
      have HCEL : Hid (∀ wx, Below wr.heap.size wr wx → wx.cell? ⟨b1, o1 + i * 2, none⟩ = some (.slice x.la x.ln x.lc) ∧ wx.cell? ⟨b1, o1 + i * 2 + 1, none⟩ = some (.slice x.sa x.sn x.sc) ∧ wx.cell? ⟨b2, o2 + i * 2, none⟩ = some (.slice y.la x.ln y.lc) ∧ wx.cell? ⟨b2, o2 + i * 2 + 1, none⟩ = some (.slice y.sa x.sn y.sc)) := hidden (fun wx hb => by
        have e0 := hcell1 i _ hxm 0 _ rfl
        have e1 := hcell1 i _ hxm 1 _ rfl
        have e2 := hcell2 i _ hym 0 _ rfl
        have e3 := hcell2 i _ hym 1 _ rfl
        rw [hln] at e2
        rw [hsn] at e3
        rw [Nat.add_zero] at e0 e2
        exact ⟨lat_cell hb e0, lat_cell hb e1, lat_cell hb e2, lat_cell hb e3⟩)
      generalize x.la = xla at *
      generalize x.ln = xln at *
      generalize x.lc = xlc at *
      generalize x.sa = xsa at *
      generalize x.sn = xsn at *
      generalize x.sc = xsc at *
      generalize y.la = yla at *
      generalize y.lc = ylc at *
      generalize y.sa = ysa at *
      generalize y.sc = ysc at *
      clear hcell1 hcell2 hx hy hb1 hb2 hxm hym hmx hmy hL hS hln hsn hxy
      obtain ⟨g0, g1, g2, g3⟩ := HCEL.out wr.drew ((Below.refl _ _).drew)
      obtain ⟨k0, k1, k2, k3⟩ := HCEL.out wr (Below.refl _ _)
      go_wp2_with fail
      go_cut [6] from 13 to 46 (fun s6 wx => s6 = .bool true ∧ Hid (Below wr.heap.size wr wx))
      case first =>
        go_region_with (refine (HCL.out _ (by first | exact Below.refl _ _ | exact (Below.refl _ _).drew)).mono ?_; rintro e w1 ⟨rfl, b1⟩; have HB1 := hidden (((Below.refl _ wr).drew).trans b1); clear b1)
        all_goals
          go_wp2_with fail
          go_meet
          exact ⟨rfl, HB1⟩
      case rest =>
        obtain ⟨rfl, hB1⟩ := hcut
        clear g0 g1 g2 g3 k0 k1 k2 k3
        obtain ⟨g0, g1, g2, g3⟩ := HCEL.out wc.drew (hB1.out.trans (((Below.refl _ _).drew).mono hB1.out.size))
        obtain ⟨k0, k1, k2, k3⟩ := HCEL.out wc hB1.out
        go_wp2_with fail
        go_cut [7] from 13 to 46 (fun s7 wx => s7 = .bool true ∧ Hid (Below wr.heap.size wr wx))
        case first =>
          go_region_with (refine (HCS.out _ (by first | exact hB1.out | exact hB1.out.trans (((Below.refl _ _).drew).mono hB1.out.size))).mono ?_; rintro e w1 ⟨rfl, b1⟩; have HB2 := hidden ((hB1.out.trans (((Below.refl _ wc).drew).mono hB1.out.size)).trans (b1.mono hB1.out.size)); clear b1)
          all_goals
            go_wp2_with fail
            go_meet
            exact ⟨rfl, HB2⟩
        case rest =>
          obtain ⟨rfl, hB2⟩ := hcut
          clear g0 g1 g2 g3 k0 k1 k2 k3
          go_wp2_with fail
          refine ⟨⟨i + 1, by first | rfl | simp, by omega, hidden (hI.out.trans (hB2.out.mono hI.out.size))⟩, ?_⟩
          show N - ((i : Int) + 1).toNat < N - (i : Int).toNat
          omega
    · obtain rfl : i = N := by omega
      go_wp2_with fail
      go_ret
      exact ⟨rfl, hI.out⟩

set_option maxHeartbeats 2000000 in
set_option maxRecDepth 8000 in
theorem sameRowsY (a1 a2 : Option Addr) (N c1 c2 : Nat) (xs ys : List Ror) (w : World) (h1 : Es w a1 2 (xs.map Ror.cells)) (h2 : Es w a2 2 (ys.map Ror.cells)) (m1 : ∀ x ∈ xs, RorM w x) (m2 : ∀ x ∈ ys, RorM w x) (he : xs.map prR = ys.map prR) (hN : xs.length = N) (hN9 : N ≤ 9223372036854775807) :
    Calls Tryz.prog 50 #[.slice a1 N c1, .slice a2 N c2] w (YesP w) := by
  have H1 := hidden h1
  have H2 := hidden h2
  have HN := hidden hN
  have M1 := hidden m1
  have M2 := hidden m2
  have HE := hidden he
  clear h1 h2 hN m1 m2 he
  go_enter Tryz.func50, Tryz.ntmps50
  go_wp2_with fail
  go_loopw [5, 6] (fun v5 v6 wx => ∃ i : Nat, v5 = .int .i64 (i : Int) ∧ i ≤ N ∧ Hid (Below w.heap.size w wx)) (fun v5 _ _ => N - (intOf v5).toNat)
  case atStart => exact ⟨0, rfl, by omega, hidden (Below.refl _ _)⟩
  case round =>
    obtain ⟨i, rfl, hi, hI⟩ := hrel
    by_cases hin : i < N
    · obtain ⟨x, hx⟩ : ∃ x, xs[i]? = some x := ⟨xs[i]'(by have := HN.out; omega), by simp⟩
      obtain ⟨y, hy, hxy⟩ := map_at HE.out hx
      have hxm : (xs.map Ror.cells)[i]? = some [.slice x.la x.ln x.lc, .int .u64 (x.n : Int)] := by rw [List.getElem?_map, hx]; rfl
      have hym : (ys.map Ror.cells)[i]? = some [.slice y.la y.ln y.lc, .int .u64 (y.n : Int)] := by rw [List.getElem?_map, hy]; rfl
      obtain ⟨b1, o1, rfl, hb1, hcell1⟩ := (H1.out.later hI.out) (by intro h0; rw [h0] at hxm; simp at hxm)
      obtain ⟨b2, o2, rfl, hb2, hcell2⟩ := (H2.out.later hI.out) (by intro h0; rw [h0] at hym; simp at hym)
      have hin' : (i : Int) < (N : Int) := by omega
      have hmx := (M1.out x (List.mem_of_getElem? hx)).later hI.out
      have hmy := (M2.out y (List.mem_of_getElem? hy)).later hI.out
      have hL : x.L = y.L := (congrArg Prod.fst hxy).symm
      have hn : y.n = x.n := congrArg Prod.snd hxy
      have hln : y.ln = x.ln := by rw [← hmy.2.1, ← hmx.2.1, hL]
      have HCL : Hid (∀ wx, Below wr.heap.size wr wx → Calls Tryz.prog 65 #[.slice x.la x.ln x.lc, .slice y.la x.ln y.lc] wx (YesP wx)) := hidden (fun wx hb => sameLabelsY x.la y.la x.ln x.lc y.lc x.L wx ((hmx.later hb).1) (by rw [hL]; exact (hmy.later hb).1) hmx.2.1 hmx.2.2.1)
      have HCEL : Hid (∀ wx, Below wr.heap.size wr wx → wx.cell? ⟨b1, o1 + i * 2, none⟩ = some (.slice x.la x.ln x.lc) ∧ wx.cell? ⟨b1, o1 + i * 2 + 1, none⟩ = some (.int .u64 (x.n : Int)) ∧ wx.cell? ⟨b2, o2 + i * 2, none⟩ = some (.slice y.la x.ln y.lc) ∧ wx.cell? ⟨b2, o2 + i * 2 + 1, none⟩ = some (.int .u64 (x.n : Int))) := hidden (fun wx hb => by
        have e0 := hcell1 i _ hxm 0 _ rfl
        have e1 := hcell1 i _ hxm 1 _ rfl
        have e2 := hcell2 i _ hym 0 _ rfl
        have e3 := hcell2 i _ hym 1 _ rfl
        rw [hln] at e2
        rw [hn] at e3
        rw [Nat.add_zero] at e0 e2
        exact ⟨lat_cell hb e0, lat_cell hb e1, lat_cell hb e2, lat_cell hb e3⟩)
      generalize x.la = xla at *
      generalize x.ln = xln at *
      generalize x.lc = xlc at *
      generalize x.n = xn at *
      generalize y.la = yla at *
      generalize y.lc = ylc at *
      clear hcell1 hcell2 hx hy hb1 hb2 hxm hym hmx hmy hL hn hln hxy
      obtain ⟨g0, g1, g2, g3⟩ := HCEL.out wr.drew ((Below.refl _ _).drew)
      obtain ⟨k0, k1, k2, k3⟩ := HCEL.out wr (Below.refl _ _)
      go_wp2_with fail
      go_cut [6] from 12 to 43 (fun s6 wx => s6 = .bool true ∧ Hid (Below wr.heap.size wr wx))
      case first =>
        go_region_with (refine (HCL.out _ (by first | exact Below.refl _ _ | exact (Below.refl _ _).drew)).mono ?_; rintro e w1 ⟨rfl, b1⟩; have HB1 := hidden (((Below.refl _ wr).drew).trans b1); clear b1)
        all_goals
          go_wp2_with fail
          go_meet
          exact ⟨rfl, HB1⟩
      case rest =>
        obtain ⟨rfl, hB1⟩ := hcut
        clear g0 g1 g2 g3 k0 k1 k2 k3
        obtain ⟨k0, k1, k2, k3⟩ := HCEL.out wc hB1.out
        go_wp2_with fail
        go_quiet (fail)
        go_wp2_with fail
        refine ⟨⟨i + 1, by first | rfl | simp, by omega, hidden (below_drewN (hI.out.trans (hB1.out.mono hI.out.size)) nq)⟩, ?_⟩
        show N - ((i : Int) + 1).toNat < N - (i : Int).toNat
        omega
    · obtain rfl : i = N := by omega
      go_wp2_with fail
      go_ret
      exact ⟨rfl, hI.out⟩

end Go.Proofs.YtalmpmhnkilalaaGreatDoor

/-
  WireBack: are two requests, two responses one? heavy. By genbkc19.py.
-/
namespace Go.Proofs.YtalmpmhnkilalaaGreatDoor
open Go Go.RowKit
set_option linter.unusedVariables false
set_option linter.unusedSimpArgs false

theorem tx_pair {m1 m2 : FM} (hk : m1.fv.kd = .tx) (h : m1.fv = m2.fv) : ∃ d, m1 = .tx d ∧ m2 = .tx d := by
  cases m1 <;> first | (cases hk; done) | (cases m2 <;> first | (cases h; done) | (injection h with h; subst h; exact ⟨_, rfl, rfl⟩))
theorem qu_pair {m1 m2 : FM} (hk : m1.fv.kd = .qu) (h : m1.fv = m2.fv) : ∃ d, m1 = .qu d ∧ m2 = .qu d := by
  cases m1 <;> first | (cases hk; done) | (cases m2 <;> first | (cases h; done) | (injection h with h; subst h; exact ⟨_, rfl, rfl⟩))
theorem tm_pair {m1 m2 : FM} (hk : m1.fv.kd = .tm) (h : m1.fv = m2.fv) : ∃ d, m1 = .tm d ∧ m2 = .tm d := by
  cases m1 <;> first | (cases hk; done) | (cases m2 <;> first | (cases h; done) | (injection h with h; subst h; exact ⟨_, rfl, rfl⟩))
theorem am_pair {m1 m2 : FM} (hk : m1.fv.kd = .am) (h : m1.fv = m2.fv) : ∃ d, m1 = .am d ∧ m2 = .am d := by
  cases m1 <;> first | (cases hk; done) | (cases m2 <;> first | (cases h; done) | (injection h with h; subst h; exact ⟨_, rfl, rfl⟩))
theorem nu_pair {m1 m2 : FM} (hk : m1.fv.kd = .nu) (h : m1.fv = m2.fv) : ∃ d, m1 = .nu d ∧ m2 = .nu d := by
  cases m1 <;> first | (cases hk; done) | (cases m2 <;> first | (cases h; done) | (injection h with h; subst h; exact ⟨_, rfl, rfl⟩))
theorem tk_pair {m1 m2 : FM} (hk : m1.fv.kd = .tk) (h : m1.fv = m2.fv) : ∃ a n c a' n' c' l, m1 = .tk a n c l ∧ m2 = .tk a' n' c' l := by
  cases m1 <;> first | (cases hk; done) | (cases m2 <;> first | (cases h; done) | (injection h with h; subst h; exact ⟨_, _, _, _, _, _, _, rfl, rfl⟩))
theorem ms_pair {m1 m2 : FM} (hk : m1.fv.kd = .ms) (h : m1.fv = m2.fv) : ∃ a c a' c' l, m1 = .ms a c l ∧ m2 = .ms a' c' l := by
  cases m1 <;> first | (cases hk; done) | (cases m2 <;> first | (cases h; done) | (injection h with h; subst h; exact ⟨_, _, _, _, _, rfl, rfl⟩))
theorem ts_pair {m1 m2 : FM} (hk : m1.fv.kd = .ts) (h : m1.fv = m2.fv) : ∃ a c a' c' l, m1 = .ts a c l ∧ m2 = .ts a' c' l := by
  cases m1 <;> first | (cases hk; done) | (cases m2 <;> first | (cases h; done) | (injection h with h; subst h; exact ⟨_, _, _, _, _, rfl, rfl⟩))
theorem ws_pair {m1 m2 : FM} (hk : m1.fv.kd = .ws) (h : m1.fv = m2.fv) : ∃ a c xs a' c' ys, m1 = .ws a c xs ∧ m2 = .ws a' c' ys ∧ xs.map prS = ys.map prS := by
  cases m1 <;> first | (cases hk; done) | (cases m2 <;> first | (cases h; done) | (injection h with h; exact ⟨_, _, _, _, _, _, rfl, rfl, h⟩))
theorem se_pair {m1 m2 : FM} (hk : m1.fv.kd = .se) (h : m1.fv = m2.fv) : ∃ a c xs a' c' ys, m1 = .se a c xs ∧ m2 = .se a' c' ys ∧ xs.map prS = ys.map prS := by
  cases m1 <;> first | (cases hk; done) | (cases m2 <;> first | (cases h; done) | (injection h with h; exact ⟨_, _, _, _, _, _, rfl, rfl, h⟩))
theorem ro_pair {m1 m2 : FM} (hk : m1.fv.kd = .ro) (h : m1.fv = m2.fv) : ∃ a c xs a' c' ys, m1 = .ro a c xs ∧ m2 = .ro a' c' ys ∧ xs.map prR = ys.map prR := by
  cases m1 <;> first | (cases hk; done) | (cases m2 <;> first | (cases h; done) | (injection h with h; exact ⟨_, _, _, _, _, _, rfl, rfl, h⟩))

set_option maxHeartbeats 8000000 in
set_option maxRecDepth 100000 in
theorem sameReqY (k : Int) (fm1 fm2 : Nat → FM) (w : World) (hk : ∀ i, i < 12 → (fm1 i).fv.kd = kdQ i) (hf : ∀ i, i < 12 → (fm1 i).fv = (fm2 i).fv) (hm1 : ∀ i, i < 12 → (fm1 i).mem w) (hm2 : ∀ i, i < 12 → (fm2 i).mem w) :
    Calls Tryz.prog 17 #[.agg (cQ k fm1).toArray, .agg (cQ k fm2).toArray] w (YesP w) := by
  obtain ⟨t0, e0, f0⟩ := tx_pair (hk 0 (by omega)) (hf 0 (by omega))
  have g0 := hm1 0 (by omega)
  have h0 := hm2 0 (by omega)
  rw [e0] at g0
  rw [f0] at h0
  obtain ⟨a1, n1, c1, b1, p1, d1, l1, e1, f1⟩ := tk_pair (hk 1 (by omega)) (hf 1 (by omega))
  have g1 := hm1 1 (by omega)
  have h1 := hm2 1 (by omega)
  rw [e1] at g1
  rw [f1] at h1
  obtain ⟨a2, c2, l2, b2, d2, y2, e2, f2, q2⟩ := ws_pair (hk 2 (by omega)) (hf 2 (by omega))
  have g2 := hm1 2 (by omega)
  have h2 := hm2 2 (by omega)
  rw [e2] at g2
  rw [f2] at h2
  obtain ⟨a3, c3, b3, d3, l3, e3, f3⟩ := ms_pair (hk 3 (by omega)) (hf 3 (by omega))
  have g3 := hm1 3 (by omega)
  have h3 := hm2 3 (by omega)
  rw [e3] at g3
  rw [f3] at h3
  obtain ⟨m4, e4, f4⟩ := tm_pair (hk 4 (by omega)) (hf 4 (by omega))
  have g4 := hm1 4 (by omega)
  have h4 := hm2 4 (by omega)
  rw [e4] at g4
  rw [f4] at h4
  obtain ⟨m5, e5, f5⟩ := tm_pair (hk 5 (by omega)) (hf 5 (by omega))
  have g5 := hm1 5 (by omega)
  have h5 := hm2 5 (by omega)
  rw [e5] at g5
  rw [f5] at h5
  obtain ⟨t6, e6, f6⟩ := qu_pair (hk 6 (by omega)) (hf 6 (by omega))
  have g6 := hm1 6 (by omega)
  have h6 := hm2 6 (by omega)
  rw [e6] at g6
  rw [f6] at h6
  obtain ⟨t7, e7, f7⟩ := tx_pair (hk 7 (by omega)) (hf 7 (by omega))
  have g7 := hm1 7 (by omega)
  have h7 := hm2 7 (by omega)
  rw [e7] at g7
  rw [f7] at h7
  obtain ⟨m8, e8, f8⟩ := am_pair (hk 8 (by omega)) (hf 8 (by omega))
  have g8 := hm1 8 (by omega)
  have h8 := hm2 8 (by omega)
  rw [e8] at g8
  rw [f8] at h8
  obtain ⟨m9, e9, f9⟩ := am_pair (hk 9 (by omega)) (hf 9 (by omega))
  have g9 := hm1 9 (by omega)
  have h9 := hm2 9 (by omega)
  rw [e9] at g9
  rw [f9] at h9
  obtain ⟨m10, e10, f10⟩ := am_pair (hk 10 (by omega)) (hf 10 (by omega))
  have g10 := hm1 10 (by omega)
  have h10 := hm2 10 (by omega)
  rw [e10] at g10
  rw [f10] at h10
  obtain ⟨a11, n11, c11, b11, p11, d11, l11, e11, f11⟩ := tk_pair (hk 11 (by omega)) (hf 11 (by omega))
  have g11 := hm1 11 (by omega)
  have h11 := hm2 11 (by omega)
  rw [e11] at g11
  rw [f11] at h11
  obtain ⟨w2, hw2, B1, B2, bl, hz⟩ := two_new w 26 26 (cQ k fm1) (cQ k fm2)
  have u0 : w2.cell? ⟨w.heap.size, 0, none⟩ = some (.int .i64 k) := B1.cell 0
  have v0 : w2.cell? ⟨w.heap.size + 1, 0, none⟩ = some (.int .i64 k) := B2.cell 0
  have u1 : w2.cell? ⟨w.heap.size, 1, none⟩ = some (fm1 0).val := by rw [B1.cell]; exact cQ_at k fm1 0 (by omega)
  have v1 : w2.cell? ⟨w.heap.size + 1, 1, none⟩ = some (fm2 0).val := by rw [B2.cell]; exact cQ_at k fm2 0 (by omega)
  rw [e0] at u1
  rw [f0] at v1
  simp only [FM.val] at u1 v1
  have u2 : w2.cell? ⟨w.heap.size, 2, none⟩ = some (fm1 1).val := by rw [B1.cell]; exact cQ_at k fm1 1 (by omega)
  have v2 : w2.cell? ⟨w.heap.size + 1, 2, none⟩ = some (fm2 1).val := by rw [B2.cell]; exact cQ_at k fm2 1 (by omega)
  rw [e1] at u2
  rw [f1] at v2
  simp only [FM.val] at u2 v2
  have u3 : w2.cell? ⟨w.heap.size, 3, none⟩ = some (fm1 2).val := by rw [B1.cell]; exact cQ_at k fm1 2 (by omega)
  have v3 : w2.cell? ⟨w.heap.size + 1, 3, none⟩ = some (fm2 2).val := by rw [B2.cell]; exact cQ_at k fm2 2 (by omega)
  rw [e2] at u3
  rw [f2] at v3
  simp only [FM.val] at u3 v3
  have u4 : w2.cell? ⟨w.heap.size, 4, none⟩ = some (fm1 3).val := by rw [B1.cell]; exact cQ_at k fm1 3 (by omega)
  have v4 : w2.cell? ⟨w.heap.size + 1, 4, none⟩ = some (fm2 3).val := by rw [B2.cell]; exact cQ_at k fm2 3 (by omega)
  rw [e3] at u4
  rw [f3] at v4
  simp only [FM.val] at u4 v4
  have u5 : w2.cell? ⟨w.heap.size, 5, none⟩ = some (fm1 4).val := by rw [B1.cell]; exact cQ_at k fm1 4 (by omega)
  have v5 : w2.cell? ⟨w.heap.size + 1, 5, none⟩ = some (fm2 4).val := by rw [B2.cell]; exact cQ_at k fm2 4 (by omega)
  rw [e4] at u5
  rw [f4] at v5
  simp only [FM.val] at u5 v5
  have u6 : w2.cell? ⟨w.heap.size, 6, none⟩ = some (fm1 5).val := by rw [B1.cell]; exact cQ_at k fm1 5 (by omega)
  have v6 : w2.cell? ⟨w.heap.size + 1, 6, none⟩ = some (fm2 5).val := by rw [B2.cell]; exact cQ_at k fm2 5 (by omega)
  rw [e5] at u6
  rw [f5] at v6
  simp only [FM.val] at u6 v6
  have u7 : w2.cell? ⟨w.heap.size, 7, none⟩ = some (fm1 6).val := by rw [B1.cell]; exact cQ_at k fm1 6 (by omega)
  have v7 : w2.cell? ⟨w.heap.size + 1, 7, none⟩ = some (fm2 6).val := by rw [B2.cell]; exact cQ_at k fm2 6 (by omega)
  rw [e6] at u7
  rw [f6] at v7
  simp only [FM.val] at u7 v7
  have u8 : w2.cell? ⟨w.heap.size, 8, none⟩ = some (fm1 7).val := by rw [B1.cell]; exact cQ_at k fm1 7 (by omega)
  have v8 : w2.cell? ⟨w.heap.size + 1, 8, none⟩ = some (fm2 7).val := by rw [B2.cell]; exact cQ_at k fm2 7 (by omega)
  rw [e7] at u8
  rw [f7] at v8
  simp only [FM.val] at u8 v8
  have u9 : w2.cell? ⟨w.heap.size, 9, none⟩ = some (fm1 8).val := by rw [B1.cell]; exact cQ_at k fm1 8 (by omega)
  have v9 : w2.cell? ⟨w.heap.size + 1, 9, none⟩ = some (fm2 8).val := by rw [B2.cell]; exact cQ_at k fm2 8 (by omega)
  rw [e8] at u9
  rw [f8] at v9
  simp only [FM.val] at u9 v9
  have u10 : w2.cell? ⟨w.heap.size, 10, none⟩ = some (fm1 9).val := by rw [B1.cell]; exact cQ_at k fm1 9 (by omega)
  have v10 : w2.cell? ⟨w.heap.size + 1, 10, none⟩ = some (fm2 9).val := by rw [B2.cell]; exact cQ_at k fm2 9 (by omega)
  rw [e9] at u10
  rw [f9] at v10
  simp only [FM.val] at u10 v10
  have u11 : w2.cell? ⟨w.heap.size, 11, none⟩ = some (fm1 10).val := by rw [B1.cell]; exact cQ_at k fm1 10 (by omega)
  have v11 : w2.cell? ⟨w.heap.size + 1, 11, none⟩ = some (fm2 10).val := by rw [B2.cell]; exact cQ_at k fm2 10 (by omega)
  rw [e10] at u11
  rw [f10] at v11
  simp only [FM.val] at u11 v11
  have u12 : w2.cell? ⟨w.heap.size, 12, none⟩ = some (fm1 11).val := by rw [B1.cell]; exact cQ_at k fm1 11 (by omega)
  have v12 : w2.cell? ⟨w.heap.size + 1, 12, none⟩ = some (fm2 11).val := by rw [B2.cell]; exact cQ_at k fm2 11 (by omega)
  rw [e11] at u12
  rw [f11] at v12
  simp only [FM.val] at u12 v12
  have s1 := run_string_of (P := Tryz.prog) 22 5 9 Tryz.underlying22 Tryz.underlying5 Tryz.underlying9 (cap := c1) ((Chg.of_below (F := fun _ => False) bl).sl g1.1 (fun _ _ _ e => e))
  have z1 := run_string_of (P := Tryz.prog) 22 5 9 Tryz.underlying22 Tryz.underlying5 Tryz.underlying9 (cap := d1) ((Chg.of_below (F := fun _ => False) bl).sl h1.1 (fun _ _ _ e => e))
  have hlen2 : y2.length = l2.length := by have := congrArg List.length q2; simpa using this.symm
  rw [hlen2] at v3
  have HC2 : Hid (∀ wx, Below w.heap.size w wx → Calls Tryz.prog 32 #[.slice a2 l2.length c2, .slice b2 l2.length d2] wx (YesP wx)) := hidden (fun wx hb => sameSeriesY a2 b2 _ c2 d2 l2 y2 wx (g2.2.1.later hb) (h2.2.1.later hb) (fun x hx => (g2.2.2 x hx).later hb) (fun x hx => (h2.2.2 x hx).later hb) q2 rfl g2.1)
  have HC3 : Hid (∀ wx, Below w.heap.size w wx → Calls Tryz.prog 39 #[.slice a3 l3.length c3, .slice b3 l3.length d3] wx (YesP wx)) := hidden (fun wx hb => sameMatchersY a3 b3 _ c3 d3 l3 wx (g3.2.1.later hb) (h3.2.1.later hb) rfl g3.1)
  have s11 := run_string_of (P := Tryz.prog) 22 5 9 Tryz.underlying22 Tryz.underlying5 Tryz.underlying9 (cap := c11) ((Chg.of_below (F := fun _ => False) bl).sl g11.1 (fun _ _ _ e => e))
  have z11 := run_string_of (P := Tryz.prog) 22 5 9 Tryz.underlying22 Tryz.underlying5 Tryz.underlying9 (cap := d11) ((Chg.of_below (F := fun _ => False) bl).sl h11.1 (fun _ _ _ e => e))
  obtain ⟨N2, hN2⟩ : ∃ N, l2.length = N := ⟨_, rfl⟩
  rw [hN2] at HC2 u3 v3
  obtain ⟨N3, hN3⟩ : ∃ N, l3.length = N := ⟨_, rfl⟩
  rw [hN3] at HC3 u4 v4
  have HBL := hidden bl
  have HALL := hidden (And.intro u0 (And.intro u1 (And.intro u2 (And.intro u3 (And.intro u4 (And.intro u5 (And.intro u6 (And.intro u7 (And.intro u8 (And.intro u9 (And.intro u10 (And.intro u11 (And.intro u12 (And.intro v0 (And.intro v1 (And.intro v2 (And.intro v3 (And.intro v4 (And.intro v5 (And.intro v6 (And.intro v7 (And.intro v8 (And.intro v9 (And.intro v10 (And.intro v11 (v12))))))))))))))))))))))))))
  have HSL1 := hidden (And.intro ((Chg.of_below (F := fun _ => False) bl).sl g1.1 (fun _ _ _ e => e)) ((Chg.of_below (F := fun _ => False) bl).sl h1.1 (fun _ _ _ e => e)))
  have HSL11 := hidden (And.intro ((Chg.of_below (F := fun _ => False) bl).sl g11.1 (fun _ _ _ e => e)) ((Chg.of_below (F := fun _ => False) bl).sl h11.1 (fun _ _ _ e => e)))
  clear g0 h0 e0 f0 g1 h1 e1 f1 g2 h2 e2 f2 g3 h3 e3 f3 g4 h4 e4 f4 g5 h5 e5 f5 g6 h6 e6 f6 g7 h7 e7 f7 g8 h8 e8 f8 g9 h9 e9 f9 g10 h10 e10 f10 g11 h11 e11 f11 B1 B2 hk hf hm1 hm2 hlen2 hN2 hN3 s1 z1 s11 z11 u0 u1 u2 u3 u4 u5 u6 u7 u8 u9 u10 u11 u12 v0 v1 v2 v3 v4 v5 v6 v7 v8 v9 v10 v11 v12
  obtain ⟨u0, u1, u2, u3, u4, u5, u6, u7, u8, u9, u10, u11, u12, v0, v1, v2, v3, v4, v5, v6, v7, v8, v9, v10, v11, v12⟩ := HALL.out
  go_enter Tryz.func17, Tryz.ntmps17
  go_wp2_with fail
  try rw [hw2]
  refine (HC2.out _ HBL.out).mono ?_
  rintro en x0 ⟨rfl, bb0⟩
  have BB0 : Hid (Below w.heap.size w x0) := hidden (HBL.out.trans (bb0.mono HBL.out.size))
  have BX0 : Hid (Below w2.heap.size w2 x0) := hidden (bb0)
  clear u0 u1 u2 u3 u4 u5 u6 u7 u8 u9 u10 u11 u12 v0 v1 v2 v3 v4 v5 v6 v7 v8 v9 v10 v11 v12 bb0
  obtain ⟨u0, u1, u2, u3, u4, u5, u6, u7, u8, u9, u10, u11, u12, v0, v1, v2, v3, v4, v5, v6, v7, v8, v9, v10, v11, v12⟩ := HALL.out
  replace u0 := lat_cell BX0.out u0
  replace u1 := lat_cell BX0.out u1
  replace u2 := lat_cell BX0.out u2
  replace u3 := lat_cell BX0.out u3
  replace u4 := lat_cell BX0.out u4
  replace u5 := lat_cell BX0.out u5
  replace u6 := lat_cell BX0.out u6
  replace u7 := lat_cell BX0.out u7
  replace u8 := lat_cell BX0.out u8
  replace u9 := lat_cell BX0.out u9
  replace u10 := lat_cell BX0.out u10
  replace u11 := lat_cell BX0.out u11
  replace u12 := lat_cell BX0.out u12
  replace v0 := lat_cell BX0.out v0
  replace v1 := lat_cell BX0.out v1
  replace v2 := lat_cell BX0.out v2
  replace v3 := lat_cell BX0.out v3
  replace v4 := lat_cell BX0.out v4
  replace v5 := lat_cell BX0.out v5
  replace v6 := lat_cell BX0.out v6
  replace v7 := lat_cell BX0.out v7
  replace v8 := lat_cell BX0.out v8
  replace v9 := lat_cell BX0.out v9
  replace v10 := lat_cell BX0.out v10
  replace v11 := lat_cell BX0.out v11
  replace v12 := lat_cell BX0.out v12
  go_wp2_with fail
  refine (HC3.out _ BB0.out).mono ?_
  rintro en x1 ⟨rfl, bb1⟩
  have BB1 : Hid (Below w.heap.size w x1) := hidden (BB0.out.trans (bb1.mono BB0.out.size))
  have BX1 : Hid (Below w2.heap.size w2 x1) := hidden (BX0.out.trans (bb1.mono BX0.out.size))
  clear u0 u1 u2 u3 u4 u5 u6 u7 u8 u9 u10 u11 u12 v0 v1 v2 v3 v4 v5 v6 v7 v8 v9 v10 v11 v12 bb1
  obtain ⟨u0, u1, u2, u3, u4, u5, u6, u7, u8, u9, u10, u11, u12, v0, v1, v2, v3, v4, v5, v6, v7, v8, v9, v10, v11, v12⟩ := HALL.out
  replace u0 := lat_cell BX1.out u0
  replace u1 := lat_cell BX1.out u1
  replace u2 := lat_cell BX1.out u2
  replace u3 := lat_cell BX1.out u3
  replace u4 := lat_cell BX1.out u4
  replace u5 := lat_cell BX1.out u5
  replace u6 := lat_cell BX1.out u6
  replace u7 := lat_cell BX1.out u7
  replace u8 := lat_cell BX1.out u8
  replace u9 := lat_cell BX1.out u9
  replace u10 := lat_cell BX1.out u10
  replace u11 := lat_cell BX1.out u11
  replace u12 := lat_cell BX1.out u12
  replace v0 := lat_cell BX1.out v0
  replace v1 := lat_cell BX1.out v1
  replace v2 := lat_cell BX1.out v2
  replace v3 := lat_cell BX1.out v3
  replace v4 := lat_cell BX1.out v4
  replace v5 := lat_cell BX1.out v5
  replace v6 := lat_cell BX1.out v6
  replace v7 := lat_cell BX1.out v7
  replace v8 := lat_cell BX1.out v8
  replace v9 := lat_cell BX1.out v9
  replace v10 := lat_cell BX1.out v10
  replace v11 := lat_cell BX1.out v11
  replace v12 := lat_cell BX1.out v12
  have s1 := run_string_of (P := Tryz.prog) 22 5 9 Tryz.underlying22 Tryz.underlying5 Tryz.underlying9 (cap := c1) ((Chg.of_below (F := fun _ => False) BX1.out).sl HSL1.out.1 (fun _ _ _ e => e))
  have z1 := run_string_of (P := Tryz.prog) 22 5 9 Tryz.underlying22 Tryz.underlying5 Tryz.underlying9 (cap := d1) ((Chg.of_below (F := fun _ => False) BX1.out).sl HSL1.out.2 (fun _ _ _ e => e))
  have s11 := run_string_of (P := Tryz.prog) 22 5 9 Tryz.underlying22 Tryz.underlying5 Tryz.underlying9 (cap := c11) ((Chg.of_below (F := fun _ => False) BX1.out).sl HSL11.out.1 (fun _ _ _ e => e))
  have z11 := run_string_of (P := Tryz.prog) 22 5 9 Tryz.underlying22 Tryz.underlying5 Tryz.underlying9 (cap := d11) ((Chg.of_below (F := fun _ => False) BX1.out).sl HSL11.out.2 (fun _ _ _ e => e))
  go_wp2_with fail
  go_ret
  exact ⟨by first | rfl | simp, BB1.out⟩

end Go.Proofs.YtalmpmhnkilalaaGreatDoor
