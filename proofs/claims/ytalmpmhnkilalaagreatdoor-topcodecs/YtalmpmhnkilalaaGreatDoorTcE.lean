import Derived.Test.YtalmpmhnkilalaaGreatDoorBkE
import Derived.Test.YtalmpmhnkilalaaGreatDoorTcB
import Derived.Test.YtalmpmhnkilalaaGreatDoorTcA
import Derived.Deep.CutRange
import Derived.Laws.Closers25b
/-
  TopCodecs: speaks.
-/
namespace Go.Proofs.YtalmpmhnkilalaaGreatDoor
open Go Go.RowKit
set_option linter.unusedVariables false
set_option linter.unusedSimpArgs false

theorem fmQ_tail (l : List (Nat × FM)) (hl : ∀ q ∈ l, q.1 < 12) (i : Nat) (hi : 12 ≤ i) : fmQ l i = zM (kdQ i) := by
  unfold fmQ
  split
  · rename_i q hq
    have h1 := List.find?_some hq
    have h2 := hl q (List.mem_of_find?_eq_some hq)
    simp at h1
    omega
  · rfl
theorem spk1 : ansQ 0 3 (fun i => (fmA [(2, .nu 3)] i).fv) = (0, [0, 3, 3]) := by kernel_rfl
theorem spk2 : (decQ []).isNone = true := by kernel_rfl
theorem ne180nil (w : World) : (binOp .neq 36 (.iface 30 (.int .i64 180)) .nilIface).run Tryz.prog w = .ok (.bool true) w := by kernel_rfl
theorem nenilnil (w : World) : (binOp .neq 36 .nilIface .nilIface).run Tryz.prog w = .ok (.bool false) w := by kernel_rfl

set_option maxHeartbeats 16000000 in
set_option maxRecDepth 100000 in
theorem speaksP (w : World) (hG : Gv w) : Calls Tryz.prog 23 #[] w fun e w' => e = .returned (.bool true) ∧ Below w.heap.size w w' := by
  have HG := hidden hG
  have h2w : 2 ≤ w.heap.size := World.block_lt_of_cell? w _ (hG.tab 0 (by omega))
  have kc := constBytes
  clear hG
  obtain ⟨F, hF⟩ : ∃ F, fmQ (q1 ⟨w.heap.size, 0, none⟩ ⟨w.heap.size + 1, 0, none⟩) = F := ⟨_, rfl⟩
  go_enter Tryz.func23, Tryz.ntmps23
  go_wp2_with (first
    | (refine wpList_new_var rfl rfl 26 1 (.tmp 17) rfl rfl rfl rfl 13 (by kernel_rfl) (cQ 4 (fmQ (q1 ⟨w.heap.size, 0, none⟩ ⟨w.heap.size + 1, 0, none⟩))) rfl (cQ_one _ _) (by simp) rfl ?_; intro w3 B3 bl3 hz3
       obtain ⟨wA, hwA⟩ : ∃ wA, (w.alloc (.cells #[.int .u8 107] 5 (1, 2))).alloc (.cells #[.string ⟨#[97]⟩, .int .i64 1, .string ⟨#[120]⟩] 52) = wA := ⟨_, rfl⟩
       rw [hwA] at B3 bl3 hz3
       rw [hwA]
       have hzA : wA.heap.size = w.heap.size + 1 + 1 := by rw [← hwA]; simp
       rw [hzA] at B3
       rw [hzA]
       have blA : Below w.heap.size w wA := by rw [← hwA]; exact ((Below.refl _ _).alloc (Nat.le_refl _) _).alloc (by simp) _
       have HL3 : Hid (Below w.heap.size w w3) := hidden (blA.trans (bl3.mono blA.size))
       have HR3 : Hid (RqM w3 4 F) := hidden (by
         rw [← hF]
         refine ⟨fun i _ => fmQ_kd _ (fun q hq => by simp only [q1, List.mem_cons, List.not_mem_nil, or_false] at hq; rcases hq with rfl | rfl | rfl <;> rfl) i, (fmQ_mem _ _ (fun q hq => ?_) (HG.out.later HL3.out) 12).1, ⟨by omega, by omega⟩, fun i hi => fmQ_tail _ (fun q hq => by simp only [q1, List.mem_cons, List.not_mem_nil, or_false] at hq; rcases hq with rfl | rfl | rfl <;> simp) i hi⟩
         simp only [q1, List.mem_cons, List.not_mem_nil, or_false] at hq
         rcases hq with rfl | rfl | rfl
         · trivial
         · refine ⟨(Chg.of_below (F := fun _ => False) bl3).sl ?_ (fun _ _ _ e => e), by omega⟩
           rw [← hwA]
           exact (Chg.alloc (fun _ => False) _ _).sl (sl_lit w [107] (byte_of rfl) 5 (1, 2) 1 rfl _ rfl _ rfl) (fun _ _ _ e => e)
         · refine ⟨by simp, ?_, fun x hx => ?_⟩
           · have hb := Blk.new (w.alloc (.cells #[.int .u8 107] 5 (1, 2))) 52 [.string ⟨#[97]⟩, .int .i64 1, .string ⟨#[120]⟩]
             rw [World.size_alloc, hwA] at hb
             exact (es_blk (cells := Ma.cells) (k := 3) (fun _ => rfl) (xs := [⟨⟨#[97]⟩, 1, ⟨#[120]⟩⟩]) hb).later bl3
           · simp at hx
             subst hx
             exact ⟨by show (-9223372036854775808 : Int) ≤ 1; omega, by show (1 : Int) ≤ 9223372036854775807; omega⟩)
       have HE1 : Hid (encE2 4 (fun i => (F i).fv) = (0, [4, 1, 116, 1, 107, 1, 1, 97, 1, 1, 120])) := hidden (by rw [← hF]; exact sho1 _ _)
       rw [hF] at B3
       have HV3 := hidden B3
       clear B3 bl3 hz3 blA hwA)
    | (refine wpList_load_blk rfl 26 (.tmp 1) rfl (w.heap.size + 1 + 1) HV3.out rfl rfl rfl rfl ?_))
  refine (encodeP 4 F w3 HR3.out.kd ⟨HR3.out.mem, HG.out.later HL3.out⟩ HR3.out.k64 (by have := HL3.out.size; omega)).mono ?_
  rw [HE1.out]
  rintro e w4 ⟨ad4, n4, cp4, rfl, o4, hl4, by4, _, b4⟩
  obtain rfl : 11 = n4 := hl4
  have HS4 := hidden (sl_of_owns o4 by4)
  have HNO4 := hidden (owns_cap o4).2.2.2
  have HOK := hidden (encE2_ok HR3.out.sh by4 HE1.out)
  have T4 := hidden b4
  have HL4 := hidden (HL3.out.trans (b4.mono HL3.out.size))
  clear o4 by4 b4
  go_wp2_with fail
  refine (decodeP ad4 11 cp4 _ w4 HS4.out HNO4.out (HG.out.later HL4.out)).mono ?_
  rintro e w5 hD
  unfold DecR at hD
  rw [HOK.out.1] at hD
  obtain ⟨b5, K5, fm5, rfl, _, hfo5⟩ := hD
  have HF5 := hidden hfo5
  have T5 := hidden b5
  have HL5 := hidden (HL4.out.trans (b5.mono HL4.out.size))
  have HQ5 := hidden ((HV3.out.later T4.out).later T5.out)
  clear b5 hfo5
  go_wp2_with (first
    | (refine wpList_new_var rfl rfl 26 4 (.tmp 26) rfl rfl rfl rfl 13 (by kernel_rfl) (cQ 4 fm5) rfl (cQ_one _ _) (by simp) rfl ?_; intro w6 B6 bl6 hz6; have HV6 := hidden B6; have HQ6 := hidden (HQ5.out.later bl6); have T6 := hidden bl6; have HL6 := hidden (HL5.out.trans (bl6.mono HL5.out.size)); clear B6 bl6 hz6)
    | (refine wpList_load_blk rfl 26 (.tmp 4) rfl w5.heap.size HV6.out rfl rfl rfl rfl ?_)
    | (refine wpList_load_blk rfl 26 (.tmp 1) rfl (w.heap.size + 1 + 1) HQ6.out rfl rfl rfl rfl ?_))
  have x36 : Hid (Lat w3 w6) := hidden (Lat.trans _ _ _ T4.out (Lat.trans _ _ _ T5.out T6.out))
  refine (sameReqT 4 fm5 F w6 (fun i hi => by rw [(HF5.out i hi).1]; exact HR3.out.kd i hi) (fun i hi => (HF5.out i hi).1) (fun i hi => ((HF5.out i hi).2.mem).later T6.out) (fun i hi => (HR3.out.mem i hi).later x36.out)).mono ?_
  rintro e w7 ⟨rfl, b7⟩
  have T7 := hidden b7
  have HL7 := hidden (HL6.out.trans (b7.mono HL6.out.size))
  clear b7
  go_wp2_with fail
  have HE8 := hidden (answerP 0 3 (fmA [(2, .nu 3)]) w7 (fun i _ => fmA_kd _ (fun q hq => by simp at hq; subst hq; rfl) i) (fmA_mem _ _ (fun q hq => by simp at hq; subst hq; exact ⟨by omega, by omega⟩) (HG.out.later HL7.out) 4) ⟨by omega, by omega⟩ ⟨by omega, by omega⟩ (by have := HL7.out.size; omega))
  rw [spk1] at HE8
  refine HE8.out.mono ?_
  rintro e w8 ⟨ad8, n8, cp8, rfl, o8, hl8, by8, _, b8⟩
  obtain rfl : 3 = n8 := hl8
  have HS8 := hidden (sl_of_owns o8 by8)
  have hcap8 := owns_cap o8
  have HNO8 := hidden hcap8.2.2.2
  have T8 := hidden b8
  have HL8 := hidden (HL7.out.trans (b8.mono HL7.out.size))
  have HK8 : Hid (∃ K, (∀ x, ad8 = some x → 0 < 3 → x.block = K ∧ x.spot = none) ∧ K < w8.heap.size) := hidden (by
    rcases o8.2 with ⟨e, h0⟩ | ⟨g, cap, cur, e, hg, hh, _⟩
    · exact absurd h0 (by simp)
    · injection e with e1 e2 e3
      subst e1
      exact ⟨g, fun x h _ => (by cases h; exact ⟨rfl, rfl⟩), (Array.getElem?_eq_some_iff.1 hh).1⟩)
  have hc81 : 3 ≤ cp8 := hcap8.2.1
  have hc82 : cp8 ≤ 9223372036854775807 := by have := hcap8.2.2.1; unfold maxLen at this; omega
  clear o8 by8 b8 HE8 hcap8
  obtain ⟨K8, hK81, hK82⟩ := HK8.out
  have HK81 := hidden hK81
  clear hK81
  go_wp2_with fail
  refine (readW ad8 3 cp8 [0, 3, 3] K8 w8 HS8.out HK81.out hK82 HNO8.out ⟨hc81, hc82⟩ (HG.out.later HL8.out)).mono ?_
  rintro e w9 hR
  obtain ⟨f9, hf9, hn9⟩ : ∃ f, readQ [0, 3, 3] = some (0, 3, f) ∧ f 2 = .nu 3 := by
    cases hq : readQ [0, 3, 3] with
    | none => have := sho7; rw [hq] at this; cases this
    | some q =>
      obtain ⟨er, k, f⟩ := q
      have h6 := sho7
      rw [hq] at h6
      simp at h6
      obtain ⟨rfl, rfl, h8⟩ := h6
      have hsh := (ans_readQ (byte_of rfl) hq).1
      have k2 := hsh.kd 2
      refine ⟨f, rfl, ?_⟩
      cases hf : f 2 <;> rw [hf] at k2 h8 <;> first | (cases k2; done) | skip
      rename_i m
      have h8 : m = 3 := h8
      rw [h8]
  unfold ReadR at hR
  rw [hf9] at hR
  obtain ⟨bR, fmr, rfl, hfmr⟩ := hR
  have e9 : fmr 2 = .nu 3 := by
    have h9 := (hfmr 2 (by omega)).1
    rw [hn9] at h9
    cases hm : fmr 2 <;> rw [hm] at h9 <;> first | (cases h9; done) | (injection h9 with h9; subst h9; rfl)
  have HE9 := hidden e9
  have T9 := hidden bR
  have HL9 := hidden (HL8.out.trans (bR.mono HL8.out.size))
  clear hfmr bR hf9 hn9 e9
  go_wp2_with (first
    | (refine wpList_new_var rfl rfl 57 9 (.tmp 39) rfl rfl rfl rfl 6 (by kernel_rfl) (cA 0 3 fmr) rfl (cA_one _ _ _) (by simp) rfl ?_; intro wa Ba bla hza; have HVa := hidden Ba; have Ta := hidden bla; have HLa := hidden (HL9.out.trans (bla.mono HL9.out.size)); clear Ba bla hza))
  refine (decodeP none 0 0 [] wa (Sl.nil _ _) (fun _ => ⟨rfl, rfl⟩) (HG.out.later HLa.out)).mono ?_
  rintro e wb hD
  have hnn : decQ [] = none := by
    have := spk2
    cases hq : decQ [] with
    | none => rfl
    | some q => rw [hq] at this; cases this
  unfold DecR at hD
  rw [hnn] at hD
  obtain ⟨bb, rfl⟩ := hD
  have Tb := hidden bb
  have HLb := hidden (HLa.out.trans (bb.mono HLa.out.size))
  clear bb hnn
  go_wp2_with (first
    | (refine wpList_new_var rfl rfl 26 11 (.tmp 43) rfl rfl rfl rfl 13 (by kernel_rfl) (cQ 0 (fun i => zM (kdQ i))) rfl (cQ_one _ _) (by simp) rfl ?_; intro wc Bc blc hzc
       have HLc := hidden (HLb.out.trans (blc.mono HLb.out.size))
       have xa : Lat wa wc := Lat.trans _ _ _ Tb.out blc
       have x4 : Lat w4 wc := Lat.trans _ _ _ T5.out (Lat.trans _ _ _ T6.out (Lat.trans _ _ _ T7.out (Lat.trans _ _ _ T8.out (Lat.trans _ _ _ T9.out (Lat.trans _ _ _ Ta.out xa)))))
       have s1 := run_string_of (P := Tryz.prog) 22 5 9 Tryz.underlying22 Tryz.underlying5 Tryz.underlying9 (cap := cp4) ((Chg.of_below (F := fun _ => False) x4).sl HS4.out (fun _ _ _ e => e))
       rw [show strOfNums [4, 1, 116, 1, 107, 1, 1, 97, 1, 1, 120] = ⟨#[4, 1, 116, 1, 107, 1, 1, 97, 1, 1, 120]⟩ from rfl] at s1
       have VA := HVa.out.later xa
       have r1 : wc.cell? ⟨w9.heap.size, 1, none⟩ = some (.int .i64 3) := VA.cell 1
       have r4 : wc.cell? ⟨w9.heap.size, 4, none⟩ = some (fmr 2).val := by rw [VA.cell]; exact cA_at 0 3 fmr 2 (by omega)
       rw [HE9.out] at r4
       simp only [FM.val] at r4
       simp only [errW]
       have hq1 := ne180nil wc
       have hq2 := eqnilnil wc
       clear Bc blc hzc VA xa x4))
  go_ret
  exact ⟨by first | rfl | simp, HLc.out⟩

end Go.Proofs.YtalmpmhnkilalaaGreatDoor

/-
  TopCodecs: spoilt.
-/
namespace Go.Proofs.YtalmpmhnkilalaaGreatDoor
open Go Go.RowKit
set_option linter.unusedVariables false
set_option linter.unusedSimpArgs false

theorem wpList_pushT (w : World) {ops : Array Oper} {rest : List Oper} {o : Oper} {a : Act} {Q : Exit → Act → World → Prop} (hgd : o.guard = none) (s x : Operand)
    (ho : o.op = .call { callee := .builtin .append, args := #[s, x], argTypes := #[22, 22] }) (base : Nat) (v : Value) (n : Nat) (xs : List Value) (hs : a.eval s = v) (w0 : World) (hown : w0.ownsRow base 5 1 v n xs) (y : Int)
    (hw : w = w0.alloc (.cells #[.int .u8 y] 5)) (hx : a.eval x = .slice (some ⟨w0.heap.size, 0, none⟩) 1 1) (hn : n ≤ 10000000000) (hbase : base ≤ w0.heap.size)
    (h : ∀ g' c' w', w'.ownsRow base 5 1 (.slice (some ⟨g', 0, none⟩) (n + 1) c') (n + 1) (xs ++ [.int .u8 y]) → Chg (fun i => v.ownBlock = some i) w0 w' → Moved w0 v.ownBlock (some g') → wpList Tryz.prog ops Q rest (a.put o.dst (.slice (some ⟨g', 0, none⟩) (n + 1) c')) w') : wpList Tryz.prog ops Q (o :: rest) a w := by
  subst hw
  obtain ⟨i0, hi0, hz0, hz1, hz2⟩ := info_parts info5
  refine wpList_push _ hgd s x 22 ho 5 i0 (.int .u8 0) 1 Tryz.underlying22 hi0 hz0 hz1 hz2 rfl base v n xs hs (hown.alloc _) ⟨w0.heap.size, 0, none⟩ (.int .u8 y) hx (by simp) rfl (by unfold maxLen; omega) (by omega) (by simp; omega) ?_
  intro g' c' w' h1 h2
  exact h g' c' w' h1 h2.chg.1 h2.chg.2

/-- Some bytes in memory. -/
def BtA (w : World) (v : Value) : Prop := ∃ ad n c b, v = .slice ad n c ∧ Sl w ad n b ∧ (ad = none → n = 0 ∧ c = 0) ∧ n ≤ c ∧ c ≤ 9223372036854775807
theorem BtA.later {w w' : World} {v : Value} (h : BtA w v) (hb : Below w.heap.size w w') : BtA w' v := by
  obtain ⟨ad, n, c, b, e, hs, h⟩ := h
  exact ⟨ad, n, c, b, e, (Chg.of_below (F := fun _ => False) hb).sl hs (fun _ _ _ e => e), h⟩
theorem bta_owns {w : World} {base : Nat} {ad : Option Addr} {n c : Nat} {b : List Int} (h : w.ownsRow base 5 1 (.slice ad n c) n (cells8 b)) (hb : Byte b) : BtA w (.slice ad n c) := by
  have := owns_cap h
  exact ⟨ad, n, c, b, rfl, sl_of_owns h hb, this.2.2.2, this.2.1, by have := this.2.2.1; unfold maxLen at this; omega⟩

set_option maxHeartbeats 4000000 in
set_option maxRecDepth 8000 in
theorem spoiltP (ad : Option Addr) (n c : Nat) (b : List Int) (at1 turn : Int) (w : World) (hs : Sl w ad n b) (hno : ad = none → n = 0 ∧ c = 0) (hn : n ≤ 1048576) (ha : I64n at1) (ht : I64n turn) :
    Calls Tryz.prog 53 #[.slice ad n c, .int .i64 at1, .int .i64 turn] w fun e w' => (∃ v, e = .returned v ∧ BtA w' v) ∧ Below w.heap.size w w' := by
  obtain ⟨i0, hi, hz0, hz1, hz2⟩ := info_parts info5
  have HS := hidden hs
  have HNO := hidden hno
  have HA := hidden ha
  have HT := hidden ht
  clear hs hno ha ht
  by_cases h0 : n = 0
  · subst h0
    go_enter Tryz.func53, Tryz.ntmps53
    go_wp2_with (first
      | (at_builtin; refine wpList_append_sl _ rfl (.tmp 9) (.tmp 10) 22 rfl w.heap.size 5 i0 (.int .u8 0) Tryz.underlying22 hi hz0 hz1 hz2 rfl _ 0 [] rfl (World.ownsRow_nil _ _ _ _) ad 0 c b rfl HS.out HNO.out (by omega) (Nat.le_refl _) ?_; intro ad7 c7 w7 hown7 hgrow7
         have hb7 := grown_below hgrow7 (World.ownsRow_nil _ _ 5 1) (Nat.le_refl _)
         rw [Nat.zero_add, List.nil_append] at hown7
         rw [Nat.zero_add]
         have HO7 := hidden hown7
         have HB7 := hidden hb7
         clear hown7 hgrow7 hb7)
      | (at_builtin; refine wpList_pushT _ rfl (.tmp 15) (.tmp 18) rfl w.heap.size (.slice ad7 0 c7) 0 _ rfl w7 HO7.out (turn % 256) rfl rfl (by omega) HB7.out.size ?_; intro g8 c8 w8 ho8 hc8 hm8
         have HBT : Hid (BtA w8 (.slice (some ⟨g8, 0, none⟩) (0 + 1) c8)) := hidden (bta_owns (b := b ++ [turn % 256]) (by rw [cells8_append]; exact ho8) (HS.out.byte.append (fun x hx => by simp at hx; omega)))
         have HB8 : Hid (Below w.heap.size w w8) := hidden (HB7.out.trans (hc8.below HB7.out.size (fun i hi => (HO7.out.lt i hi).1)))
         clear ho8 hc8 hm8))
    go_ret
    exact ⟨⟨_, rfl, HBT.out⟩, HB8.out⟩
  · have hz : ((n : Int) == 0) = false := by simp [h0]
    go_enter Tryz.func53, Tryz.ntmps53
    go_wp2_with (first
      | (at_builtin; refine wpList_append_sl _ rfl (.tmp 9) (.tmp 10) 22 rfl w.heap.size 5 i0 (.int .u8 0) Tryz.underlying22 hi hz0 hz1 hz2 rfl _ 0 [] rfl (World.ownsRow_nil _ _ _ _) ad n c b rfl HS.out HNO.out (by omega) (Nat.le_refl _) ?_; intro ad7 c7 w7 hown7 hgrow7
         have hb7 := grown_below hgrow7 (World.ownsRow_nil _ _ 5 1) (Nat.le_refl _)
         rw [Nat.zero_add, List.nil_append] at hown7
         rw [Nat.zero_add]
         have HO7 := hidden hown7
         have HB7 := hidden hb7
         clear hown7 hgrow7 hb7))
    refine (pickP at1 (n : Int) (by omega) (by omega) HA.out w7).mono ?_
    rintro e wp ⟨⟨r, hr, rfl⟩, rfl⟩
    have hr' : r < n := by omega
    go_wp2_with fail
    refine (pickP turn 3 (by omega) (by omega) HT.out wp).mono ?_
    rintro e wq ⟨⟨t, ht, rfl⟩, rfl⟩
    obtain ⟨gg, hgg⟩ : ∃ gg, ad7 = some ⟨gg, 0, none⟩ := by
      rcases HO7.out.2 with ⟨e, h9⟩ | ⟨g, cap, cur, e, _⟩
      · omega
      · injection e with e1 e2 e3
        exact ⟨g, e1⟩
    subst hgg
    have hcap := owns_cap HO7.out
    have hc1 : n ≤ c7 := hcap.2.1
    have hc2 : c7 ≤ 9223372036854775807 := by have := hcap.2.2.1; unfold maxLen at this; omega
    clear hcap
    have hrc : (r : Int) ≤ (c7 : Int) := by omega
    have hc0 : ¬ c7 = 0 := by omega
    rcases (show t = 0 ∨ t = 1 ∨ t = 2 by omega) with rfl | rfl | rfl
    · have hl := HS.out.len
      obtain ⟨y, hy⟩ : ∃ y, b.getD r 0 = y := ⟨_, rfl⟩
      have k0 : wq.cell? ⟨gg, r, none⟩ = some (.int .u8 y) := by
        obtain ⟨x, hx, hc⟩ := (sl_of_owns HO7.out HS.out.byte).cell r hr'
        injection hx with hx
        subst hx
        rw [Addr.add_lit, Nat.zero_add, hy] at hc
        exact hc
      have hyb : 0 ≤ y ∧ y ≤ 255 := by
        have h1 : y ∈ b := by rw [← hy, List.getD, List.getElem?_eq_getElem (by omega)]; exact List.getElem_mem _
        exact HS.out.byte y h1
      have k1 : wq.drew.cell? ⟨gg, r, none⟩ = some (.int .u8 y) := k0
      have f0 : wq.frozen? ⟨gg, r, none⟩ = false := by
        rcases HO7.out.2 with ⟨e, _⟩ | ⟨g2, cap2, cur2, e, _, hh, _⟩
        · cases e
        · injection e with e1 e2 e3
          simp at e1
          subst e1
          exact frozen_of_row wq gg _ _ 5 hh
      have f1 : wq.drew.frozen? ⟨gg, r, none⟩ = false := f0
      have hrn : (r : Int) < (n : Int) := by omega
      go_wp2_with fail
      go_region_with (refine (pickP turn 255 (by omega) (by omega) HT.out _).mono ?_; rintro e wz ⟨⟨q, hq, rfl⟩, rfl⟩)
      all_goals
        obtain ⟨z, hz9⟩ : ∃ z, bits BinOp.xor IntKind.u8 y (IntKind.u8.wrap (IntKind.i64.wrap (1 + (q : Int)))) = z := ⟨_, rfl⟩
        rw [hz9]
        have hzb : 0 ≤ z ∧ z ≤ 255 := by
          rw [← hz9]
          exact ⟨bits_lo_u8 _ _ _, bits_hi_u8 _ _ _⟩
        have HBT : Hid (BtA (wq.setCell ⟨gg, r, none⟩ (.int .u8 z)) (.slice (some ⟨gg, 0, none⟩) n c7)) := hidden (bta_owns (owns_set HO7.out r z (by omega)) (fun x hx => by
          rcases List.mem_or_eq_of_mem_set hx with h | h
          · exact HS.out.byte x h
          · omega))
        have HBW : Hid (Below w.heap.size w (wq.setCell ⟨gg, r, none⟩ (.int .u8 z))) := hidden (HB7.out.trans ((Chg.set ⟨gg, r, none⟩ _ wq).below HB7.out.size (fun i hi => by simp at hi; rw [hi]; exact (HO7.out.lt gg rfl).1)))
        clear hz9
        go_wp2_with fail
        go_ret
        first
          | exact ⟨⟨_, rfl, HBT.out⟩, HBW.out⟩
          | exact ⟨⟨_, rfl, HBT.out.later ((Below.refl _ _).drew)⟩, HBW.out.drew⟩
    · go_wp2_with fail
      go_ret
      refine ⟨⟨_, rfl, some ⟨gg, 0, none⟩, r, c7, b.take r, ?_, ?_, fun h => (by cases h), by omega, by omega⟩, HB7.out⟩
      · first | rfl | simp
      · exact (sl_of_owns HO7.out HS.out.byte).take (by omega)
    · go_wp2_with (first
        | (at_builtin; refine wpList_pushT _ rfl (.tmp 45) (.tmp 48) rfl w.heap.size (.slice (some ⟨gg, 0, none⟩) n c7) n _ rfl wq HO7.out (turn % 256) rfl rfl (by omega) HB7.out.size ?_; intro g8 c8 w8 ho8 hc8 hm8
           have HBT : Hid (BtA w8 (.slice (some ⟨g8, 0, none⟩) (n + 1) c8)) := hidden (bta_owns (b := b ++ [turn % 256]) (by rw [cells8_append]; exact ho8) (HS.out.byte.append (fun x hx => by simp at hx; omega)))
           have HB8 : Hid (Below w.heap.size w w8) := hidden (HB7.out.trans (hc8.below HB7.out.size (fun i hi => (HO7.out.lt i hi).1)))
           clear ho8 hc8 hm8))
      go_ret
      exact ⟨⟨_, rfl, HBT.out⟩, HB8.out⟩

end Go.Proofs.YtalmpmhnkilalaaGreatDoor
