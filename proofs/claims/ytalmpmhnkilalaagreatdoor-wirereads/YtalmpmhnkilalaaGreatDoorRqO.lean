/-
  Package wire: Decode.
-/
import Derived.Test.YtalmpmhnkilalaaGreatDoorRqM
namespace Go.Proofs.YtalmpmhnkilalaaGreatDoor
open Go Go.RowKit
set_option linter.unusedVariables false
set_option linter.unusedSimpArgs false

theorem res_dec (tmps : Array Value) (w : World) (g : Nat) (l : List Value) (hl : l.length = 13) (hp : tmps.getD 2 undef = .pointer (some ⟨g, 0, none⟩)) (hB : Blk w g 26 l) : (results Tryz.f15 tmps).run Tryz.prog w = .ok (.tuple #[.agg l.toArray, tmps.getD 3 undef]) w := by
  have h : Tryz.f15.results = #[.cell 2 26, .tmp 3] := by kernel_rfl
  have hp' : tmps[2]?.getD undef = .pointer (some ⟨g, 0, none⟩) := by simpa using hp
  match l, hl with
  | [a, b, c, d, e, f, g1, h9, i, j, k, m, n], _ =>
    have h0 := hB.cell 0
    have h1 := hB.cell 1
    have h2 := hB.cell 2
    have h3 := hB.cell 3
    have h4 := hB.cell 4
    have h5 := hB.cell 5
    have h6 := hB.cell 6
    have h7 := hB.cell 7
    have h8 := hB.cell 8
    have h10 := hB.cell 9
    have h11 := hB.cell 10
    have h12 := hB.cell 11
    have h13 := hB.cell 12
    simp at h0 h1 h2 h3 h4 h5 h6 h7 h8 h10 h11 h12 h13
    simp [results, h, hp', asAddr, loadVar, h0, h1, h2, h3, h4, h5, h6, h7, h8, h10, h11, h12, h13, go_sem]
/-- The error of what is none. -/
def errW : Value := .iface 30 (.int .i64 180)
/-- What Decode leaves. -/
def DecP (w : World) (b : List Int) (o : Option (Int × (Nat → FV))) (e : Ending) (w' : World) : Prop :=
  Below w.heap.size w w' ∧ match o with
    | some (k, f) => ∃ (K : Nat) (fm : Nat → FM), e = .returned (.tuple #[.agg (cQ k fm).toArray, .nilIface]) ∧ ((w.heap.size ≤ K ∧ ∃ cur, w'.heap[K]? = some (.cells cur 5 (0, 0))) ∨ b = []) ∧ ∀ j, j < 12 → (fm j).fv = f j ∧ FO w.heap.size K w' (fm j)
    | none => e = .returned (.tuple #[.agg (cQ 0 (fun i => zM (kdQ i))).toArray, errW])
def DecR (w : World) (b : List Int) (e : Ending) (w' : World) : Prop := DecP w b (decQ b) e w'

set_option maxHeartbeats 4000000 in
set_option maxRecDepth 100000 in
theorem decodeP (ad : Option Addr) (n c : Nat) (b : List Int) (w : World) (hs : Sl w ad n b) (hno : ad = none → n = 0 ∧ c = 0) (hG : Gv w) :
    Calls Tryz.prog 15 #[.slice ad n c] w (DecR w b) := by
  have HS := hidden hs
  have hl := hs.len
  have HBY := hidden hs.byte
  have HNO := hidden hno
  have HG := hidden hG
  have h2w : 2 ≤ w.heap.size := World.block_lt_of_cell? w _ (hG.tab 0 (by omega))
  clear hs hno hG
  by_cases hbig : 65536 < n
  · have HO : Hid (decQ b = none) := hidden (by unfold decQ; rw [if_pos (by omega)])
    have hbig' : (n : Int) > 65536 := by omega
    go_enter Tryz.func15, Tryz.ntmps15
    go_wp2_with (first
      | (refine wpList_alloc_blk rfl 26 rfl 2 rfl z26 info26z ?_; intro w1 B1 bl1 hz1; have HB1 := hidden B1; have HL1 := hidden bl1; clear B1 bl1 hz1)
      | (refine wpList_build_to rfl 26 #[] rfl [] z26.toArray rfl built26 ?_)
      | (refine wpList_store_let rfl 26 (.tmp 2) (.tmp 9) rfl rfl w.heap.size (l := z26) HB1.out rfl rfl rfl size26 (cQ_one 0 (fun i => zM (kdQ i))) ?_; intro w2 B2 cg2 hz2; have HB2 := hidden B2; have HC2 := hidden cg2; clear B2 cg2 hz2))
    refine bodyPost_ret (res_dec _ _ w.heap.size z26 rfl rfl HB2.out) rfl ?_
    unfold DecR
    rw [HO.out]
    exact ⟨HL1.out.trans (HC2.out.below HL1.out.size (fun i e => by have e : i = w.heap.size := e; omega)), rfl⟩
  · have hbig' : ¬ (n : Int) > 65536 := by omega
    go_enter Tryz.func15, Tryz.ntmps15
    go_wp2_with (first
      | (refine wpList_alloc_blk rfl 26 rfl 2 rfl z26 info26z ?_; intro w1 B1 bl1 hz1; have HB1 := hidden B1; have HL1 := hidden bl1; have hz1' := hz1; clear B1 bl1 hz1))
    refine (clone_any ad n c b w1 ((Chg.of_below (F := fun _ => False) HL1.out).sl HS.out (fun _ _ _ e => e)) (by omega) HNO.out).mono ?_
    rintro en wc ⟨adc, cc, rfl, oc, bc⟩
    have HOC := hidden oc
    have hcap := owns_cap oc
    have HBC := hidden (HB1.out.later bc)
    have HLC := hidden (HL1.out.trans (bc.mono HL1.out.size))
    have hszc := bc.size
    obtain ⟨K, hK1, hK2, hK3, hK4⟩ : ∃ K, (∀ x, adc = some x → x.block = K ∧ x.spot = none) ∧ K < wc.heap.size ∧ ((w.heap.size ≤ K ∧ ∃ cur, wc.heap[K]? = some (.cells cur 5 (0, 0))) ∨ b = []) ∧ K ≠ w.heap.size := by
      rcases oc.2 with ⟨e, h0⟩ | ⟨g, cap, cur, e, hg, hh, _⟩
      · injection e with e1 e2 e3
        subst e1
        exact ⟨0, fun x h => (by cases h), by omega, .inr (List.eq_nil_of_length_eq_zero (by omega)), by omega⟩
      · injection e with e1 e2 e3
        subst e1
        exact ⟨g, fun x h => (by cases h; exact ⟨rfl, rfl⟩), (Array.getElem?_eq_some_iff.1 hh).1, .inl ⟨by omega, cur, hh⟩, by omega⟩
    have HK := hidden hK1
    clear oc bc hK1
    go_wp2_with (first
      | (refine wpList_build_to rfl 86 #[(0, .tmp 12)] rfl [(0, .slice adc n cc)] #[.slice adc n cc, .bool false] rfl (built86 _ _ _) ?_)
      | (refine wpList_box_blk rfl 86 (.tmp 13) rfl [.slice adc n cc, .bool false] rfl ?_; intro w2 B2 bl2 hz2; have HP2 := hidden B2; have HB2 := hidden (HBC.out.later bl2); have HL2 := hidden (HLC.out.trans (bl2.mono HLC.out.size)); have HLX := hidden bl2; have hz2' := hz2; clear B2 bl2 hz2))
    have hszw : w.heap.size < wc.heap.size := HBC.out.lt
    have HRT : Hid (Rt w2 wc.heap.size K (some b)) := hidden ⟨by omega, by omega, adc, n, cc, HP2.out, (Chg.of_below (F := fun _ => False) HLX.out).sl (sl_of_owns HOC.out HBY.out) (fun _ _ _ e => e), fun x hx _ => HK.out x hx, hcap.2.2.2, ⟨hcap.2.1, by have := hcap.2.2.1; unfold maxLen at this; omega⟩, by omega⟩
    refine (requestR wc.heap.size K (some b) w2 HRT.out (HG.out.later HL2.out) (by omega)).mono ?_
    rintro en w3 ⟨v3, rfl, hQ⟩
    obtain ⟨l3, rfl, hl3, ho3⟩ := hQ.form
    have HQ := hidden hQ
    have HB3 := hidden (hQ.chg.blk HB2.out (by unfold fpr; omega))
    have HL3 := hidden (HL2.out.trans (hQ.chg.below HL2.out.size (fun i e => by have e : i = wc.heap.size := e; omega)))
    have HO3 := hidden (And.intro hl3 ho3)
    clear hQ hl3 ho3
    go_wp2_with (first
      | (refine wpList_new_var rfl rfl 26 5 (.tmp 16) rfl rfl rfl rfl 13 (by kernel_rfl) l3 HO3.out.1 HO3.out.2 (by simp) rfl ?_; intro w4 B4 bl4 hz4; have HV4 := hidden B4; have HB4 := hidden (HB3.out.later bl4); have HL4 := hidden bl4; clear B4 bl4 hz4))
    refine (doneP wc.heap.size K _ w4 (HQ.out.rt.later HL4.out)).mono ?_
    rintro en w5 ⟨rfl, rfl⟩
    have HL5 : Hid (Below w.heap.size w w5) := hidden (HL3.out.trans (HL4.out.mono HL3.out.size))
    have hlt3 : w.heap.size < w3.heap.size := HB3.out.lt
    cases hd : isDone (((some b).bind rRq).map (·.2)) with
    | false =>
      have HO : Hid (decQ b = none) := hidden (by
        unfold decQ
        rw [if_neg (by omega)]
        have hd : isDone ((rRq b).map (·.2)) = false := hd
        split
        · rename_i q hq
          rw [hq] at hd
          cases hd
        · rfl)
      clear hd
      go_wp2_with (first
        | (refine wpList_build_to rfl 26 #[] rfl [] z26.toArray rfl built26 ?_)
        | (refine wpList_store_let rfl 26 (.tmp 2) (.tmp 20) rfl rfl w.heap.size (l := z26) HB4.out rfl rfl rfl size26 (cQ_one 0 (fun i => zM (kdQ i))) ?_; intro w6 B6 cg6 hz6; have HB6 := hidden B6; have HC6 := hidden cg6; clear B6 cg6 hz6))
      refine bodyPost_ret (res_dec _ _ w.heap.size z26 rfl rfl HB6.out) rfl ?_
      unfold DecR
      rw [HO.out]
      exact ⟨HL5.out.trans (HC6.out.below HL5.out.size (fun i e => by have e : i = w.heap.size := e; omega)), rfl⟩
    | true =>
      obtain ⟨q, hq⟩ : ∃ q, rRq b = some (q, []) := by
        have hd : isDone ((rRq b).map (·.2)) = true := hd
        cases hr : rRq b with
        | none => rw [hr] at hd; cases hd
        | some z =>
          obtain ⟨q, t⟩ := z
          rw [hr] at hd
          cases t with
          | nil => exact ⟨q, rfl⟩
          | cons x t => cases hd
      obtain ⟨k, f⟩ := q
      have HO : Hid (decQ b = some (k, f)) := hidden (by unfold decQ; rw [if_neg (by omega), hq])
      obtain ⟨fm, hfm, hfo⟩ := HQ.out.yes k f [] hq
      have HFM := hidden hfm
      have HFO := hidden hfo
      clear hd hfm hfo hq
      go_wp2_with (first
        | (refine wpList_load_blk rfl 26 (.tmp 5) rfl w3.heap.size HV4.out rfl rfl rfl (by rw [HO3.out.1]; exact size26) ?_)
        | (refine wpList_store_let rfl 26 (.tmp 2) (.tmp 22) rfl rfl w.heap.size (l := l3) HB4.out rfl rfl (by rw [HO3.out.1]; rfl) (by rw [HO3.out.1]; exact size26) HO3.out.2 ?_; intro w6 B6 cg6 hz6; have HB6 := hidden B6; have HC6 := hidden cg6; clear B6 cg6 hz6))
      refine bodyPost_ret (res_dec _ _ w.heap.size l3 HO3.out.1 rfl HB6.out) rfl ?_
      unfold DecR
      rw [HO.out]
      have hKW : w6.heap[K]? = wc.heap[K]? := by
        have a1 := HLX.out.block K hK2
        have a2 := HQ.out.chg.block K (by omega) (by unfold fpr; omega)
        have a3 := HL4.out.block K (by have := HQ.out.chg.size; omega)
        have a4 := HC6.out.block K (by have := HQ.out.chg.size; have := HL4.out.size; omega) (fun e => by have e : K = w.heap.size := e; omega)
        exact a4.trans (a3.trans (a2.trans a1))
      refine ⟨HL5.out.trans (HC6.out.below HL5.out.size (fun i e => by have e : i = w.heap.size := e; omega)), K, fm, by rw [HFM.out]; rfl, hK3.imp (fun h => ⟨h.1, h.2.imp (fun cur hh => hKW.trans hh)⟩) id, fun j hj => ⟨(HFO.out j hj).1, ?_⟩⟩
      have h1 := ((HFO.out j hj).2.mono (HL2.out.size)).chg (Chg.of_below (F := fun _ => False) HL4.out) (fun e => e) (fun _ e => e.elim)
      refine h1.chg HC6.out (fun e => by have e : K = w.heap.size := e; omega) (fun i hi => ?_)
      have hi : i = w.heap.size := hi
      subst hi
      have ht := ty_blk HB4.out
      exact ⟨fun e => absurd (ht.ne e) (by decide), fun e => absurd (ht.ne e) (by decide), fun e => absurd (ht.ne e) (by decide), fun e => absurd (ht.ne e) (by decide), fun e => absurd (ht.ne e) (by decide), fun e => absurd (ht.ne e) (by decide)⟩

end Go.Proofs.YtalmpmhnkilalaaGreatDoor
