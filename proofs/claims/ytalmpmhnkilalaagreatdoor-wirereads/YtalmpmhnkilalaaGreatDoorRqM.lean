import Derived.Test.YtalmpmhnkilalaaGreatDoorRqE
import Derived.Test.YtalmpmhnkilalaaGreatDoorRqL
import Derived.Test.YtalmpmhnkilalaaGreatDoorWrC
/-
  Package wire: a request read; done, Read, Decode. By genrqm19.py from RqK.
-/
namespace Go.Proofs.YtalmpmhnkilalaaGreatDoor
open Go Go.RowKit
set_option linter.unusedVariables false
set_option linter.unusedSimpArgs false

theorem takesQ (p K q bx : Nat) (hK : K ≠ q) (h2p : 2 ≤ p) : ∀ i, i < 12 → ∀ st1 vals1 wx, Rt wx p K st1 → Gv wx → Blk wx q 26 vals1 → Blk wx bx 93 [.pointer (some ⟨q, 0, none⟩)] → vals1.length = 12 + 1 →
    Calls Tryz.prog (tfQ i) #[.pointer (some ⟨p, 0, none⟩), .pointer (some ⟨bx, 0, none⟩)] wx (fun e w' => e = .returned (.tuple #[]) ∧ ∃ v, TcP wx p K q 26 vals1 (i + 1) (kdQ i) st1 v w') := by
  intro i hi st1 vals1 wx hR hG hq hb hl
  rcases lt12 hi with rfl | rfl | rfl | rfl | rfl | rfl | rfl | rfl | rfl | rfl | rfl | rfl
  · exact take90 p K st1 q bx vals1 wx hR hG h2p hq hb hl hK
  · exact take94 p K st1 q bx vals1 wx hR hG h2p hq hb hl hK
  · exact take98 p K st1 q bx vals1 wx hR hG h2p hq hb hl hK
  · exact take102 p K st1 q bx vals1 wx hR hG h2p hq hb hl hK
  · exact take106 p K st1 q bx vals1 wx hR hG h2p hq hb hl hK
  · exact take109 p K st1 q bx vals1 wx hR hG h2p hq hb hl hK
  · exact take112 p K st1 q bx vals1 wx hR hG h2p hq hb hl hK
  · exact take115 p K st1 q bx vals1 wx hR hG h2p hq hb hl hK
  · exact take118 p K st1 q bx vals1 wx hR hG h2p hq hb hl hK
  · exact take121 p K st1 q bx vals1 wx hR hG h2p hq hb hl hK
  · exact take123 p K st1 q bx vals1 wx hR hG h2p hq hb hl hK
  · exact take125 p K st1 q bx vals1 wx hR hG h2p hq hb hl hK
def z26 : List Value := [.int .i64 0, .string ⟨#[]⟩, .slice none 0 0, .slice none 0 0, .slice none 0 0, .int .i64 0, .int .i64 0, .string ⟨#[]⟩, .string ⟨#[]⟩, .int .i64 0, .int .i64 0, .int .i64 0, .slice none 0 0]
theorem info26z : (Tryz.prog.info? 26).map (fun i => i.zero.map (·.cells)) = some (some z26.toArray) := by kernel_rfl
theorem size26 : (Tryz.prog.info? 26).map (·.size) = some 13 := by kernel_rfl
theorem cQ_one (k : Int) (fm : Nat → FM) : ∀ v ∈ cQ k fm, v.oneCell' = true := by
  intro v hv
  unfold cQ at hv
  rcases List.mem_cons.1 hv with rfl | hv
  · rfl
  · obtain ⟨i, _, rfl⟩ := List.mem_map.1 hv
    exact val_one _
/-- What a request read leaves. -/
structure RqP (w : World) (p K : Nat) (o : Option ((Int × (Nat → FV)) × List Int)) (v : Value) (w' : World) : Prop where
  rt : Rt w' p K (o.map (·.2))
  chg : Chg (fpr p) w w'
  form : ∃ l : List Value, v = .agg l.toArray ∧ l.length = 13 ∧ ∀ u ∈ l, u.oneCell' = true
  yes : ∀ k f t, o = some ((k, f), t) → ∃ fm : Nat → FM, v = .agg (cQ k fm).toArray ∧ ∀ j, j < 12 → (fm j).fv = f j ∧ FO w.heap.size K w' (fm j)
theorem rRq_cons (p : Int × List Int) : (match fieldsK p.1 with | some used => (rFields kdQ used zQ p.2).map (fun (r : (Nat → FV) × List Int) => ((p.1, r.1), r.2)) | none => none) = ((if (fieldsK p.1).isSome then some p.2 else none).bind (rFields kdQ (usedQ p.1) zQ)).map (fun r => ((p.1, r.1), r.2)) := by
  unfold usedQ
  cases fieldsK p.1 <;> rfl
theorem rq_steps (st : Option (List Int)) : st.bind rRq = ((if (fieldsK (oct0 (st.bind rOct))).isSome then (st.bind rOct).map (·.2) else none).bind (rFields kdQ (usedQ (oct0 (st.bind rOct))) zQ)).map (fun r => ((oct0 (st.bind rOct), r.1), r.2)) := by
  have e : st.bind rRq = (st.bind rOct).bind (fun q => match fieldsK q.1 with | some used => (rFields kdQ used zQ q.2).map (fun (p : (Nat → FV) × List Int) => ((q.1, p.1), p.2)) | none => none) := by cases st <;> rfl
  rw [e]
  cases ho : st.bind rOct with
  | none =>
    show none = Option.map _ (Option.bind (if _ then none else none) _)
    rw [ite_self]
    rfl
  | some p => exact rRq_cons p
theorem res_req (tmps : Array Value) (w : World) (g : Nat) (l : List Value) (hl : l.length = 13) (hp : tmps.getD 2 undef = .pointer (some ⟨g, 0, none⟩)) (hB : Blk w g 26 l) : (results Tryz.f34 tmps).run Tryz.prog w = .ok (.agg l.toArray) w := by
  have h : Tryz.f34.results = #[.cell 2 26] := by kernel_rfl
  have hp' : tmps[2]?.getD undef = .pointer (some ⟨g, 0, none⟩) := by simpa using hp
  match l, hl with
  | [a, b, c, d, e, f, g1, h9, i, j, k, m, n], _ =>
    have h0 := hB.cell 0
    have h1 := hB.cell 1
    have h2 := hB.cell 2
    have h3 := hB.cell 3
    have h4 := hB.cell 4
    have h5 := hB.cell 5
    have h6 := hB.cell 6
    have h7 := hB.cell 7
    have h8 := hB.cell 8
    have h10 := hB.cell 9
    have h11 := hB.cell 10
    have h12 := hB.cell 11
    have h13 := hB.cell 12
    simp at h0 h1 h2 h3 h4 h5 h6 h7 h8 h10 h11 h12 h13
    simp [results, h, hp', asAddr, loadVar, h0, h1, h2, h3, h4, h5, h6, h7, h8, h10, h11, h12, h13, go_sem]

set_option maxHeartbeats 8000000 in
set_option maxRecDepth 100000 in
theorem requestR (p K : Nat) (st : Option (List Int)) (w : World) (h : Rt w p K st) (hG : Gv w) (h2p : 2 ≤ p) :
    Calls Tryz.prog 34 #[.pointer (some ⟨p, 0, none⟩)] w fun e w' => ∃ v, e = .returned v ∧ RqP w p K (st.bind rRq) v w' := by
  have HR := hidden h
  have HG := hidden hG
  have hpw := h.lt
  have hkw := h.klt
  have HBY : Hid (∀ b, st = some b → Byte b) := hidden (fun b e => by subst e; exact h.byte.1)
  clear h hG
  have HOZ := hidden (rq_steps st)
  go_enter Tryz.func34, Tryz.ntmps34
  go_wp2_with (first
    | (refine wpList_alloc_blk rfl 26 rfl 2 rfl z26 info26z ?_; intro w1 B1 bl1 hz1; have HB1 := hidden B1; have HL1 := hidden bl1; have hz1' := hz1; clear B1 bl1 hz1)
    | (refine wpList_alloc_blk rfl 26 rfl 3 rfl z26 info26z ?_; intro w4 B2 bl2 hz2; have HB4 := hidden (HB1.out.later bl2); have HQ3 := hidden B2; have HL2 := hidden (HL1.out.trans (bl2.mono HL1.out.size)); have hz2' := hz2; clear B2 bl2 hz2))
  rw [hz1'] at HQ3 hz2'
  have HC4 := hidden (Chg.of_below (F := fpr p) HL2.out)
  have hne1 : ¬ fpr p w.heap.size := by unfold fpr; omega
  have hne2 : ¬ fpr p (w.heap.size + 1) := by unfold fpr; omega
  refine (octetR p K st w4 (HR.out.later HL2.out)).mono ?_
  rintro en w5 ⟨v5, rfl, hQ5⟩
  obtain ⟨rfl, hc0, hc1⟩ := octet_form hQ5 HBY.out
  obtain ⟨o2, ho2⟩ : ∃ o2, st.bind rOct = o2 := ⟨_, rfl⟩
  rw [ho2] at hQ5 HOZ hc0 hc1 ⊢
  obtain ⟨c, hc⟩ : ∃ c, oct0 o2 = c := ⟨_, rfl⟩
  rw [hc] at HOZ hc0 hc1 ⊢
  have HB5 := hidden (hQ5.chg.blk HB4.out hne1)
  have hq5 := hQ5.chg.blk HQ3.out hne2
  have f1 := hq5.frozen 0
  have g1 := hq5.cell 0
  simp only [z26, List.getElem?_cons_zero] at g1
  have HQ5 := hidden (hq5.set 0 (.int .i64 c))
  have HC5 := hidden (HC4.out.trans hQ5.chg (fun _ _ e => e))
  have HR5 := hidden hQ5.rt
  have e1 := HQ5.out.cell 0
  simp only [z26, List.set_cons_zero, List.getElem?_cons_zero] at e1
  clear hQ5 hq5
  have hcs := Chg.set ⟨w.heap.size + 1, 0, none⟩ (.int .i64 c) w5
  obtain ⟨w6, hw6⟩ : ∃ w6, w5.setCell ⟨w.heap.size + 1, 0, none⟩ (.int .i64 c) = w6 := ⟨_, rfl⟩
  rw [hw6] at e1 HQ5 hcs
  have HR6 := hidden (HR5.out.chg hcs (fun e => by have e : p = w.heap.size + 1 := e; omega) (fun e => by have e : K = w.heap.size + 1 := e; omega))
  have HB6 := hidden (hcs.blk HB5.out (fun e => by have e : w.heap.size = w.heap.size + 1 := e; omega))
  have HC6 := hidden (HC5.out.trans hcs (fun i hi e => by have e : i = w.heap.size + 1 := e; omega))
  clear hcs
  go_wp2_with fail
  refine (fieldsOfR c w6 (by omega) (by omega)).mono ?_
  rintro en w7 ⟨b7, uad, uc, huad, hin, rfl⟩
  have HR7 := hidden (HR6.out.later b7)
  have HB7 := hidden (HB6.out.later b7)
  have HQ7 := hidden (HQ5.out.later b7)
  have HC7 := hidden (HC6.out.trans (Chg.of_below (F := fpr p) b7) (fun _ _ e => e))
  have hs6 : w.heap.size + 1 < w6.heap.size := HQ5.out.lt
  have HIN := hidden (And.intro hin (fun y hy => huad y hy))
  obtain ⟨uN, hUN⟩ : ∃ uN, (usedQ c).length = uN := ⟨_, rfl⟩
  have HUN := hidden hUN
  have hul := (usedQ_lt c).1
  rw [hUN] at hul ⊢
  clear b7 hin huad hUN e1 f1 g1
  go_wp2_with fail
  refine (mustR p K (o2.map (·.2)) (fieldsK c).isSome w7 HR7.out).mono ?_
  rintro en w8 ⟨rfl, hR8, hC8⟩
  obtain ⟨st3, hst3⟩ : ∃ st3, (if (fieldsK c).isSome then o2.map (·.2) else none) = st3 := ⟨_, rfl⟩
  rw [hst3] at hR8 HOZ
  have HR8 := hidden hR8
  have HB8 := hidden (hC8.blk HB7.out hne1)
  have HQ8 : Hid (Blk w8 (w.heap.size + 1) 26 (cQ c (fun i => zM (kdQ i)))) := hidden (hC8.blk HQ7.out hne2)
  have HC8 := hidden (HC7.out.trans hC8 (fun _ _ e => e))
  have HIN8 := hidden (HIN.out.1.chg hC8 (fun y hy _ e => by have := (HIN.out.2 y hy).1; have e : y.block = p := e; omega))
  clear hR8 hC8 hst3
  go_wp2_with fail
  refine (requestPartsP (w.heap.size + 1) c (fun i => zM (kdQ i)) w8 HQ8.out (fun i hi => by rw [zM_fv]; exact zeroV_kd _) (fun i hi a n cc l e => by rcases lt12 hi with rfl | rfl | rfl | rfl | rfl | rfl | rfl | rfl | rfl | rfl | rfl | rfl <;> first | (cases e; rfl) | cases e)).mono ?_
  rintro en w9 ⟨a, rfl, ha, b9, hbx, hP, hT⟩
  have HQ9 := hidden (HQ8.out.later b9)
  have HB9 := hidden (HB8.out.later b9)
  have HG9 : Hid (Gv w9) := hidden ((gv_chg HG.out HC8.out (by unfold fpr; omega)).later b9)
  have HRI : Hid (RI w9 w9 p K (w.heap.size + 1) 26 12 1 kdQ zQ st3 [] (cQ c (fun i => zM (kdQ i))) (cQ c (fun i => zM (kdQ i)))) := hidden ⟨by
      have e : (st3.bind (rFields kdQ [] zQ)).map (·.2) = st3 := by cases st3 <;> rfl
      rw [e]
      exact HR8.out.later b9, HQ9.out, rfl, fun _ _ => rfl, Chg.refl _ _, cQ_one _ _, fun f t h => ⟨fun j => zM (kdQ j), fun j hj => cQ_at c _ j hj, fun j hj => ⟨by
        have e : st3.bind (rFields kdQ [] zQ) = st3.map (fun b => (zQ, b)) := by cases st3 <;> rfl
        rw [e] at h
        cases st3 with
        | none => cases h
        | some b => simp at h; rw [← h.1]; exact zM_fv _, zM_fo _ _ _ _⟩⟩⟩
  have HBX := hidden hbx
  have HP := hidden (And.intro hP hT)
  have HC9 := hidden (HC8.out.trans (Chg.of_below (F := fpr p) b9) (fun _ _ e => e))
  have HIN9 := hidden (Es.later HIN8.out b9)
  clear hbx hP hT b9
  go_wp2_with fail
  refine (rpartsP 12 1 pfQ tfQ zQ (fun i => (zM (kdQ i)).fv) w8.heap.size a 0 (usedQ c) uad uN uc p K (w.heap.size + 1) 26 93 kdQ st3 _ w9 cfQt (.inl rfl) (.inl rfl) (by omega) rfl HRI.out HBX.out HG9.out h2p (by have := HG.out; have h2 : 2 ≤ w.heap.size := World.block_lt_of_cell? w _ (this.tab 0 (by omega)); omega) HP.out.1 HP.out.2 HIN9.out (fun y hy => by have := (HIN.out.2 y hy).1; omega) HUN.out (usedQ_lt c).2 (by omega) (by omega) (takesQ p K (w.heap.size + 1) w8.heap.size (by omega) h2p)).mono ?_
  rintro en w10 ⟨rfl, vals, hRI⟩
  have HRI2 := hidden hRI
  have HQA := hidden hRI.blk
  have hvl : vals.length = 13 := hRI.len
  have HVL := hidden hvl
  have HB10 := hidden (hRI.chg.blk HB9.out (fun e => by rcases e with e | e <;> omega))
  have hone := hRI.one
  have HONE := hidden hone
  clear hRI hone hvl
  go_wp2_with (first
    | (refine wpList_load_blk rfl 26 (.tmp 3) rfl (w.heap.size + 1) HQA.out rfl rfl rfl (by rw [HVL.out]; exact size26) ?_)
    | (refine wpList_store_let rfl 26 (.tmp 2) (.tmp 23) rfl rfl w.heap.size (l := vals) HB10.out rfl rfl (by rw [HVL.out]; rfl) (by rw [HVL.out]; exact size26) HONE.out ?_; intro w11 B11 cg11 hz11))
  refine bodyPost_ret (res_req _ _ w.heap.size _ HVL.out rfl B11) rfl ⟨_, rfl, ?_⟩
  rw [HOZ.out]
  have hrt := HRI2.out.rt
  refine ⟨?_, ?_, ⟨vals, rfl, HVL.out, HONE.out⟩, fun k f t h => ?_⟩
  · rw [map_snd _ (fun r : Nat → FV => (c, r))]
    exact hrt.chg cg11 (fun e => by have e : p = w.heap.size := e; omega) (fun e => by have e : K = w.heap.size := e; omega)
  · refine (HC9.out.trans HRI2.out.chg (fun i hi e => ?_)).trans cg11 (fun i hi e => by have e : i = w.heap.size := e; omega)
    rcases e with e | e
    · exact e
    · omega
  · obtain ⟨f', hf', e'⟩ := map_yes (f := fun r : Nat → FV => (c, r)) h
    simp at e'
    obtain ⟨rfl, rfl⟩ := e'
    obtain ⟨fm, k1, k2⟩ := HRI2.out.yes f t hf'
    refine ⟨fm, ?_, fun j hj => ⟨(k2 j hj).1, ((k2 j hj).2.mono (HC9.out.size)).chg cg11 (fun e => by have e : K = w.heap.size := e; omega) (fun i hi => ?_)⟩⟩
    · congr 1
      congr 1
      apply List.ext_getElem?
      intro j
      by_cases hj2 : j < 1
      · rw [HRI2.out.head j hj2]
        obtain rfl : j = 0 := by omega
        rfl
      · by_cases hj6 : j < 13
        · obtain ⟨i, rfl⟩ : ∃ i, j = i + 1 := ⟨j - 1, by omega⟩
          rw [k1 i (by omega), cQ_at _ fm i (by omega)]
        · rw [List.getElem?_eq_none (by rw [HVL.out]; omega), List.getElem?_eq_none (by simp [cQ]; omega)]
    · have hi : i = w.heap.size := hi
      subst hi
      have ht := ty_blk HB10.out
      exact ⟨fun e => absurd (ht.ne e) (by decide), fun e => absurd (ht.ne e) (by decide), fun e => absurd (ht.ne e) (by decide), fun e => absurd (ht.ne e) (by decide), fun e => absurd (ht.ne e) (by decide), fun e => absurd (ht.ne e) (by decide)⟩

end Go.Proofs.YtalmpmhnkilalaaGreatDoor

/-
  Package wire: done, Read, Decode.
-/
namespace Go.Proofs.YtalmpmhnkilalaaGreatDoor
open Go Go.RowKit
set_option linter.unusedVariables false
set_option linter.unusedSimpArgs false

def isDone (st : Option (List Int)) : Bool := match st with | some [] => true | _ => false
theorem doneP (p K : Nat) (st : Option (List Int)) (w : World) (h : Rt w p K st) : Calls Tryz.prog 35 #[.pointer (some ⟨p, 0, none⟩)] w fun e w' => e = .returned (.bool (isDone st)) ∧ w' = w := by
  cases st with
  | none =>
    have hB := h.noneBlk
    have c1 := hB.cell 1
    simp at c1
    clear h hB
    go_enter Tryz.func35, Tryz.ntmps35
    go_wp2_with fail
    go_ret
    exact ⟨rfl, rfl⟩
  | some b =>
    obtain ⟨ad, n, c, hB⟩ := h.someB
    have c0 := hB.blk.cell 0
    have c1 := hB.blk.cell 1
    simp at c0 c1
    have hl := hB.sl.len
    clear h hB
    by_cases h0 : n = 0
    · subst h0
      have hb : b = [] := List.eq_nil_of_length_eq_zero hl
      subst hb
      go_enter Tryz.func35, Tryz.ntmps35
      go_wp2_with fail
      go_ret
      exact ⟨rfl, rfl⟩
    · have hn : ¬ (n : Int) = 0 := by omega
      have hbq : ((n : Int) == 0) = false := by simpa using h0
      have hd : isDone (some b) = false := by
        cases b with
        | nil => exact absurd hl.symm h0
        | cons x t => rfl
      rw [hd]
      go_enter Tryz.func35, Tryz.ntmps35
      go_wp2_with fail
      go_ret
      exact ⟨by first | rfl | simp [hbq, h0], rfl⟩

theorem built86 (ad : Option Addr) (n c : Nat) : Tryz.prog.built 86 [(0, .slice ad n c)] = some #[.slice ad n c, .bool false] := by kernel_rfl
theorem built57 : Tryz.prog.built 57 [] = some z57.toArray := by kernel_rfl
theorem built26 : Tryz.prog.built 26 [] = some z26.toArray := by kernel_rfl
theorem res_read (tmps : Array Value) (w : World) (g : Nat) (l : List Value) (hl : l.length = 6) (hp : tmps.getD 2 undef = .pointer (some ⟨g, 0, none⟩)) (hB : Blk w g 57 l) : (results Tryz.f20 tmps).run Tryz.prog w = .ok (.tuple #[.agg l.toArray, tmps.getD 3 undef]) w := by
  have h : Tryz.f20.results = #[.cell 2 57, .tmp 3] := by kernel_rfl
  have hp' : tmps[2]?.getD undef = .pointer (some ⟨g, 0, none⟩) := by simpa using hp
  match l, hl with
  | [a, b, c, d, e, f], _ =>
    have h0 := hB.cell 0
    have h1 := hB.cell 1
    have h2 := hB.cell 2
    have h3 := hB.cell 3
    have h4 := hB.cell 4
    have h5 := hB.cell 5
    simp at h0 h1 h2 h3 h4 h5
    simp [results, h, hp', asAddr, loadVar, h0, h1, h2, h3, h4, h5, go_sem]

/-- What Read leaves. -/
def ReadP (w : World) (K : Nat) (o : Option (Int × Int × (Nat → FV))) (e : Ending) (w' : World) : Prop :=
  Below w.heap.size w w' ∧ match o with
    | some (er, k, f) => ∃ fm : Nat → FM, e = .returned (.tuple #[.agg (cA er k fm).toArray, .int .i64 0]) ∧ ∀ j, j < 4 → (fm j).fv = f j ∧ FO w.heap.size K w' (fm j)
    | none => e = .returned (.tuple #[.agg (cA 0 0 (fun i => zM (kdA i))).toArray, .int .i64 180])
def ReadR (w : World) (K : Nat) (b : List Int) (e : Ending) (w' : World) : Prop := ReadP w K (readQ b) e w'

set_option maxHeartbeats 4000000 in
set_option maxRecDepth 100000 in
theorem readW (ad : Option Addr) (n c : Nat) (b : List Int) (K : Nat) (w : World) (hs : Sl w ad n b) (hK : ∀ x, ad = some x → 0 < n → x.block = K ∧ x.spot = none) (hKw : K < w.heap.size) (hno : ad = none → n = 0 ∧ c = 0) (hcap : n ≤ c ∧ c ≤ 9223372036854775807) (hG : Gv w) :
    Calls Tryz.prog 20 #[.slice ad n c] w (ReadR w K b) := by
  have HS := hidden hs
  have hl := hs.len
  have HK := hidden hK
  have HNO := hidden hno
  have HG := hidden hG
  have h2w : 2 ≤ w.heap.size := World.block_lt_of_cell? w _ (hG.tab 0 (by omega))
  clear hs hK hno hG
  by_cases hbig : 1048576 < n
  · have HO : Hid (readQ b = none) := hidden (by unfold readQ; rw [if_pos (by omega)])
    have hbig' : (n : Int) > 1048576 := by omega
    go_enter Tryz.func20, Tryz.ntmps20
    go_wp2_with (first
      | (refine wpList_alloc_blk rfl 57 rfl 2 rfl z57 info57z ?_; intro w1 B1 bl1 hz1; have HB1 := hidden B1; have HL1 := hidden bl1; clear B1 bl1 hz1)
      | (refine wpList_build_to rfl 57 #[] rfl [] z57.toArray rfl built57 ?_)
      | (refine wpList_store_let rfl 57 (.tmp 2) (.tmp 9) rfl rfl w.heap.size (l := z57) HB1.out rfl rfl rfl size57 (cA_one 0 0 (fun i => zM (kdA i))) ?_; intro w2 B2 cg2 hz2; have HB2 := hidden B2; have HC2 := hidden cg2; clear B2 cg2 hz2))
    refine bodyPost_ret (res_read _ _ w.heap.size z57 rfl rfl HB2.out) rfl ?_
    unfold ReadR
    rw [HO.out]
    exact ⟨HL1.out.trans (HC2.out.below HL1.out.size (fun i e => by have e : i = w.heap.size := e; omega)), rfl⟩
  · have hbig' : ¬ (n : Int) > 1048576 := by omega
    go_enter Tryz.func20, Tryz.ntmps20
    go_wp2_with (first
      | (refine wpList_alloc_blk rfl 57 rfl 2 rfl z57 info57z ?_; intro w1 B1 bl1 hz1; have HB1 := hidden B1; have HL1 := hidden bl1; have hz1' := hz1; clear B1 bl1 hz1)
      | (refine wpList_build_to rfl 86 #[(0, .tmp 10)] rfl [(0, .slice ad n c)] #[.slice ad n c, .bool false] rfl (built86 _ _ _) ?_)
      | (refine wpList_box_blk rfl 86 (.tmp 11) rfl [.slice ad n c, .bool false] rfl ?_; intro w2 B2 bl2 hz2; have HP2 := hidden B2; have HB2 := hidden (HB1.out.later bl2); have HL2 := hidden (HL1.out.trans (bl2.mono HL1.out.size)); have hz2' := hz2; clear B2 bl2 hz2))
    rw [hz1'] at HP2 hz2'
    have HRT : Hid (Rt w2 (w.heap.size + 1) K (some b)) := hidden ⟨by omega, by omega, ad, n, c, HP2.out, (Chg.of_below (F := fun _ => False) HL2.out).sl HS.out (fun _ _ _ e => e), HK.out, HNO.out, hcap, by omega⟩
    refine (responseR (w.heap.size + 1) K (some b) w2 HRT.out (HG.out.later HL2.out) (by omega)).mono ?_
    rintro en w3 ⟨v3, rfl, hQ⟩
    obtain ⟨l3, rfl, hl3, ho3⟩ := hQ.form
    have HQ := hidden hQ
    have HB3 := hidden (hQ.chg.blk HB2.out (by unfold fpr; omega))
    have HL3 := hidden (HL2.out.trans (hQ.chg.below HL2.out.size (fun i e => by have e : i = w.heap.size + 1 := e; omega)))
    have HO3 := hidden (And.intro hl3 ho3)
    clear hQ hl3 ho3
    go_wp2_with (first
      | (refine wpList_new_var rfl rfl 57 5 (.tmp 14) rfl rfl rfl rfl 6 (by kernel_rfl) l3 HO3.out.1 HO3.out.2 (by simp) rfl ?_; intro w4 B4 bl4 hz4; have HV4 := hidden B4; have HB4 := hidden (HB3.out.later bl4); have HL4 := hidden bl4; clear B4 bl4 hz4))
    refine (doneP (w.heap.size + 1) K _ w4 (HQ.out.rt.later HL4.out)).mono ?_
    rintro en w5 ⟨rfl, rfl⟩
    have HL5 : Hid (Below w.heap.size w w5) := hidden (HL3.out.trans (HL4.out.mono HL3.out.size))
    have hlt3 : w.heap.size < w3.heap.size := HB3.out.lt
    cases hd : isDone (((some b).bind rRs).map (·.2)) with
    | false =>
      have HO : Hid (readQ b = none) := hidden (by
        unfold readQ
        rw [if_neg (by omega)]
        have hd : isDone ((rRs b).map (·.2)) = false := hd
        split
        · rename_i q hq
          rw [hq] at hd
          cases hd
        · rfl)
      clear hd
      go_wp2_with (first
        | (refine wpList_build_to rfl 57 #[] rfl [] z57.toArray rfl built57 ?_)
        | (refine wpList_store_let rfl 57 (.tmp 2) (.tmp 18) rfl rfl w.heap.size (l := z57) HB4.out rfl rfl rfl size57 (cA_one 0 0 (fun i => zM (kdA i))) ?_; intro w6 B6 cg6 hz6; have HB6 := hidden B6; have HC6 := hidden cg6; clear B6 cg6 hz6))
      refine bodyPost_ret (res_read _ _ w.heap.size z57 rfl rfl HB6.out) rfl ?_
      unfold ReadR
      rw [HO.out]
      exact ⟨HL5.out.trans (HC6.out.below HL5.out.size (fun i e => by have e : i = w.heap.size := e; omega)), rfl⟩
    | true =>
      obtain ⟨q, hq⟩ : ∃ q, rRs b = some (q, []) := by
        have hd : isDone ((rRs b).map (·.2)) = true := hd
        cases hr : rRs b with
        | none => rw [hr] at hd; cases hd
        | some z =>
          obtain ⟨q, t⟩ := z
          rw [hr] at hd
          cases t with
          | nil => exact ⟨q, rfl⟩
          | cons x t => cases hd
      obtain ⟨er, k, f⟩ := q
      have HO : Hid (readQ b = some (er, k, f)) := hidden (by unfold readQ; rw [if_neg (by omega), hq])
      obtain ⟨fm, hfm, hfo⟩ := HQ.out.yes er k f [] hq
      have HFM := hidden hfm
      have HFO := hidden hfo
      clear hd hfm hfo hq
      go_wp2_with (first
        | (refine wpList_load_blk rfl 57 (.tmp 5) rfl w3.heap.size HV4.out rfl rfl rfl (by rw [HO3.out.1]; exact size57) ?_)
        | (refine wpList_store_let rfl 57 (.tmp 2) (.tmp 19) rfl rfl w.heap.size (l := l3) HB4.out rfl rfl (by rw [HO3.out.1]; rfl) (by rw [HO3.out.1]; exact size57) HO3.out.2 ?_; intro w6 B6 cg6 hz6; have HB6 := hidden B6; have HC6 := hidden cg6; clear B6 cg6 hz6))
      refine bodyPost_ret (res_read _ _ w.heap.size l3 HO3.out.1 rfl HB6.out) rfl ?_
      unfold ReadR
      rw [HO.out]
      refine ⟨HL5.out.trans (HC6.out.below HL5.out.size (fun i e => by have e : i = w.heap.size := e; omega)), fm, by rw [HFM.out]; rfl, fun j hj => ⟨(HFO.out j hj).1, ?_⟩⟩
      have h1 := ((HFO.out j hj).2.mono (HL2.out.size)).chg (Chg.of_below (F := fun _ => False) HL4.out) (fun e => e) (fun _ e => e.elim)
      refine h1.chg HC6.out (fun e => by have e : K = w.heap.size := e; omega) (fun i hi => ?_)
      have hi : i = w.heap.size := hi
      subst hi
      have ht := ty_blk HB4.out
      exact ⟨fun e => absurd (ht.ne e) (by decide), fun e => absurd (ht.ne e) (by decide), fun e => absurd (ht.ne e) (by decide), fun e => absurd (ht.ne e) (by decide), fun e => absurd (ht.ne e) (by decide), fun e => absurd (ht.ne e) (by decide)⟩

end Go.Proofs.YtalmpmhnkilalaaGreatDoor

/-
  Package wire: Decode.
-/
namespace Go.Proofs.YtalmpmhnkilalaaGreatDoor
open Go Go.RowKit
set_option linter.unusedVariables false
set_option linter.unusedSimpArgs false

theorem res_dec (tmps : Array Value) (w : World) (g : Nat) (l : List Value) (hl : l.length = 13) (hp : tmps.getD 2 undef = .pointer (some ⟨g, 0, none⟩)) (hB : Blk w g 26 l) : (results Tryz.f15 tmps).run Tryz.prog w = .ok (.tuple #[.agg l.toArray, tmps.getD 3 undef]) w := by
  have h : Tryz.f15.results = #[.cell 2 26, .tmp 3] := by kernel_rfl
  have hp' : tmps[2]?.getD undef = .pointer (some ⟨g, 0, none⟩) := by simpa using hp
  match l, hl with
  | [a, b, c, d, e, f, g1, h9, i, j, k, m, n], _ =>
    have h0 := hB.cell 0
    have h1 := hB.cell 1
    have h2 := hB.cell 2
    have h3 := hB.cell 3
    have h4 := hB.cell 4
    have h5 := hB.cell 5
    have h6 := hB.cell 6
    have h7 := hB.cell 7
    have h8 := hB.cell 8
    have h10 := hB.cell 9
    have h11 := hB.cell 10
    have h12 := hB.cell 11
    have h13 := hB.cell 12
    simp at h0 h1 h2 h3 h4 h5 h6 h7 h8 h10 h11 h12 h13
    simp [results, h, hp', asAddr, loadVar, h0, h1, h2, h3, h4, h5, h6, h7, h8, h10, h11, h12, h13, go_sem]
/-- The error of what is none. -/
def errW : Value := .iface 30 (.int .i64 180)
/-- What Decode leaves. -/
def DecP (w : World) (b : List Int) (o : Option (Int × (Nat → FV))) (e : Ending) (w' : World) : Prop :=
  Below w.heap.size w w' ∧ match o with
    | some (k, f) => ∃ (K : Nat) (fm : Nat → FM), e = .returned (.tuple #[.agg (cQ k fm).toArray, .nilIface]) ∧ ((w.heap.size ≤ K ∧ ∃ cur, w'.heap[K]? = some (.cells cur 5 (0, 0))) ∨ b = []) ∧ ∀ j, j < 12 → (fm j).fv = f j ∧ FO w.heap.size K w' (fm j)
    | none => e = .returned (.tuple #[.agg (cQ 0 (fun i => zM (kdQ i))).toArray, errW])
def DecR (w : World) (b : List Int) (e : Ending) (w' : World) : Prop := DecP w b (decQ b) e w'

set_option maxHeartbeats 4000000 in
set_option maxRecDepth 100000 in
theorem decodeP (ad : Option Addr) (n c : Nat) (b : List Int) (w : World) (hs : Sl w ad n b) (hno : ad = none → n = 0 ∧ c = 0) (hG : Gv w) :
    Calls Tryz.prog 15 #[.slice ad n c] w (DecR w b) := by
  have HS := hidden hs
  have hl := hs.len
  have HBY := hidden hs.byte
  have HNO := hidden hno
  have HG := hidden hG
  have h2w : 2 ≤ w.heap.size := World.block_lt_of_cell? w _ (hG.tab 0 (by omega))
  clear hs hno hG
  by_cases hbig : 65536 < n
  · have HO : Hid (decQ b = none) := hidden (by unfold decQ; rw [if_pos (by omega)])
    have hbig' : (n : Int) > 65536 := by omega
    go_enter Tryz.func15, Tryz.ntmps15
    go_wp2_with (first
      | (refine wpList_alloc_blk rfl 26 rfl 2 rfl z26 info26z ?_; intro w1 B1 bl1 hz1; have HB1 := hidden B1; have HL1 := hidden bl1; clear B1 bl1 hz1)
      | (refine wpList_build_to rfl 26 #[] rfl [] z26.toArray rfl built26 ?_)
      | (refine wpList_store_let rfl 26 (.tmp 2) (.tmp 9) rfl rfl w.heap.size (l := z26) HB1.out rfl rfl rfl size26 (cQ_one 0 (fun i => zM (kdQ i))) ?_; intro w2 B2 cg2 hz2; have HB2 := hidden B2; have HC2 := hidden cg2; clear B2 cg2 hz2))
    refine bodyPost_ret (res_dec _ _ w.heap.size z26 rfl rfl HB2.out) rfl ?_
    unfold DecR
    rw [HO.out]
    exact ⟨HL1.out.trans (HC2.out.below HL1.out.size (fun i e => by have e : i = w.heap.size := e; omega)), rfl⟩
  · have hbig' : ¬ (n : Int) > 65536 := by omega
    go_enter Tryz.func15, Tryz.ntmps15
    go_wp2_with (first
      | (refine wpList_alloc_blk rfl 26 rfl 2 rfl z26 info26z ?_; intro w1 B1 bl1 hz1; have HB1 := hidden B1; have HL1 := hidden bl1; have hz1' := hz1; clear B1 bl1 hz1))
    refine (clone_any ad n c b w1 ((Chg.of_below (F := fun _ => False) HL1.out).sl HS.out (fun _ _ _ e => e)) (by omega) HNO.out).mono ?_
    rintro en wc ⟨adc, cc, rfl, oc, bc⟩
    have HOC := hidden oc
    have hcap := owns_cap oc
    have HBC := hidden (HB1.out.later bc)
    have HLC := hidden (HL1.out.trans (bc.mono HL1.out.size))
    have hszc := bc.size
    obtain ⟨K, hK1, hK2, hK3, hK4⟩ : ∃ K, (∀ x, adc = some x → x.block = K ∧ x.spot = none) ∧ K < wc.heap.size ∧ ((w.heap.size ≤ K ∧ ∃ cur, wc.heap[K]? = some (.cells cur 5 (0, 0))) ∨ b = []) ∧ K ≠ w.heap.size := by
      rcases oc.2 with ⟨e, h0⟩ | ⟨g, cap, cur, e, hg, hh, _⟩
      · injection e with e1 e2 e3
        subst e1
        exact ⟨0, fun x h => (by cases h), by omega, .inr (List.eq_nil_of_length_eq_zero (by omega)), by omega⟩
      · injection e with e1 e2 e3
        subst e1
        exact ⟨g, fun x h => (by cases h; exact ⟨rfl, rfl⟩), (Array.getElem?_eq_some_iff.1 hh).1, .inl ⟨by omega, cur, hh⟩, by omega⟩
    have HK := hidden hK1
    clear oc bc hK1
    go_wp2_with (first
      | (refine wpList_build_to rfl 86 #[(0, .tmp 12)] rfl [(0, .slice adc n cc)] #[.slice adc n cc, .bool false] rfl (built86 _ _ _) ?_)
      | (refine wpList_box_blk rfl 86 (.tmp 13) rfl [.slice adc n cc, .bool false] rfl ?_; intro w2 B2 bl2 hz2; have HP2 := hidden B2; have HB2 := hidden (HBC.out.later bl2); have HL2 := hidden (HLC.out.trans (bl2.mono HLC.out.size)); have HLX := hidden bl2; have hz2' := hz2; clear B2 bl2 hz2))
    have hszw : w.heap.size < wc.heap.size := HBC.out.lt
    have HRT : Hid (Rt w2 wc.heap.size K (some b)) := hidden ⟨by omega, by omega, adc, n, cc, HP2.out, (Chg.of_below (F := fun _ => False) HLX.out).sl (sl_of_owns HOC.out HBY.out) (fun _ _ _ e => e), fun x hx _ => HK.out x hx, hcap.2.2.2, ⟨hcap.2.1, by have := hcap.2.2.1; unfold maxLen at this; omega⟩, by omega⟩
    refine (requestR wc.heap.size K (some b) w2 HRT.out (HG.out.later HL2.out) (by omega)).mono ?_
    rintro en w3 ⟨v3, rfl, hQ⟩
    obtain ⟨l3, rfl, hl3, ho3⟩ := hQ.form
    have HQ := hidden hQ
    have HB3 := hidden (hQ.chg.blk HB2.out (by unfold fpr; omega))
    have HL3 := hidden (HL2.out.trans (hQ.chg.below HL2.out.size (fun i e => by have e : i = wc.heap.size := e; omega)))
    have HO3 := hidden (And.intro hl3 ho3)
    clear hQ hl3 ho3
    go_wp2_with (first
      | (refine wpList_new_var rfl rfl 26 5 (.tmp 16) rfl rfl rfl rfl 13 (by kernel_rfl) l3 HO3.out.1 HO3.out.2 (by simp) rfl ?_; intro w4 B4 bl4 hz4; have HV4 := hidden B4; have HB4 := hidden (HB3.out.later bl4); have HL4 := hidden bl4; clear B4 bl4 hz4))
    refine (doneP wc.heap.size K _ w4 (HQ.out.rt.later HL4.out)).mono ?_
    rintro en w5 ⟨rfl, rfl⟩
    have HL5 : Hid (Below w.heap.size w w5) := hidden (HL3.out.trans (HL4.out.mono HL3.out.size))
    have hlt3 : w.heap.size < w3.heap.size := HB3.out.lt
    cases hd : isDone (((some b).bind rRq).map (·.2)) with
    | false =>
      have HO : Hid (decQ b = none) := hidden (by
        unfold decQ
        rw [if_neg (by omega)]
        have hd : isDone ((rRq b).map (·.2)) = false := hd
        split
        · rename_i q hq
          rw [hq] at hd
          cases hd
        · rfl)
      clear hd
      go_wp2_with (first
        | (refine wpList_build_to rfl 26 #[] rfl [] z26.toArray rfl built26 ?_)
        | (refine wpList_store_let rfl 26 (.tmp 2) (.tmp 20) rfl rfl w.heap.size (l := z26) HB4.out rfl rfl rfl size26 (cQ_one 0 (fun i => zM (kdQ i))) ?_; intro w6 B6 cg6 hz6; have HB6 := hidden B6; have HC6 := hidden cg6; clear B6 cg6 hz6))
      refine bodyPost_ret (res_dec _ _ w.heap.size z26 rfl rfl HB6.out) rfl ?_
      unfold DecR
      rw [HO.out]
      exact ⟨HL5.out.trans (HC6.out.below HL5.out.size (fun i e => by have e : i = w.heap.size := e; omega)), rfl⟩
    | true =>
      obtain ⟨q, hq⟩ : ∃ q, rRq b = some (q, []) := by
        have hd : isDone ((rRq b).map (·.2)) = true := hd
        cases hr : rRq b with
        | none => rw [hr] at hd; cases hd
        | some z =>
          obtain ⟨q, t⟩ := z
          rw [hr] at hd
          cases t with
          | nil => exact ⟨q, rfl⟩
          | cons x t => cases hd
      obtain ⟨k, f⟩ := q
      have HO : Hid (decQ b = some (k, f)) := hidden (by unfold decQ; rw [if_neg (by omega), hq])
      obtain ⟨fm, hfm, hfo⟩ := HQ.out.yes k f [] hq
      have HFM := hidden hfm
      have HFO := hidden hfo
      clear hd hfm hfo hq
      go_wp2_with (first
        | (refine wpList_load_blk rfl 26 (.tmp 5) rfl w3.heap.size HV4.out rfl rfl rfl (by rw [HO3.out.1]; exact size26) ?_)
        | (refine wpList_store_let rfl 26 (.tmp 2) (.tmp 22) rfl rfl w.heap.size (l := l3) HB4.out rfl rfl (by rw [HO3.out.1]; rfl) (by rw [HO3.out.1]; exact size26) HO3.out.2 ?_; intro w6 B6 cg6 hz6; have HB6 := hidden B6; have HC6 := hidden cg6; clear B6 cg6 hz6))
      refine bodyPost_ret (res_dec _ _ w.heap.size l3 HO3.out.1 rfl HB6.out) rfl ?_
      unfold DecR
      rw [HO.out]
      have hKW : w6.heap[K]? = wc.heap[K]? := by
        have a1 := HLX.out.block K hK2
        have a2 := HQ.out.chg.block K (by omega) (by unfold fpr; omega)
        have a3 := HL4.out.block K (by have := HQ.out.chg.size; omega)
        have a4 := HC6.out.block K (by have := HQ.out.chg.size; have := HL4.out.size; omega) (fun e => by have e : K = w.heap.size := e; omega)
        exact a4.trans (a3.trans (a2.trans a1))
      refine ⟨HL5.out.trans (HC6.out.below HL5.out.size (fun i e => by have e : i = w.heap.size := e; omega)), K, fm, by rw [HFM.out]; rfl, hK3.imp (fun h => ⟨h.1, h.2.imp (fun cur hh => hKW.trans hh)⟩) id, fun j hj => ⟨(HFO.out j hj).1, ?_⟩⟩
      have h1 := ((HFO.out j hj).2.mono (HL2.out.size)).chg (Chg.of_below (F := fun _ => False) HL4.out) (fun e => e) (fun _ e => e.elim)
      refine h1.chg HC6.out (fun e => by have e : K = w.heap.size := e; omega) (fun i hi => ?_)
      have hi : i = w.heap.size := hi
      subst hi
      have ht := ty_blk HB4.out
      exact ⟨fun e => absurd (ht.ne e) (by decide), fun e => absurd (ht.ne e) (by decide), fun e => absurd (ht.ne e) (by decide), fun e => absurd (ht.ne e) (by decide), fun e => absurd (ht.ne e) (by decide), fun e => absurd (ht.ne e) (by decide)⟩

end Go.Proofs.YtalmpmhnkilalaaGreatDoor
