/-
  Copy: the document's.
-/
import Derived.Test.YtgmcfejmhlglkaaCpT
namespace Go.Proofs.Ytgmcfejmhlglkaa
open Go.RowKit
set_option linter.unusedVariables false
set_option linter.unusedSimpArgs false

theorem fcells_append : ∀ (rs : List (Value × Fl)) (x : Value × Fl), fcells (rs ++ [x]) = fcells rs ++ [x.1, .int .i64 (x.2.n : Int)]
  | [], x => rfl
  | r :: l, x => by simp [fcells, fcells_append l x]
/-- A copy, as far as it is made. -/
structure CJ (w wr : World) (rs rs' : List (Value × Fl)) (q : Nat) (lv kv : Value) (kl : List Int) (on st : Bool) (fa op : Int) (i : Nat) : Prop where
  blk : Blk wr q 75 [lv, .bool on, .int .i64 fa, .bool st, .int .i64 op, kv]
  lvo : wr.ownsRow 0 86 2 lv i (fcells rs')
  lvb : ∀ g, lv.ownBlock = some g → w.heap.size ≤ g
  len : rs'.length = i
  row : ∀ (k : Nat) (r' : Value × Fl), rs'[k]? = some r' → ∃ r, rs[k]? = some r ∧ r'.2 = r.2 ∧ FR wr r' ∧ ∀ g, r'.1.ownBlock = some g → w.heap.size ≤ g
  dist : ∀ (j k : Nat) (r s : Value × Fl) (b : Nat), rs'[j]? = some r → rs'[k]? = some s → r.1.ownBlock = some b → s.1.ownBlock = some b → j = k
  kvo : wr.ownsRow 0 3 1 kv kl.length (cellsI kl)
  kvb : ∀ g, kv.ownBlock = some g → w.heap.size ≤ g
  qge : w.heap.size ≤ q
  bel : Below w.heap.size w wr
theorem CJ.later {w wr w' : World} {rs rs' : List (Value × Fl)} {q : Nat} {lv kv : Value} {kl : List Int} {on st : Bool} {fa op : Int} {i : Nat} (h : CJ w wr rs rs' q lv kv kl on st fa op i) (hb : Below wr.heap.size wr w') : CJ w w' rs rs' q lv kv kl on st fa op i := by
  have hc : Chg (fun _ => False) wr w' := Chg.of_below hb
  refine ⟨h.blk.later hb, hc.owns h.lvo (fun _ _ h => h), h.lvb, h.len, fun k r' hk => ?_, h.dist, hc.owns h.kvo (fun _ _ h => h), h.kvb, h.qge, h.bel.trans (hb.mono h.bel.size)⟩
  obtain ⟨r, h1, h2, h3, h4⟩ := h.row k r' hk
  exact ⟨r, h1, h2, h3.chg hc (fun _ _ h => h), h4⟩
/-- One file more. -/
theorem CJ.step {w wr w1 : World} {rs rs' : List (Value × Fl)} {q : Nat} {lv kv : Value} {kl : List Int} {on st : Bool} {fa op : Int} {i : Nat} (h0 : CJ w wr rs rs' q lv kv kl on st fa op i) {r : Value × Fl} (hr : rs[i]? = some r) (hrf : Byte r.2.b ∧ r.2.n ≤ r.2.b.length ∧ r.2.b.length ≤ 16777216) (hi8 : i < 8) (hl : Lat wr w1) {a' : Option Addr} {c' b : Nat} (hB : Blk w1 b 86 [.slice a' r.2.b.length c', .int .i64 (r.2.n : Int)])
    (hO : w1.ownsRow 0 5 1 (.slice a' r.2.b.length c') r.2.b.length (cells8 r.2.b)) (hg : ∀ g, (Value.slice a' r.2.b.length c').ownBlock = some g → wr.heap.size ≤ g) :
    ∃ v2 w2, (Builtin.append_ #[73, 73] 73 #[lv, .slice (some ⟨b, 0, none⟩) 1 1]).run Try.prog w1 = .ok v2 w2 ∧ w2.cell? ⟨q, 0, none⟩ = some lv ∧ w2.frozen? ⟨q, 0, none⟩ = false ∧ (∃ z1 z2 z3, v2 = .slice z1 z2 z3) ∧
      CJ w (w2.setCell ⟨q, 0, none⟩ v2) rs (rs' ++ [(.slice a' r.2.b.length c', r.2)]) q v2 kv kl on st fa op (i + 1) := by
  have h := h0.later hl
  obtain ⟨i0, hi0, hz0, hz1, hz2⟩ := info_parts info86
  obtain ⟨v2, w2, hrun, ho2, hc2, hm2⟩ := run_appendsG (P := Try.prog) w1 73 73 86 i0 (.agg #[.slice none 0 0, .int .i64 0]) 2 32 Try.underlying73 hi0 hz0 hz1 hz2 rfl (by decide) lv i (fcells rs') h.lvo ⟨b, 0, none⟩ 1 1 [.slice a' r.2.b.length c', .int .i64 (r.2.n : Int)] rfl
    (fun j u hj => by rw [Addr.add_lit, Nat.zero_add, hB.cell]; exact hj) (by simp [Value.oneCell']) (by unfold maxLen; omega) (by omega)
  have hqlv : lv.ownBlock ≠ some q := fun e => absurd ((owns_tg h.lvo _ e).one h.blk.tg) (by decide)
  have hB2 := hc2.blk h.blk hqlv
  have hlen1 : w1.heap.size ≤ w2.heap.size := hc2.size
  have hwr1 : wr.heap.size ≤ w1.heap.size := hl.size
  have hv2b : ∀ g, v2.ownBlock = some g → w.heap.size ≤ g := by
    intro g hg2
    rcases hm2 with e | ⟨g', e, hg'⟩
    · exact h.lvb g (by rw [← e]; exact hg2)
    · rw [hg2] at e
      obtain rfl := Option.some.inj e
      have := h.bel.size
      omega
  have hv2q : v2.ownBlock ≠ some q := by
    intro e
    rcases hm2 with e2 | ⟨g', e2, hg'⟩
    · exact hqlv (by rw [← e2]; exact e)
    · rw [e] at e2
      have e3 : q = g' := Option.some.inj e2
      have := h.blk.lt
      omega
  have hC : Chg (fun k => k = q ∨ lv.ownBlock = some k) w1 (w2.setCell ⟨q, 0, none⟩ v2) := (hc2.mono (fun _ _ h => .inr h)).trans (Chg.set ⟨q, 0, none⟩ v2 w2) (fun _ _ h => .inl h)
  have off : ∀ (v : Value) (ty : TypeId) (n : Nat) (xs : List Value), w1.ownsRow 0 ty 1 v n xs → ty ≠ 75 → ty ≠ 86 → (w2.setCell ⟨q, 0, none⟩ v2).ownsRow 0 ty 1 v n xs := by
    intro v ty n xs ho h75 h86
    refine hC.owns ho (fun g hg e => ?_)
    rcases e with rfl | e
    · exact h75 ((owns_tg ho _ hg).one h.blk.tg)
    · exact h86 ((owns_tg ho g hg).one (owns_tg h.lvo g e))
  have hbel : Below w.heap.size w (w2.setCell ⟨q, 0, none⟩ v2) := h.bel.trans ⟨hC.os, hC.tape, hC.output, hC.size, fun k hk => hC.block k (by have := h.bel.size; omega) (fun e => by
    rcases e with e | e
    · have := h.qge
      omega
    · have := h.lvb k e
      omega)⟩
  refine ⟨v2, w2, hrun, hB2.cell 0, hB2.frozen 0, ?_, ⟨?_, ?_, hv2b, by simp [h.len], ?_, ?_, off _ _ _ _ h.kvo (by decide) (by decide), h.kvb, h.qge, hbel⟩⟩
  · rcases ho2.2 with ⟨e, _⟩ | ⟨g, cap, cur, e, _⟩
    · exact ⟨_, _, _, e⟩
    · exact ⟨_, _, _, e⟩
  · have := hB2.set 0 v2
    simpa only [List.set_cons_zero] using this
  · rw [fcells_append]
    exact (Chg.set ⟨q, 0, none⟩ v2 w2).owns ho2 (fun g hg e => hv2q (by have e2 : g = q := e; rw [hg, e2]))
  · intro k r' hk
    by_cases hkl : k < rs'.length
    · rw [List.getElem?_append_left hkl] at hk
      obtain ⟨r0, h1, h2, h3, h4⟩ := h.row k r' hk
      exact ⟨r0, h1, h2, ⟨off _ _ _ _ h3.row (by decide) (by decide), h3.byte, h3.le, h3.top⟩, h4⟩
    · rw [List.getElem?_append_right (by omega)] at hk
      rcases Nat.eq_zero_or_pos (k - rs'.length) with e | e
      · rw [e] at hk
        simp at hk
        subst hk
        have hki : k = i := by have := h.len; omega
        subst hki
        refine ⟨r, hr, rfl, ⟨off _ _ _ _ hO (by decide) (by decide), hrf.1, hrf.2.1, hrf.2.2⟩, fun g hg2 => ?_⟩
        have := hg g hg2
        have := h0.bel.size
        omega
      · rw [List.getElem?_eq_none (by simp; omega)] at hk
        cases hk
  · have old : ∀ (j : Nat) (x : Value × Fl) (b : Nat), j < rs'.length → rs'[j]? = some x → x.1.ownBlock = some b → b < wr.heap.size := by
      intro j x b hj hx hb
      obtain ⟨_, _, _, h3, _⟩ := h0.row j x hx
      exact (h3.row.lt b hb).2
    intro j k x y c hj hk hx hy
    by_cases hjl : j < rs'.length
    · rw [List.getElem?_append_left hjl] at hj
      by_cases hkl : k < rs'.length
      · rw [List.getElem?_append_left hkl] at hk
        exact h.dist j k x y c hj hk hx hy
      · rw [List.getElem?_append_right (by omega)] at hk
        rcases Nat.eq_zero_or_pos (k - rs'.length) with e | e
        · rw [e] at hk
          simp at hk
          subst hk
          have := old j x c hjl hj hx
          have := hg c hy
          omega
        · rw [List.getElem?_eq_none (by simp; omega)] at hk
          cases hk
    · rw [List.getElem?_append_right (by omega)] at hj
      rcases Nat.eq_zero_or_pos (j - rs'.length) with e | e
      · rw [e] at hj
        simp at hj
        subst hj
        by_cases hkl : k < rs'.length
        · rw [List.getElem?_append_left hkl] at hk
          have := old k y c hkl hk hy
          have := hg c hx
          omega
        · rw [List.getElem?_append_right (by omega)] at hk
          rcases Nat.eq_zero_or_pos (k - rs'.length) with e2 | e2
          · omega
          · rw [List.getElem?_eq_none (by simp; omega)] at hk
            cases hk
      · rw [List.getElem?_eq_none (by simp; omega)] at hj
        cases hj

theorem run_bld (w1 : World) (m c' : Nat) (a' : Option Addr) (la : Int) : (Instr.buildSlice 73 1 #[(0, .agg #[.slice a' m c', .int .i64 la])]).run Try.prog w1 = .ok (.slice (some ⟨w1.heap.size, 0, none⟩) 1 1) (w1.alloc (.cells #[.slice a' m c', .int .i64 la] 86)) := by
  kernel_rfl
theorem run_app0 (w1 : World) (ad : Option Addr) (m cc : Nat) (l : List Int) (hs : Sl w1 ad m l) (hno : ad = none → m = 0 ∧ cc = 0) (hm : m ≤ 16777216) : ∃ v' w', (Builtin.append_ #[27, 27] 27 #[.slice none 0 0, .slice ad m cc]).run Try.prog w1 = .ok v' w' ∧ w'.ownsRow 0 5 1 v' m (cells8 l) ∧ Below w1.heap.size w1 w' ∧ ∀ g, v'.ownBlock = some g → w1.heap.size ≤ g := by
  obtain ⟨i0, hi0, hz0, hz1, hz2⟩ := info_parts info5
  cases ad with
  | none =>
    obtain ⟨rfl, rfl⟩ := hno rfl
    have hl : l = [] := List.eq_nil_of_length_eq_zero hs.len
    subst hl
    exact ⟨.slice none 0 0, w1, run_append_owned_none (P := Try.prog) (w := w1) 0 27 27 5 i0 1 Try.underlying27 hi0 (.slice none 0 0) 0 [] (World.ownsRow_nil _ _ _ _), World.ownsRow_nil _ _ _ _, Below.refl _ _, fun g hg => by cases hg⟩
  | some x =>
    obtain ⟨v', w', hr, h1, h2, h3⟩ := run_appends (P := Try.prog) w1 27 27 5 i0 (.int .u8 0) Try.underlying27 hi0 hz0 hz1 hz2 rfl (.slice none 0 0) 0 [] (World.ownsRow_nil _ _ _ _) x m cc (cells8 l) (by rw [cells8_length, hs.len]) hs.cells (cells8_one l) (by omega)
    rw [Nat.zero_add, List.nil_append] at h1
    exact ⟨v', w', hr, h1, h2.bel_none (fun g hg => by cases hg), fun g hg => moved_ge h3 hg⟩

set_option maxRecDepth 10000 in
set_option maxHeartbeats 2000000 in
theorem copyR (p : Nat) (F : Nat → Prop) (S : St) (w : World) (h : Dk 75 86 w p F S) : Calls Try.prog 37 #[.pointer (some ⟨p, 0, none⟩)] w fun e w' => ∃ q F', e = .returned (.pointer (some ⟨q, 0, none⟩)) ∧ Dk 75 86 w' q F' S ∧ (∀ i, F' i → w.heap.size ≤ i) ∧ Below w.heap.size w w' := by
  obtain ⟨fb, fc, rs, set, ops, kv, kl, h, hL, hfu, rfl⟩ := h
  obtain ⟨ka, kc, hkv⟩ := owns_form h.keep
  subst hkv
  obtain ⟨kn, hkn⟩ : ∃ kn, kl.length = kn := ⟨_, rfl⟩
  obtain ⟨n, hn⟩ : ∃ n, rs.length = n := ⟨_, rfl⟩
  have h8 := h.n8
  have h1 := h.n1
  have HH := hidden h
  have HL := hidden hL
  have HFU := hidden hfu
  have HN := hidden hn
  have HKN := hidden hkn
  have hkb : kn ≤ 1099511627776 := by rw [← hkn]; exact h.klen
  rw [hn] at h8 h1
  have HD : Hid (∀ w1, Below w.heap.size w w1 → DR 75 86 w1 p fb fc rs S.on S.falls set ops (.slice ka kl.length kc) kl) := fun w1 hl => HH.out.chg (Chg.of_below (F := fun _ => False) hl) (fun _ _ h => h)
  clear h hL hfu hn hkn
  go_enter Try.func37, Try.ntmps37
  go_wp2_with fail
  refine copyr_r2 p S.on set (S.falls : Int) (ops : Int) ka kn kc kl _ _ _ (by rfl) (by rfl) (by rfl) (fun w1 hl => (HD.out w1 hl).blk.cell 1) (fun w1 hl => (HD.out w1 hl).blk.cell 2) (fun w1 hl => (HD.out w1 hl).blk.cell 3) (fun w1 hl => (HD.out w1 hl).blk.cell 4) (fun w1 hl => by have := (HD.out w1 hl).blk.cell 5; rw [HKN.out] at this; exact this) (fun w1 hl => by have := sn_of_owns (HD.out w1 hl).keep (HD.out w1 hl).kint; rw [HKN.out] at this; exact this) (by have := owns_none HH.out.keep; rw [HKN.out] at this; exact this) hkb ?_
  intros
  rename World => w5
  rename (∃ a c q, _) => hex
  rename Lat w w5 => hL5
  obtain ⟨a5, c5, q, rfl, hq0, hBq, hO5, hg5⟩ := hex
  have hCJ : CJ w w5 rs [] q (.slice none 0 0) (.slice a5 kn c5) kl S.on set (S.falls : Int) (ops : Int) 0 := ⟨hBq, World.ownsRow_nil _ _ _ _, fun g hg => (by cases hg), rfl, fun k r' hk => (by simp at hk), fun j k r s b hj => (by simp at hj), (by rw [HKN.out]; exact hO5), hg5, hq0, hL5⟩
  have HCJ := hidden hCJ
  clear hCJ hBq hO5 hg5 hL5 hq0
  simp only [Act.put, List.setIfInBounds_toArray, List.set_cons_succ, List.set_cons_zero]
  go_wp2_with fail
  go_loopw [5] (fun iv wr => ∃ (i : Nat) (rs' : List (Value × Fl)) (lva : Option Addr) (lvc : Nat), i ≤ n ∧ iv = .int .i64 (i : Int) ∧ CJ w wr rs rs' q (.slice lva i lvc) (.slice a5 kn c5) kl S.on set (S.falls : Int) (ops : Int) i) (fun iv _ => n - (intOf iv).toNat)
  case atStart => exact ⟨0, [], none, 0, Nat.zero_le _, rfl, HCJ.out⟩
  case round =>
    rename World => wr
    obtain ⟨i, rs', lva, lvc, hi, rfl, hC⟩ := hrel
    have HC := hidden hC
    clear hC HCJ
    have d0 : wr.cell? ⟨p, 0, none⟩ = some (.slice (some ⟨fb, 0, none⟩) n fc) := by have := (HD.out wr HC.out.bel).blk.cell 0; rw [HN.out] at this; exact this
    by_cases hin : i < n
    · obtain ⟨r, hr⟩ : ∃ r, rs[i]? = some r := ⟨_, List.getElem?_eq_getElem (by have := HN.out; omega)⟩
      have hR := HH.out.row i r hr
      obtain ⟨ad, c, hv⟩ := owns_form hR.row
      have HR := hidden hr
      have HRR := hidden hR
      have HV := hidden hv
      have htop := hR.top
      have HDW : Hid (∀ w1, Lat wr w1 → DR 75 86 w1 p fb fc rs S.on S.falls set ops (.slice ka kl.length kc) kl) := fun w1 hl => HD.out w1 (HC.out.bel.trans (hl.mono HC.out.bel.size))
      have hrow : ∀ w1, Lat wr w1 → w1.ownsRow 0 5 1 (.slice ad r.2.b.length c) r.2.b.length (cells8 r.2.b) := fun w1 hl => by have := ((HDW.out w1 hl).row i r HR.out).row; rw [HV.out] at this; exact this
      have HROW := hidden hrow
      have hno := owns_none (hrow wr (Lat.refl _))
      have HNO := hidden hno
      clear hr hR hv hrow hno
      go_wp2_with fail
      refine copyr_r7 p q fb n fc i r.2.b.length c i lvc ad lva (r.2.n : Int) r.2.b (fun a' c' v2 w2 => CJ w (w2.setCell ⟨q, 0, none⟩ v2) rs (rs' ++ [(.slice a' r.2.b.length c', r.2)]) q v2 (.slice a5 kn c5) kl S.on set (S.falls : Int) (ops : Int) (i + 1)) _ _ _ (by rfl) (by rfl) (by rfl) (by rfl) (by rfl) hin (by omega) h8 (fun w1 hl => (HC.out.later hl).blk.cell 0) (fun w1 hl => by have := (HDW.out w1 hl).blk.cell 0; rw [HN.out] at this; exact this) (fun w1 hl => by have := owns_cell (HDW.out w1 hl).files _ _ (fcells_row rs i r HR.out); rw [HV.out] at this; exact this) (fun w1 hl => owns_cell (HDW.out w1 hl).files _ _ (fcells_n rs i r HR.out)) (fun w1 hl => run_app0 w1 ad r.2.b.length c r.2.b (sl_of_owns (HROW.out w1 hl) HRR.out.byte) HNO.out htop) (fun w1 a' c' => run_bld w1 _ c' a' _) (fun w1 a' c' b hl hb hB hO hg => HC.out.step HR.out ⟨HRR.out.byte, HRR.out.le, HRR.out.top⟩ (by omega) hl hB hO hg) ?_
      intros
      rename CJ _ _ _ _ _ _ _ _ _ _ _ _ _ => hC2
      obtain ⟨z1, zn, z3, rfl⟩ : ∃ z1 zn z3, _ = Value.slice z1 zn z3 := by
        rcases hC2.lvo.2 with ⟨e, _⟩ | ⟨g, cap, cur, e, _⟩
        · exact ⟨_, _, _, e⟩
        · exact ⟨_, _, _, e⟩
      have hzn : zn = i + 1 := by
        rcases hC2.lvo.2 with ⟨e, e2⟩ | ⟨g, cap, cur, e, _⟩
        · omega
        · simp only [Value.slice.injEq] at e
          exact e.2.1
      subst hzn
      have HC2 := hidden hC2
      clear hC2
      simp only [Act.put, List.setIfInBounds_toArray, List.set_cons_succ, List.set_cons_zero]
      go_wp2_with fail
      refine ⟨⟨i + 1, _, z1, z3, by omega, by first | rfl | simp, HC2.out⟩, ?_⟩
      simp [intOf]
      omega
    · have hie : n ≤ i := by omega
      go_wp2_with fail
      go_ret
      have hin2 : i = n := by omega
      have hc := HC.out
      have hrl : rs'.length = rs.length := by rw [hc.len, HN.out, hin2]
      have hsn : rs'.map (·.2) = rs.map (·.2) := by
        apply List.ext_getElem?
        intro k
        rw [List.getElem?_map, List.getElem?_map]
        by_cases hk : k < rs'.length
        · obtain ⟨r, q1, q2, _⟩ := hc.row k rs'[k] (List.getElem?_eq_getElem hk)
          rw [List.getElem?_eq_getElem hk, q1]
          simp [q2]
        · rw [List.getElem?_eq_none (by omega), List.getElem?_eq_none (by omega)]
      obtain ⟨g, cap, hlv, _⟩ : ∃ g cap, (Value.slice lva i lvc) = .slice (some ⟨g, 0, none⟩) i cap ∧ True := by
        rcases hc.lvo.2 with ⟨_, e⟩ | ⟨g, cap, cur, e, _⟩
        · omega
        · exact ⟨g, cap, e, trivial⟩
      simp only [Value.slice.injEq] at hlv
      obtain ⟨rfl, _, rfl⟩ := hlv
      refine ⟨q, FPd q g rs' (.slice a5 kn c5), rfl, ⟨g, lvc, rs', set, ops, .slice a5 kn c5, kl, ⟨by rw [hc.len]; exact hc.blk, by rw [hc.len]; exact hc.lvo, fun k r' hk => (hc.row k r' hk).choose_spec.2.2.1, hc.dist, hc.kvo, HH.out.kint, HH.out.opsb, by rw [hrl]; exact HH.out.n8, by rw [hrl]; exact HH.out.n1, HH.out.klen⟩, by rw [HL.out, hsn], by rw [HFU.out, hrl], rfl⟩, ?_, hc.bel⟩
      rintro k (rfl | rfl | ⟨j, r', hj, hb⟩ | hb)
      · exact hc.qge
      · exact hc.lvb _ rfl
      · exact (hc.row j r' hj).choose_spec.2.2.2 k hb
      · exact hc.kvb k hb

end Go.Proofs.Ytgmcfejmhlglkaa
