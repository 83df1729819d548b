/-
  The law's opens.
-/
import Derived.Test.YtnfjhdedcnbdbaaWaD
namespace Go.Proofs.Ytnfjhdedcnbdbaa
open Go.RowKit
set_option linter.unusedVariables false
set_option linter.unusedSimpArgs false

set_option maxRecDepth 100000 in
theorem nilL (lo : Option Addr) (b : Bool) (h : lo = none ↔ b = true) (w : World) : (binOp .eql 29 (.pointer lo) (.pointer none)).run Try.prog w = .ok (.bool b) w := by
  cases lo with
  | none =>
    have : b = true := h.1 rfl
    subst this
    rfl
  | some a =>
    have : b = false := by cases b with | false => rfl | true => exact absurd (h.2 rfl) (by simp)
    subst this
    rfl
set_option maxRecDepth 100000 in
theorem nilM (lo : Option Addr) (b : Bool) (h : lo = none ↔ b = true) (w : World) : (binOp .eql 31 (.pointer lo) (.pointer none)).run Try.prog w = .ok (.bool b) w := by
  cases lo with
  | none =>
    have : b = true := h.1 rfl
    subst this
    rfl
  | some a =>
    have : b = false := by cases b with | false => rfl | true => exact absurd (h.2 rfl) (by simp)
    subst this
    rfl
theorem Wrt.chg {F : Nat → Prop} {A A' : World} {sa : Option Addr} {n : Nat} (h : Wrt A sa n) (hc : Chg F A A') (hF : ∀ z, sa = some z → 0 < n → ¬ F z.block) : Wrt A' sa n := by
  intro j hj
  obtain ⟨g, off, u, h1, h2, h3⟩ := h j hj
  have hg : A'.heap[g]? = A.heap[g]? := hc.block g (World.block_lt_of_cell? A _ h2) (hF _ h1 (by omega))
  refine ⟨g, off, u, h1, ?_, ?_⟩
  · rw [World.cell?_of_block (a := ⟨g, off + j, none⟩) hg]
    exact h2
  · rw [World.frozen?_of_block (a := ⟨g, off + j, none⟩) hg]
    exact h3
theorem Wrt.set {A : World} {sa : Option Addr} {n : Nat} (h : Wrt A sa n) (g i : Nat) (v : Value) : Wrt (A.setCell ⟨g, i, none⟩ v) sa n := by
  intro j hj
  obtain ⟨g', off, u, h1, h2, h3⟩ := h j hj
  obtain ⟨v', hv'⟩ := cell?_setCell_some (p := ⟨g, i, none⟩) (x := v) h2
  exact ⟨g', off, v', h1, hv', by rw [World.frozen?_setCell]; exact h3⟩
theorem Out.chg {F : Nat → Prop} {A A' : World} {st : List Int} {recs : List (List Int)} {sa : Option Addr} {sn : Nat} {ra : Option Addr} {rc : Nat} {r : List El} (h : Out A st recs sa sn ra rc r) (hc : Chg F A A') (h1 : ∀ g, OW sa sn r g → ¬ F g) (h2 : ∀ g, (Value.slice ra r.length rc).ownBlock = some g → ¬ F g) : Out A' st recs sa sn ra rc r := by
  refine ⟨hc.sl h.ss (fun z hz hp => h1 _ (.inl ⟨z, hz, hp, rfl⟩)), h.sw.chg hc (fun z hz hp => h1 _ (.inl ⟨z, hz, hp, rfl⟩)), h.rl, hc.owns h.rr h2, fun y hy => (h.rx y hy).chg hc (fun g hg => h1 g (.inr ⟨y, hy, hg⟩)), h.ap, h.sap, h.eq, fun z hz hp => ?_⟩
  have hlt := h.ss.lt z hz hp
  have hb := hc.block z.block hlt (h1 _ (.inl ⟨z, hz, hp, rfl⟩))
  obtain ⟨cs, fr, hh⟩ := h.tg z hz hp
  exact ⟨cs, fr, by rw [hb]; exact hh⟩

theorem finS_len {S : St} {i : Nat} {a : Hd × List Int} {f : Fnd} (hb : ∀ i, Byte (S.file i)) (hl : ∀ i, (S.file i).length ≤ 16777216) (ha : headAt (S.file i) = some a) (h : finS S i a = .ok f) : f.state.length ≤ 16777216 ∧ f.recs.length ≤ 16777216 ∧ ∀ r ∈ f.recs, r.length ≤ 16777216 := by
  unfold finS at h
  split at h
  · simp only [Except.ok.injEq] at h
    subst h
    obtain ⟨a1, a2⟩ := a
    have q1 := (headAt_lt (hb i) ha).2.2
    have q2 := fsz_len (frames (S.file i))
    have q3 := fsz_le (S.file i)
    have q4 := hl i
    refine ⟨by show a2.length ≤ _; omega, ?_, fun r hr => ?_⟩
    · show ((frames (S.file i)).tail.map (·.2)).length ≤ _
      rw [List.length_map, List.length_tail]
      omega
    · have hr' : r ∈ (frames (S.file i)).tail.map (·.2) := hr
      obtain ⟨x, hx, rfl⟩ := List.mem_map.1 hr'
      have := (frames_byte (hb i) x (List.mem_of_mem_tail hx)).2.2.2
      omega
  · cases h
theorem tell_len {S : St} (hb : ∀ i, Byte (S.file i)) (hl : ∀ i, (S.file i).length ≤ 16777216) : (tS S.opens.1).length ≤ 16777216 ∧ (tR S.opens.1).length ≤ 16777216 ∧ ∀ r ∈ tR S.opens.1, r.length ≤ 16777216 := by
  cases h : S.opens.1 with
  | error e => exact ⟨Nat.zero_le _, Nat.zero_le _, fun r hr => (by cases hr)⟩
  | ok f =>
    have h := opens_ok_find h
    show f.state.length ≤ _ ∧ f.recs.length ≤ _ ∧ ∀ r ∈ f.recs, r.length ≤ _
    unfold St.find at h
    split at h
    · cases h
    · split at h
      · cases h
      · cases h0 : headAt (S.file 0) with
        | none =>
          cases h1 : headAt (S.file 1) with
          | none => rw [h0, h1] at h; cases h
          | some b => rw [h0, h1] at h; exact finS_len hb hl h1 h
        | some a =>
          cases h1 : headAt (S.file 1) with
          | none => rw [h0, h1] at h; exact finS_len hb hl h0 h
          | some b =>
            rw [h0, h1] at h
            simp only at h
            split at h
            · cases h
            · split at h
              · exact finS_len hb hl h1 h
              · exact finS_len hb hl h0 h
theorem Wrt.row {A : World} {B : Nat} {a : Option Addr} {n c : Nat} {xs : List Int} (h : A.ownsRow B 5 1 (.slice a n c) n (cells8 xs)) : Wrt A a n := by
  intro j hj
  obtain ⟨g, hg⟩ := owns_addr h (by omega)
  have hl := h.1
  rw [cells8_length] at hl
  rw [hg] at h
  refine ⟨g, 0, .int .u8 (xs.getD j 0), hg, ?_, owns_frozen h _⟩
  rw [Nat.zero_add]
  exact owns_cell h j _ (by simp [cells8, List.getD, show j < xs.length by omega])

set_option maxRecDepth 100000 in
set_option maxHeartbeats 4000000 in
theorem opensP (wp p x : Nat) (F G : Nat → Prop) (S : St) (lv mv : Value) (w : World) (h : WW w wp p x F G S lv mv) (hf : S.falls ≤ 1099511627776) (hfl : ∀ i, (S.file i).length ≤ 1048576) :
    Calls Try.prog 9 #[.pointer (some ⟨wp, 0, none⟩)] w fun e w' => e = .returned (.bool true) ∧ ∃ F' G' lo mo, WW w' wp p x F' G' S.opens.2 (.pointer lo) (.pointer mo) ∧ Chg (fun i => F i ∨ G i ∨ i = wp) w w' ∧ New w F F' ∧ New w G G' := by
  have H := hidden h
  have HF := hidden hf
  have HFL := hidden hfl
  have HBY : Hid (∀ i, Byte (S.file i)) := fun i => (file_len h.d i).2
  have HTB := hidden (tell_byte HBY.out)
  have a0 : w.cell? ⟨wp, 0, none⟩ = some (.pointer (some ⟨p, 0, none⟩)) := h.b.cell 0
  clear h hf hfl
  go_enter Try.func9, Try.ntmps9
  go_wp2_with fail
  refine open_walk p F S w H.out.d HF.out _ ?_
  intro e w1 hO
  obtain ⟨F1, k1, c1, n1, lo, sa, sc, ra, rc, r, rfl, hlo, hout, how⟩ := hO.out HBY.out
  have HK1 := hidden k1
  have HC1 := hidden c1
  have HN1 := hidden n1
  have HOUT1 := hidden hout
  have HOW := hidden how
  have HLO := hidden hlo
  clear hO k1 c1 n1 hout how hlo a0
  have HB1 := hidden (HC1.out.blk H.out.b H.out.nf.1)
  have HX1 := hidden (H.out.r.chg HC1.out (fun i hi hF => H.out.ap i hF hi))
  have a2 : w1.cell? ⟨wp, 2, none⟩ = some (.pointer (some ⟨x, 0, none⟩)) := HB1.out.cell 2
  go_wp2_with fail
  refine ropen_walk x G S w1 HX1.out HF.out HFL.out _ ?_
  intro e w2 hO
  obtain ⟨G2, k1, c1, n1, mo, ta, tc, qa, qc, r2, rfl, hmo, hout, hg1, hg2, hg3⟩ := hO.out HBY.out
  have HK2 := hidden k1
  have HC2 := hidden c1
  have HN2 := hidden n1
  have HOUTQ := hidden hout
  have HMO := hidden hmo
  have HG1 := hidden hg1
  have HG2 := hidden hg2
  have HG3 := hidden hg3
  clear hO k1 c1 n1 hout hmo a2 hg1 hg2 hg3
  have HGL : Hid (∀ i, G i → i < w.heap.size) := H.out.r.lt
  have HOWG : Hid (∀ g, OW sa (tS S.opens.1).length r g → ¬ G g) := fun g hg k => by
    have := HGL.out g k
    have := (HOW.out g hg).1
    omega
  have HRVG : Hid (∀ g, (Value.slice ra r.length rc).ownBlock = some g → ¬ G g) := fun g hg k => by
    have ht := owns_tg HOUT1.out.rr g hg
    rcases HX1.out.tg g k with q | q | q | q <;> exact absurd (ht.one q) (by decide)
  have HOUT := hidden (HOUT1.out.chg HC2.out HOWG.out HRVG.out)
  have HB2 := hidden (HC2.out.blk HB1.out H.out.nf.2)
  have HD2 : Hid (Dk 71 66 w2 p F1 S.opens.2) := HK1.out.chg HC2.out (fun i hi k => by
    rcases HN1.out i hi with f | f
    · exact H.out.ap i f k
    · have := HGL.out i k; omega)
  have HOW2 : Hid (∀ g, OW sa (tS S.opens.1).length r g → w.heap.size ≤ g ∧ g < w1.heap.size ∧ ¬ F1 g ∧ ¬ G2 g ∧ g ≠ wp) := fun g hg => by
    obtain ⟨q1, q2, q3⟩ := HOW.out g hg
    refine ⟨q1, q2, q3, fun k => ?_, fun k => ?_⟩
    · rcases HN2.out g k with f | f
      · have := HGL.out g f; omega
      · omega
    · have := H.out.b.lt
      omega
  have HAP2 : Hid (∀ i, F1 i → ¬ G2 i) := fun i hi k => by
    rcases HN2.out i k with f | f
    · rcases HN1.out i hi with q | q
      · exact H.out.ap i q f
      · have := HGL.out i f; omega
    · have := HK1.out.lt i hi; omega
  have HSB := hidden HTB.out.1
  have HRB := hidden HTB.out.2
  have hcv1 := convS (cap := sc) HOUT.out.ss
  have hcv2 := convS (cap := tc) HOUTQ.out.ss
  have hp1 := nilL lo _ HLO.out
  have hp2 := nilM mo _ HMO.out
  have hrl := HOUT.out.rl
  have hql := HOUTQ.out.rl
  have HSBD : Hid ((tS S.opens.1).length ≤ 16777216 ∧ (tR S.opens.1).length ≤ 16777216 ∧ ∀ r ∈ tR S.opens.1, r.length ≤ 16777216) := tell_len HBY.out (fun i => by have := HFL.out i; omega)
  generalize tS S.opens.1 = st at *
  generalize tR S.opens.1 = recs at *
  generalize tE S.opens.1 = er at *
  generalize tN S.opens.1 = bn at *
  obtain ⟨sn, hsn⟩ : ∃ sn, st.length = sn := ⟨_, rfl⟩
  obtain ⟨m, hm⟩ : ∃ m, recs.length = m := ⟨_, rfl⟩
  rw [hsn] at HOUT HOUTQ HOW2 hcv1 hcv2 HG3 HSBD ⊢
  rw [hm] at hrl hql HSBD ⊢
  have hsb1 := HSBD.out.1
  have hsb2 := HSBD.out.2.1
  have HRLN := hidden HSBD.out.2.2
  have HSN := hidden hsn
  have HOWT : Hid (∀ g, OW sa sn r g → Tg w2 g 5) := by
    rintro g (⟨z, hz, hp, rfl⟩ | ⟨y, hy, hg⟩)
    · exact HOUT.out.tg z hz hp
    · exact owns_tg (HOUT.out.rx y hy).2 g hg
  have HRL := hidden hrl
  have HQL := hidden hql
  clear hsn hm hrl hql HLO HMO HOUT1 HOW HOWG HRVG HTB HSBD
  go_wp2_with fail
  go_loopw [2, 11] (fun v2 v11 wr => v2 = .bool false ∧ ∃ i : Nat, i ≤ m ∧ v11 = .int .i64 (i : Int) ∧ Below w2.heap.size w2 wr) (fun v2 v11 _ => m - (intOf v11).toNat)
  case atStart => exact ⟨rfl, 0, Nat.zero_le _, rfl, Below.refl _ _⟩
  case round =>
    obtain ⟨rfl, i, hi, rfl, hbel⟩ := hrel
    have HL : Hid (Lat w2 wr) := hbel
    clear hbel
    by_cases hlt : i < m
    · have hlt' : (i : Int) < (m : Int) := by omega
      obtain ⟨y, hy⟩ : ∃ y, r[i]? = some y := ⟨_, List.getElem?_eq_getElem (by have := HRL.out; omega)⟩
      obtain ⟨y2, hy2⟩ : ∃ y2, r2[i]? = some y2 := ⟨_, List.getElem?_eq_getElem (by have := HQL.out; omega)⟩
      obtain ⟨⟨a1, c1, hv1⟩, ho1⟩ := HOUT.out.rx y (List.mem_of_getElem? hy)
      obtain ⟨⟨a2, c2, hv2⟩, ho2⟩ := HOUTQ.out.rx y2 (List.mem_of_getElem? hy2)
      have hyy : y.2.2 = y2.2.2 := by
        have q1 : recs[i]? = some y.2.2 := by rw [HOUT.out.eq, List.getElem?_map, hy]; rfl
        have q2 : recs[i]? = some y2.2.2 := by rw [HOUTQ.out.eq, List.getElem?_map, hy2]; rfl
        rw [q1] at q2
        exact Option.some.inj q2
      have hbb : Byte y.2.2 := HRB.out _ (by rw [HOUT.out.eq]; exact List.mem_map.2 ⟨y, List.mem_of_getElem? hy, rfl⟩)
      obtain ⟨ga, hga⟩ := owns_addr (by have q := HOUT.out.rr; rw [← HRL.out] at q; exact q) (by omega : 0 < m)
      obtain ⟨gb, hgb⟩ := owns_addr (by have q := HOUTQ.out.rr; rw [← HQL.out] at q; exact q) (by omega : 0 < m)
      have z1 : w2.cell? ⟨ga, i, none⟩ = some (.slice a1 y.2.2.length c1) := by
        have q := HOUT.out.rr
        rw [hga] at q
        exact owns_cell q i _ (by rw [List.getElem?_map, hy]; simp [hv1])
      have z2 : w2.cell? ⟨gb, i, none⟩ = some (.slice a2 y2.2.2.length c2) := by
        have q := HOUTQ.out.rr
        rw [hgb] at q
        exact owns_cell q i _ (by rw [List.getElem?_map, hy2]; simp [hv2])
      rw [hv1] at ho1
      rw [hv2] at ho2
      have cg : ∀ {w3 : World}, Lat wr w3 → Chg (fun _ => False) w2 w3 := fun h => Chg.of_below (Lat.trans _ _ _ HL.out h)
      go_wp2_with fail
      refine opens_r8 ga gb m rc qc i y.2.2.length c1 y2.2.2.length c2 a1 a2 (strOfNums y.2.2) wr _ _ (by rfl) (by show Value.slice ra m rc = _; rw [hga]) (by show Value.slice qa m qc = _; rw [hgb]) (by rfl) hlt (fun w3 hL => (cg hL).cellS z1 (fun h => h)) (fun w3 hL => (cg hL).cellS z2 (fun h => h)) (fun w3 hL => convS (sl_of_owns ((cg hL).owns ho1 (fun _ _ h => h)) hbb)) (fun w3 hL => by rw [hyy]; exact convS (sl_of_owns ((cg hL).owns ho2 (fun _ _ h => h)) (hyy ▸ hbb))) ?_
      intros
      rename_i w3 hL3
      simp only [Act.put, List.setIfInBounds_toArray, List.set_cons_succ, List.set_cons_zero]
      have HL3 := hidden (Lat.trans _ _ _ HL.out hL3)
      clear z1 z2 ho1 ho2 hv1 hv2 hyy hbb hga hgb hy hy2 hL3
      go_wp2_with fail
      exact ⟨⟨rfl, i + 1, by omega, by simp, HL3.out⟩, by simp [intOf]; omega⟩
    · have hlt' : ¬ (i : Int) < (m : Int) := by omega
      rename World => wa
      go_wp2_with fail
      go_loopw [12] (fun v12 wr => ∃ i : Nat, i ≤ sn ∧ v12 = .int .i64 (i : Int) ∧ Chg (fun g => ∃ z, sa = some z ∧ 0 < sn ∧ z.block = g) w2 wr ∧ Wrt wr sa sn) (fun v12 _ => sn - (intOf v12).toNat)
      case atStart => exact ⟨0, Nat.zero_le _, rfl, Chg.of_below HL.out, HOUT.out.sw.chg (Chg.of_below (F := fun _ => False) HL.out) (fun _ _ _ h => h)⟩
      case round =>
        obtain ⟨k, hk, rfl, hch, hwr⟩ := hrel
        have HCH := hidden hch
        have HWR := hidden hwr
        clear hch hwr
        by_cases hks : k < sn
        · obtain ⟨g, off, u, hsa, hcell, hfrz⟩ := HWR.out k hks
          subst hsa
          have hks' : (k : Int) < (sn : Int) := by omega
          go_wp2_with fail
          refine ⟨⟨k + 1, by omega, by simp, HCH.out.trans (Chg.set _ _ _) (fun i _ h => ⟨_, rfl, by omega, h.symm⟩), HWR.out.set _ _ _⟩, by simp [intOf]; omega⟩
        · have hks' : ¬ (k : Int) < (sn : Int) := by omega
          rename World => wb
          go_wp2_with fail
          go_loopw [2, 13, 14] (fun v2 v13 v14 wr => v2 = .bool false ∧ ∃ i : Nat, i ≤ m ∧ v13 = .int .i64 (i : Int) ∧ Chg (OW sa sn r) w2 wr ∧ ∀ j y, i ≤ j → r[j]? = some y → RowX 0 wr y) (fun v2 v13 v14 _ => m - (intOf v13).toNat)
          case atStart =>
            refine ⟨rfl, 0, Nat.zero_le _, rfl, HCH.out.mono (fun i _ h => .inl h), fun j y _ hy => (HOUT.out.rx y (List.mem_of_getElem? hy)).chg HCH.out ?_⟩
            rintro g hg ⟨z, hz, hp, rfl⟩
            exact HOUT.out.sap y (List.mem_of_getElem? hy) z hz hp hg
          case round =>
            obtain ⟨rfl, i, hi, rfl, hch, hrw⟩ := hrel
            have HC3 := hidden hch
            have HRW := hidden hrw
            clear hch hrw
            by_cases hlt : i < m
            · have hlt' : (i : Int) < (m : Int) := by omega
              obtain ⟨y, hy⟩ : ∃ y, r[i]? = some y := ⟨_, List.getElem?_eq_getElem (by have := HRL.out; omega)⟩
              obtain ⟨y2, hy2⟩ : ∃ y2, r2[i]? = some y2 := ⟨_, List.getElem?_eq_getElem (by have := HQL.out; omega)⟩
              obtain ⟨⟨a1, c1, hv1⟩, ho1⟩ := HRW.out i y (Nat.le_refl _) hy
              have HY := hidden hy
              have HV1 := hidden hv1
              obtain ⟨⟨a2, c2, hv2⟩, ho2⟩ := (HOUTQ.out.rx y2 (List.mem_of_getElem? hy2)).chg HC3.out (fun g hg k => by
                have q1 := HG1.out y2 (List.mem_of_getElem? hy2) g hg
                have q2 := (HOW2.out g k).2.1
                omega)
              have hyy : y.2.2 = y2.2.2 := by
                have q1 : recs[i]? = some y.2.2 := by rw [HOUT.out.eq, List.getElem?_map, hy]; rfl
                have q2 : recs[i]? = some y2.2.2 := by rw [HOUTQ.out.eq, List.getElem?_map, hy2]; rfl
                rw [q1] at q2
                exact Option.some.inj q2
              have hbb : Byte y.2.2 := HRB.out _ (by rw [HOUT.out.eq]; exact List.mem_map.2 ⟨y, List.mem_of_getElem? hy, rfl⟩)
              obtain ⟨ga, hga⟩ := owns_addr (by have q := HOUT.out.rr; rw [← HRL.out] at q; exact q) (by omega : 0 < m)
              obtain ⟨gb, hgb⟩ := owns_addr (by have q := HOUTQ.out.rr; rw [← HQL.out] at q; exact q) (by omega : 0 < m)
              subst hga hgb
              have HTA : Hid (Tg w2 ga 22) := owns_tg HOUT.out.rr ga rfl
              have HNA : Hid (¬ OW sa sn r ga) := fun k => absurd ((HOWT.out ga k).one HTA.out) (by decide)
              have z1 : wr.cell? ⟨ga, i, none⟩ = some (.slice a1 y.2.2.length c1) := by
                have q := HC3.out.owns HOUT.out.rr (fun g hg k => by cases hg; exact HNA.out k)
                exact owns_cell q i _ (by rw [List.getElem?_map, hy]; simp [hv1])
              have z2 : wr.cell? ⟨gb, i, none⟩ = some (.slice a2 y2.2.2.length c2) := by
                have q := HC3.out.owns HOUTQ.out.rr (fun g hg k => by
                  have q1 := HG2.out g hg
                  have q2 := (HOW2.out g k).2.1
                  omega)
                exact owns_cell q i _ (by rw [List.getElem?_map, hy2]; simp [hv2])
              rw [hv1] at ho1
              rw [hv2] at ho2
              have cg : ∀ {w3 : World}, Lat wr w3 → Chg (fun _ => False) wr w3 := fun h => Chg.of_below h
              go_wp2_with fail
              refine opens_r17 ga gb m rc qc i y.2.2.length c1 y2.2.2.length c2 a1 a2 (strOfNums y.2.2) wr _ _ (by rfl) (by rfl) (by rfl) (by rfl) hlt (fun w3 hL => (cg hL).cellS z1 (fun h => h)) (fun w3 hL => (cg hL).cellS z2 (fun h => h)) (fun w3 hL => convS (sl_of_owns ((cg hL).owns ho1 (fun _ _ h => h)) hbb)) (fun w3 hL => by rw [hyy]; exact convS (sl_of_owns ((cg hL).owns ho2 (fun _ _ h => h)) (hyy ▸ hbb))) ?_
              intros
              rename_i w3 hL3
              simp only [Act.put, List.setIfInBounds_toArray, List.set_cons_succ, List.set_cons_zero]
              have HL3 := hidden hL3
              have HWR3 := hidden (Wrt.row ((cg hL3).owns ho1 (fun _ _ h => h)))
              have hq1 : Tg wr ga 22 := owns_tg (HC3.out.owns HOUT.out.rr (fun g hg k => by cases hg; exact HNA.out k)) ga rfl
              have HYT : Hid (y.2.1.ownBlock ≠ some ga) := fun k => absurd ((owns_tg ho1 ga (by rw [← hv1]; exact k)).one hq1) (by decide)
              have HZ : Hid (∀ w', Chg (fun g => y.2.1.ownBlock = some g) w3 w' → w'.cell? ⟨ga, i, none⟩ = some (.slice a1 y.2.2.length c1)) := fun w' h => h.cellS ((cg hL3).cellS z1 (fun h => h)) HYT.out
              have HLN : Hid (y.2.2.length ≤ 16777216) := HRLN.out _ (by rw [HOUT.out.eq]; exact List.mem_map.2 ⟨y, List.mem_of_getElem? HY.out, rfl⟩)
              obtain ⟨n1, hn1⟩ : ∃ n1, y.2.2.length = n1 := ⟨_, rfl⟩
              rw [hn1] at HWR3 HZ HV1 HLN
              have hnb := HLN.out
              clear z1 z2 ho1 ho2 hv1 hv2 hyy hbb hy hy2 hL3 cg hq1 hn1
              go_wp2_with fail
              go_loopw [14] (fun v14 wr' => ∃ k : Nat, k ≤ n1 ∧ v14 = .int .i64 (k : Int) ∧ Chg (fun g => y.2.1.ownBlock = some g) w3 wr' ∧ Wrt wr' a1 n1) (fun v14 _ => n1 - (intOf v14).toNat)
              case atStart => exact ⟨0, Nat.zero_le _, rfl, Chg.refl _ _, HWR3.out⟩
              case round =>
                obtain ⟨k, hk, rfl, hch, hwr⟩ := hrel
                rename World => wc
                have HCH4 := hidden hch
                have HWR4 := hidden hwr
                clear hch hwr
                have z1 := HZ.out _ HCH4.out
                by_cases hkn : k < n1
                · obtain ⟨g, off, u, hsa, hcell, hfrz⟩ := HWR4.out k hkn
                  have hkn' : (k : Int) < (n1 : Int) := by omega
                  subst hsa
                  go_wp2_with fail
                  exact ⟨⟨k + 1, by omega, by simp, HCH4.out.trans (Chg.set _ _ _) (fun i _ h => by rw [HV1.out, h]; rfl), HWR4.out.set _ _ _⟩, by simp [intOf]; omega⟩
                · have hkn' : ¬ (k : Int) < (n1 : Int) := by omega
                  go_wp2_with fail
                  refine ⟨⟨rfl, i + 1, by omega, by simp, (HC3.out.trans (Chg.of_below (F := fun _ => False) HL3.out) (fun _ _ h => h.elim)).trans HCH4.out (fun g _ h => .inr ⟨y, List.mem_of_getElem? HY.out, h⟩), fun j y' hj hy' => ?_⟩, by simp [intOf]; omega⟩
                  refine ((HRW.out j y' (by omega) hy').chg (Chg.of_below (F := fun _ => False) HL3.out) (fun _ _ h => h)).chg HCH4.out (fun g hg k => ?_)
                  exact List.pairwise_iff_getElem.1 HOUT.out.ap i j (List.getElem?_eq_some_iff.1 HY.out).1 (List.getElem?_eq_some_iff.1 hy').1 (by omega) g (by rw [(List.getElem?_eq_some_iff.1 HY.out).2]; exact k) (by rw [(List.getElem?_eq_some_iff.1 hy').2]; exact hg)
            · have hlt' : ¬ (i : Int) < (m : Int) := by omega
              have HB3 := hidden (HC3.out.blk HB2.out (fun k => (HOW2.out _ k).2.2.2.2 rfl))
              have b1 : wr.cell? ⟨wp, 1, none⟩ = some lv := HB3.out.cell 1
              have b3 : wr.cell? ⟨wp, 3, none⟩ = some mv := HB3.out.cell 3
              have f1 := HB3.out.frozen 1
              have f3 := HB3.out.frozen 3
              go_wp2_with fail
              go_ret
              have HB4 := (HB3.out.set 1 (.pointer lo)).set 3 (.pointer mo)
              have hcF : Chg (fun i => OW sa sn r i ∨ i = wp) w2 ((wr.setCell ⟨wp, 1, none⟩ (.pointer lo)).setCell ⟨wp, 3, none⟩ (.pointer mo)) :=
                ((HC3.out.mono (fun i _ h => .inl h)).trans (Chg.set _ _ _) (fun i _ h => .inr h)).trans (Chg.set _ _ _) (fun i _ h => .inr h)
              have nf1 : ¬ F1 wp := fun k => by
                rcases HN1.out _ k with f | f
                · exact H.out.nf.1 f
                · have := H.out.b.lt; omega
              have nf2 : ¬ G2 wp := fun k => by
                rcases HN2.out _ k with f | f
                · exact H.out.nf.2 f
                · have := HB1.out.lt; omega
              refine ⟨rfl, F1, G2, ⟨lo, mo, ⟨HB4, HD2.out.chg hcF (fun i hi k => ?_), HK2.out.chg hcF (fun i hi k => ?_), HAP2.out⟩⟩, ?_, HN1.out, HN2.out.up HC1.out.size⟩
              · rcases k with k | rfl
                · exact (HOW2.out i k).2.2.1 hi
                · exact nf1 hi
              · rcases k with k | rfl
                · exact (HOW2.out i k).2.2.2.1 hi
                · exact nf2 hi
              · refine ((HC1.out.mono (fun i _ h => .inl h)).trans HC2.out (fun i _ h => .inr (.inl h))).trans hcF (fun i hi h => ?_)
                rcases h with h | rfl
                · have := (HOW2.out i h).1
                  omega
                · exact .inr (.inr rfl)

end Go.Proofs.Ytnfjhdedcnbdbaa
