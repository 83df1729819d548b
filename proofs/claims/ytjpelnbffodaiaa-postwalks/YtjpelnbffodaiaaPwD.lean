/-
  The document's Walk.
-/
import Derived.Test.YtjpelnbffodaiaaPwC
namespace Go.Proofs.Ytjpelnbffodaiaa
open Go Go.RowKit
set_option linter.unusedVariables false
set_option linter.unusedSimpArgs false

def cellsI (l : List Nat) : List Value := l.map (fun n : Nat => Value.int .i64 (n : Int))
theorem cellsI_length (l : List Nat) : (cellsI l).length = l.length := by simp [cellsI]
theorem cellsI_append (l m : List Nat) : cellsI (l ++ m) = cellsI l ++ cellsI m := by simp [cellsI]
theorem info3 : (Try.prog.info? 3).map (fun i => (i.zero, i.size, i.bytes)) = some (some (.int .i64 0), 1, 8) := by kernel_rfl
theorem wpList_pushI (w : World) {ops : Array Oper} {rest : List Oper} {o : Oper} {a : Act} {Q : Exit → Act → World → Prop} (hgd : o.guard = none) (s x : Operand)
    (ho : o.op = .call { callee := .builtin .append, args := #[s, x], argTypes := #[34, 34] }) (base : Nat) (v : Value) (n : Nat) (xs : List Nat) (hs : a.eval s = v) (w0 : World) (hown : w0.ownsRow base 3 1 v n (cellsI xs)) (p : Nat) (pz : Int) (hp : pz = (p : Int))
    (hw : w = w0.alloc (.cells #[.int .i64 pz] 3)) (hx : a.eval x = .slice (some ⟨w0.heap.size, 0, none⟩) 1 1) (hn : n ≤ 1000000000) (hbase : base ≤ w0.heap.size)
    (h : ∀ g' c' w', w'.ownsRow base 3 1 (.slice (some ⟨g', 0, none⟩) (n + 1) c') (n + 1) (cellsI (xs ++ [p])) → (w0.heap.size ≤ g' ∨ v.ownBlock = some g') → Chg (fun i => v.ownBlock = some i) w0 w' → wpList Try.prog ops Q rest (a.put o.dst (.slice (some ⟨g', 0, none⟩) (n + 1) c')) w') : wpList Try.prog ops Q (o :: rest) a w := by
  subst hp hw
  obtain ⟨i, hi, hz, hsize, hby⟩ := info_parts info3
  have hal : (w0.alloc (.cells #[.int .i64 (p : Int)] 3)).ownsRow base 3 1 v n (cellsI xs) := hown.alloc _
  refine wpList_push _ hgd s x 34 ho 3 i _ 8 Try.underlying34 hi hz hsize hby rfl base v n (cellsI xs) hs hal ⟨w0.heap.size, 0, none⟩ (.int .i64 (p : Int)) hx (by rw [World.cell?_alloc_mark]; rfl) rfl (by unfold maxLen; omega) (by omega) (by simp; omega) ?_
  intro g' c' w' ho' hp'
  have hc := Pushed.chg hp'
  refine h g' c' w' (by rw [cellsI_append]; exact ho') ?_ hc.1
  rcases hc.2 with h1 | ⟨g, h1, h2⟩
  · exact .inr h1.symm
  · injection h1 with h1
    subst h1
    exact .inl h2
/-- A push is a change of what is owned alone. -/
theorem own_chg_below {w w' : World} {base : Nat} {e : TypeId} {size : Nat} {v : Value} {n : Nat} {xs : List Value} (hO : w.ownsRow base e size v n xs) (hb : base ≤ w.heap.size) (h : Chg (fun i => v.ownBlock = some i) w w') : Below base w w' :=
  h.below hb (fun i hi => by
    rcases hO.2 with ⟨rfl, _⟩ | ⟨g', cap, cur, rfl, hbb, _⟩
    · cases hi
    · obtain rfl : g' = i := by simpa [Value.ownBlock] using hi
      exact hbb)

theorem inMany_next {ls : List (List Nat)} {i : Nat} {l : List Nat} (h : ls[i]? = some l) (x : Nat) : inMany (ls.take (i + 1)) x = inMany (ls.take i) x + (if x ∈ l then 1 else 0) := by
  rw [List.take_add_one, h]
  exact inMany_snoc _ _ _
theorem union_next {ls : List (List Nat)} {i : Nat} {l : List Nat} (h : ls[i]? = some l) : unionF (ls.take (i + 1)) = orF (unionF (ls.take i)) l := by
  rw [List.take_add_one, h]
  exact unionF_snoc _ _
theorem inMany_le (ls : List (List Nat)) (x : Nat) : inMany ls x ≤ ls.length := List.length_filter_le _ _
theorem union_len (xs : List Lst) (i : Nat) (hS : lensum xs ≤ 40000) (hl : ∀ x ∈ xs, x.2.2.2.length = x.2.1) : (unionF (lss (xs.take i))).length ≤ 40000 := by
  have h1 := unionF_len (lss (xs.take i)) []
  have h2 : ∀ ys : List Lst, (∀ x ∈ ys, x.2.2.2.length = x.2.1) → (lss ys).flatten.length = lensum ys := by
    intro ys
    induction ys with
    | nil => intro _; rfl
    | cons y ys ih =>
      intro h
      have e1 := ih (fun x hx => h x (by simp [hx]))
      have e2 := h y (by simp)
      simp only [lss, lensum, List.map_cons, List.flatten_cons, List.length_append, List.sum_cons] at e1 ⊢
      omega
  have h3 := h2 (xs.take i) (fun x hx => hl x (List.mem_of_mem_take hx))
  have h4 := lensum_le xs i
  have h5 : (unionF (lss (xs.take i))).length ≤ ([] : List Nat).length + (lss (xs.take i)).flatten.length := h1
  simp only [List.length_nil, Nat.zero_add] at h5
  omega
theorem lsw_len {w : World} {ad : Option Addr} {xs : List Lst} (h : Lsw w ad xs) : ∀ x ∈ xs, x.2.2.2.length = x.2.1 := fun x hx => by
  obtain ⟨i, hi⟩ := List.mem_iff_getElem?.1 hx
  exact (h i x hi).2.sw.len

/-- What the document's Walk tells: two rows. -/
def WantV (w0 w : World) (v1 v2 : Value) (L : List (Nat × Nat)) : Prop :=
  ∃ ao co am cm, v1 = .slice ao L.length co ∧ v2 = .slice am L.length cm ∧ w.ownsRow w0.heap.size 23 1 (.slice ao L.length co) L.length (cells32 (L.map Prod.fst)) ∧
    w.ownsRow w0.heap.size 3 1 (.slice am L.length cm) L.length (cellsI (L.map Prod.snd)) ∧ Wrd (L.map Prod.fst)

set_option maxRecDepth 100000 in
set_option maxHeartbeats 16000000 in
theorem walkR (w : World) (ad : Option Addr) (n c : Nat) (xs : List Lst) (h : Lsw w ad xs) (hn : xs.length = n) (hn9 : n ≤ 100) (hsum : lensum xs ≤ 40000) (hnc : n ≤ c) (hc9 : c ≤ 9223372036854775807) :
    Calls Try.prog 25 #[.slice ad n c] w fun e w' => ∃ v1 v2, e = .returned (.tuple #[v1, v2]) ∧ WantV w w' v1 v2 (wantF (lss xs)) ∧ (wantF (lss xs)).length ≤ 40000 ∧ Below w.heap.size w w' := by
  have HL := hidden h
  have HN := hidden hn
  have HS := hidden hsum
  have HLN := hidden (lsw_len h)
  clear h hn hsum
  go_enter Try.func25, Try.ntmps25
  go_wp2_with fail
  go_loopw [4, 5] (fun s4 s5 wx => ∃ (i m c2 : Nat) (a2 : Option Addr), s4 = .slice a2 m c2 ∧ s5 = .int .i64 (i : Int) ∧ i ≤ n ∧ m ≤ 40000 ∧ Hid (∀ l ∈ (lss xs).take i, Ris l) ∧ Hid (wx.ownsRow w.heap.size 23 1 (.slice a2 m c2) m (cells32 (unionF ((lss xs).take i)))) ∧ Hid (Wrd (unionF ((lss xs).take i))) ∧ Hid (Below w.heap.size w wx)) (fun _ s5 _ => n - (intOf s5).toNat)
  case atStart => exact ⟨0, 0, 0, none, rfl, rfl, by omega, by omega, hidden (by simp), hidden (World.ownsRow_nil _ _ _ _), hidden Wrd.nil, hidden (Below.refl _ _)⟩
  case round =>
    rename World => wr
    obtain ⟨i, m, c2, a2, rfl, rfl, hin, hm9, hR, hO, hW, hB⟩ := hrel
    by_cases hlt : i < n
    · have hltz : (i : Int) < (n : Int) := by omega
      obtain ⟨x, hx⟩ : ∃ x, xs[i]? = some x := ⟨xs[i]'(by rw [HN.out]; exact hlt), by simp⟩
      obtain ⟨⟨b, off, rfl, hbl, hc⟩, hA⟩ := (HL.out.below hB.out) i x hx
      have HX := hidden hx
      have HA := hidden hA
      have hx9 : x.2.1 ≤ 40000 := by
        have h1 := lensum_next hx
        have h2 := lensum_le xs (i + 1)
        have h3 := HS.out
        omega
      clear hx hA
      go_wp2_with fail
      refine (risesR wr x.1 x.2.1 x.2.2.1 x.2.2.2 HA.out.sw (by omega)).mono ?_
      rintro e w1 ⟨rfl, b1⟩
      have B1 := hidden b1
      have c1 : w1.cell? ⟨b, off + i, none⟩ = some (.slice x.1 x.2.1 x.2.2.1) := by rw [b1.cell (p := ⟨b, off + i, none⟩) hbl]; exact hc
      clear b1 hc
      by_cases hr : Ris x.2.2.2
      · have HR := hidden hr
        simp only [hr, decide_true]
        clear hr
        go_wp2_with fail
        refine (orR w1 a2 x.1 m c2 x.2.1 x.2.2.1 _ x.2.2.2 (ar_owns (owns_later hO.out B1.out) hW.out) (HA.out.later B1.out).sw (by omega) (by omega)).mono ?_
        rintro e w2 ⟨a3, c3, rfl, o3, b3⟩
        have hW2 := hidden (wrd_or hW.out HA.out.sw.bd)
        have hL2 := union_len xs (i + 1) HS.out HLN.out
        rw [lss_take] at hL2
        rw [← union_next (lss_get HX.out)] at o3 hW2 ⊢
        have O3 := hidden (owns_base o3 (Nat.le_trans hB.out.size B1.out.size))
        have B3 := hidden (bt (bt hB.out (Nat.le_refl _) B1.out) (Nat.le_refl _) b3)
        clear o3 b3
        go_wp2_with fail
        refine ⟨⟨i + 1, _, c3, a3, rfl, by first | rfl | simp, by omega, hL2, hidden (ris_next (lss_get HX.out) hR.out HR.out), O3, hW2, B3⟩, ?_⟩
        simp [intOf]
        omega
      · have HR := hidden hr
        simp only [hr, decide_false]
        clear hr
        go_wp2_with fail
        go_ret2
        have e : wantF (lss xs) = [] := by rw [wantF, if_neg (fun hh => HR.out (hh _ (lss_mem HX.out)))]
        rw [e]
        exact ⟨_, _, rfl, ⟨none, 0, none, 0, rfl, rfl, World.ownsRow_nil _ _ _ _, World.ownsRow_nil _ _ _ _, Wrd.nil⟩, by simp, bt hB.out (Nat.le_refl _) B1.out⟩
    · have hltz : ¬ (i : Int) < (n : Int) := by omega
      have hte : (lss xs).take i = lss xs := List.take_of_length_le (by rw [lss_len, HN.out]; omega)
      rw [hte] at hR hO hW
      have hwe : wantF (lss xs) = walkF (lss xs) := by rw [wantF, if_pos hR.out]
      have HWE := hidden hwe
      have hom := own_len hO.out
      clear hte hwe hR
      obtain ⟨U, hU⟩ : ∃ U, unionF (lss xs) = U := ⟨_, rfl⟩
      rw [hU] at hO hW hom
      have HU := hidden hU
      clear hU
      go_wp2_with fail
      go_loopw [7, 8] (fun s7 s8 wx => ∃ (i c3 : Nat) (a3 : Option Addr), s7 = .slice a3 i c3 ∧ s8 = .int .i64 (i : Int) ∧ i ≤ m ∧ Hid (wx.ownsRow w.heap.size 3 1 (.slice a3 i c3) i (cellsI ((U.take i).map (inMany (lss xs))))) ∧ Hid (wx.ownsRow w.heap.size 23 1 (.slice a2 m c2) m (cells32 U)) ∧ Hid (∀ g1 g2, Value.ownBlock (.slice a3 i c3) = some g1 → Value.ownBlock (.slice a2 m c2) = some g2 → g1 ≠ g2) ∧ Hid (Below w.heap.size w wx)) (fun _ s8 _ => m - (intOf s8).toNat)
      case atStart => exact ⟨0, 0, none, rfl, rfl, by omega, hidden (World.ownsRow_nil _ _ _ _), hO, hidden (fun g1 g2 h1 h2 => by cases h1), hB⟩
      case round =>
        rename World => wy
        obtain ⟨i2, c3, a3, rfl, rfl, hi2, hI, hO2, hNe, hB2⟩ := hrel
        by_cases hlt2 : i2 < m
        · have hltz2 : (i2 : Int) < (m : Int) := by omega
          obtain ⟨b2, o2, rfl, hbl2, hc2⟩ := (sw_of_owns hO2.out hW.out).at (by omega)
          have k1 := hc2 i2 hlt2
          have hy9 := hW.out.at i2
          obtain ⟨y, hy⟩ : ∃ y, U.getD i2 0 = y := ⟨_, rfl⟩
          rw [hy] at k1 hy9
          have HY := hidden hy
          clear hc2 hy
          go_wp2_with fail
          go_loopw [9, 10] (fun s9 s10 wx => ∃ (k t : Nat), s10 = .int .i64 (k : Int) ∧ s9 = .int .i64 (t : Int) ∧ k ≤ n ∧ t ≤ k ∧ Hid (t = inMany ((lss xs).take k) y) ∧ Hid (Below wy.heap.size wy wx)) (fun _ s10 _ => n - (intOf s10).toNat)
          case atStart => exact ⟨0, 0, rfl, rfl, by omega, by omega, hidden (by simp [inMany]), hidden (Below.refl _ _)⟩
          case round =>
            rename World => wz
            obtain ⟨k, t, rfl, rfl, hkn, htk, ht, hbz⟩ := hrel
            by_cases hlt3 : k < n
            · have hltz3 : (k : Int) < (n : Int) := by omega
              obtain ⟨x, hx⟩ : ∃ x, xs[k]? = some x := ⟨xs[k]'(by rw [HN.out]; exact hlt3), by simp⟩
              obtain ⟨⟨b, off, rfl, hbl, hc⟩, hA⟩ := (HL.out.below (bt hB2.out (Nat.le_refl _) hbz.out)) k x hx
              have k1' : wz.cell? ⟨b2, o2 + i2, none⟩ = some (.int .u32 (y : Int)) := by rw [hbz.out.cell (p := ⟨b2, o2 + i2, none⟩) hbl2]; exact k1
              have HX := hidden hx
              have HA := hidden hA
              have hx9 : x.2.1 ≤ 40000 := by
                have h1 := lensum_next hx
                have h2 := lensum_le xs (k + 1)
                have h3 := HS.out
                omega
              have hin9 : x.2.1 ≤ 1000000000 := by omega
              have HC : Hid (∀ q, Calls Try.prog 35 #[.slice x.1 x.2.1 x.2.2.1, .int .u32 (y : Int)] (wz.drewN q) fun e w' => e = .returned (.bool (decide (y ∈ x.2.2.2))) ∧ w' = wz.drewN q) := fun q => inR _ _ _ _ _ _ (HA.out.later (below_drewN (Below.refl _ _) q)).sw hin9
              have HK1 := hidden k1
              clear hx hA k1
              by_cases hy3 : y ∈ x.2.2.2
              · have hstep := hidden (inMany_next (lss_get HX.out) y)
                rw [if_pos hy3] at hstep
                simp only [hy3, decide_true] at HC
                go_wp2_with fail
                go_quiet (exact Calls.quiet_of_same (HC.out _))
                go_wp2
                refine ⟨⟨k + 1, t + 1, by first | rfl | simp, by first | rfl | simp, by omega, by omega, hidden (by rw [hstep.out, ← ht.out]), hidden (below_drewN hbz.out _)⟩, ?_⟩
                simp [intOf]
                omega
              · have hstep := hidden (inMany_next (lss_get HX.out) y)
                rw [if_neg hy3] at hstep
                simp only [hy3, decide_false] at HC
                go_wp2_with fail
                go_quiet (exact Calls.quiet_of_same (HC.out _))
                go_wp2
                refine ⟨⟨k + 1, t, by first | rfl | simp, by first | rfl | simp, by omega, by omega, hidden (by rw [hstep.out, ← ht.out, Nat.add_zero]), hidden (below_drewN hbz.out _)⟩, ?_⟩
                simp [intOf]
                omega
            · have hltz3 : ¬ (k : Int) < (n : Int) := by omega
              have hte : (lss xs).take k = lss xs := List.take_of_length_le (by rw [lss_len, HN.out]; omega)
              rw [hte] at ht
              have hsn : (U.take (i2 + 1)).map (inMany (lss xs)) = (U.take i2).map (inMany (lss xs)) ++ [t] := by
                rw [List.take_add_one, List.map_append, ht.out]
                have e : U[i2]? = some y := by
                  have := HY.out
                  have hl : i2 < U.length := by omega
                  simp only [List.getD, List.getElem?_eq_getElem hl, Option.getD_some] at this
                  rw [List.getElem?_eq_getElem hl, this]
                rw [e]
                rfl
              have HSN := hidden hsn
              have HI3 := hidden (owns_later hI.out hbz.out)
              have HO3 := hidden (owns_later hO2.out hbz.out)
              have HB3 := hidden (bt hB2.out (Nat.le_refl _) hbz.out)
              have HZ := hidden hbz.out.size
              clear hsn hte hI hB2 hbz k1
              go_wp2_with (first
                | (refine wpList_pushI _ rfl (.tmp 55) (.tmp 57) rfl w.heap.size _ i2 _ rfl wz HI3.out t _ rfl rfl rfl (by omega) HB3.out.size ?_; intro g4 c4 w4 o4 m4 ch4; rw [← HSN.out] at o4; have O4 := hidden o4; have M4 := hidden m4; have CH4 := hidden ch4; clear o4 m4 ch4))
              refine ⟨⟨i2 + 1, c4, some ⟨g4, 0, none⟩, rfl, by first | rfl | simp, by omega, O4, hidden (CH4.out.owns HO3.out (fun g hg hf => hNe.out g g hf hg rfl)), hidden (fun g1 g2 h1 h2 => ?_), hidden (HB3.out.trans (own_chg_below HI3.out HB3.out.size CH4.out))⟩, ?_⟩
              · injection h1 with h1
                subst h1
                rcases M4.out with hm | hm
                · intro e
                  have e2 : g4 = g2 := e
                  have := owns_lt HO3.out g2 h2
                  omega
                · exact hNe.out g4 g2 hm h2
              · simp [intOf]
                omega
        · have hltz2 : ¬ (i2 : Int) < (m : Int) := by omega
          obtain rfl : i2 = m := by omega
          have hte : U.take i2 = U := List.take_of_length_le (by omega)
          rw [hte] at hI
          have hwl : (wantF (lss xs)).length = i2 := by rw [HWE.out, walkF, List.length_map, HU.out, hom]
          have hw1 : (wantF (lss xs)).map Prod.fst = U := by rw [HWE.out, walkF, List.map_map, HU.out]; simp [Function.comp_def]
          have hw2 : (wantF (lss xs)).map Prod.snd = U.map (inMany (lss xs)) := by rw [HWE.out, walkF, List.map_map, HU.out]; rfl
          have H1 := hidden hw1
          have H2 := hidden hw2
          have H3 := hidden hwl
          clear hte hw1 hw2 hwl
          go_wp2_with fail
          go_ret2
          refine ⟨.slice a2 i2 c2, .slice a3 i2 c3, rfl, ⟨a2, c2, a3, c3, ?_, ?_, ?_, ?_, ?_⟩, by rw [H3.out]; exact hm9, hB2.out⟩
          · rw [H3.out]
          · rw [H3.out]
          · rw [H3.out, H1.out]; exact hO2.out
          · rw [H3.out, H2.out]; exact hI.out
          · rw [H1.out]; exact hW.out
end Go.Proofs.Ytjpelnbffodaiaa
