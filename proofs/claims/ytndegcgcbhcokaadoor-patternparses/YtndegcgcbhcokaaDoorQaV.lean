/-
  The document's tidy: its walk.
-/
import Derived.Test.YtndegcgcbhcokaaDoorQaF
namespace Go.Proofs.YtndegcgcbhcokaaDoor
open Go.RowKit
set_option linter.unusedVariables false
set_option linter.unusedSimpArgs false

/-- What the first round's regions leave. -/
theorem TA.next {w wk w11 : World} {out : Sn} {x : Nat × Nat} {a3 a' : Option Addr} {i k c3 c' : Nat} (hT : TA w wk a3 i c3 out) (hx : x.1 ≤ 1114111 ∧ x.2 ≤ 1114111) (hk : insK out x.1 = k)
    (ho : w11.ownsRow wk.heap.size 119 2 (.slice a' (i + 1) c') (i + 1) (cS (([] ++ out.take k ++ [x]) ++ out.drop k))) (hb : Below wk.heap.size wk w11) : TA w w11 a' (i + 1) c' (insF out x) := by
  refine ⟨?_, insF_bd hT.bd hx, hT.bel.trans (hb.mono hT.bel.size)⟩
  unfold insF
  rw [hk]
  exact owns_base ho (fun g hg => Nat.le_trans hT.bel.size (ho.lt g hg).1)
theorem TA.nil (w : World) : TA w w none 0 0 [] := ⟨World.ownsRow_nil _ _ _ _, (fun o ho => by cases ho), Below.refl _ _⟩
theorem TA.len {w wx : World} {ad : Option Addr} {n c : Nat} {out : Sn} (h : TA w wx ad n c out) : out.length = n := own119_len h.own
theorem TA.some' {w wx : World} {ad : Option Addr} {n c : Nat} {out : Sn} (h : TA w wx ad n c out) : (ad = none ∧ n = 0 ∧ c = 0) ∨ ∃ g, ad = some ⟨g, 0, none⟩ ∧ n ≤ c ∧ c ≤ maxLen := by
  rcases h.own.2 with ⟨e, e1⟩ | ⟨g, cap, cur, e0, hb, hg, hnc, hcm, _⟩
  · injection e with e1 e2 e3
    exact .inl ⟨e1, e2, e3⟩
  · injection e0 with e1 e2 e3
    subst e1 e3
    exact .inr ⟨g, rfl, hnc, hcm⟩

/-- One range behind a row. -/
theorem wpList_pushR (w : World) {ops : Array Oper} {rest : List Oper} {o : Oper} {a : Act} {Q : Exit → Act → World → Prop} (hgd : o.guard = none) (s x : Operand)
    (ho : o.op = .call { callee := .builtin .append, args := #[s, x], argTypes := #[67, 67] }) (base : Nat) (v : Value) (n : Nat) (xs : Sn) (hs : a.eval s = v) (w0 : World) (hown : w0.ownsRow base 119 2 v n (cS xs)) (p q : Nat) (pz qz : Int) (hp : pz = (p : Int)) (hq : qz = (q : Int))
    (hw : w = w0.alloc (.cells #[.int .i32 pz, .int .i32 qz] 119)) (hx : a.eval x = .slice (some ⟨w0.heap.size, 0, none⟩) 1 1) (hn : n ≤ 100000) (hbase : base ≤ w0.heap.size)
    (h : ∀ g' c' w', w'.ownsRow base 119 2 (.slice (some ⟨g', 0, none⟩) (n + 1) c') (n + 1) (cS (xs ++ [(p, q)])) → Below base w0 w' → wpList Tryd.prog ops Q rest (a.put o.dst (.slice (some ⟨g', 0, none⟩) (n + 1) c')) w') : wpList Tryd.prog ops Q (o :: rest) a w := by
  subst hp hq hw
  obtain ⟨i0, hi0, hz0, hz1, hz2⟩ := info_parts info119n
  refine wpList_push2 _ hgd s x 67 ho 119 i0 (.agg #[.int .i32 0, .int .i32 0]) 8 Tryd.underlying67 hi0 hz0 hz1 hz2 rfl base v n (cS xs) hs (hown.alloc _) ⟨w0.heap.size, 0, none⟩ [.int .i32 (p : Int), .int .i32 (q : Int)] hx rfl (fun j u hu => by
    have := (Blk.new w0 119 [.int .i32 (p : Int), .int .i32 (q : Int)]).cell (0 + j)
    rw [Addr.add_lit, this, Nat.zero_add]
    exact hu) (by intro u hu; simp at hu; rcases hu with rfl | rfl <;> rfl) (by unfold maxLen; omega) (by omega) (by simp; omega) ?_
  intro g' c' w' ho' hp'
  refine h g' c' w' (by rw [cS_append]; exact ho') ?_
  exact hp'.chg.1.below hbase (fun q hq => (hown.lt q hq).1)

theorem TA.push {w wx w' : World} {ad : Option Addr} {n c g' c' p q : Nat} {out : Sn} (h : TA w wx ad n c out) (ho : w'.ownsRow w.heap.size 119 2 (.slice (some ⟨g', 0, none⟩) (n + 1) c') (n + 1) (cS (out ++ [(p, q)]))) (hb : Below w.heap.size wx w') (hp : p ≤ 1114111 ∧ q ≤ 1114111) : TA w w' (some ⟨g', 0, none⟩) (n + 1) c' (out ++ [(p, q)]) := by
  refine ⟨ho, fun o ho => ?_, h.bel.trans hb⟩
  rcases List.mem_append.1 ho with ho | ho
  · exact h.bd o ho
  · rw [List.mem_singleton.1 ho]; exact hp
theorem cS_setLast (l : Sn) (t : Nat × Nat) (y : Nat) : (cS (l ++ [t])).set (l.length * 2 + 1) (.int .i32 (y : Int)) = cS (l ++ [(t.1, y)]) := by
  rw [cS_append, cS_append, List.set_append_right _ _ (by rw [cS_length]; omega), cS_length, show l.length * 2 + 1 - l.length * 2 = 1 by omega]
  simp [cS, encS]
/-- The last one's end is set. -/
theorem TA.set {w wx : World} {g n c : Nat} {al : Sn} {t : Nat × Nat} {y : Nat} (h : TA w wx (some ⟨g, 0, none⟩) (n + 1) c al) (ht : al[n]? = some t) (hy : y ≤ 1114111) : TA w (wx.setCell ⟨g, n * 2 + 1, none⟩ (.int .i32 (y : Int))) (some ⟨g, 0, none⟩) (n + 1) c (al.dropLast ++ [(t.1, y)]) := by
  have hl := h.len
  obtain ⟨i, e⟩ : ∃ i, al = i ++ [t] := by
    rcases List.eq_nil_or_concat al with e | ⟨i, u, e⟩
    · rw [e] at hl; simp at hl
    · rw [List.concat_eq_append] at e
      subst e
      have hi : i.length = n := by simp at hl; omega
      rw [← hi, List.getElem?_append_right (Nat.le_refl _)] at ht
      simp at ht
      exact ⟨i, by rw [ht]⟩
  subst e
  have hi : i.length = n := by simp at hl; omega
  refine ⟨?_, fun o ho => ?_, ?_⟩
  · have := owns_setV h.own (n * 2 + 1) (.int .i32 (y : Int))
    rw [← hi, cS_setLast, hi] at this
    rw [show (i ++ [t]).dropLast = i by simp]
    exact this
  · rw [show (i ++ [t]).dropLast = i by simp] at ho
    rcases List.mem_append.1 ho with ho | ho
    · exact h.bd o (by simp [ho])
    · rw [List.mem_singleton.1 ho]; exact ⟨(h.bd t (by simp)).1, hy⟩
  · have hg := (h.own.lt g (by simp [Value.ownBlock])).1
    exact h.bel.trans ((Chg.set ⟨g, n * 2 + 1, none⟩ (.int .i32 (y : Int)) wx).below h.bel.size (fun q e => by have e' : q = g := e; omega))
theorem mrgF_some {al : Sn} {t o : Nat × Nat} {n : Nat} (hl : al.length = n + 1) (ht : al[n]? = some t) : mrgF al o = if o.1 ≤ t.2 + 1 then al.dropLast ++ [(t.1, max t.2 o.2)] else al ++ [o] := by
  unfold mrgF
  rw [List.getLast?_eq_getElem?, hl, Nat.add_sub_cancel, ht]

set_option maxRecDepth 100000 in
set_option maxHeartbeats 8000000 in
theorem tidyR (ad : Option Addr) (c : Nat) (raw : Sn) (w : World) (hL : Ss w ad raw) (hlen : raw.length ≤ 1000) : Calls Tryd.prog 52 #[.slice ad raw.length c] w (TdP raw w) := by
  obtain ⟨i0, hi0, hz0, hz1, hz2⟩ := info_parts info119n
  have HI := hidden hi0
  obtain ⟨n, hn⟩ : ∃ n, raw.length = n := ⟨_, rfl⟩
  rw [hn] at hlen ⊢
  have HN := hidden hn
  have HL := hidden hL
  obtain ⟨D, hD⟩ : ∃ D, raw.foldl insF [] = D := ⟨_, rfl⟩
  have HD : Hid ((raw.drop 0).foldl insF [] = D) := hidden (by rw [List.drop_zero]; exact hD)
  have HTD : Hid (tdyF raw = D.foldl mrgF []) := hidden (by unfold tdyF; rw [hD])
  have HT0 := hidden (TA.nil w)
  clear hi0 hn hL hD
  go_enter Tryd.func52, Tryd.ntmps52
  go_wp2
  go_loopw [3, 4] (fun s3 s4 wx => ∃ (i c3 : Nat) (a3 : Option Addr) (out : Sn), s3 = .slice a3 i c3 ∧ s4 = .int .i64 (i : Int) ∧ i ≤ n ∧ Hid ((raw.drop i).foldl insF out = D) ∧ Hid (TA w wx a3 i c3 out)) (fun _ s4 _ => n - (intOf s4).toNat)
  case atStart => exact ⟨0, 0, none, [], rfl, rfl, by omega, HD, HT0⟩
  case round =>
    rename World => wr
    obtain ⟨i, c3, a3, out, rfl, rfl, hi, hfold, hT⟩ := hrel
    clear HD HT0
    by_cases hlt : i < n
    · have hltz : (i : Int) < (n : Int) := by omega
      obtain ⟨rb, roff, x, rfl, hrb, hx, _, _, _, x1, x2⟩ := HL.out.get (i := i) (by rw [HN.out]; exact hlt)
      obtain ⟨K, hK⟩ : ∃ K, insK out x.1 = K := ⟨_, rfl⟩
      have HK := hidden hK
      have HK0 : Hid (insK (out.drop 0) x.1 + 0 = K) := hidden (by rw [List.drop_zero]; exact hK)
      have hKi : K ≤ i := by have := insK_le out x.1; rw [hT.out.len] at this; omega
      have HF : Hid ((raw.drop (i + 1)).foldl insF (insF out x) = D) := hidden (by rw [← fold_step insF hx]; exact hfold.out)
      have HX := hidden hx
      have HRC : Hid (∀ wx, Below w.heap.size w wx → wx.cell? ⟨rb, roff + i * 2, none⟩ = some (.int .i32 (x.1 : Int)) ∧ wx.cell? ⟨rb, roff + i * 2 + 1, none⟩ = some (.int .i32 (x.2 : Int))) := hidden (fun wx hb => by
        obtain ⟨b', off', x', e, _, hx', _, d0, d1, _⟩ := (HL.out.later hb).get (i := i) (by rw [HN.out]; exact hlt)
        rw [hx] at hx'
        injection e with e; injection e with e1 e2; subst e1; subst e2
        injection hx' with hx'; subst hx'
        exact ⟨d0, d1⟩)
      clear hK hx hfold
      go_wp2_with fail
      go_loopw [5] (fun s5 wx => ∃ k : Nat, s5 = .int .i64 (k : Int) ∧ k ≤ i ∧ Hid (insK (out.drop k) x.1 + k = K) ∧ Hid (TA w wx a3 i c3 out)) (fun s5 _ => i - (intOf s5).toNat)
      case atStart => exact ⟨0, rfl, by omega, HK0, hT⟩
      case round =>
        rename World => wk
        obtain ⟨k, rfl, hki, hins, hTk⟩ := hrel
        clear HK0
        go_upto_region 6 with fail
        go_cut [32] from 16 to 34 (fun s wx => ∃ B : Bool, s = .bool B ∧ Hid (TA w wx a3 i c3 out) ∧ ((B = true ∧ k < i ∧ Hid (insK (out.drop (k + 1)) x.1 + (k + 1) = K)) ∨ (B = false ∧ k = K)))
        case first =>
          obtain ⟨r0, r1⟩ := HRC.out wk hTk.out.bel
          by_cases hk : k < i
          · have hkz : (k : Int) < (i : Int) := by omega
            obtain ⟨gb, goff, o, rfl, hgb, ho, _, o0, o1, oz1, oz2⟩ := hTk.out.ss.get (i := k) (by rw [hTk.out.len]; exact hk)
            have hst := hins.out
            rw [insK_step ho] at hst
            by_cases hle : o.1 ≤ x.1
            · have hlez : (o.1 : Int) ≤ (x.1 : Int) := by omega
              rw [if_pos hle] at hst
              go_quiet (fail)
              rename_i nq
              go_wp2_with fail
              go_meet
              exact ⟨true, rfl, hidden (hTk.out.lat (below_drewN (Below.refl _ _) nq)), .inl ⟨rfl, hk, hidden (by omega)⟩⟩
            · have hlez : ¬ (o.1 : Int) ≤ (x.1 : Int) := by omega
              have hlez2 : (x.1 : Int) < (o.1 : Int) := by omega
              have hlez3 : decide ((o.1 : Int) ≤ (x.1 : Int)) = false := decide_eq_false hlez
              rw [if_neg hle] at hst
              go_quiet (fail)
              rename_i nq
              go_wp2_with fail
              go_meet
              exact ⟨false, rfl, hidden (hTk.out.lat (below_drewN (Below.refl _ _) nq)), .inr ⟨rfl, by omega⟩⟩
          · have hkz : ¬ (k : Int) < (i : Int) := by omega
            have hkd : decide ((k : Int) < (i : Int)) = false := decide_eq_false hkz
            have hst := hins.out
            rw [insK_end (by rw [hTk.out.len]; omega)] at hst
            go_quiet (fail)
            rename_i nq
            go_wp2_with fail
            go_meet
            exact ⟨false, rfl, hidden (hTk.out.lat (below_drewN (Below.refl _ _) nq)), .inr ⟨rfl, by omega⟩⟩
        case rest =>
          obtain ⟨B, rfl, hT2, hB⟩ := hcut
          rename World => w2
          clear hTk hins
          rcases hB with ⟨rfl, hk, hins2⟩ | ⟨rfl, hkK⟩
          · go_wp2_with fail
            refine ⟨⟨k + 1, rfl, by omega, hins2, hT2⟩, ?_⟩
            simp [intOf]
            omega
          · subst hkK
            have HXB := hidden (And.intro x1 x2)
            have HNX : Hid (∀ wy a' c', wy.ownsRow w2.heap.size 119 2 (.slice a' (i + 1) c') (i + 1) (cS (out.take k ++ x :: out.drop k)) → Below w2.heap.size w2 wy → TA w wy a' (i + 1) c' (insF out x)) := hidden (fun wy a' c' ho hb => hT2.out.next ⟨HXB.out.1, HXB.out.2⟩ HK.out (by simpa using ho) hb)
            have HSS := hidden hT2.out.ss
            have HBW := hidden hT2.out.bel
            have HTL : Hid ((out.take k).length = k) := hidden (by rw [List.length_take, hT2.out.len]; omega)
            have HDL : Hid ((out.drop k).length = i - k) := hidden (by rw [List.length_drop, hT2.out.len])
            have hsl : (a3 = none ∧ i = 0 ∧ c3 = 0 ∧ k = 0 ∧ Hid (∀ wx, Below w2.heap.size w2 wx → Ss wx none (out.drop k)) ∧ Hid (out.take k = [] ∧ out.drop k = [])) ∨ (∃ g3, a3 = some ⟨g3, 0, none⟩ ∧ (k : Int) ≤ (c3 : Int) ∧ (k : Int) ≤ (i : Int) ∧ (i : Int) ≤ (c3 : Int) ∧ (c3 : Int) = (k : Int) ∧ Hid (∀ wx, Below w2.heap.size w2 wx → Ss wx (some ⟨g3, 0, none⟩) (out.drop k)) ∧ Hid True) ∨ (∃ g3, a3 = some ⟨g3, 0, none⟩ ∧ (k : Int) ≤ (c3 : Int) ∧ (k : Int) ≤ (i : Int) ∧ (i : Int) ≤ (c3 : Int) ∧ ¬ (c3 : Int) = (k : Int) ∧ Hid (∀ wx, Below w2.heap.size w2 wx → Ss wx (some ⟨g3, k * 2, none⟩) (out.drop k)) ∧ Hid True) := by
              have hl := hT2.out.len
              rcases hT2.out.some' with ⟨e, hi0', e2⟩ | ⟨g3, e, hic, hcm⟩
              · obtain rfl : out = [] := List.eq_nil_of_length_eq_zero (by omega)
                exact .inl ⟨e, hi0', e2, by omega, hidden (fun wx hb => by simpa using ⟨(fun x hx => by cases hx), fun h => absurd rfl h⟩), hidden (by simp)⟩
              · subst e
                by_cases hcap : c3 = k
                · exact .inr (.inl ⟨g3, rfl, by omega, by omega, by omega, by omega, hidden (fun wx hb => by rw [List.drop_eq_nil_of_le (by omega)]; exact ⟨(fun x hx => by cases hx), fun h => absurd rfl h⟩), hidden trivial⟩)
                · exact .inr (.inr ⟨g3, rfl, by omega, by omega, by omega, by omega, hidden (fun wx hb => by have := (hT2.out.ss.later hb).drop k; rw [Nat.zero_add] at this; exact this), hidden trivial⟩)
            clear hT HK hT2 x1 x2
            rcases hsl with ⟨rfl, rfl, rfl, rfl, HSD, HNO⟩ | ⟨g3, rfl, hk1, hk2, hk3, hk4, HSD, HNO⟩ | ⟨g3, rfl, hk1, hk2, hk3, hk4, HSD, HNO⟩
            · have HR0 : Hid (∀ wx, Below w.heap.size w wx → wx.cell? ⟨rb, roff, none⟩ = some (.int .i32 (x.1 : Int)) ∧ wx.cell? ⟨rb, roff + 1, none⟩ = some (.int .i32 (x.2 : Int))) := hidden (fun wx hb => by have := HRC.out wx hb; simpa using this)
              go_wp2_with (first
                  | (refine wpList_appR _ rfl (.tmp 35) (.tmp 38) rfl w2.heap.size (.slice none 0 0) 0 [] rfl (World.ownsRow_nil _ _ _ _) _ _ _ (out.take 0) rfl (HSS.out.take 0) HTL.out (fun _ => ⟨HNO.out.1, rfl⟩) 0 (by omega) (by omega) (Nat.le_refl _) ?_; intro a9 c9 w9 o9 b9; have O9 := hidden o9; have B9 := hidden b9; have HB9 := hidden (HBW.out.trans (b9.mono HBW.out.size)); obtain ⟨d0, d1⟩ := HR0.out w9 HB9.out; clear o9 b9)
                  | (refine wpList_pushR _ rfl (.tmp 40) (.tmp 45) rfl w2.heap.size (.slice a9 0 c9) 0 ([] ++ out.take 0) rfl w9 O9.out x.1 x.2 _ _ rfl rfl rfl rfl (by omega) B9.out.size ?_; intro g10 c10 w10 o10 p10; have O10 := hidden o10; have B10 := hidden (B9.out.trans p10); clear o10 p10)
                  | (refine wpList_appR _ rfl (.tmp 47) (.tmp 50) rfl w2.heap.size (.slice (some ⟨g10, 0, none⟩) (0 + 1) c10) (0 + 1) ([] ++ out.take 0 ++ [x]) rfl O10.out _ _ _ (out.drop 0) rfl (HSD.out w10 B10.out) HDL.out (fun _ => ⟨HNO.out.2, rfl⟩) (0 + 1) (by omega) (by omega) B10.out.size ?_; intro a11 c11 w11 o11 b11; have T11 := hidden (HNX.out w11 a11 c11 (by simpa using o11) (B10.out.trans b11)); clear o11 b11))
              refine ⟨⟨0 + 1, c11, a11, insF out x, rfl, rfl, by omega, HF, T11⟩, ?_⟩
              simp [intOf]
              omega
            all_goals (
              go_wp2_with (first
                  | (refine wpList_appR _ rfl (.tmp 35) (.tmp 38) rfl w2.heap.size (.slice none 0 0) 0 [] rfl (World.ownsRow_nil _ _ _ _) _ _ _ (out.take k) rfl (HSS.out.take k) HTL.out (by intro e; first | (cases e; done) | exact ⟨HNO.out.1, rfl⟩) k (by omega) (by omega) (Nat.le_refl _) ?_; intro a9 c9 w9 o9 b9; have O9 := hidden o9; have B9 := hidden b9; have HB9 := hidden (HBW.out.trans (b9.mono HBW.out.size)); obtain ⟨d0, d1⟩ := HRC.out w9 HB9.out; clear o9 b9)
                  | (refine wpList_pushR _ rfl (.tmp 40) (.tmp 45) rfl w2.heap.size (.slice a9 k c9) k ([] ++ out.take k) rfl w9 O9.out x.1 x.2 _ _ rfl rfl rfl rfl (by omega) B9.out.size ?_; intro g10 c10 w10 o10 p10; have O10 := hidden o10; have B10 := hidden (B9.out.trans p10); clear o10 p10)
                  | (refine wpList_appR _ rfl (.tmp 47) (.tmp 50) rfl w2.heap.size (.slice (some ⟨g10, 0, none⟩) (k + 1) c10) (k + 1) ([] ++ out.take k ++ [x]) rfl O10.out _ _ _ (out.drop k) rfl (HSD.out w10 B10.out) HDL.out (by intro e; first | (cases e; done) | exact ⟨HNO.out.2, rfl⟩) (i + 1) (by omega) (by omega) B10.out.size ?_; intro a11 c11 w11 o11 b11; have T11 := hidden (HNX.out w11 a11 c11 (by simpa using o11) (B10.out.trans b11)); clear o11 b11))
              refine ⟨⟨i + 1, c11, a11, insF out x, rfl, rfl, by omega, HF, T11⟩, ?_⟩
              simp [intOf]
              omega)
    · have hltz : ¬ (i : Int) < (n : Int) := by omega
      obtain rfl : i = n := by omega
      have hDo : out = D := by
        have := hfold.out
        rw [List.drop_eq_nil_of_le (by rw [HN.out]; exact Nat.le_refl _)] at this
        exact this
      subst hDo
      obtain ⟨E, hE⟩ : ∃ E, out.foldl mrgF [] = E := ⟨_, rfl⟩
      rw [hE] at HTD
      have HE0 : Hid ((out.drop 0).foldl mrgF [] = E) := hidden (by rw [List.drop_zero]; exact hE)
      have HT1 := hidden (TA.nil wr)
      have HLO := hidden hT.out.len
      clear hfold hE
      go_wp2_with fail
      go_loopw [7, 8] (fun s7 s8 wx => ∃ (j m c7 : Nat) (a7 : Option Addr) (al : Sn), s7 = .slice a7 m c7 ∧ s8 = .int .i64 (j : Int) ∧ j ≤ i ∧ m ≤ j ∧ Hid ((out.drop j).foldl mrgF al = E) ∧ Hid (TA wr wx a7 m c7 al)) (fun _ s8 _ => i - (intOf s8).toNat)
      case atStart => exact ⟨0, 0, 0, none, [], rfl, rfl, by omega, by omega, HE0, HT1⟩
      case round =>
        rename World => wx
        obtain ⟨j, m, c7, a7, al, rfl, rfl, hj, hm, hfo, hTx⟩ := hrel
        clear HE0 HT1
        by_cases hjt : j < i
        · have hjz : (j : Int) < (i : Int) := by omega
          obtain ⟨b3, off3, o, rfl, hb3, ho, _, d0, d1, z1, z2⟩ := (hT.out.ss.later hTx.out.bel).get (i := j) (by rw [HLO.out]; exact hjt)
          have HFO : Hid ((out.drop (j + 1)).foldl mrgF (mrgF al o) = E) := hidden (by rw [← fold_step mrgF ho]; exact hfo.out)
          clear hfo ho
          cases m with
          | zero =>
            obtain rfl : al = [] := List.eq_nil_of_length_eq_zero hTx.out.len
            have HTQ : Hid (∀ nq, TA wr (wx.drewN nq) a7 0 c7 []) := hidden (fun nq => hTx.out.lat (below_drewN (Below.refl _ _) nq))
            have HDQ : Hid (∀ nq, (wx.drewN nq).cell? ⟨b3, off3 + j * 2, none⟩ = some (.int .i32 (o.1 : Int)) ∧ (wx.drewN nq).cell? ⟨b3, off3 + j * 2 + 1, none⟩ = some (.int .i32 (o.2 : Int))) := hidden (fun nq => ⟨d0, d1⟩)
            clear hTx d0 d1
            go_wp2_with fail
            go_quiet (fail)
            rename_i nq
            have TQ := hidden (HTQ.out nq)
            obtain ⟨e0, e1⟩ := HDQ.out nq
            clear HTQ HDQ
            generalize wx.drewN nq = wq at *
            go_wp2_with (refine wpList_pushR _ rfl (.tmp 92) (.tmp 97) rfl wr.heap.size (.slice a7 0 c7) 0 [] rfl wq TQ.out.own o.1 o.2 _ _ rfl rfl rfl rfl (by omega) TQ.out.bel.size ?_; intro g8 c8 w8 o8 b8; have T8 := hidden (TQ.out.push o8 b8 ⟨z1, z2⟩); clear o8 b8)
            refine ⟨⟨j + 1, 0 + 1, c8, _, [] ++ [(o.1, o.2)], rfl, rfl, by omega, by omega, HFO, T8⟩, ?_⟩
            simp [intOf]
            omega
          | succ m =>
            obtain ⟨b7, off7, t, e7, hb7, ht, hx9, q0, q1, y1, y2⟩ := hTx.out.ss.get (i := m) (by rw [hTx.out.len]; omega)
            obtain ⟨g7, e7', hc7⟩ : ∃ g, a7 = some ⟨g, 0, none⟩ ∧ m + 1 ≤ c7 := by
              rcases hTx.out.some' with ⟨_, h, _⟩ | ⟨g, h, h2, _⟩
              · omega
              · exact ⟨g, h, h2⟩
            subst e7'
            clear hx9
            injection e7 with e7; injection e7 with e7a e7b; subst e7a; subst e7b
            rw [Nat.zero_add] at q0 q1
            have hm1 : ((m + 1 : Nat) : Int) - 1 = (m : Int) := by omega
            have hmz : (0 : Int) ≤ (m : Int) := by omega
            have hmz2 : (m : Int) < ((m + 1 : Nat) : Int) := by omega
            have y2z : (t.2 : Int) ≤ 1114111 := by omega
            have HMF : Hid (mrgF al o = if o.1 ≤ t.2 + 1 then al.dropLast ++ [(t.1, max t.2 o.2)] else al ++ [o]) := hidden (mrgF_some hTx.out.len ht)
            have HTT := hidden ht
            by_cases hle : o.1 ≤ t.2 + 1
            · have hlez : (o.1 : Int) ≤ (t.2 : Int) + 1 := by omega
              have HTQ : Hid (∀ nq, TA wr (wx.drewN nq) (some ⟨g7, 0, none⟩) (m + 1) c7 al) := hidden (fun nq => hTx.out.lat (below_drewN (Below.refl _ _) nq))
              have HDQ : Hid (∀ nq, ((wx.drewN nq).cell? ⟨b3, off3 + j * 2, none⟩ = some (.int .i32 (o.1 : Int)) ∧ (wx.drewN nq).cell? ⟨b3, off3 + j * 2 + 1, none⟩ = some (.int .i32 (o.2 : Int))) ∧ (wx.drewN nq).cell? ⟨g7, m * 2 + 1, none⟩ = some (.int .i32 (t.2 : Int))) := hidden (fun nq => ⟨⟨d0, d1⟩, q1⟩)
              have HFO2 : Hid ((out.drop (j + 1)).foldl mrgF (al.dropLast ++ [(t.1, max t.2 o.2)]) = E) := hidden (by have := HFO.out; rw [HMF.out, if_pos hle] at this; exact this)
              clear hTx ht
              go_wp2_with fail
              go_quiet (fail)
              rename_i nq
              have TQ := hidden (HTQ.out nq)
              obtain ⟨⟨e0, e1⟩, e2⟩ := HDQ.out nq
              clear HTQ HDQ d0 d1 q0 q1
              generalize wx.drewN nq = wq at *
              have fz : wq.frozen? ⟨g7, m * 2 + 1, none⟩ = false := TQ.out.own.frozenAt _
              obtain ⟨y, hy, hyz⟩ : ∃ y : Nat, max t.2 o.2 = y ∧ (if t.2 < o.2 then (o.2 : Int) else (t.2 : Int)) = (y : Int) := ⟨max t.2 o.2, rfl, by by_cases h : t.2 < o.2 <;> simp [h] <;> omega⟩
              rw [hy] at HFO2
              have T9 : Hid (TA wr (wq.setCell ⟨g7, m * 2 + 1, none⟩ (.int .i32 (y : Int))).drew (some ⟨g7, 0, none⟩) (m + 1) c7 (al.dropLast ++ [(t.1, y)])) := hidden ((TQ.out.set HTT.out (by omega)).lat (below_drewN (Below.refl _ _) 1))
              go_wp2_with fail
              go_region
              go_wp2_with fail
              refine ⟨⟨j + 1, m + 1, c7, _, al.dropLast ++ [(t.1, y)], rfl, rfl, by omega, by omega, HFO2, ?_⟩, ?_⟩
              · exact T9
              · simp [intOf]
                omega
            · have hlez : ¬ (o.1 : Int) ≤ (t.2 : Int) + 1 := by omega
              have hlez2 : (t.2 : Int) + 1 < (o.1 : Int) := by omega
              have hlez3 : decide ((o.1 : Int) ≤ (t.2 : Int) + 1) = false := decide_eq_false hlez
              have HTQ : Hid (∀ nq, TA wr (wx.drewN nq) (some ⟨g7, 0, none⟩) (m + 1) c7 al) := hidden (fun nq => hTx.out.lat (below_drewN (Below.refl _ _) nq))
              have HDQ : Hid (∀ nq, (wx.drewN nq).cell? ⟨b3, off3 + j * 2, none⟩ = some (.int .i32 (o.1 : Int)) ∧ (wx.drewN nq).cell? ⟨b3, off3 + j * 2 + 1, none⟩ = some (.int .i32 (o.2 : Int))) := hidden (fun nq => ⟨d0, d1⟩)
              have HFO2 : Hid ((out.drop (j + 1)).foldl mrgF (al ++ [(o.1, o.2)]) = E) := hidden (by have := HFO.out; rw [HMF.out, if_neg hle] at this; exact this)
              clear hTx ht
              go_wp2_with fail
              go_quiet (fail)
              rename_i nq
              have TQ := hidden (HTQ.out nq)
              obtain ⟨e0, e1⟩ := HDQ.out nq
              clear HTQ HDQ d0 d1 q0 q1
              generalize wx.drewN nq = wq at *
              go_wp2_with (refine wpList_pushR _ rfl (.tmp 92) (.tmp 97) rfl wr.heap.size (.slice (some ⟨g7, 0, none⟩) (m + 1) c7) (m + 1) al rfl wq TQ.out.own o.1 o.2 _ _ rfl rfl rfl rfl (by omega) TQ.out.bel.size ?_; intro g8 c8 w8 o8 b8; have T8 := hidden (TQ.out.push o8 b8 ⟨z1, z2⟩); clear o8 b8)
              refine ⟨⟨j + 1, m + 1 + 1, c8, _, al ++ [(o.1, o.2)], rfl, rfl, by omega, by omega, HFO2, T8⟩, ?_⟩
              simp [intOf]
              omega
        · have hjz : ¬ (j : Int) < (i : Int) := by omega
          have HEE : Hid (tdyF raw = al) := hidden (by
            have := hfo.out
            rw [List.drop_eq_nil_of_le (by rw [HLO.out]; omega)] at this
            rw [HTD.out, ← this]; rfl)
          have HFIN : Hid (Ss wx a7 al ∧ al.length = m ∧ Below w.heap.size w wx) := hidden ⟨hTx.out.ss, hTx.out.len, hT.out.bel.trans (hTx.out.bel.mono hT.out.bel.size)⟩
          clear hfo hTx hT
          go_wp2
          go_ret
          obtain ⟨f1, f2, f3⟩ := HFIN.out
          refine ⟨a7, c7, ?_, ?_, ?_, f3⟩
          · rw [HEE.out, f2]; rfl
          · rw [HEE.out]; exact f1
          · rw [HEE.out, f2, HN.out]; omega

end Go.Proofs.YtndegcgcbhcokaaDoor
