import Derived.Test.YtndegcgcbhcokaaDoorPuZ
import Derived.Test.YtndegcgcbhcokaaDoorQaV
import Derived.Test.YtndegcgcbhcokaaDoorQaQ
/-
  Print: rows, groups.
-/
namespace Go.Proofs.YtndegcgcbhcokaaDoor
open Go.RowKit
set_option linter.unusedVariables false
set_option linter.unusedSimpArgs false

mutual
/-- A part as text. -/
def Pt.txt : Pt → List UInt8
  | .chr c => chrT c
  | .any => [46]
  | .cls neg l => 91 :: (if neg then [94] else []) ++ l.flatMap spanT ++ [93]
  | .grp l => 40 :: rowsT l ++ [41]
  | .rep a s => a.txt ++ [UInt8.ofNat s]
def rowT : List Pt → List UInt8
  | [] => []
  | p :: t => p.txt ++ rowT t
def rowsT1 : List (List Pt) → List UInt8
  | [] => []
  | r :: t => 124 :: rowT r ++ rowsT1 t
def rowsT : List (List Pt) → List UInt8
  | [] => []
  | r :: t => rowT r ++ rowsT1 t
end
section
set_option maxRecDepth 100000
theorem mt95 (u : Value) (w : World) : (method 262 126 u "turnkey/pattern.print").run Tryd.prog w = .ok (94, u) w := by rfl
theorem mt97 (u : Value) (w : World) : (method 262 128 u "turnkey/pattern.print").run Tryd.prog w = .ok (95, u) w := by rfl
theorem mt100 (u : Value) (w : World) : (method 262 131 u "turnkey/pattern.print").run Tryd.prog w = .ok (96, u) w := by rfl
theorem mt74 (u : Value) (w : World) : (method 262 98 u "turnkey/pattern.print").run Tryd.prog w = .ok (91, u) w := by rfl
theorem mt76 (u : Value) (w : World) : (method 262 100 u "turnkey/pattern.print").run Tryd.prog w = .ok (92, u) w := by rfl
end
/-- Parts that a row of bytes is apart from. -/
def Off (F : Nat → Prop) (w : World) (o : Option Nat) : Prop := ∀ b, F b → o ≠ some b ∧ b < w.heap.size
theorem Off.on {F : Nat → Prop} {w w' : World} {o o' : Option Nat} (h : Off F w o) (hc : Cm w w' o o') : Off F w' o' := fun b hb => by
  obtain ⟨h1, h2⟩ := h b hb
  refine ⟨fun e => ?_, Nat.lt_of_lt_of_le h2 hc.chg.size⟩
  rcases hc.mv with e1 | ⟨g, e1, hg⟩
  · exact h1 (by rw [← e1]; exact e)
  · rw [e1] at e; injection e with e; omega
def PrC (p : Pt) : Prop := ∀ (F : Nat → Prop) (w : World) (v : Value) (base : Nat) (L : List UInt8) (ad : Option Addr) (n c : Nat), PtV F w p v → p.fine → w.ownsRow base 5 1 (.slice ad n c) n (bC L) → Off F w (Value.slice ad n c).ownBlock → n + p.txt.length ≤ 7000000 → base ≤ w.heap.size →
  ∃ t u f, v = .iface t u ∧ (f = 94 ∨ f = 95 ∨ f = 96 ∨ f = 91 ∨ f = 92) ∧ (∀ w : World, (method 262 t u "turnkey/pattern.print").run Tryd.prog w = .ok (f, u) w) ∧ Calls Tryd.prog f #[u, .slice ad n c] w (PrR base (Value.slice ad n c).ownBlock w (L ++ p.txt))
def RowPC (l : List Pt) : Prop := ∀ (F : Nat → Prop) (w : World) (ad0 : Option Addr) (c0 b off base : Nat) (L : List UInt8) (ad : Option Addr) (n c : Nat), (l ≠ [] → ad0 = some ⟨b, off, none⟩ ∧ F b) → RowV F w l b off → rowFine l → l.length ≤ 1000 → w.ownsRow base 5 1 (.slice ad n c) n (bC L) → Off F w (Value.slice ad n c).ownBlock → n + (rowT l).length ≤ 7000000 → base ≤ w.heap.size →
  Calls Tryd.prog 41 #[.slice ad0 l.length c0, .slice ad n c] w (PrR base (Value.slice ad n c).ownBlock w (L ++ rowT l))
def RowsPC (l : List (List Pt)) : Prop := ∀ (F : Nat → Prop) (w : World) (ad0 : Option Addr) (c0 b off base : Nat) (L : List UInt8) (ad : Option Addr) (n c : Nat), (l ≠ [] → ad0 = some ⟨b, off, none⟩ ∧ F b) → RowsV F w l b off → rowsFine l → l.length ≤ 1000 → w.ownsRow base 5 1 (.slice ad n c) n (bC L) → Off F w (Value.slice ad n c).ownBlock → n + (rowsT l).length ≤ 7000000 → base ≤ w.heap.size →
  Calls Tryd.prog 24 #[.slice ad0 l.length c0, .slice ad n c] w (PrR base (Value.slice ad n c).ownBlock w (L ++ rowsT l))

theorem pr_chr (x : Nat) : PrC (.chr x) := by
  intro F w v base L ad n c hv hf hown hoff hn hbase
  simp only [PtV] at hv
  exact ⟨126, _, 94, hv.1, by simp, mt95 _, by simp only [Pt.txt]; exact charPrP x base L ad n c w hown (by omega) hbase⟩
theorem pr_any : PrC .any := by
  intro F w v base L ad n c hv hf hown hoff hn hbase
  simp only [PtV] at hv
  exact ⟨128, _, 95, hv, by simp, mt97 _, by simp only [Pt.txt]; exact anyPrP base L ad n c w hown (by omega) hbase⟩
theorem pr_cls (neg : Bool) (l : Sn) : PrC (.cls neg l) := by
  intro F w v base L ad n c hv hf hown hoff hn hbase
  simp only [PtV] at hv
  obtain ⟨ad0, c0, rfl, hs, hb, hF⟩ := hv
  simp only [Pt.fine] at hf
  exact ⟨131, _, 96, rfl, by simp, mt100 _, by simp only [Pt.txt]; exact classPrP F neg l ad0 c0 base L ad n c w hs hF hf.1 hown hoff (by omega) hbase⟩

set_option maxRecDepth 100000 in
set_option maxHeartbeats 8000000 in
theorem pr_row (l : List Pt) (hl : ∀ p ∈ l, PrC p) : RowPC l := by
  intro F w ad0 c0 b off base L ad n c hb hrv hfine hn1 hown hoff hsz hbase
  obtain ⟨nl, hnl⟩ : ∃ nl, l.length = nl := ⟨_, rfl⟩
  have HN := hidden hnl
  rw [hnl] at hn1 ⊢
  have HHL := hidden hl
  have HFI := hidden hfine
  have HRV := hidden hrv
  have HBF := hidden hb
  have HOF := hidden hoff
  obtain ⟨R, hR⟩ : ∃ R, L ++ rowT l = R := ⟨_, rfl⟩
  have HST : Hid (∃ L2, Pw base w w (Value.slice ad n c).ownBlock ad n c L2 ∧ L2 ++ rowT (l.drop 0) = R ∧ R.length ≤ 7000000) := hidden ⟨L, Pw.start hown hbase (Below.refl _ _), by rw [List.drop_zero]; exact hR, by rw [← hR, List.length_append]; have := hown.1; rw [bC_length] at this; omega⟩
  rw [hR]
  obtain ⟨o, ho⟩ : ∃ o, (Value.slice ad n c).ownBlock = o := ⟨_, rfl⟩
  rw [ho] at HST HOF ⊢
  clear hb hrv hfine hl hnl hR hown hoff hsz hbase ho
  go_enter Tryd.func41, Tryd.ntmps41
  go_wp2
  go_loopw [1, 9] (fun s1 s9 wx => ∃ (i m cc : Nat) (aa : Option Addr), s1 = .slice aa m cc ∧ s9 = .int .i64 (i : Int) ∧ i ≤ nl ∧ Hid (∃ L2, Pw base w wx o aa m cc L2 ∧ L2 ++ rowT (l.drop i) = R ∧ R.length ≤ 7000000)) (fun _ s9 _ => nl - (intOf s9).toNat)
  case atStart => exact ⟨0, _, _, _, rfl, rfl, by omega, HST⟩
  case round =>
    rename World => wr
    obtain ⟨i, m, cc, aa, rfl, rfl, hi, hex⟩ := hrel
    obtain ⟨L2, hPw, hrel, hsz⟩ := hex.out
    clear hex HST
    by_cases hlt : i < nl
    · have hltz : (i : Int) < (nl : Int) := by omega
      obtain ⟨x, hx⟩ : ∃ x, l[i]? = some x := ⟨l[i]'(by rw [HN.out]; exact hlt), by simp⟩
      have hxm : x ∈ l := List.mem_of_getElem? hx
      have hl0 : l ≠ [] := by intro e; rw [e] at hx; simp at hx
      obtain ⟨hade, hFb⟩ := HBF.out hl0
      subst hade
      have hkeep := RowV.keep hPw.cm.chg (fun b hb e => (HOF.out b hb).1 e) l b off (fun _ => hFb) HRV.out
      obtain ⟨xv, hcell, hpx⟩ := hkeep.get hx
      rw [drop_at hx, rowT] at hrel
      have hlen := hPw.len
      have hRl : R.length = L2.length + (x.txt.length + (rowT (l.drop (i + 1))).length) := by rw [← hrel]; simp
      obtain ⟨tx, ux, fx, rfl, hfx, hmt, k⟩ := HHL.out x hxm F wr xv base L2 aa m cc hpx (rowFine_at HFI.out hxm) hPw.own (HOF.out.on hPw.cm) (by omega) hPw.bs
      have HNX : Hid (∀ a' m' c' w', (L2 ++ x.txt).length = m' → w'.ownsRow base 5 1 (.slice a' m' c') m' (bC (L2 ++ x.txt)) → Cm wr w' (Value.slice aa m cc).ownBlock (Value.slice a' m' c').ownBlock → ∃ L3, Pw base w w' o a' m' c' L3 ∧ L3 ++ rowT (l.drop (i + 1)) = R ∧ R.length ≤ 7000000) := hidden (fun a' m' c' w' h1 h2 h3 => ⟨_, hPw.next h2 h3, by rw [← hrel]; simp, hsz⟩)
      clear hPw hrel hx hxm hl0 hFb hkeep hpx hlen hsz hRl
      unfold PrR at k
      rcases hfx with rfl | rfl | rfl | rfl | rfl
      all_goals
        go_wp2_with (first
          | (go_at_call 94; refine k.mono ?_; rintro e w5 ⟨a5, n5, c5, rfl, h5, h6, h7⟩; have H5 := hidden (HNX.out a5 n5 c5 w5 h5 h6 h7); clear k h5 h6 h7 HNX)
          | (go_at_call 95; refine k.mono ?_; rintro e w5 ⟨a5, n5, c5, rfl, h5, h6, h7⟩; have H5 := hidden (HNX.out a5 n5 c5 w5 h5 h6 h7); clear k h5 h6 h7 HNX)
          | (go_at_call 96; refine k.mono ?_; rintro e w5 ⟨a5, n5, c5, rfl, h5, h6, h7⟩; have H5 := hidden (HNX.out a5 n5 c5 w5 h5 h6 h7); clear k h5 h6 h7 HNX)
          | (go_at_call 91; refine k.mono ?_; rintro e w5 ⟨a5, n5, c5, rfl, h5, h6, h7⟩; have H5 := hidden (HNX.out a5 n5 c5 w5 h5 h6 h7); clear k h5 h6 h7 HNX)
          | (go_at_call 92; refine k.mono ?_; rintro e w5 ⟨a5, n5, c5, rfl, h5, h6, h7⟩; have H5 := hidden (HNX.out a5 n5 c5 w5 h5 h6 h7); clear k h5 h6 h7 HNX))
        refine ⟨⟨i + 1, n5, c5, a5, by first | rfl | simp, by first | rfl | simp, by omega, H5⟩, ?_⟩
        simp [intOf]
        omega
    · have hltz : ¬ (i : Int) < (nl : Int) := by omega
      have hend : l.drop i = [] := List.drop_of_length_le (by rw [HN.out]; omega)
      rw [hend, rowT, List.append_nil] at hrel
      have HREL := hidden hrel
      have HPW := hidden hPw
      clear hrel hPw hend hsz
      go_wp2
      go_ret
      rw [← HREL.out]
      exact HPW.out.fin

set_option maxRecDepth 100000 in
set_option maxHeartbeats 8000000 in
theorem pr_rows (l : List (List Pt)) (hl : ∀ r ∈ l, RowPC r) : RowsPC l := by
  intro F w ad0 c0 b off base L ad n c hb hrv hfine hn1 hown hoff hsz hbase
  obtain ⟨i0, hi0, hz0, hz1, hz2⟩ := info_parts info5
  have HI := hidden hi0
  obtain ⟨nl, hnl⟩ : ∃ nl, l.length = nl := ⟨_, rfl⟩
  have HN := hidden hnl
  rw [hnl] at hn1 ⊢
  have HHL := hidden hl
  have HFI := hidden hfine
  have HRV := hidden hrv
  have HBF := hidden hb
  have HOF := hidden hoff
  obtain ⟨R, hR⟩ : ∃ R, L ++ rowsT l = R := ⟨_, rfl⟩
  have HST : Hid (∃ L2, Pw base w w (Value.slice ad n c).ownBlock ad n c L2 ∧ L2 ++ (if (0 : Nat) = 0 then rowsT (l.drop 0) else rowsT1 (l.drop 0)) = R ∧ R.length ≤ 7000000) := hidden ⟨L, Pw.start hown hbase (Below.refl _ _), by rw [if_pos rfl, List.drop_zero]; exact hR, by rw [← hR, List.length_append]; have := hown.1; rw [bC_length] at this; omega⟩
  rw [hR]
  obtain ⟨o, ho⟩ : ∃ o, (Value.slice ad n c).ownBlock = o := ⟨_, rfl⟩
  rw [ho] at HST HOF ⊢
  clear hb hrv hfine hl hnl hR hown hoff hsz hbase ho hi0
  go_enter Tryd.func24, Tryd.ntmps24
  go_wp2
  go_loopw [1, 9] (fun s1 s9 wx => ∃ (i m cc : Nat) (aa : Option Addr), s1 = .slice aa m cc ∧ s9 = .int .i64 (i : Int) ∧ i ≤ nl ∧ Hid (∃ L2, Pw base w wx o aa m cc L2 ∧ L2 ++ (if i = 0 then rowsT (l.drop i) else rowsT1 (l.drop i)) = R ∧ R.length ≤ 7000000)) (fun _ s9 _ => nl - (intOf s9).toNat)
  case atStart => exact ⟨0, _, _, _, rfl, rfl, by omega, HST⟩
  case round =>
    rename World => wr
    obtain ⟨i, m, cc, aa, rfl, rfl, hi, hex⟩ := hrel
    obtain ⟨L2, hPw, hrel, hsz⟩ := hex.out
    clear hex HST
    by_cases hlt : i < nl
    · have hltz : (i : Int) < (nl : Int) := by omega
      obtain ⟨x, hx⟩ : ∃ x, l[i]? = some x := ⟨l[i]'(by rw [HN.out]; exact hlt), by simp⟩
      have hxm : x ∈ l := List.mem_of_getElem? hx
      have hl0 : l ≠ [] := by intro e; rw [e] at hx; simp at hx
      obtain ⟨hade, hFb⟩ := HBF.out hl0
      subst hade
      have hkeep := RowsV.keep hPw.cm.chg (fun b hb e => (HOF.out b hb).1 e) l b off (fun _ => hFb) HRV.out
      obtain ⟨ad2, c2, b2', off2, hcell, hx2, hrow⟩ := hkeep.get hx
      obtain ⟨nx, hnx⟩ : ∃ nx, x.length = nx := ⟨_, rfl⟩
      have hlen := hPw.len
      -- the row, behind what is there
      have HK : Hid (∀ (wx : World) (L3 : List UInt8) (a3 : Option Addr) (m3 c3 : Nat), Pw base w wx o a3 m3 c3 L3 → Chg (fun b => (Value.slice aa m cc).ownBlock = some b) wr wx → Off F wx (Value.slice a3 m3 c3).ownBlock → L3 ++ rowT x ++ rowsT1 (l.drop (i + 1)) = R → Calls Tryd.prog 41 #[.slice ad2 nx c2, .slice a3 m3 c3] wx fun e w' => ∃ a' m' c', e = .returned (.slice a' m' c') ∧ ∃ L4, Pw base w w' o a' m' c' L4 ∧ L4 ++ (if i + 1 = 0 then rowsT (l.drop (i + 1)) else rowsT1 (l.drop (i + 1))) = R ∧ R.length ≤ 7000000) := hidden (fun wx L3 a3 m3 c3 h1 h2 h3 h4 => by
        have hR3 : R.length = m3 + (rowT x).length + (rowsT1 (l.drop (i + 1))).length := by rw [← h4]; simp [h1.len]; omega
        have k := HHL.out x hxm F wx ad2 c2 b2' off2 base L3 a3 m3 c3 hx2 (RowV.keep h2 (fun b hb e => ((HOF.out.on hPw.cm) b hb).1 e) x b2' off2 (fun h0 => (hx2 h0).2) hrow) (rowsFine_at HFI.out hxm).1 (rowsFine_at HFI.out hxm).2 h1.own h3 (by omega) h1.bs
        rw [hnx] at k
        refine k.mono ?_
        rintro e w' ⟨a', m', c', rfl, g1, g2, g3⟩
        exact ⟨a', m', c', rfl, _, h1.next g2 g3, by rw [if_neg (by omega), ← h4], hsz⟩)
      rw [hnx] at hcell
      by_cases hi0 : i = 0
      · have hiz : ¬ (0 : Int) < (i : Int) := by omega
        rw [if_pos hi0, drop_at hx, rowsT, ← List.append_assoc] at hrel
        have k20 := HK.out wr L2 aa m cc hPw (Chg.refl _ _) (HOF.out.on hPw.cm) hrel
        clear hPw hrel hx hxm hl0 hFb hkeep hlen hsz hx2 hrow hnx hi0 HK
        go_wp2_with (go_at_call 41; refine k20.mono ?_; rintro e w5 ⟨a5, n5, c5, rfl, h5⟩; have H5 := hidden h5; clear k20 h5)
        refine ⟨⟨i + 1, n5, c5, a5, by first | rfl | simp, by first | rfl | simp, by omega, H5⟩, ?_⟩
        simp [intOf]
        omega
      · have hiz : (0 : Int) < (i : Int) := by omega
        rw [if_neg hi0, drop_at hx, rowsT1] at hrel
        have hm7 : m ≤ 7000000 := by
          have : R.length = L2.length + (1 + (rowT x).length + (rowsT1 (l.drop (i + 1))).length) := by rw [← hrel]; simp; omega
          omega
        have HK2 : Hid (∀ g4 c4 w4, w4.ownsRow base 5 1 (.slice (some ⟨g4, 0, none⟩) (m + 1) c4) (m + 1) (bC (L2 ++ [124])) → Cm wr w4 (Value.slice aa m cc).ownBlock (Value.slice (some ⟨g4, 0, none⟩) (m + 1) c4).ownBlock → Calls Tryd.prog 41 #[.slice ad2 nx c2, .slice (some ⟨g4, 0, none⟩) (m + 1) c4] w4 fun e w' => ∃ a' m' c', e = .returned (.slice a' m' c') ∧ ∃ L4, Pw base w w' o a' m' c' L4 ∧ L4 ++ (if i + 1 = 0 then rowsT (l.drop (i + 1)) else rowsT1 (l.drop (i + 1))) = R ∧ R.length ≤ 7000000) := hidden (fun g4 c4 w4 h1 h2 => HK.out w4 (L2 ++ [124]) _ _ _ (hPw.next h1 h2) h2.chg ((HOF.out.on hPw.cm).on h2) (by rw [← hrel]; simp))
        have HOW := hidden hPw.own
        have HBS := hidden hPw.bs
        clear hPw hrel hx hxm hl0 hFb hkeep hlen hsz hx2 hrow hnx hi0 HK
        go_wp2_with (first
          | (refine wpList_byte _ rfl (.tmp 16) (.tmp 17) rfl base i0 HI.out hz0 hz1 hz2 aa m cc L2 rfl (HOW.out.alloc _) 124 124 rfl wr rfl rfl (by omega) HBS.out ?_; intro g4 c4 w4 h1 h2; have k20 := HK2.out g4 c4 w4 h1 h2; clear h1 h2 HK2)
          | (go_at_call 41; refine k20.mono ?_; rintro e w5 ⟨a5, n5, c5, rfl, h5⟩; have H5 := hidden h5; clear k20 h5))
        refine ⟨⟨i + 1, n5, c5, a5, by first | rfl | simp, by first | rfl | simp, by omega, H5⟩, ?_⟩
        simp [intOf]
        omega
    · have hltz : ¬ (i : Int) < (nl : Int) := by omega
      have hend : l.drop i = [] := List.drop_of_length_le (by rw [HN.out]; omega)
      rw [hend] at hrel
      simp only [rowsT, rowsT1, ite_self, List.append_nil] at hrel
      have HREL := hidden hrel
      have HPW := hidden hPw
      clear hrel hPw hend hsz
      go_wp2
      go_ret
      rw [← HREL.out]
      exact HPW.out.fin

set_option maxRecDepth 100000 in
set_option maxHeartbeats 8000000 in
theorem pr_grp (l : List (List Pt)) (hl : RowsPC l) : PrC (.grp l) := by
  intro F w v base L ad n c hv hf hown hoff hn hbase
  simp only [PtV] at hv
  obtain ⟨ad0, c0, b, off, rfl, hb, hrv⟩ := hv
  simp only [Pt.fine] at hf
  simp only [Pt.txt] at hn ⊢
  refine ⟨98, _, 91, rfl, by simp, mt74 _, ?_⟩
  obtain ⟨i0, hi0, hz0, hz1, hz2⟩ := info_parts info5
  have HI := hidden hi0
  obtain ⟨nl, hnl⟩ : ∃ nl, l.length = nl := ⟨_, rfl⟩
  have hsz : n + (rowsT l).length + 2 ≤ 7000000 := by simp at hn; omega
  obtain ⟨W, hW⟩ : ∃ W, w.alloc (.cells #[.slice ad0 nl c0] 98) = W := ⟨_, rfl⟩
  have hal : Below w.heap.size w W := by rw [← hW]; exact (Below.refl _ w).alloc (Nat.le_refl _) _
  have B1 : Blk W w.heap.size 98 [.slice ad0 nl c0] := by rw [← hW]; exact Blk.new w 98 _
  have hP0 := Pw.start hown hbase hal
  have hob : (Value.slice ad n c).ownBlock ≠ some w.heap.size := fun e => by have := owns_lt hown _ e; omega
  obtain ⟨R, hR⟩ : ∃ R, L ++ (40 :: rowsT l ++ [41]) = R := ⟨_, rfl⟩
  have HR := hidden hR
  rw [hR, hnl]
  have HNX : Hid (∀ g4 c4 w4, w4.ownsRow base 5 1 (.slice (some ⟨g4, 0, none⟩) (n + 1) c4) (n + 1) (bC (L ++ [40])) → Cm W w4 (Value.slice ad n c).ownBlock (Value.slice (some ⟨g4, 0, none⟩) (n + 1) c4).ownBlock → w4.cell? ⟨w.heap.size, 0, none⟩ = some (.slice ad0 nl c0) ∧ Calls Tryd.prog 24 #[.slice ad0 nl c0, .slice (some ⟨g4, 0, none⟩) (n + 1) c4] w4 fun e w' => ∃ a' m' c', e = .returned (.slice a' m' c') ∧ m' ≤ 7000000 ∧ Pw base w w' (Value.slice ad n c).ownBlock a' m' c' (L ++ [40] ++ rowsT l)) := hidden (fun g4 c4 w4 h1 h2 => by
    refine ⟨(h2.blk B1 hob).1.cell 0, ?_⟩
    have hP4 := hP0.next h1 h2
    have hc4 : Chg (fun b => (Value.slice ad n c).ownBlock = some b) w w4 := hP4.cm.chg
    have k := hl F w4 ad0 c0 b off base (L ++ [40]) _ _ _ hb (RowsV.keep hc4 (fun b hb e => (hoff b hb).1 e) l b off (fun h0 => (hb h0).2) hrv) hf.1 hf.2 h1 (hoff.on hP4.cm) (by omega) hP4.bs
    rw [hnl] at k
    refine k.mono ?_
    rintro e w' ⟨a', m', c', rfl, g1, g2, g3⟩
    refine ⟨a', m', c', rfl, ?_, hP4.next g2 g3⟩
    rw [← g1]; simp; have := hP0.len; omega)
  have HOW : Hid ((w.alloc (.cells #[.slice ad0 nl c0] 98)).ownsRow base 5 1 (.slice ad n c) n (bC L)) := hidden (by rw [hW]; exact hP0.own)
  have HBS : Hid (base ≤ (w.alloc (.cells #[.slice ad0 nl c0] 98)).heap.size) := hidden (by rw [hW]; exact hP0.bs)
  have HW := hidden hW
  clear hi0 hal B1 hP0 hob hW hR hown hbase hoff hf hb hrv hl hnl hn
  go_enter Tryd.func91, Tryd.ntmps91
  go_wp2_with (first
    | (refine wpList_byte _ rfl (.tmp 5) (.tmp 6) rfl base i0 HI.out hz0 hz1 hz2 ad n c L rfl (HOW.out.alloc _) 40 40 rfl _ rfl (by simp; rfl) (by omega) HBS.out ?_; intro g4 c4 w4 h1 h2; rw [HW.out] at h2; obtain ⟨f0, k14⟩ := HNX.out g4 c4 w4 h1 h2; clear h1 h2 HNX)
    | (go_at_call 24; refine k14.mono ?_; rintro e w5 ⟨a5, n5, c5, rfl, h5, h6⟩; have P5 := hidden h6; clear k14 h6)
    | (refine wpList_byte _ rfl (.tmp 12) (.tmp 13) rfl base i0 HI.out hz0 hz1 hz2 a5 n5 c5 (L ++ [40] ++ rowsT l) rfl (P5.out.own.alloc _) 41 41 rfl w5 rfl rfl (by omega) P5.out.bs ?_; intro g8 c8 w8 h1 h2; have H8 := hidden (P5.out.next h1 h2).fin; clear h1 h2))
  go_ret
  rw [← HR.out, show L ++ (40 :: rowsT l ++ [41]) = L ++ [40] ++ rowsT l ++ [41] by simp]
  exact H8.out

end Go.Proofs.YtndegcgcbhcokaaDoor

/-
  The document's Print: text of nodes.
-/
namespace Go.Proofs.YtndegcgcbhcokaaDoor
open Go.RowKit
set_option linter.unusedVariables false
set_option linter.unusedSimpArgs false

def chS (c : Nat) : ByteArray := if isSg c then ⟨#[92]⟩ ++ str c else str c
theorem bts_app (a b : ByteArray) : bts (a ++ b) = bts a ++ bts b := by simp [bts]
theorem bts_size (a : ByteArray) : (bts a).length = a.size := rfl
theorem chS_bts (c : Nat) : bts (chS c) = chrT c := by
  unfold chS chrT
  by_cases h : isSg c = true
  · rw [if_pos h, if_pos h, bts_app, show bts (⟨#[92]⟩ : ByteArray) = [92] from rfl]
  · rw [if_neg h, if_neg h, List.nil_append]
theorem chS_size (c : Nat) : (chS c).size ≤ 5 := by
  rw [← bts_size, chS_bts]
  unfold chrT
  have := str_size c
  rw [List.length_append, bts_size]
  split <;> simp <;> omega

set_option maxRecDepth 100000 in
set_option maxHeartbeats 2000000 in
theorem charTR (c : Nat) (w : World) : Calls Tryd.prog 51 #[.int .i32 (c : Int)] w fun e w' => e = .returned (.string (chS c)) ∧ Below w.heap.size w w' := by
  obtain ⟨b, hb⟩ : ∃ b, isSg c = b := ⟨_, rfl⟩
  have k66 := signR (c : Int) w b (by rw [sgZ_nat]; exact hb)
  have hz := str_size c
  have hz1 : (1 : Int) + ((str c).size : Int) ≤ 9223372036854775807 := by omega
  have HE : Hid (chS c = if b then ⟨#[92]⟩ ++ str c else str c) := hidden (by unfold chS; rw [hb])
  obtain ⟨S, hS⟩ : ∃ S, str c = S := ⟨_, rfl⟩
  have hS2 : Utf8.encode (c : Int) = S := hS
  rw [hS] at hz1 HE
  clear hb hS hz
  go_enter Tryd.func51, Tryd.ntmps51
  cases b with
  | true =>
    go_wp2_with (go_at_call 66; refine k66.mono ?_; rintro e w2 ⟨rfl, g2⟩; have G2 := hidden g2; clear k66 g2)
    go_ret
    exact ⟨by rw [HE.out]; rfl, G2.out⟩
  | false =>
    go_wp2_with (go_at_call 66; refine k66.mono ?_; rintro e w2 ⟨rfl, g2⟩; have G2 := hidden g2; clear k66 g2)
    go_ret
    exact ⟨by rw [HE.out]; rfl, G2.out⟩

/-- What text leaves. -/
def TxR (T : List UInt8) (w : World) (e : Ending) (w' : World) : Prop := ∃ s, e = .returned (.string s) ∧ bts s = T ∧ Below w.heap.size w w'
def TxC (p : Pt) : Prop := ∀ (F : Nat → Prop) (w : World) (u : List Value), NdV F w p u → p.txt.length ≤ 1000000 → Calls Tryd.prog 32 #[.agg (List.toArray u)] w (TxR p.txt w)
def TxRow (r : List Pt) : Prop := ∀ (F : Nat → Prop) (w : World) (u : List Value), RwV F w r u → r.length ≤ 1000 → (rowT r).length ≤ 1000000 → Calls Tryd.prog 32 #[.agg (List.toArray u)] w (TxR (rowT r) w)
def TxAny (l : List (List Pt)) : Prop := ∀ (F : Nat → Prop) (w : World) (u : List Value), AnV F w l u → l.length ≤ 1000 → (rowsT l).length ≤ 1000000 → Calls Tryd.prog 32 #[.agg (List.toArray u)] w (TxR (rowsT l) w)

set_option maxRecDepth 100000 in
set_option maxHeartbeats 0 in
theorem text_chr (c : Nat) : TxC (.chr c) := by
  intro F w u hN hl
  simp only [NdV] at hN
  obtain ⟨rfl, hv⟩ := hN
  obtain ⟨w1, hw1, hB1, hb1, hs1⟩ := box70 w (nV 1 c false 0 sN sN)
  have x0 : w1.cell? ⟨w.heap.size, 0, none⟩ = some (.int .i64 1) := hB1.cell 0
  have x1 : w1.cell? ⟨w.heap.size, 1, none⟩ = some (.int .i32 (c : Int)) := hB1.cell 1
  have HB1 := hidden hb1
  have k51 := charTR c w1
  have HT : Hid (bts (chS c) = (Pt.chr c).txt) := hidden (by simp only [Pt.txt]; exact chS_bts c)
  obtain ⟨T, hT⟩ : ∃ T, (Pt.chr c).txt = T := ⟨_, rfl⟩
  rw [hT] at HT ⊢
  simp only [nV, sN] at hw1 ⊢
  have HW1 := hidden hw1
  clear hw1 hB1 hb1 hs1 hT hl
  go_enter Tryd.func32, Tryd.ntmps32
  go_upto_region 1 with fail
  rw [show (w.alloc (.cells #[.int .i64 1, .int .i32 (c : Int), .bool false, .int .u8 0, .slice none 0 0, .slice none 0 0] 70)) = w1 from HW1.out]
  clear HW1
  go_wp2_with (go_at_call 51; refine k51.mono ?_; rintro e w2 ⟨rfl, g2⟩; have G2 := hidden (HB1.out.trans (g2.mono HB1.out.size)); clear k51 g2)
  go_ret
  exact ⟨_, rfl, HT.out, G2.out⟩
set_option maxRecDepth 100000 in
set_option maxHeartbeats 0 in
theorem text_any : TxC .any := by
  intro F w u hN hl
  simp only [NdV] at hN
  subst hN
  obtain ⟨w1, hw1, hB1, hb1, hs1⟩ := box70 w (nV 2 0 false 0 sN sN)
  have x0 : w1.cell? ⟨w.heap.size, 0, none⟩ = some (.int .i64 2) := hB1.cell 0
  have HB1 := hidden hb1
  simp only [nV, sN] at hw1 ⊢
  have HW1 := hidden hw1
  clear hw1 hB1 hb1 hs1 hl
  go_enter Tryd.func32, Tryd.ntmps32
  go_upto_region 1 with fail
  rw [show (w.alloc (.cells #[.int .i64 2, .int .i32 0, .bool false, .int .u8 0, .slice none 0 0, .slice none 0 0] 70)) = w1 from HW1.out]
  clear HW1
  go_wp2
  go_ret
  exact ⟨_, rfl, by simp only [Pt.txt]; rfl, HB1.out⟩
set_option maxRecDepth 100000 in
set_option maxHeartbeats 0 in
theorem text_grp (l : List (List Pt)) (hl9 : l.length ≤ 1000) (hE : TxAny l) : TxC (.grp l) := by
  intro F w u hN hl
  simp only [NdV] at hN
  obtain ⟨b, off, c, ad, c2, b2, off2, rfl, h1, h2, h3, h4⟩ := hN
  obtain ⟨w1, hw1, hB1, hb1, hs1⟩ := box70 w (nV 4 0 false 0 sN (.slice (some ⟨b, off, none⟩) 1 c))
  have x0 : w1.cell? ⟨w.heap.size, 0, none⟩ = some (.int .i64 4) := hB1.cell 0
  have x5 : w1.cell? ⟨w.heap.size, 5, none⟩ = some (.slice (some ⟨b, off, none⟩) 1 c) := hB1.cell 5
  have HB1 := hidden hb1
  simp only [Pt.txt] at hl ⊢
  have hl2 : (rowsT l).length ≤ 999998 := by simp at hl; omega
  have hAN : AnV F w l (nV 7 0 false 0 sN (.slice ad l.length c2)) := ⟨ad, c2, b2, off2, rfl, h3, h4⟩
  have kE := hE F w1 _ (hAN.keep (Chg.of_below (F := fun _ => False) hb1) (fun _ _ h => h)) hl9 (by omega)
  have CS1 := hidden (h2.keep (Chg.of_below (F := fun _ => False) hb1) (fun h => h)).range
  obtain ⟨m, hm⟩ : ∃ m, l.length = m := ⟨_, rfl⟩
  obtain ⟨T, hT⟩ : ∃ T, rowsT l = T := ⟨_, rfl⟩
  rw [hT] at kE hl2 ⊢
  rw [hm] at kE CS1
  simp only [nV, sN] at hw1 kE ⊢
  have HW1 := hidden hw1
  unfold TxR at kE
  clear hw1 hB1 hb1 hs1 h1 h2 h3 h4 hAN hm hE hT hl hl9
  go_enter Tryd.func32, Tryd.ntmps32
  go_upto_region 1 with fail
  rw [show (w.alloc (.cells #[.int .i64 4, .int .i32 0, .bool false, .int .u8 0, .slice none 0 0, .slice (some ⟨b, off, none⟩) 1 c] 70)) = w1 from HW1.out]
  clear HW1
  go_wp2_with (first
    | (refine wpList_load_mid rfl 70 (.tmp 76) rfl b off (by rfl) (nV 7 0 false 0 sN (.slice ad m c2)) _ CS1.out Tryd.underlying70 rfl info70s ?_; simp only [nV, sN])
    | (go_at_call 32; refine kE.mono ?_; rintro e w3 ⟨S, rfl, q1, q2⟩; have Q := hidden (And.intro q1 q2); have hz1 : (1 : Int) + (S.size : Int) ≤ 9223372036854775807 := (by rw [← q1, bts_size] at hl2; omega); have hz2 : (1 : Int) + (S.size : Int) + 1 ≤ 9223372036854775807 := (by rw [← q1, bts_size] at hl2; omega); clear kE q1 q2))
  go_ret
  refine ⟨_, rfl, ?_, HB1.out.trans (Q.out.2.mono HB1.out.size)⟩
  rw [bts_app, bts_app, Q.out.1]
  rfl
set_option maxRecDepth 100000 in
set_option maxHeartbeats 0 in
theorem text_row (r : List Pt) (hE : ∀ p ∈ r, TxC p) : TxRow r := by
  intro F w u hN hr hl
  obtain ⟨ad, c, b, off, rfl, h1, h2⟩ := hN
  obtain ⟨w1, hw1, hB1, hb1, hs1⟩ := box70 w (nV 6 0 false 0 sN (.slice ad r.length c))
  obtain ⟨m, hm⟩ : ∃ m, r.length = m := ⟨_, rfl⟩
  have HMR := hidden hm
  rw [hm] at hB1
  have x0 : w1.cell? ⟨w.heap.size, 0, none⟩ = some (.int .i64 6) := hB1.cell 0
  have HB1 := hidden hb1
  have BB := hidden hB1
  have HH1 := hidden h1
  have HND := hidden h2
  have HE := hidden hE
  simp only [nV, sN] at hw1 ⊢
  rw [hm] at hw1 ⊢
  have hr1 : m ≤ 1000 := by omega
  have HW1 := hidden hw1
  obtain ⟨T, hT⟩ : ∃ T, rowT r = T := ⟨_, rfl⟩
  have HT0 : Hid (bts (⟨#[]⟩ : ByteArray) ++ rowT (r.drop 0) = T) := hidden (by rw [List.drop_zero, hT]; rfl)
  rw [hT] at hl ⊢
  show Calls Tryd.prog 32 #[.agg #[.int .i64 6, .int .i32 0, .bool false, .int .u8 0, .slice none 0 0, .slice ad m c]] w (TxR T w)
  clear hw1 hB1 hb1 hs1 hm hE h1 h2 hr hT
  go_enter Tryd.func32, Tryd.ntmps32
  go_upto_region 1 with fail
  rw [show (w.alloc (.cells #[.int .i64 6, .int .i32 0, .bool false, .int .u8 0, .slice none 0 0, .slice ad m c] 70)) = w1 from HW1.out]
  clear HW1
  go_wp2
  go_loopw [3, 6] (fun s3 s6 wx => ∃ (i : Nat) (S : ByteArray), s3 = .string S ∧ s6 = .int .i64 (i : Int) ∧ i ≤ m ∧ Hid (Below w1.heap.size w1 wx ∧ bts S ++ rowT (r.drop i) = T)) (fun _ s6 _ => m - (intOf s6).toNat)
  case atStart => exact ⟨0, ⟨#[]⟩, rfl, rfl, by omega, hidden ⟨Below.refl _ _, HT0.out⟩⟩
  case round =>
    rename World => wr
    obtain ⟨i, S, rfl, rfl, hi, hex⟩ := hrel
    obtain ⟨hbel, hS⟩ := hex.out
    have HBE := hidden hbel
    have HBW := hidden (HB1.out.trans (hbel.mono HB1.out.size))
    have HS := hidden hS
    have hSz : S.size ≤ 1000000 := by rw [← bts_size]; have := congrArg List.length hS; rw [List.length_append] at this; omega
    clear hex hbel hS HT0
    have y5 : wr.cell? ⟨w.heap.size, 5, none⟩ = some (.slice ad m c) := (BB.out.later HBE.out).cell 5
    have y0 : wr.cell? ⟨w.heap.size, 0, none⟩ = some (.int .i64 6) := (BB.out.later HBE.out).cell 0
    by_cases hlt : i < m
    · have hltz : (i : Int) < (m : Int) := by omega
      have hll : i < r.length := by have := HMR.out; omega
      have hne : r ≠ [] := fun e => by rw [e] at hll; simp at hll
      obtain ⟨rfl, hFb⟩ := HH1.out hne
      obtain ⟨p, hp⟩ : ∃ p, r[i]? = some p := ⟨_, List.getElem?_eq_getElem hll⟩
      obtain ⟨u, hcs, hnd⟩ := NdsV.get (NdsV.keep (Chg.of_below (F := fun _ => False) HBW.out) (fun _ _ h => h) r b off (fun _ => hFb) HND.out) i p hp
      have hde : r.drop i = p :: r.drop (i + 1) := by
        obtain ⟨h, e⟩ := List.getElem?_eq_some_iff.1 hp
        rw [← e]; exact List.drop_eq_getElem_cons h
      have HDR : Hid (bts S ++ (p.txt ++ rowT (r.drop (i + 1))) = T) := hidden (by rw [← HS.out, hde, rowT])
      have hpl : S.size + p.txt.length ≤ 1000000 := by
        have := congrArg List.length HDR.out
        rw [List.length_append, List.length_append, bts_size] at this
        omega
      have kE := HE.out p (List.mem_of_getElem? hp) F wr u hnd (by omega)
      have HCS := hidden hcs
      have HSH := hidden hnd.sh
      obtain ⟨P, hP⟩ : ∃ P, p.txt = P := ⟨_, rfl⟩
      rw [hP] at HDR hpl kE
      unfold TxR at kE
      have hsum : Hid (∀ S2 : ByteArray, bts S2 = P → (S.size : Int) + (S2.size : Int) ≤ 9223372036854775807) := hidden (fun S2 h => by rw [← h, bts_size] at hpl; omega)
      clear hcs hnd hp hll hne hFb hde hP hpl
      by_cases hi0 : 0 < i
      · have hi0z : (0 : Int) < (i : Int) := by omega
        go_wp2_with (first
          | (refine wpList_load_mid rfl 70 (.tmp 113) rfl b (off + i * 6) (by rfl) u _ HCS.out.range Tryd.underlying70 rfl (sz6 HSH.out) ?_)
          | (go_at_call 32; refine kE.mono ?_; rintro e w3 ⟨S2, rfl, q1, q2⟩; have Q := hidden (And.intro q1 q2); have hz1 := hsum.out S2 q1; clear kE q1 q2))
        refine ⟨⟨i + 1, S ++ S2, rfl, rfl, by omega, hidden ⟨HBE.out.trans (Q.out.2.mono HBE.out.size), ?_⟩⟩, ?_⟩
        · rw [bts_app, Q.out.1, List.append_assoc]; exact HDR.out
        · simp [intOf]; omega
      · obtain rfl : i = 0 := by omega
        go_wp2_with (first
          | (refine wpList_load_mid rfl 70 (.tmp 113) rfl b off (by rfl) u _ (by have := HCS.out.range; simpa using this) Tryd.underlying70 rfl (sz6 HSH.out) ?_)
          | (go_at_call 32; refine kE.mono ?_; rintro e w3 ⟨S2, rfl, q1, q2⟩; have Q := hidden (And.intro q1 q2); have hz1 := hsum.out S2 q1; clear kE q1 q2))
        refine ⟨⟨0 + 1, S ++ S2, rfl, rfl, by omega, hidden ⟨HBE.out.trans (Q.out.2.mono HBE.out.size), ?_⟩⟩, ?_⟩
        · rw [bts_app, Q.out.1, List.append_assoc]; exact HDR.out
        · simp [intOf]; omega
    · have hltz : ¬ (i : Int) < (m : Int) := by omega
      have HSE : Hid (bts S = T) := hidden (by
        have := HS.out
        rw [List.drop_eq_nil_of_le (by rw [HMR.out]; omega), rowT, List.append_nil] at this
        exact this)
      go_wp2
      go_ret
      exact ⟨_, rfl, HSE.out, HBW.out⟩

end Go.Proofs.YtndegcgcbhcokaaDoor
