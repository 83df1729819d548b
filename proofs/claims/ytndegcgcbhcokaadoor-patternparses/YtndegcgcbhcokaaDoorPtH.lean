import Derived.Test.YtndegcgcbhcokaaDoorPtC
/-
  with: a span more.
-/
namespace Go.Proofs.YtndegcgcbhcokaaDoor
open Go.RowKit
set_option linter.unusedVariables false
set_option linter.unusedSimpArgs false

/-- What is held while a span is put in: it itself, what lies ahead, what lies behind. -/
structure WI (w wx : World) (x : Nat × Nat) (a5 : Option Addr) (c5 : Nat) (ah : Sn) (a6 : Option Addr) (c6 : Nat) (be : Sn) : Prop where
  blk : Blk wx w.heap.size 125 [.int .i32 (x.1 : Int), .int .i32 (x.2 : Int)]
  r5 : wx.ownsRow (w.heap.size + 1) 125 2 (.slice a5 ah.length c5) ah.length (cS ah)
  r6 : wx.ownsRow (w.heap.size + 1) 125 2 (.slice a6 be.length c6) be.length (cS be)
  dis : ∀ g, (Value.slice a5 ah.length c5).ownBlock = some g → (Value.slice a6 be.length c6).ownBlock ≠ some g
  b5 : Bd ah
  b6 : Bd be
  bx : x.1 ≤ 1114111 ∧ x.2 ≤ 1114111
  bel : Below w.heap.size w wx
theorem WI.lat {w wx w' : World} {x : Nat × Nat} {a5 a6 : Option Addr} {c5 c6 : Nat} {ah be : Sn} (h : WI w wx x a5 c5 ah a6 c6 be) (hl : Lat wx w') : WI w w' x a5 c5 ah a6 c6 be :=
  ⟨h.blk.later hl, owl h.r5 hl, owl h.r6 hl, h.dis, h.b5, h.b6, h.bx, h.bel.trans (hl.mono h.bel.size)⟩
theorem Bd.snoc {l : Sn} (h : Bd l) {o : Nat × Nat} (ho : o.1 ≤ 1114111 ∧ o.2 ≤ 1114111) : Bd (l ++ [o]) := fun x hx => by
  rcases List.mem_append.1 hx with hx | hx
  · exact h x hx
  · rw [List.mem_singleton.1 hx]; exact ho
theorem WI.push5 {w wx w' : World} {x o : Nat × Nat} {a5 a6 : Option Addr} {c5 c6 g c' : Nat} {ah be : Sn} {ob : Obj} (h : WI w wx x a5 c5 ah a6 c6 be) (ho : o.1 ≤ 1114111 ∧ o.2 ≤ 1114111)
    (hO : w'.ownsRow (w.heap.size + 1) 125 2 (.slice (some ⟨g, 0, none⟩) (ah.length + 1) c') (ah.length + 1) (cS ah ++ [.int .i32 (o.1 : Int), .int .i32 (o.2 : Int)])) (hp : Pushed (wx.alloc ob) w' (.slice a5 ah.length c5) g) :
    WI w w' x (some ⟨g, 0, none⟩) c' (ah ++ [o]) a6 c6 be := by
  have hch := hp.chg
  have hF : ∀ b, (Value.slice a5 ah.length c5).ownBlock = some b → w.heap.size + 1 ≤ b := fun b hb => (h.r5.lt b hb).1
  refine ⟨hch.1.blk h.blk (fun e => by have := hF _ e; omega), ?_, hch.1.owns h.r6 (fun b hb e => h.dis b e hb), fun b hb => ?_, h.b5.snoc ho, h.b6, h.bx, h.bel.trans (hch.1.below h.bel.size (fun b e => by have := hF _ e; omega))⟩
  · rw [List.length_append, cS_append]
    exact hO
  · have e : g = b := by simpa [Value.ownBlock] using hb
    subst e
    intro hb6
    rcases hch.2 with e | ⟨g', e, hg⟩
    · exact h.dis g e.symm hb6
    · injection e with e
      subst e
      have := owns_lt h.r6 g hb6
      omega
theorem WI.push6 {w wx w' : World} {x o : Nat × Nat} {a5 a6 : Option Addr} {c5 c6 g c' : Nat} {ah be : Sn} {ob : Obj} (h : WI w wx x a5 c5 ah a6 c6 be) (ho : o.1 ≤ 1114111 ∧ o.2 ≤ 1114111)
    (hO : w'.ownsRow (w.heap.size + 1) 125 2 (.slice (some ⟨g, 0, none⟩) (be.length + 1) c') (be.length + 1) (cS be ++ [.int .i32 (o.1 : Int), .int .i32 (o.2 : Int)])) (hp : Pushed (wx.alloc ob) w' (.slice a6 be.length c6) g) :
    WI w w' x a5 c5 ah (some ⟨g, 0, none⟩) c' (be ++ [o]) := by
  have hch := hp.chg
  have hF : ∀ b, (Value.slice a6 be.length c6).ownBlock = some b → w.heap.size + 1 ≤ b := fun b hb => (h.r6.lt b hb).1
  refine ⟨hch.1.blk h.blk (fun e => by have := hF _ e; omega), hch.1.owns h.r5 (fun b hb e => h.dis b hb e), ?_, fun b hb hb' => ?_, h.b5, h.b6.snoc ho, h.bx, h.bel.trans (hch.1.below h.bel.size (fun b e => by have := hF _ e; omega))⟩
  · rw [List.length_append, cS_append]
    exact hO
  · have e : g = b := by simpa [Value.ownBlock] using hb'
    subst e
    rcases hch.2 with e | ⟨g', e, hg⟩
    · exact h.dis g hb e.symm
    · injection e with e
      subst e
      have := owns_lt h.r5 g hb
      omega
theorem WI.set {w wx : World} {x y : Nat × Nat} {a5 a6 : Option Addr} {c5 c6 : Nat} {ah be : Sn} (h : WI w wx x a5 c5 ah a6 c6 be) (hy : y.1 ≤ 1114111 ∧ y.2 ≤ 1114111) :
    WI w ((wx.setCell ⟨w.heap.size, 0, none⟩ (.int .i32 (y.1 : Int))).setCell ⟨w.heap.size, 1, none⟩ (.int .i32 (y.2 : Int))) y a5 c5 ah a6 c6 be := by
  have hc : Chg (fun i => i = w.heap.size) wx ((wx.setCell ⟨w.heap.size, 0, none⟩ (.int .i32 (y.1 : Int))).setCell ⟨w.heap.size, 1, none⟩ (.int .i32 (y.2 : Int))) := (Chg.set ⟨w.heap.size, 0, none⟩ _ wx).trans (Chg.set ⟨w.heap.size, 1, none⟩ _ _) (fun _ _ e => e)
  refine ⟨(h.blk.set 0 _).set 1 _, hc.owns h.r5 (fun g hg e => ?_), hc.owns h.r6 (fun g hg e => ?_), h.dis, h.b5, h.b6, hy, h.bel.trans (hc.below h.bel.size (fun i e => by have e' : i = w.heap.size := e; omega))⟩
  · have := (h.r5.lt g hg).1
    have e' : g = w.heap.size := e
    omega
  · have := (h.r6.lt g hg).1
    have e' : g = w.heap.size := e
    omega

theorem withF_step {l : Sn} {i : Nat} {o : Nat × Nat} (h : l[i]? = some o) (x : Nat × Nat) (ah be : Sn) :
    withF (l.drop i) x ah be = if o.2 + 1 < x.1 then withF (l.drop (i + 1)) x (ah ++ [o]) be else if x.2 + 1 < o.1 then withF (l.drop (i + 1)) x ah (be ++ [o]) else withF (l.drop (i + 1)) (min o.1 x.1, max o.2 x.2) ah be := by
  have hl := (List.getElem?_eq_some_iff.1 h).1
  rw [List.drop_eq_getElem_cons hl]
  rw [List.getElem?_eq_getElem hl] at h
  injection h with h
  rw [h, withF]

set_option maxRecDepth 100000 in
set_option maxHeartbeats 8000000 in
theorem withP (ad : Option Addr) (c : Nat) (l : Sn) (x : Nat × Nat) (w : World) (hL : Ss w ad l) (hlen : l.length ≤ 1000) (hx : x.1 ≤ 1114111 ∧ x.2 ≤ 1114111) :
    Calls Tryd.prog 72 #[.slice ad l.length c, .agg #[.int .i32 (x.1 : Int), .int .i32 (x.2 : Int)]] w fun e w' => ∃ a' c', e = .returned (.slice a' (withS l x).length c') ∧ w'.ownsRow w.heap.size 125 2 (.slice a' (withS l x).length c') (withS l x).length (cS (withS l x)) ∧ Bd (withS l x) ∧ Below w.heap.size w w' := by
  obtain ⟨i0, hi0, hz0, hz1, hz2⟩ := info_parts info93
  have HI := hidden hi0
  obtain ⟨n, hn⟩ : ∃ n, l.length = n := ⟨_, rfl⟩
  rw [hn] at hlen ⊢
  have HN := hidden hn
  have HL := hidden hL
  obtain ⟨R, hR⟩ : ∃ R, withS l x = R := ⟨_, rfl⟩
  have HR : Hid (withF (l.drop 0) x [] [] = R) := hidden (by rw [List.drop_zero]; exact hR)
  rw [hR]
  have W0 : Hid (WI w (w.alloc (.cells #[.int .i32 (x.1 : Int), .int .i32 (x.2 : Int)] 125)) x none 0 [] none 0 []) := hidden ⟨Blk.new w 125 _, World.ownsRow_nil _ _ _ _, World.ownsRow_nil _ _ _ _, (fun g h => by cases h), (fun y hy => by cases hy), (fun y hy => by cases hy), hx, (Below.refl _ _).alloc (Nat.le_refl _) _⟩
  clear hi0 hn hL hR hx
  go_enter Tryd.func72, Tryd.ntmps72
  go_wp2
  go_loopw [5, 6, 11] (fun s5 s6 s11 wx => ∃ (i : Nat) (x : Nat × Nat) (a5 a6 : Option Addr) (c5 c6 n5 n6 : Nat) (ah be : Sn), s5 = .slice a5 n5 c5 ∧ s6 = .slice a6 n6 c6 ∧ s11 = .int .i64 (i : Int) ∧ i ≤ n ∧ n5 + n6 ≤ i ∧ Hid (ah.length = n5 ∧ be.length = n6) ∧ Hid (withF (l.drop i) x ah be = R) ∧ Hid (WI w wx x a5 c5 ah a6 c6 be)) (fun _ _ s11 _ => n - (intOf s11).toNat)
  case atStart => exact ⟨0, x, none, none, 0, 0, 0, 0, [], [], rfl, rfl, rfl, by omega, by omega, hidden ⟨rfl, rfl⟩, HR, W0⟩
  case round =>
    rename World => wr
    obtain ⟨i, x, a5, a6, c5, c6, n5, n6, ah, be, rfl, rfl, rfl, hi, h56, hlen2, hrel, hW⟩ := hrel
    clear HR W0
    by_cases hlt : i < n
    · have hltz : (i : Int) < (n : Int) := by omega
      obtain ⟨b, off, o, rfl, hb, ho, ho', d0, d1, y1, y2⟩ := (HL.out.later hW.out.bel).get (i := i) (by rw [HN.out]; exact hlt)
      have hal : Below wr.heap.size wr (wr.alloc (.cells #[.int .i32 (o.1 : Int), .int .i32 (o.2 : Int)] 125)) := (Below.refl _ _).alloc (Nat.le_refl _) _
      have WY := hidden (hW.out.lat hal)
      have B8 := Blk.new wr 125 [.int .i32 (o.1 : Int), .int .i32 (o.2 : Int)]
      have e0 : (wr.alloc (.cells #[.int .i32 (o.1 : Int), .int .i32 (o.2 : Int)] 125)).cell? ⟨wr.heap.size, 0, none⟩ = some (.int .i32 (o.1 : Int)) := B8.cell 0
      have e1 : (wr.alloc (.cells #[.int .i32 (o.1 : Int), .int .i32 (o.2 : Int)] 125)).cell? ⟨wr.heap.size, 1, none⟩ = some (.int .i32 (o.2 : Int)) := B8.cell 1
      have x0 : (wr.alloc (.cells #[.int .i32 (o.1 : Int), .int .i32 (o.2 : Int)] 125)).cell? ⟨w.heap.size, 0, none⟩ = some (.int .i32 (x.1 : Int)) := WY.out.blk.cell 0
      have x1 : (wr.alloc (.cells #[.int .i32 (o.1 : Int), .int .i32 (o.2 : Int)] 125)).cell? ⟨w.heap.size, 1, none⟩ = some (.int .i32 (x.2 : Int)) := WY.out.blk.cell 1
      have fx0 := WY.out.blk.frozen 0
      have fx1 := WY.out.blk.frozen 1
      have HST := hidden (withF_step ho x ah be)
      obtain ⟨bx1, bx2⟩ := hW.out.bx
      have cellN : Hid (∀ jj u, [Value.int .i32 (o.1 : Int), Value.int .i32 (o.2 : Int)][jj]? = some u → ((wr.alloc (.cells #[.int .i32 (o.1 : Int), .int .i32 (o.2 : Int)] 125)).alloc (.cells #[.int .i32 (o.1 : Int), .int .i32 (o.2 : Int)] 125)).cell? ((⟨wr.heap.size + 1, 0, none⟩ : Addr).add jj) = some u) := hidden (fun jj u hu => by
        rw [Addr.add_lit, Nat.zero_add]
        have := (Blk.new (wr.alloc (.cells #[.int .i32 (o.1 : Int), .int .i32 (o.2 : Int)] 125)) 125 [.int .i32 (o.1 : Int), .int .i32 (o.2 : Int)]).cell jj
        rw [hu, show (wr.alloc (.cells #[.int .i32 (o.1 : Int), .int .i32 (o.2 : Int)] 125)).heap.size = wr.heap.size + 1 by simp] at this
        exact this)
      have HBS : Hid (w.heap.size + 1 ≤ wr.heap.size) := hidden (by have := hW.out.blk.lt; omega)
      have own5 : Hid ((wr.alloc (.cells #[.int .i32 (o.1 : Int), .int .i32 (o.2 : Int)] 125)).ownsRow (w.heap.size + 1) 125 2 (.slice a5 n5 c5) n5 (cS ah)) := hidden (by have := WY.out.r5; rw [hlen2.out.1] at this; exact this)
      have own6 : Hid ((wr.alloc (.cells #[.int .i32 (o.1 : Int), .int .i32 (o.2 : Int)] 125)).ownsRow (w.heap.size + 1) 125 2 (.slice a6 n6 c6) n6 (cS be)) := hidden (by have := WY.out.r6; rw [hlen2.out.2] at this; exact this)
      have hP5 : Hid (∀ w9 g c' ob, w9.ownsRow (w.heap.size + 1) 125 2 (.slice (some ⟨g, 0, none⟩) (n5 + 1) c') (n5 + 1) (cS ah ++ [.int .i32 (o.1 : Int), .int .i32 (o.2 : Int)]) → Pushed ((wr.alloc (.cells #[.int .i32 (o.1 : Int), .int .i32 (o.2 : Int)] 125)).alloc ob) w9 (.slice a5 n5 c5) g → WI w w9 x (some ⟨g, 0, none⟩) c' (ah ++ [o]) a6 c6 be) := hidden (fun w9 g c' ob h1 h2 => by
        rw [← hlen2.out.1] at h1 h2
        exact WY.out.push5 ⟨y1, y2⟩ h1 h2)
      have hP6 : Hid (∀ w9 g c' ob, w9.ownsRow (w.heap.size + 1) 125 2 (.slice (some ⟨g, 0, none⟩) (n6 + 1) c') (n6 + 1) (cS be ++ [.int .i32 (o.1 : Int), .int .i32 (o.2 : Int)]) → Pushed ((wr.alloc (.cells #[.int .i32 (o.1 : Int), .int .i32 (o.2 : Int)] 125)).alloc ob) w9 (.slice a6 n6 c6) g → WI w w9 x a5 c5 ah (some ⟨g, 0, none⟩) c' (be ++ [o])) := hidden (fun w9 g c' ob h1 h2 => by
        rw [← hlen2.out.2] at h1 h2
        exact WY.out.push6 ⟨y1, y2⟩ h1 h2)
      clear ho ho' hal B8
      by_cases hA : o.2 + 1 < x.1
      · have hAz : (o.2 : Int) + 1 < (x.1 : Int) := by omega
        have HRS : Hid (withF (l.drop (i + 1)) x (ah ++ [o]) be = R) := hidden (by rw [← hrel.out, HST.out, if_pos hA])
        clear HST hA hrel own6 hP6
        go_wp2_with (refine wpList_push2 _ rfl (.tmp 33) (.tmp 35) 103 rfl 125 i0 (.agg #[.int .i32 0, .int .i32 0]) 8 Tryd.underlying103 HI.out hz0 hz1 hz2 rfl (w.heap.size + 1) (.slice a5 n5 c5) n5 (cS ah) rfl (own5.out.alloc _) ⟨wr.heap.size + 1, 0, none⟩ [.int .i32 (o.1 : Int), .int .i32 (o.2 : Int)] rfl rfl cellN.out (by intro u hu; simp at hu; rcases hu with rfl | rfl <;> rfl) (by unfold maxLen; omega) (by omega) (by have := HBS.out; simp; omega) ?_; intro g9 c9 w9 ho9 hp9)
        have H9 := hidden (hP5.out _ _ _ _ ho9 hp9)
        refine ⟨⟨i + 1, x, some ⟨g9, 0, none⟩, a6, c9, c6, n5 + 1, n6, ah ++ [o], be, by first | rfl | simp, by first | rfl | simp, by first | rfl | simp, by omega, by omega, hidden ⟨by simp [hlen2.out.1], hlen2.out.2⟩, HRS, H9⟩, ?_⟩
        simp [intOf]
        omega
      · have hAz : ¬ (o.2 : Int) + 1 < (x.1 : Int) := by omega
        by_cases hB : x.2 + 1 < o.1
        · have hBz : (x.2 : Int) + 1 < (o.1 : Int) := by omega
          have HRS : Hid (withF (l.drop (i + 1)) x ah (be ++ [o]) = R) := hidden (by rw [← hrel.out, HST.out, if_neg hA, if_pos hB])
          clear HST hA hB hrel own5 hP5
          go_wp2_with (refine wpList_push2 _ rfl (.tmp 44) (.tmp 46) 103 rfl 125 i0 (.agg #[.int .i32 0, .int .i32 0]) 8 Tryd.underlying103 HI.out hz0 hz1 hz2 rfl (w.heap.size + 1) (.slice a6 n6 c6) n6 (cS be) rfl (own6.out.alloc _) ⟨wr.heap.size + 1, 0, none⟩ [.int .i32 (o.1 : Int), .int .i32 (o.2 : Int)] rfl rfl cellN.out (by intro u hu; simp at hu; rcases hu with rfl | rfl <;> rfl) (by unfold maxLen; omega) (by omega) (by have := HBS.out; simp; omega) ?_; intro g9 c9 w9 ho9 hp9)
          have H9 := hidden (hP6.out _ _ _ _ ho9 hp9)
          refine ⟨⟨i + 1, x, a5, some ⟨g9, 0, none⟩, c5, c9, n5, n6 + 1, ah, be ++ [o], by first | rfl | simp, by first | rfl | simp, by first | rfl | simp, by omega, by omega, hidden ⟨hlen2.out.1, by simp [hlen2.out.2]⟩, HRS, H9⟩, ?_⟩
          simp [intOf]
          omega
        · have hBz : ¬ (x.2 : Int) + 1 < (o.1 : Int) := by omega
          have HRS : Hid (∀ p q : Nat, min o.1 x.1 = p → max o.2 x.2 = q → withF (l.drop (i + 1)) (p, q) ah be = R) := hidden (fun p q hp hq => by rw [← hrel.out, HST.out, if_neg hA, if_neg hB, hp, hq])
          have HSE : Hid (∀ p q : Nat, p ≤ 1114111 → q ≤ 1114111 → WI w (((wr.alloc (.cells #[.int .i32 (o.1 : Int), .int .i32 (o.2 : Int)] 125)).setCell ⟨w.heap.size, 0, none⟩ (.int .i32 (p : Int))).setCell ⟨w.heap.size, 1, none⟩ (.int .i32 (q : Int))) (p, q) a5 c5 ah a6 c6 be) := hidden (fun p q hp hq => WY.out.set (y := (p, q)) ⟨hp, hq⟩)
          clear HST hA hB hrel own5 hP5 own6 hP6
          by_cases h1 : x.1 < o.1
          · have h1z : (x.1 : Int) < (o.1 : Int) := by omega
            by_cases h2 : x.2 < o.2
            · have h2z : (x.2 : Int) < (o.2 : Int) := by omega
              have h2y : ¬ (o.2 : Int) < (x.2 : Int) := by omega
              go_wp2
              refine ⟨⟨i + 1, (x.1, o.2), a5, a6, c5, c6, n5, n6, ah, be, by first | rfl | simp, by first | rfl | simp, by first | rfl | simp, by omega, by omega, hlen2, hidden (HRS.out _ _ (by omega) (by omega)), hidden (HSE.out _ _ bx1 y2)⟩, ?_⟩
              simp [intOf]
              omega
            · have h2z : ¬ (x.2 : Int) < (o.2 : Int) := by omega
              by_cases h3 : o.2 < x.2
              · have h2y : (o.2 : Int) < (x.2 : Int) := by omega
                go_wp2
                refine ⟨⟨i + 1, (x.1, x.2), a5, a6, c5, c6, n5, n6, ah, be, by first | rfl | simp, by first | rfl | simp, by first | rfl | simp, by omega, by omega, hlen2, hidden (HRS.out _ _ (by omega) (by omega)), hidden (HSE.out _ _ bx1 bx2)⟩, ?_⟩
                simp [intOf]
                omega
              · have h2y : ¬ (o.2 : Int) < (x.2 : Int) := by omega
                go_wp2
                refine ⟨⟨i + 1, (x.1, o.2), a5, a6, c5, c6, n5, n6, ah, be, by first | rfl | simp, by first | rfl | simp, by first | rfl | simp, by omega, by omega, hlen2, hidden (HRS.out _ _ (by omega) (by omega)), hidden (HSE.out _ _ bx1 y2)⟩, ?_⟩
                simp [intOf]
                omega
          · have h1z : ¬ (x.1 : Int) < (o.1 : Int) := by omega
            by_cases h3 : o.2 < x.2
            · have h2y : (o.2 : Int) < (x.2 : Int) := by omega
              go_wp2
              refine ⟨⟨i + 1, (o.1, x.2), a5, a6, c5, c6, n5, n6, ah, be, by first | rfl | simp, by first | rfl | simp, by first | rfl | simp, by omega, by omega, hlen2, hidden (HRS.out _ _ (by omega) (by omega)), hidden (HSE.out _ _ y1 bx2)⟩, ?_⟩
              simp [intOf]
              omega
            · have h2y : ¬ (o.2 : Int) < (x.2 : Int) := by omega
              go_wp2
              refine ⟨⟨i + 1, (o.1, o.2), a5, a6, c5, c6, n5, n6, ah, be, by first | rfl | simp, by first | rfl | simp, by first | rfl | simp, by omega, by omega, hlen2, hidden (HRS.out _ _ (by omega) (by omega)), hidden (HSE.out _ _ y1 y2)⟩, ?_⟩
              simp [intOf]
              omega
    · have hltz : ¬ (i : Int) < (n : Int) := by omega
      have x0 : wr.cell? ⟨w.heap.size, 0, none⟩ = some (.int .i32 (x.1 : Int)) := hW.out.blk.cell 0
      have x1 : wr.cell? ⟨w.heap.size, 1, none⟩ = some (.int .i32 (x.2 : Int)) := hW.out.blk.cell 1
      have HRE : Hid (ah ++ [x] ++ be = R) := hidden (by
        have := hrel.out
        rw [List.drop_of_length_le (by rw [HN.out]; omega), withF] at this
        exact this)
      have cellN : Hid (∀ jj u, [Value.int .i32 (x.1 : Int), Value.int .i32 (x.2 : Int)][jj]? = some u → (wr.alloc (.cells #[.int .i32 (x.1 : Int), .int .i32 (x.2 : Int)] 125)).cell? ((⟨wr.heap.size, 0, none⟩ : Addr).add jj) = some u) := hidden (fun jj u hu => by
        rw [Addr.add_lit, Nat.zero_add]
        have := (Blk.new wr 125 [.int .i32 (x.1 : Int), .int .i32 (x.2 : Int)]).cell jj
        rw [hu] at this
        exact this)
      have own5 : Hid (wr.ownsRow (w.heap.size + 1) 125 2 (.slice a5 n5 c5) n5 (cS ah)) := hidden (by have := hW.out.r5; rw [hlen2.out.1] at this; exact this)
      have HBS : Hid (w.heap.size + 1 ≤ wr.heap.size) := hidden (by have := hW.out.blk.lt; omega)
      have hP5 : Hid (∀ w9 g c' ob, w9.ownsRow (w.heap.size + 1) 125 2 (.slice (some ⟨g, 0, none⟩) (n5 + 1) c') (n5 + 1) (cS ah ++ [.int .i32 (x.1 : Int), .int .i32 (x.2 : Int)]) → Pushed (wr.alloc ob) w9 (.slice a5 n5 c5) g → WI w w9 x (some ⟨g, 0, none⟩) c' (ah ++ [x]) a6 c6 be) := hidden (fun w9 g c' ob h1 h2 => by
        rw [← hlen2.out.1] at h1 h2
        exact hW.out.push5 hW.out.bx h1 h2)
      clear hrel
      go_wp2_with (first
        | (refine wpList_push2 _ rfl (.tmp 49) (.tmp 51) 103 rfl 125 i0 (.agg #[.int .i32 0, .int .i32 0]) 8 Tryd.underlying103 HI.out hz0 hz1 hz2 rfl (w.heap.size + 1) (.slice a5 n5 c5) n5 (cS ah) rfl (own5.out.alloc _) ⟨wr.heap.size, 0, none⟩ [.int .i32 (x.1 : Int), .int .i32 (x.2 : Int)] rfl rfl cellN.out (by intro u hu; simp at hu; rcases hu with rfl | rfl <;> rfl) (by unfold maxLen; omega) (by omega) (by have := HBS.out; simp; omega) ?_; intro g9 c9 w9 ho9 hp9; have H9 := hidden (hP5.out _ _ _ _ ho9 hp9); have HO9 := hidden ho9; have HB9 : Hid (w.heap.size + 1 ≤ w9.heap.size) := hidden (by have := H9.out.blk.lt; omega); clear hP5 ho9 hp9)
        | (refine wpList_appS _ rfl (.tmp 52) (.tmp 53) rfl (w.heap.size + 1) (.slice (some ⟨g9, 0, none⟩) (n5 + 1) c9) (n5 + 1) (ah ++ [x]) rfl (by rw [cS_append]; exact HO9.out) a6 n6 c6 be rfl (ss_of_owns H9.out.r6 H9.out.b6) hlen2.out.2 ?no6 (n5 + 1 + n6) rfl ?by6 HB9.out ?_))
      case no6 =>
        intro e
        obtain ⟨ad', c', e2, hno, _⟩ := owns_formS H9.out.r6
        injection e2 with e3 e4 e5
        subst e3 e5
        exact ⟨List.eq_nil_of_length_eq_zero (hno e).1, (hno e).2⟩
      case by6 => omega
      intro a10 c10 w10 ho10 hb10
      have HLR : Hid (R.length = n5 + 1 + n6) := hidden (by rw [← HRE.out]; simp [hlen2.out.1, hlen2.out.2]; omega)
      go_wp2
      go_ret
      refine ⟨a10, c10, by rw [HLR.out]; rfl, ?_, ?_, H9.out.bel.trans (hb10.mono (by omega))⟩
      · rw [HLR.out, ← HRE.out]
        have ho11 : w10.ownsRow (w.heap.size + 1) 125 2 (.slice a10 (n5 + 1 + n6) c10) (n5 + 1 + n6) (cS (ah ++ [x] ++ be)) := by simpa using ho10
        exact owns_base ho11 (fun g hg => by have := (ho11.lt g hg).1; omega)
      · rw [← HRE.out]
        intro y hy
        rcases List.mem_append.1 hy with hy | hy
        · exact H9.out.b5 y hy
        · exact H9.out.b6 y hy

end Go.Proofs.YtndegcgcbhcokaaDoor

/-
  The reader: class.
-/
namespace Go.Proofs.YtndegcgcbhcokaaDoor
open Go.RowKit
set_option linter.unusedVariables false
set_option linter.unusedSimpArgs false

theorem withF_len : ∀ (l : Sn) (x : Nat × Nat) (ah be : Sn), (withF l x ah be).length ≤ l.length + ah.length + be.length + 1
  | [], x, ah, be => by simp [withF]; omega
  | o :: t, x, ah, be => by
    rw [withF]
    split
    · have := withF_len t x (ah ++ [o]) be; simp at this ⊢; omega
    · split
      · have := withF_len t x ah (be ++ [o]); simp at this ⊢; omega
      · have := withF_len t (min o.1 x.1, max o.2 x.2) ah be; simp at this ⊢; omega
theorem withS_len (l : Sn) (x : Nat × Nat) : (withS l x).length ≤ l.length + 1 := by
  have := withF_len l x [] []
  simpa [withS] using this
def rdAt (r : Nat) (w : World) : Nat := ((w.cell? ⟨r, 1, none⟩).map (fun v => (intOf v).toNat)).getD 0
theorem Rd.at' {w : World} {r : Nat} {s : ByteArray} {a d : Nat} (h : Rd w r s a d) : rdAt r w = a := by
  have c1 : w.cell? ⟨r, 1, none⟩ = some (.int .i64 (a : Int)) := h.cell 1
  rw [rdAt, c1]
  simp [intOf]
theorem span_pos {S : List UInt8} {a : Nat} {x : Nat × Nat} {b : Nat} (h : spanF S a = .ok x b) : a < b := by
  unfold spanF at h
  have key : ∀ {a c b : Nat}, charF S a = .ok c b → a < b := fun {a c b} h => by
    unfold charF at h
    simp only at h
    split at h
    · cases h
    · rename_i c' k hf
      split at h
      · injection h with e1 e2
        have := (fp_len hf).1
        subst e2
        by_cases hd : decide (S[a]? = some 92) = true
        · rw [if_pos hd]; omega
        · rw [if_neg hd]; omega
      · cases h
  cases h1 : charF S a with
  | bad k => rw [h1] at h; cases h
  | out => rw [h1] at h; cases h
  | ok lo b1 =>
    have k1 := key h1
    rw [h1] at h
    simp only at h
    split at h
    · cases h2 : charF S (b1 + 1) with
      | bad k => rw [h2] at h; cases h
      | out => rw [h2] at h; cases h
      | ok hi b2 =>
        have k2 := key h2
        rw [h2] at h
        simp only at h
        split at h
        · cases h
        · injection h with e1 e2; omega
    · injection h with e1 e2; omega

/-- What class answers. -/
def ClR (S : List UInt8) (a : Nat) (neg : Bool) (l : Sn) (b : Nat) (ok : Bool) : Prop := a ≤ b ∧ b ≤ S.length ∧ neg = decide (S[a]? = some 94) ∧ (ok = true → clsF S (S.length + 2) (tkN S a 94) [] = .ok l b) ∧ (ok = false → clsF S (S.length + 2) (tkN S a 94) [] = .bad b)
/-- A class, as a value: its spans lie in blocks of F. -/
def ClV (F : Nat → Prop) (w : World) (v : Value) (neg : Bool) (l : Sn) : Prop := ∃ ad c, v = .iface 131 (.agg #[.bool neg, .slice ad l.length c]) ∧ Ss w ad l ∧ Bd l ∧ ∀ y, l ≠ [] → ad = some y → F y.block

/-- What is held in a round of class. -/
structure CI (w wx : World) (r g : Nat) (s : ByteArray) (d i : Nat) (neg : Bool) (ad : Option Addr) (c n : Nat) (acc : Sn) : Prop where
  rd : Rd wx r s i d
  blk : Blk wx g 131 [.bool neg, .slice ad n c]
  len : acc.length = n
  ss : Ss wx ad acc
  bd : Bd acc
  le : i ≤ (bts s).length
  ni : n ≤ i
  ch : Chg (fun k => k = r) w wx
  own : ∀ y, acc ≠ [] → ad = some y → w.heap.size ≤ y.block ∧ y.block ≠ g
theorem CI.moved {w wx w' : World} {r g : Nat} {s : ByteArray} {d i j : Nat} {neg : Bool} {ad : Option Addr} {c n : Nat} {acc : Sn} (h : CI w wx r g s d i neg ad c n acc) (hr : r < w.heap.size) (hg : w.heap.size ≤ g) (hrd : Rd w' r s j d) (hc : Chg (fun k => k = r) wx w') (hj : j ≤ (bts s).length) (hij : i ≤ j) : CI w w' r g s d j neg ad c n acc := by
  refine ⟨hrd, hc.blk h.blk (fun e => by have e' : g = r := e; omega), h.len, ⟨h.ss.sz, fun h0 => ?_⟩, h.bd, hj, by have := h.ni; omega, h.ch.trans hc (fun _ _ e => e), h.own⟩
  obtain ⟨b, off, e, hb, hcell⟩ := h.ss.at' h0
  have ho := (h.own _ h0 e).1
  have hbk := hc.block b hb (fun e' => by have e'' : b = r := e'; simp only at ho; omega)
  refine ⟨b, off, e, Nat.lt_of_lt_of_le hb hc.size, fun k x hx => ?_⟩
  rw [show w'.cell? ⟨b, off + k * 2, none⟩ = wx.cell? ⟨b, off + k * 2, none⟩ from World.cell?_of_block hbk, show w'.cell? ⟨b, off + k * 2 + 1, none⟩ = wx.cell? ⟨b, off + k * 2 + 1, none⟩ from World.cell?_of_block hbk]
  exact hcell k x hx

theorem CI.next {w w5 w6 : World} {r g : Nat} {s : ByteArray} {d i : Nat} {neg : Bool} {ad a' : Option Addr} {c n c' n' : Nat} {acc l' : Sn} {ob : Obj} (h : CI w w5 r g s d i neg ad c n acc) (hr : r < w.heap.size) (hg : w.heap.size ≤ g) (hb : Below (w5.alloc ob).heap.size (w5.alloc ob) w6)
    (ho : w6.ownsRow (w5.alloc ob).heap.size 125 2 (.slice a' n' c') n' (cS l')) (hbd : Bd l') (hl : l'.length = n') (hn : n' ≤ i) : CI w (w6.setCell ⟨g, 1, none⟩ (.slice a' n' c')) r g s d i neg a' c' n' l' := by
  have hal : Below w5.heap.size w5 w6 := ((Below.refl _ _).alloc (Nat.le_refl _) ob).trans (hb.mono (by simp))
  have hgl := h.blk.lt
  have hcs : Chg (fun k => k = g) w6 (w6.setCell ⟨g, 1, none⟩ (.slice a' n' c')) := Chg.set ⟨g, 1, none⟩ _ _
  have hbase : ∀ b, (Value.slice a' n' c').ownBlock = some b → w5.heap.size + 1 ≤ b := fun b hb' => by have := (ho.lt b hb').1; simpa using this
  have hoS : (w6.setCell ⟨g, 1, none⟩ (.slice a' n' c')).ownsRow (w5.alloc ob).heap.size 125 2 (.slice a' n' c') n' (cS l') := hcs.owns ho (fun b hb' e => by have := hbase b hb'; have e' : b = g := e; omega)
  refine ⟨hcs.blk (h.rd.later hal) (fun e => by have e' : r = g := e; omega), (h.blk.later hal).set 1 _, hl, ss_of_owns hoS hbd, hbd, h.le, hn, (h.ch.trans (Chg.of_below (F := fun _ => False) hal) (fun _ _ e => e.elim)).trans hcs (fun k hk e => by have e' : k = g := e; omega), fun y h0 e => ?_⟩
  subst e
  obtain ⟨a2, c2, e2, _, hsp, _⟩ := owns_formS ho
  injection e2 with e3 _ _
  obtain ⟨z0, z1⟩ := hsp y e3.symm
  obtain ⟨b, off, sp⟩ := y
  simp only at z0 z1
  subst z0 z1
  have := hbase b (by simp [Value.ownBlock])
  have hs5 := h.ch.size
  simp only
  omega

end Go.Proofs.YtndegcgcbhcokaaDoor

/-
  The reader: class (the walk).
-/
namespace Go.Proofs.YtndegcgcbhcokaaDoor
open Go.RowKit
set_option linter.unusedVariables false
set_option linter.unusedSimpArgs false

set_option maxRecDepth 100000 in
set_option maxHeartbeats 8000000 in
theorem classP (r : Nat) (s : ByteArray) (a d : Nat) (w : World) (h : Rd w r s a d) (ha : a ≤ s.size) (hs : s.size ≤ 64) :
    Calls Tryd.prog 68 #[.pointer (some ⟨r, 0, none⟩)] w fun e w' => ∃ v neg l b ok, e = .returned (.tuple #[v, .bool ok]) ∧ ClR (bts s) a neg l b ok ∧ Rd w' r s b d ∧ Chg (fun i => i = r) w w' ∧ (ok = true → ClV (fun b => w.heap.size ≤ b) w' v neg l) ∧ (ok = false → v = .nilIface) := by
  have hs2 : s.size ≤ 140737488355328 := by omega
  have hrw : r < w.heap.size := Blk.lt h
  have kT := takeP r s a d 94 w h ha hs2
  obtain ⟨neg, hneg⟩ : ∃ neg, decide ((bts s)[a]? = some 94) = neg := ⟨_, rfl⟩
  obtain ⟨a1, ha1⟩ : ∃ a1, tkN (bts s) a 94 = a1 := ⟨_, rfl⟩
  have hl1 : a ≤ a1 ∧ a1 ≤ (bts s).length := by
    rw [← ha1]
    unfold tkN
    split
    · rename_i h94; exact ⟨by omega, (List.getElem?_eq_some_iff.1 h94).1⟩
    · exact ⟨Nat.le_refl _, by rw [← size_bts]; exact ha⟩
  rw [hneg, ha1] at kT
  have kT' : Calls Tryd.prog 26 #[.pointer (some ⟨r, 0, none⟩), .int .u8 94] w fun e w' => e = .returned (.bool neg) ∧ Rd w' r s a1 d ∧ Chg (fun i => i = r) w w' := kT
  obtain ⟨RES, hRES⟩ : ∃ RES, clsF (bts s) ((bts s).length + 2) a1 [] = RES := ⟨_, rfl⟩
  have HOK : Hid (∀ l b, b ≤ (bts s).length → a ≤ b → RES = .ok l b → ClR (bts s) a neg l b true) := hidden (fun l b h1 h2 h3 => ⟨h2, h1, hneg.symm, (fun _ => by rw [ha1, hRES, h3]), fun h => by cases h⟩)
  have HBAD : Hid (∀ l b, b ≤ (bts s).length → a ≤ b → RES = .bad b → ClR (bts s) a neg l b false) := hidden (fun l b h1 h2 h3 => ⟨h2, h1, hneg.symm, (fun h => by cases h), fun _ => by rw [ha1, hRES, h3]⟩)
  have HRES := hidden hRES
  have hsl : (bts s).length ≤ 64 := by rw [← size_bts]; exact hs
  have HSB := hidden (size_bts s)
  clear kT hneg ha1 h hRES
  go_enter Tryd.func68, Tryd.ntmps68
  go_wp2_with (go_at_call 26; refine kT'.mono ?_; rintro e w1 ⟨rfl, h1, hc1⟩; clear kT')
  have hal : Below w1.heap.size w1 (w1.alloc (.cells #[.bool neg, .slice none 0 0] 131)) := (Below.refl _ _).alloc (Nat.le_refl _) _
  have C0 : Hid (CI w (w1.alloc (.cells #[.bool neg, .slice none 0 0] 131)) r w1.heap.size s d a1 neg none 0 0 []) := hidden ⟨h1.later hal, Blk.new w1 131 _, rfl, Ss.nil _ _, (fun y hy => by cases hy), hl1.2, Nat.zero_le _, hc1.trans (Chg.of_below (F := fun _ => False) hal) (fun _ _ e => e.elim), fun y h0 => absurd rfl h0⟩
  have HG : Hid (w.heap.size ≤ w1.heap.size) := hidden hc1.size
  clear h1 hc1 hal
  go_loopw [] (fun wx => ∃ (i n c f : Nat) (ad : Option Addr) (acc : Sn), a1 ≤ i ∧ i ≤ 64 ∧ (bts s).length + 2 ≤ f + i ∧ Hid (clsF (bts s) f i acc = RES) ∧ Hid (CI w wx r w1.heap.size s d i neg ad c n acc)) (fun wx => s.size - rdAt r wx)
  case atStart => exact ⟨a1, 0, 0, (bts s).length + 2, none, [], by omega, by have := hl1.2; omega, by omega, HRES, C0⟩
  case round =>
    rename World => wr
    obtain ⟨i, n, c, f, ad, acc, hi1, hi64, hf, hrel, hC⟩ := hrel
    clear C0 HRES
    have hile := hC.out.le
    obtain ⟨f', rfl⟩ : ∃ f', f = f' + 1 := ⟨f - 1, by omega⟩
    have HST : Hid (clsF (bts s) (f' + 1) i acc = if acc ≠ [] ∧ (bts s)[i]? = some 93 then .ok acc (i + 1) else
      match spanF (bts s) i with
      | .ok x b => clsF (bts s) f' b (withS acc x)
      | .bad k => .bad k
      | .out => .out) := hidden (by
      rw [clsF]
      split
      · rfl
      · cases spanF (bts s) i <;> rfl)
    have g1 : wr.cell? ⟨w1.heap.size, 1, none⟩ = some (.slice ad n c) := hC.out.blk.cell 1
    have hn0 : Hid (n = 0 ↔ acc = []) := hidden (by rw [← hC.out.len]; exact List.length_eq_zero_iff)
    have his : i ≤ s.size := by rw [HSB.out]; exact hile
    -- what follows where a span is read
    have go1 : Hid (∀ wx, CI w wx r w1.heap.size s d i neg ad c n acc → ¬ (acc ≠ [] ∧ (bts s)[i]? = some 93) → Calls Tryd.prog 71 #[.pointer (some ⟨r, 0, none⟩)] wx fun e w' => ∃ (lo hi b : Nat) (ok : Bool), e = .returned (.tuple #[.agg #[.int .i32 ((lo : Nat) : Int), .int .i32 ((hi : Nat) : Int)], .bool ok]) ∧ CI w w' r w1.heap.size s d b neg ad c n acc ∧ i ≤ b ∧ b ≤ (bts s).length ∧ (ok = true → i < b ∧ lo ≤ 1114111 ∧ hi ≤ 1114111 ∧ clsF (bts s) f' b (withS acc (lo, hi)) = RES) ∧ (ok = false → RES = .bad b)) := hidden (fun wx hCx hno => by
      refine (spanP r s i d wx hCx.rd his hs2).mono ?_
      rintro e w' ⟨lo, hi, b, ok, rfl, hsp, hrd, hch⟩
      refine ⟨lo, hi, b, ok, rfl, hCx.moved hrw HG.out hrd hch hsp.2.1 hsp.1, hsp.1, hsp.2.1, fun hok => ?_, fun hok => ?_⟩
      · obtain ⟨k1, k2, k3⟩ := hsp.2.2.1 hok
        refine ⟨span_pos k1, by omega, k3, ?_⟩
        rw [← hrel.out, HST.out, if_neg hno, k1]
      · rw [← hrel.out, HST.out, if_neg hno, hsp.2.2.2 hok])
    have hext : Hid (acc ≠ [] ∧ (bts s)[i]? = some 93 → RES = .ok acc (i + 1) ∧ i + 1 ≤ (bts s).length) := hidden (fun hy => ⟨by rw [← hrel.out, HST.out, if_pos hy], (List.getElem?_eq_some_iff.1 hy.2).1⟩)
    clear hrel HST
    by_cases h0 : n = 0
    · have h0z : ((n : Int) == 0) = true := by simp [h0]
      have hno : ¬ (acc ≠ [] ∧ (bts s)[i]? = some 93) := fun hy => hy.1 (hn0.out.1 h0)
      have CX := hC
      have H0 := hidden h0
      clear h0
      have k5 := go1.out _ CX.out hno
      clear go1 hext
      go_upto_region 4 with (go_at_call 71; refine k5.mono ?_; rintro e w5 ⟨lo, hi, b, ok, rfl, hC5, hib, hbl, hyes, hbad⟩; clear k5)
      have C5 := hidden hC5
      have hal5 : Below w5.heap.size w5 (w5.alloc (.cells #[.int .i32 (lo : Int), .int .i32 (hi : Int)] 125)) := (Below.refl _ _).alloc (Nat.le_refl _) _
      cases ok with
      | false =>
        have HB := hidden (HBAD.out [] b hbl (by omega) (hbad rfl))
        have HRD := hidden (show Rd (w5.alloc (.cells #[.int .i32 (lo : Int), .int .i32 (hi : Int)] 125)) r s b d from hC5.rd.later hal5)
        have HCH := hidden (hC5.ch.trans (Chg.of_below (F := fun _ => False) hal5) (fun _ _ e => e.elim))
        clear hC5 hyes hbad hal5
        go_wp2
        go_ret2
        first
          | exact ⟨_, neg, [], b, false, rfl, HB.out, HRD.out, HCH.out, (fun h => by cases h), fun _ => rfl⟩
          | exact ⟨_, neg, [], b, Or.inl ⟨rfl, HB.out, HRD.out, HCH.out, (fun h => by cases h), fun _ => rfl⟩⟩
      | true =>
        obtain ⟨hlt, hlo, hhi, hcl⟩ := hyes rfl
        have HCL := hidden hcl
        have B5 := hC5.blk.later hal5
        have p1 : (w5.alloc (.cells #[.int .i32 (lo : Int), .int .i32 (hi : Int)] 125)).cell? ⟨w1.heap.size, 1, none⟩ = some (.slice ad n c) := B5.cell 1
        have N5 := Blk.new w5 125 [.int .i32 (lo : Int), .int .i32 (hi : Int)]
        have e0 : (w5.alloc (.cells #[.int .i32 (lo : Int), .int .i32 (hi : Int)] 125)).cell? ⟨w5.heap.size, 0, none⟩ = some (.int .i32 (lo : Int)) := N5.cell 0
        have e1 : (w5.alloc (.cells #[.int .i32 (lo : Int), .int .i32 (hi : Int)] 125)).cell? ⟨w5.heap.size, 1, none⟩ = some (.int .i32 (hi : Int)) := N5.cell 1
        have kW := withP ad c acc (lo, hi) (w5.alloc (.cells #[.int .i32 (lo : Int), .int .i32 (hi : Int)] 125)) (hC5.ss.later hal5) (by rw [hC5.len]; have := hC5.ni; omega) ⟨hlo, hhi⟩
        rw [hC5.len] at kW
        obtain ⟨n', hn'⟩ : ∃ n', (withS acc (lo, hi)).length = n' := ⟨_, rfl⟩
        have hwl := withS_len acc (lo, hi)
        rw [hn', hC5.len] at hwl
        rw [hn'] at kW
        have hni := hC5.ni
        have hni2 : n ≤ i := CX.out.ni
        have HN' := hidden hn'
        have BL5 := hidden B5
        clear hC5 hyes hbad hcl hn' B5 N5 hni
        go_wp2_with (go_at_call 72; refine kW.mono ?_; rintro e w6 ⟨a6, c6, rfl, ho6, hbd6, hb6⟩; have q1 : w6.cell? ⟨w1.heap.size, 1, none⟩ = some (.slice ad n c) := (BL5.out.later hb6).cell 1; have qf := (BL5.out.later hb6).frozen 1; clear kW)
        have C7 := hidden (C5.out.next hrw HG.out hb6 ho6 hbd6 HN'.out (by omega))
        refine ⟨⟨b, n', c6, f', a6, withS acc (lo, hi), by omega, by omega, by omega, HCL, C7⟩, ?_⟩
        rw [C7.out.rd.at', hC.out.rd.at', HSB.out]
        omega
    · have h0z : ((n : Int) == 0) = false := by simp [h0]
      have kC := takeP r s i d 93 wr hC.out.rd his hs2
      by_cases h93 : (bts s)[i]? = some 93
      · rw [decide_eq_true h93, tkN, if_pos h93] at kC
        have kC' : Calls Tryd.prog 26 #[.pointer (some ⟨r, 0, none⟩), .int .u8 93] wr fun e w' => e = .returned (.bool true) ∧ Rd w' r s (i + 1) d ∧ Chg (fun i => i = r) wr w' := kC
        obtain ⟨x1, x2⟩ := hext.out ⟨fun e => h0 (hn0.out.2 e), h93⟩
        have HB := hidden (HOK.out acc (i + 1) x2 (by omega) x1)
        have HX2 := hidden x2
        clear kC h93 x1 x2 hext go1 hn0
        go_wp2_with (go_at_call 26; refine kC'.mono ?_; rintro e w3 ⟨rfl, h3, hc3⟩; have C3 := hidden (hC.out.moved hrw HG.out h3 hc3 HX2.out (Nat.le_succ i)); have q0 : w3.cell? ⟨w1.heap.size, 0, none⟩ = some (.bool neg) := C3.out.blk.cell 0; have q1 : w3.cell? ⟨w1.heap.size, 1, none⟩ = some (.slice ad n c) := C3.out.blk.cell 1; clear kC' h3 hc3)
        go_ret2
        have HV : ClV (fun b => w.heap.size ≤ b) w3 (.iface 131 (.agg #[.bool neg, .slice ad n c])) neg acc := ⟨ad, c, by rw [C3.out.len], C3.out.ss, C3.out.bd, fun y h0 e => (C3.out.own y h0 e).1⟩
        first
          | exact ⟨_, neg, acc, i + 1, true, rfl, HB.out, C3.out.rd, C3.out.ch, fun _ => HV, fun h => by cases h⟩
          | exact ⟨_, neg, acc, i + 1, Or.inr ⟨rfl, HB.out, C3.out.rd, C3.out.ch, fun _ => HV, fun h => by cases h⟩⟩
      · rw [decide_eq_false h93, tkN, if_neg h93] at kC
        have kC' : Calls Tryd.prog 26 #[.pointer (some ⟨r, 0, none⟩), .int .u8 93] wr fun e w' => e = .returned (.bool false) ∧ Rd w' r s i d ∧ Chg (fun i => i = r) wr w' := kC
        have hno : ¬ (acc ≠ [] ∧ (bts s)[i]? = some 93) := fun hy => h93 hy.2
        clear kC h93
        go_wp2_with (go_at_call 26; refine kC'.mono ?_; rintro e w3 ⟨rfl, h3, hc3⟩; clear kC')
        have CX := hidden (hC.out.moved hrw HG.out h3 hc3 hile (Nat.le_refl i))
        clear h3 hc3
        have k5 := go1.out _ CX.out hno
        clear go1 hext
        go_upto_region 4 with (go_at_call 71; refine k5.mono ?_; rintro e w5 ⟨lo, hi, b, ok, rfl, hC5, hib, hbl, hyes, hbad⟩; clear k5)
        have C5 := hidden hC5
        have hal5 : Below w5.heap.size w5 (w5.alloc (.cells #[.int .i32 (lo : Int), .int .i32 (hi : Int)] 125)) := (Below.refl _ _).alloc (Nat.le_refl _) _
        cases ok with
        | false =>
          have HB := hidden (HBAD.out [] b hbl (by omega) (hbad rfl))
          have HRD := hidden (show Rd (w5.alloc (.cells #[.int .i32 (lo : Int), .int .i32 (hi : Int)] 125)) r s b d from hC5.rd.later hal5)
          have HCH := hidden (hC5.ch.trans (Chg.of_below (F := fun _ => False) hal5) (fun _ _ e => e.elim))
          clear hC5 hyes hbad hal5
          go_wp2
          go_ret2
          first
            | exact ⟨_, neg, [], b, false, rfl, HB.out, HRD.out, HCH.out, (fun h => by cases h), fun _ => rfl⟩
            | exact ⟨_, neg, [], b, Or.inl ⟨rfl, HB.out, HRD.out, HCH.out, (fun h => by cases h), fun _ => rfl⟩⟩
        | true =>
          obtain ⟨hlt, hlo, hhi, hcl⟩ := hyes rfl
          have HCL := hidden hcl
          have B5 := hC5.blk.later hal5
          have p1 : (w5.alloc (.cells #[.int .i32 (lo : Int), .int .i32 (hi : Int)] 125)).cell? ⟨w1.heap.size, 1, none⟩ = some (.slice ad n c) := B5.cell 1
          have N5 := Blk.new w5 125 [.int .i32 (lo : Int), .int .i32 (hi : Int)]
          have e0 : (w5.alloc (.cells #[.int .i32 (lo : Int), .int .i32 (hi : Int)] 125)).cell? ⟨w5.heap.size, 0, none⟩ = some (.int .i32 (lo : Int)) := N5.cell 0
          have e1 : (w5.alloc (.cells #[.int .i32 (lo : Int), .int .i32 (hi : Int)] 125)).cell? ⟨w5.heap.size, 1, none⟩ = some (.int .i32 (hi : Int)) := N5.cell 1
          have kW := withP ad c acc (lo, hi) (w5.alloc (.cells #[.int .i32 (lo : Int), .int .i32 (hi : Int)] 125)) (hC5.ss.later hal5) (by rw [hC5.len]; have := hC5.ni; omega) ⟨hlo, hhi⟩
          rw [hC5.len] at kW
          obtain ⟨n', hn'⟩ : ∃ n', (withS acc (lo, hi)).length = n' := ⟨_, rfl⟩
          have hwl := withS_len acc (lo, hi)
          rw [hn', hC5.len] at hwl
          rw [hn'] at kW
          have hni := hC5.ni
          have hni2 : n ≤ i := CX.out.ni
          have HN' := hidden hn'
          have BL5 := hidden B5
          clear hC5 hyes hbad hcl hn' B5 N5 hni
          go_wp2_with (go_at_call 72; refine kW.mono ?_; rintro e w6 ⟨a6, c6, rfl, ho6, hbd6, hb6⟩; have q1 : w6.cell? ⟨w1.heap.size, 1, none⟩ = some (.slice ad n c) := (BL5.out.later hb6).cell 1; have qf := (BL5.out.later hb6).frozen 1; clear kW)
          have C7 := hidden (C5.out.next hrw HG.out hb6 ho6 hbd6 HN'.out (by omega))
          refine ⟨⟨b, n', c6, f', a6, withS acc (lo, hi), by omega, by omega, by omega, HCL, C7⟩, ?_⟩
          rw [C7.out.rd.at', hC.out.rd.at', HSB.out]
          omega

end Go.Proofs.YtndegcgcbhcokaaDoor

/-
  Parts of a pattern in memory: their blocks lie in F.
-/
namespace Go.Proofs.YtndegcgcbhcokaaDoor
open Go.RowKit
set_option linter.unusedVariables false
set_option linter.unusedSimpArgs false

mutual
/-- A part, as a value. -/
def PtV (F : Nat → Prop) (w : World) : Pt → Value → Prop
  | .chr c, v => v = .iface 126 (.int .i32 (c : Int)) ∧ c ≤ 1114111
  | .any, v => v = .iface 128 (.agg #[])
  | .cls neg l, v => ClV F w v neg l
  | .grp l, v => ∃ ad c b off, v = .iface 98 (.agg #[.slice ad l.length c]) ∧ (l ≠ [] → ad = some ⟨b, off, none⟩ ∧ F b) ∧ RowsV F w l b off
  | .rep a s, v => ∃ u, v = .iface 100 (.agg #[u, .int .u8 (s : Int)]) ∧ PtV F w a u
/-- Items from a place on. -/
def RowV (F : Nat → Prop) (w : World) : List Pt → Nat → Nat → Prop
  | [], _, _ => True
  | p :: t, b, off => (∃ v, w.cell? ⟨b, off, none⟩ = some v ∧ PtV F w p v) ∧ RowV F w t b (off + 1)
/-- Rows from a place on. -/
def RowsV (F : Nat → Prop) (w : World) : List (List Pt) → Nat → Nat → Prop
  | [], _, _ => True
  | r :: t, b, off => (∃ ad c b' off', w.cell? ⟨b, off, none⟩ = some (.slice ad r.length c) ∧ (r ≠ [] → ad = some ⟨b', off', none⟩ ∧ F b') ∧ RowV F w r b' off') ∧ RowsV F w t b (off + 1)
end

theorem ClV.keep {F G : Nat → Prop} {w w' : World} {v : Value} {neg : Bool} {l : Sn} (h : ClV F w v neg l) (hc : Chg G w w') (hd : ∀ b, F b → ¬ G b) : ClV F w' v neg l := by
  obtain ⟨ad, c, e, hs, hb, hf⟩ := h
  refine ⟨ad, c, e, ⟨hs.sz, fun h0 => ?_⟩, hb, hf⟩
  obtain ⟨b, off, e1, hlt, hcell⟩ := hs.at' h0
  have hbk := hc.block b hlt (hd b (hf _ h0 e1))
  refine ⟨b, off, e1, Nat.lt_of_lt_of_le hlt hc.size, fun k x hx => ?_⟩
  rw [show w'.cell? ⟨b, off + k * 2, none⟩ = w.cell? ⟨b, off + k * 2, none⟩ from World.cell?_of_block hbk, show w'.cell? ⟨b, off + k * 2 + 1, none⟩ = w.cell? ⟨b, off + k * 2 + 1, none⟩ from World.cell?_of_block hbk]
  exact hcell k x hx
theorem ClV.mono {F G : Nat → Prop} {w : World} {v : Value} {neg : Bool} {l : Sn} (h : ClV F w v neg l) (hFG : ∀ b, F b → G b) : ClV G w v neg l := by
  obtain ⟨ad, c, e, hs, hb, hf⟩ := h
  exact ⟨ad, c, e, hs, hb, fun y h0 e => hFG _ (hf y h0 e)⟩
theorem cell_lt {w : World} {b off : Nat} {v : Value} (h : w.cell? ⟨b, off, none⟩ = some v) : b < w.heap.size := by
  rcases Nat.lt_or_ge b w.heap.size with h' | h'
  · exact h'
  · simp [World.cell?, Array.getElem?_eq_none h'] at h

mutual
/-- Parts stay while other blocks change. -/
theorem PtV.keep {F G : Nat → Prop} {w w' : World} (hc : Chg G w w') (hd : ∀ b, F b → ¬ G b) : ∀ (p : Pt) (v : Value), PtV F w p v → PtV F w' p v
  | .chr c, v, h => by simp only [PtV] at h ⊢; exact h
  | .any, v, h => by simp only [PtV] at h ⊢; exact h
  | .cls neg l, v, h => by simp only [PtV] at h ⊢; exact h.keep hc hd
  | .grp l, v, h => by
    simp only [PtV] at h ⊢
    obtain ⟨ad, c, b, off, e, h1, h2⟩ := h
    refine ⟨ad, c, b, off, e, h1, RowsV.keep hc hd l b off (fun h0 => (h1 h0).2) h2⟩
  | .rep a s, v, h => by
    simp only [PtV] at h ⊢
    obtain ⟨u, e, h1⟩ := h
    exact ⟨u, e, PtV.keep hc hd a u h1⟩
theorem RowV.keep {F G : Nat → Prop} {w w' : World} (hc : Chg G w w') (hd : ∀ b, F b → ¬ G b) : ∀ (l : List Pt) (b off : Nat), (l ≠ [] → F b) → RowV F w l b off → RowV F w' l b off
  | [], b, off, _, h => by simp only [RowV]
  | p :: t, b, off, hF, h => by
    simp only [RowV] at h ⊢
    obtain ⟨⟨v, h1, h2⟩, h3⟩ := h
    have hFb := hF (by simp)
    refine ⟨⟨v, ?_, PtV.keep hc hd p v h2⟩, RowV.keep hc hd t b (off + 1) (fun _ => hFb) h3⟩
    rw [show w'.cell? ⟨b, off, none⟩ = w.cell? ⟨b, off, none⟩ from World.cell?_of_block (hc.block b (cell_lt h1) (hd b hFb))]
    exact h1
theorem RowsV.keep {F G : Nat → Prop} {w w' : World} (hc : Chg G w w') (hd : ∀ b, F b → ¬ G b) : ∀ (l : List (List Pt)) (b off : Nat), (l ≠ [] → F b) → RowsV F w l b off → RowsV F w' l b off
  | [], b, off, _, h => by simp only [RowsV]
  | r :: t, b, off, hF, h => by
    simp only [RowsV] at h ⊢
    obtain ⟨⟨ad, c, b', off', h1, h2, h3⟩, h4⟩ := h
    have hFb := hF (by simp)
    refine ⟨⟨ad, c, b', off', ?_, h2, RowV.keep hc hd r b' off' (fun h0 => (h2 h0).2) h3⟩, RowsV.keep hc hd t b (off + 1) (fun _ => hFb) h4⟩
    rw [show w'.cell? ⟨b, off, none⟩ = w.cell? ⟨b, off, none⟩ from World.cell?_of_block (hc.block b (cell_lt h1) (hd b hFb))]
    exact h1
end
mutual
theorem PtV.mono {F G : Nat → Prop} {w : World} (hFG : ∀ b, F b → G b) : ∀ (p : Pt) (v : Value), PtV F w p v → PtV G w p v
  | .chr c, v, h => by simp only [PtV] at h ⊢; exact h
  | .any, v, h => by simp only [PtV] at h ⊢; exact h
  | .cls neg l, v, h => by simp only [PtV] at h ⊢; exact h.mono hFG
  | .grp l, v, h => by
    simp only [PtV] at h ⊢
    obtain ⟨ad, c, b, off, e, h1, h2⟩ := h
    exact ⟨ad, c, b, off, e, fun h0 => ⟨(h1 h0).1, hFG _ (h1 h0).2⟩, RowsV.mono hFG l b off h2⟩
  | .rep a s, v, h => by
    simp only [PtV] at h ⊢
    obtain ⟨u, e, h1⟩ := h
    exact ⟨u, e, PtV.mono hFG a u h1⟩
theorem RowV.mono {F G : Nat → Prop} {w : World} (hFG : ∀ b, F b → G b) : ∀ (l : List Pt) (b off : Nat), RowV F w l b off → RowV G w l b off
  | [], b, off, h => by simp only [RowV]
  | p :: t, b, off, h => by
    simp only [RowV] at h ⊢
    obtain ⟨⟨v, h1, h2⟩, h3⟩ := h
    exact ⟨⟨v, h1, PtV.mono hFG p v h2⟩, RowV.mono hFG t b (off + 1) h3⟩
theorem RowsV.mono {F G : Nat → Prop} {w : World} (hFG : ∀ b, F b → G b) : ∀ (l : List (List Pt)) (b off : Nat), RowsV F w l b off → RowsV G w l b off
  | [], b, off, h => by simp only [RowsV]
  | r :: t, b, off, h => by
    simp only [RowsV] at h ⊢
    obtain ⟨⟨ad, c, b', off', h1, h2, h3⟩, h4⟩ := h
    exact ⟨⟨ad, c, b', off', h1, fun h0 => ⟨(h2 h0).1, hFG _ (h2 h0).2⟩, RowV.mono hFG r b' off' h3⟩, RowsV.mono hFG t b (off + 1) h4⟩
end

end Go.Proofs.YtndegcgcbhcokaaDoor
