/-
  with: a span more.
-/
import Derived.Test.YtanlgplgplncdaaGreatDoorPtE
namespace Go.Proofs.YtanlgplgplncdaaGreatDoor
open Go.RowKit
set_option linter.unusedVariables false
set_option linter.unusedSimpArgs false

/-- What is held while a span is put in: it itself, what lies ahead, what lies behind. -/
structure WI (w wx : World) (x : Nat × Nat) (a5 : Option Addr) (c5 : Nat) (ah : Sn) (a6 : Option Addr) (c6 : Nat) (be : Sn) : Prop where
  blk : Blk wx w.heap.size 209 [.int .i32 (x.1 : Int), .int .i32 (x.2 : Int)]
  r5 : wx.ownsRow (w.heap.size + 1) 209 2 (.slice a5 ah.length c5) ah.length (cS ah)
  r6 : wx.ownsRow (w.heap.size + 1) 209 2 (.slice a6 be.length c6) be.length (cS be)
  dis : ∀ g, (Value.slice a5 ah.length c5).ownBlock = some g → (Value.slice a6 be.length c6).ownBlock ≠ some g
  b5 : Bd ah
  b6 : Bd be
  bx : x.1 ≤ 1114111 ∧ x.2 ≤ 1114111
  bel : Below w.heap.size w wx
theorem WI.lat {w wx w' : World} {x : Nat × Nat} {a5 a6 : Option Addr} {c5 c6 : Nat} {ah be : Sn} (h : WI w wx x a5 c5 ah a6 c6 be) (hl : Lat wx w') : WI w w' x a5 c5 ah a6 c6 be :=
  ⟨h.blk.later hl, owl h.r5 hl, owl h.r6 hl, h.dis, h.b5, h.b6, h.bx, h.bel.trans (hl.mono h.bel.size)⟩
theorem Bd.snoc {l : Sn} (h : Bd l) {o : Nat × Nat} (ho : o.1 ≤ 1114111 ∧ o.2 ≤ 1114111) : Bd (l ++ [o]) := fun x hx => by
  rcases List.mem_append.1 hx with hx | hx
  · exact h x hx
  · rw [List.mem_singleton.1 hx]; exact ho
theorem WI.push5 {w wx w' : World} {x o : Nat × Nat} {a5 a6 : Option Addr} {c5 c6 g c' : Nat} {ah be : Sn} {ob : Obj} (h : WI w wx x a5 c5 ah a6 c6 be) (ho : o.1 ≤ 1114111 ∧ o.2 ≤ 1114111)
    (hO : w'.ownsRow (w.heap.size + 1) 209 2 (.slice (some ⟨g, 0, none⟩) (ah.length + 1) c') (ah.length + 1) (cS ah ++ [.int .i32 (o.1 : Int), .int .i32 (o.2 : Int)])) (hp : Pushed (wx.alloc ob) w' (.slice a5 ah.length c5) g) :
    WI w w' x (some ⟨g, 0, none⟩) c' (ah ++ [o]) a6 c6 be := by
  have hch := hp.chg
  have hF : ∀ b, (Value.slice a5 ah.length c5).ownBlock = some b → w.heap.size + 1 ≤ b := fun b hb => (h.r5.lt b hb).1
  refine ⟨hch.1.blk h.blk (fun e => by have := hF _ e; omega), ?_, hch.1.owns h.r6 (fun b hb e => h.dis b e hb), fun b hb => ?_, h.b5.snoc ho, h.b6, h.bx, h.bel.trans (hch.1.below h.bel.size (fun b e => by have := hF _ e; omega))⟩
  · rw [List.length_append, cS_append]
    exact hO
  · have e : g = b := by simpa [Value.ownBlock] using hb
    subst e
    intro hb6
    rcases hch.2 with e | ⟨g', e, hg⟩
    · exact h.dis g e.symm hb6
    · injection e with e
      subst e
      have := owns_lt h.r6 g hb6
      omega
theorem WI.push6 {w wx w' : World} {x o : Nat × Nat} {a5 a6 : Option Addr} {c5 c6 g c' : Nat} {ah be : Sn} {ob : Obj} (h : WI w wx x a5 c5 ah a6 c6 be) (ho : o.1 ≤ 1114111 ∧ o.2 ≤ 1114111)
    (hO : w'.ownsRow (w.heap.size + 1) 209 2 (.slice (some ⟨g, 0, none⟩) (be.length + 1) c') (be.length + 1) (cS be ++ [.int .i32 (o.1 : Int), .int .i32 (o.2 : Int)])) (hp : Pushed (wx.alloc ob) w' (.slice a6 be.length c6) g) :
    WI w w' x a5 c5 ah (some ⟨g, 0, none⟩) c' (be ++ [o]) := by
  have hch := hp.chg
  have hF : ∀ b, (Value.slice a6 be.length c6).ownBlock = some b → w.heap.size + 1 ≤ b := fun b hb => (h.r6.lt b hb).1
  refine ⟨hch.1.blk h.blk (fun e => by have := hF _ e; omega), hch.1.owns h.r5 (fun b hb e => h.dis b hb e), ?_, fun b hb hb' => ?_, h.b5, h.b6.snoc ho, h.bx, h.bel.trans (hch.1.below h.bel.size (fun b e => by have := hF _ e; omega))⟩
  · rw [List.length_append, cS_append]
    exact hO
  · have e : g = b := by simpa [Value.ownBlock] using hb'
    subst e
    rcases hch.2 with e | ⟨g', e, hg⟩
    · exact h.dis g hb e.symm
    · injection e with e
      subst e
      have := owns_lt h.r5 g hb
      omega
theorem WI.set {w wx : World} {x y : Nat × Nat} {a5 a6 : Option Addr} {c5 c6 : Nat} {ah be : Sn} (h : WI w wx x a5 c5 ah a6 c6 be) (hy : y.1 ≤ 1114111 ∧ y.2 ≤ 1114111) :
    WI w ((wx.setCell ⟨w.heap.size, 0, none⟩ (.int .i32 (y.1 : Int))).setCell ⟨w.heap.size, 1, none⟩ (.int .i32 (y.2 : Int))) y a5 c5 ah a6 c6 be := by
  have hc : Chg (fun i => i = w.heap.size) wx ((wx.setCell ⟨w.heap.size, 0, none⟩ (.int .i32 (y.1 : Int))).setCell ⟨w.heap.size, 1, none⟩ (.int .i32 (y.2 : Int))) := (Chg.set ⟨w.heap.size, 0, none⟩ _ wx).trans (Chg.set ⟨w.heap.size, 1, none⟩ _ _) (fun _ _ e => e)
  refine ⟨(h.blk.set 0 _).set 1 _, hc.owns h.r5 (fun g hg e => ?_), hc.owns h.r6 (fun g hg e => ?_), h.dis, h.b5, h.b6, hy, h.bel.trans (hc.below h.bel.size (fun i e => by have e' : i = w.heap.size := e; omega))⟩
  · have := (h.r5.lt g hg).1
    have e' : g = w.heap.size := e
    omega
  · have := (h.r6.lt g hg).1
    have e' : g = w.heap.size := e
    omega

theorem withF_step {l : Sn} {i : Nat} {o : Nat × Nat} (h : l[i]? = some o) (x : Nat × Nat) (ah be : Sn) :
    withF (l.drop i) x ah be = if o.2 + 1 < x.1 then withF (l.drop (i + 1)) x (ah ++ [o]) be else if x.2 + 1 < o.1 then withF (l.drop (i + 1)) x ah (be ++ [o]) else withF (l.drop (i + 1)) (min o.1 x.1, max o.2 x.2) ah be := by
  have hl := (List.getElem?_eq_some_iff.1 h).1
  rw [List.drop_eq_getElem_cons hl]
  rw [List.getElem?_eq_getElem hl] at h
  injection h with h
  rw [h, withF]

set_option maxRecDepth 100000 in
set_option maxHeartbeats 8000000 in
theorem withP (ad : Option Addr) (c : Nat) (l : Sn) (x : Nat × Nat) (w : World) (hL : Ss w ad l) (hlen : l.length ≤ 1000) (hx : x.1 ≤ 1114111 ∧ x.2 ≤ 1114111) :
    Calls Tryz.prog 124 #[.slice ad l.length c, .agg #[.int .i32 (x.1 : Int), .int .i32 (x.2 : Int)]] w fun e w' => ∃ a' c', e = .returned (.slice a' (withS l x).length c') ∧ w'.ownsRow w.heap.size 209 2 (.slice a' (withS l x).length c') (withS l x).length (cS (withS l x)) ∧ Bd (withS l x) ∧ Below w.heap.size w w' := by
  obtain ⟨i0, hi0, hz0, hz1, hz2⟩ := info_parts info93
  have HI := hidden hi0
  obtain ⟨n, hn⟩ : ∃ n, l.length = n := ⟨_, rfl⟩
  rw [hn] at hlen ⊢
  have HN := hidden hn
  have HL := hidden hL
  obtain ⟨R, hR⟩ : ∃ R, withS l x = R := ⟨_, rfl⟩
  have HR : Hid (withF (l.drop 0) x [] [] = R) := hidden (by rw [List.drop_zero]; exact hR)
  rw [hR]
  have W0 : Hid (WI w (w.alloc (.cells #[.int .i32 (x.1 : Int), .int .i32 (x.2 : Int)] 209)) x none 0 [] none 0 []) := hidden ⟨Blk.new w 209 _, World.ownsRow_nil _ _ _ _, World.ownsRow_nil _ _ _ _, (fun g h => by cases h), (fun y hy => by cases hy), (fun y hy => by cases hy), hx, (Below.refl _ _).alloc (Nat.le_refl _) _⟩
  clear hi0 hn hL hR hx
  go_enter Tryz.func124, Tryz.ntmps124
  go_wp2
  go_loopw [5, 6, 11] (fun s5 s6 s11 wx => ∃ (i : Nat) (x : Nat × Nat) (a5 a6 : Option Addr) (c5 c6 n5 n6 : Nat) (ah be : Sn), s5 = .slice a5 n5 c5 ∧ s6 = .slice a6 n6 c6 ∧ s11 = .int .i64 (i : Int) ∧ i ≤ n ∧ n5 + n6 ≤ i ∧ Hid (ah.length = n5 ∧ be.length = n6) ∧ Hid (withF (l.drop i) x ah be = R) ∧ Hid (WI w wx x a5 c5 ah a6 c6 be)) (fun _ _ s11 _ => n - (intOf s11).toNat)
  case atStart => exact ⟨0, x, none, none, 0, 0, 0, 0, [], [], rfl, rfl, rfl, by omega, by omega, hidden ⟨rfl, rfl⟩, HR, W0⟩
  case round =>
    rename World => wr
    obtain ⟨i, x, a5, a6, c5, c6, n5, n6, ah, be, rfl, rfl, rfl, hi, h56, hlen2, hrel, hW⟩ := hrel
    clear HR W0
    by_cases hlt : i < n
    · have hltz : (i : Int) < (n : Int) := by omega
      obtain ⟨b, off, o, rfl, hb, ho, ho', d0, d1, y1, y2⟩ := (HL.out.later hW.out.bel).get (i := i) (by rw [HN.out]; exact hlt)
      have hal : Below wr.heap.size wr (wr.alloc (.cells #[.int .i32 (o.1 : Int), .int .i32 (o.2 : Int)] 209)) := (Below.refl _ _).alloc (Nat.le_refl _) _
      have WY := hidden (hW.out.lat hal)
      have B8 := Blk.new wr 209 [.int .i32 (o.1 : Int), .int .i32 (o.2 : Int)]
      have e0 : (wr.alloc (.cells #[.int .i32 (o.1 : Int), .int .i32 (o.2 : Int)] 209)).cell? ⟨wr.heap.size, 0, none⟩ = some (.int .i32 (o.1 : Int)) := B8.cell 0
      have e1 : (wr.alloc (.cells #[.int .i32 (o.1 : Int), .int .i32 (o.2 : Int)] 209)).cell? ⟨wr.heap.size, 1, none⟩ = some (.int .i32 (o.2 : Int)) := B8.cell 1
      have x0 : (wr.alloc (.cells #[.int .i32 (o.1 : Int), .int .i32 (o.2 : Int)] 209)).cell? ⟨w.heap.size, 0, none⟩ = some (.int .i32 (x.1 : Int)) := WY.out.blk.cell 0
      have x1 : (wr.alloc (.cells #[.int .i32 (o.1 : Int), .int .i32 (o.2 : Int)] 209)).cell? ⟨w.heap.size, 1, none⟩ = some (.int .i32 (x.2 : Int)) := WY.out.blk.cell 1
      have fx0 := WY.out.blk.frozen 0
      have fx1 := WY.out.blk.frozen 1
      have HST := hidden (withF_step ho x ah be)
      obtain ⟨bx1, bx2⟩ := hW.out.bx
      have cellN : Hid (∀ jj u, [Value.int .i32 (o.1 : Int), Value.int .i32 (o.2 : Int)][jj]? = some u → ((wr.alloc (.cells #[.int .i32 (o.1 : Int), .int .i32 (o.2 : Int)] 209)).alloc (.cells #[.int .i32 (o.1 : Int), .int .i32 (o.2 : Int)] 209)).cell? ((⟨wr.heap.size + 1, 0, none⟩ : Addr).add jj) = some u) := hidden (fun jj u hu => by
        rw [Addr.add_lit, Nat.zero_add]
        have := (Blk.new (wr.alloc (.cells #[.int .i32 (o.1 : Int), .int .i32 (o.2 : Int)] 209)) 209 [.int .i32 (o.1 : Int), .int .i32 (o.2 : Int)]).cell jj
        rw [hu, show (wr.alloc (.cells #[.int .i32 (o.1 : Int), .int .i32 (o.2 : Int)] 209)).heap.size = wr.heap.size + 1 by simp] at this
        exact this)
      have HBS : Hid (w.heap.size + 1 ≤ wr.heap.size) := hidden (by have := hW.out.blk.lt; omega)
      have own5 : Hid ((wr.alloc (.cells #[.int .i32 (o.1 : Int), .int .i32 (o.2 : Int)] 209)).ownsRow (w.heap.size + 1) 209 2 (.slice a5 n5 c5) n5 (cS ah)) := hidden (by have := WY.out.r5; rw [hlen2.out.1] at this; exact this)
      have own6 : Hid ((wr.alloc (.cells #[.int .i32 (o.1 : Int), .int .i32 (o.2 : Int)] 209)).ownsRow (w.heap.size + 1) 209 2 (.slice a6 n6 c6) n6 (cS be)) := hidden (by have := WY.out.r6; rw [hlen2.out.2] at this; exact this)
      have hP5 : Hid (∀ w9 g c' ob, w9.ownsRow (w.heap.size + 1) 209 2 (.slice (some ⟨g, 0, none⟩) (n5 + 1) c') (n5 + 1) (cS ah ++ [.int .i32 (o.1 : Int), .int .i32 (o.2 : Int)]) → Pushed ((wr.alloc (.cells #[.int .i32 (o.1 : Int), .int .i32 (o.2 : Int)] 209)).alloc ob) w9 (.slice a5 n5 c5) g → WI w w9 x (some ⟨g, 0, none⟩) c' (ah ++ [o]) a6 c6 be) := hidden (fun w9 g c' ob h1 h2 => by
        rw [← hlen2.out.1] at h1 h2
        exact WY.out.push5 ⟨y1, y2⟩ h1 h2)
      have hP6 : Hid (∀ w9 g c' ob, w9.ownsRow (w.heap.size + 1) 209 2 (.slice (some ⟨g, 0, none⟩) (n6 + 1) c') (n6 + 1) (cS be ++ [.int .i32 (o.1 : Int), .int .i32 (o.2 : Int)]) → Pushed ((wr.alloc (.cells #[.int .i32 (o.1 : Int), .int .i32 (o.2 : Int)] 209)).alloc ob) w9 (.slice a6 n6 c6) g → WI w w9 x a5 c5 ah (some ⟨g, 0, none⟩) c' (be ++ [o])) := hidden (fun w9 g c' ob h1 h2 => by
        rw [← hlen2.out.2] at h1 h2
        exact WY.out.push6 ⟨y1, y2⟩ h1 h2)
      clear ho ho' hal B8
      by_cases hA : o.2 + 1 < x.1
      · have hAz : (o.2 : Int) + 1 < (x.1 : Int) := by omega
        have HRS : Hid (withF (l.drop (i + 1)) x (ah ++ [o]) be = R) := hidden (by rw [← hrel.out, HST.out, if_pos hA])
        clear HST hA hrel own6 hP6
        go_wp2_with (refine wpList_push2 _ rfl (.tmp 33) (.tmp 35) 199 rfl 209 i0 (.agg #[.int .i32 0, .int .i32 0]) 8 Tryz.underlying199 HI.out hz0 hz1 hz2 rfl (w.heap.size + 1) (.slice a5 n5 c5) n5 (cS ah) rfl (own5.out.alloc _) ⟨wr.heap.size + 1, 0, none⟩ [.int .i32 (o.1 : Int), .int .i32 (o.2 : Int)] rfl rfl cellN.out (by intro u hu; simp at hu; rcases hu with rfl | rfl <;> rfl) (by unfold maxLen; omega) (by omega) (by have := HBS.out; simp; omega) ?_; intro g9 c9 w9 ho9 hp9)
        have H9 := hidden (hP5.out _ _ _ _ ho9 hp9)
        refine ⟨⟨i + 1, x, some ⟨g9, 0, none⟩, a6, c9, c6, n5 + 1, n6, ah ++ [o], be, by first | rfl | simp, by first | rfl | simp, by first | rfl | simp, by omega, by omega, hidden ⟨by simp [hlen2.out.1], hlen2.out.2⟩, HRS, H9⟩, ?_⟩
        simp [intOf]
        omega
      · have hAz : ¬ (o.2 : Int) + 1 < (x.1 : Int) := by omega
        by_cases hB : x.2 + 1 < o.1
        · have hBz : (x.2 : Int) + 1 < (o.1 : Int) := by omega
          have HRS : Hid (withF (l.drop (i + 1)) x ah (be ++ [o]) = R) := hidden (by rw [← hrel.out, HST.out, if_neg hA, if_pos hB])
          clear HST hA hB hrel own5 hP5
          go_wp2_with (refine wpList_push2 _ rfl (.tmp 44) (.tmp 46) 199 rfl 209 i0 (.agg #[.int .i32 0, .int .i32 0]) 8 Tryz.underlying199 HI.out hz0 hz1 hz2 rfl (w.heap.size + 1) (.slice a6 n6 c6) n6 (cS be) rfl (own6.out.alloc _) ⟨wr.heap.size + 1, 0, none⟩ [.int .i32 (o.1 : Int), .int .i32 (o.2 : Int)] rfl rfl cellN.out (by intro u hu; simp at hu; rcases hu with rfl | rfl <;> rfl) (by unfold maxLen; omega) (by omega) (by have := HBS.out; simp; omega) ?_; intro g9 c9 w9 ho9 hp9)
          have H9 := hidden (hP6.out _ _ _ _ ho9 hp9)
          refine ⟨⟨i + 1, x, a5, some ⟨g9, 0, none⟩, c5, c9, n5, n6 + 1, ah, be ++ [o], by first | rfl | simp, by first | rfl | simp, by first | rfl | simp, by omega, by omega, hidden ⟨hlen2.out.1, by simp [hlen2.out.2]⟩, HRS, H9⟩, ?_⟩
          simp [intOf]
          omega
        · have hBz : ¬ (x.2 : Int) + 1 < (o.1 : Int) := by omega
          have HRS : Hid (∀ p q : Nat, min o.1 x.1 = p → max o.2 x.2 = q → withF (l.drop (i + 1)) (p, q) ah be = R) := hidden (fun p q hp hq => by rw [← hrel.out, HST.out, if_neg hA, if_neg hB, hp, hq])
          have HSE : Hid (∀ p q : Nat, p ≤ 1114111 → q ≤ 1114111 → WI w (((wr.alloc (.cells #[.int .i32 (o.1 : Int), .int .i32 (o.2 : Int)] 209)).setCell ⟨w.heap.size, 0, none⟩ (.int .i32 (p : Int))).setCell ⟨w.heap.size, 1, none⟩ (.int .i32 (q : Int))) (p, q) a5 c5 ah a6 c6 be) := hidden (fun p q hp hq => WY.out.set (y := (p, q)) ⟨hp, hq⟩)
          clear HST hA hB hrel own5 hP5 own6 hP6
          by_cases h1 : x.1 < o.1
          · have h1z : (x.1 : Int) < (o.1 : Int) := by omega
            by_cases h2 : x.2 < o.2
            · have h2z : (x.2 : Int) < (o.2 : Int) := by omega
              have h2y : ¬ (o.2 : Int) < (x.2 : Int) := by omega
              go_wp2
              refine ⟨⟨i + 1, (x.1, o.2), a5, a6, c5, c6, n5, n6, ah, be, by first | rfl | simp, by first | rfl | simp, by first | rfl | simp, by omega, by omega, hlen2, hidden (HRS.out _ _ (by omega) (by omega)), hidden (HSE.out _ _ bx1 y2)⟩, ?_⟩
              simp [intOf]
              omega
            · have h2z : ¬ (x.2 : Int) < (o.2 : Int) := by omega
              by_cases h3 : o.2 < x.2
              · have h2y : (o.2 : Int) < (x.2 : Int) := by omega
                go_wp2
                refine ⟨⟨i + 1, (x.1, x.2), a5, a6, c5, c6, n5, n6, ah, be, by first | rfl | simp, by first | rfl | simp, by first | rfl | simp, by omega, by omega, hlen2, hidden (HRS.out _ _ (by omega) (by omega)), hidden (HSE.out _ _ bx1 bx2)⟩, ?_⟩
                simp [intOf]
                omega
              · have h2y : ¬ (o.2 : Int) < (x.2 : Int) := by omega
                go_wp2
                refine ⟨⟨i + 1, (x.1, o.2), a5, a6, c5, c6, n5, n6, ah, be, by first | rfl | simp, by first | rfl | simp, by first | rfl | simp, by omega, by omega, hlen2, hidden (HRS.out _ _ (by omega) (by omega)), hidden (HSE.out _ _ bx1 y2)⟩, ?_⟩
                simp [intOf]
                omega
          · have h1z : ¬ (x.1 : Int) < (o.1 : Int) := by omega
            by_cases h3 : o.2 < x.2
            · have h2y : (o.2 : Int) < (x.2 : Int) := by omega
              go_wp2
              refine ⟨⟨i + 1, (o.1, x.2), a5, a6, c5, c6, n5, n6, ah, be, by first | rfl | simp, by first | rfl | simp, by first | rfl | simp, by omega, by omega, hlen2, hidden (HRS.out _ _ (by omega) (by omega)), hidden (HSE.out _ _ y1 bx2)⟩, ?_⟩
              simp [intOf]
              omega
            · have h2y : ¬ (o.2 : Int) < (x.2 : Int) := by omega
              go_wp2
              refine ⟨⟨i + 1, (o.1, o.2), a5, a6, c5, c6, n5, n6, ah, be, by first | rfl | simp, by first | rfl | simp, by first | rfl | simp, by omega, by omega, hlen2, hidden (HRS.out _ _ (by omega) (by omega)), hidden (HSE.out _ _ y1 y2)⟩, ?_⟩
              simp [intOf]
              omega
    · have hltz : ¬ (i : Int) < (n : Int) := by omega
      have x0 : wr.cell? ⟨w.heap.size, 0, none⟩ = some (.int .i32 (x.1 : Int)) := hW.out.blk.cell 0
      have x1 : wr.cell? ⟨w.heap.size, 1, none⟩ = some (.int .i32 (x.2 : Int)) := hW.out.blk.cell 1
      have HRE : Hid (ah ++ [x] ++ be = R) := hidden (by
        have := hrel.out
        rw [List.drop_of_length_le (by rw [HN.out]; omega), withF] at this
        exact this)
      have cellN : Hid (∀ jj u, [Value.int .i32 (x.1 : Int), Value.int .i32 (x.2 : Int)][jj]? = some u → (wr.alloc (.cells #[.int .i32 (x.1 : Int), .int .i32 (x.2 : Int)] 209)).cell? ((⟨wr.heap.size, 0, none⟩ : Addr).add jj) = some u) := hidden (fun jj u hu => by
        rw [Addr.add_lit, Nat.zero_add]
        have := (Blk.new wr 209 [.int .i32 (x.1 : Int), .int .i32 (x.2 : Int)]).cell jj
        rw [hu] at this
        exact this)
      have own5 : Hid (wr.ownsRow (w.heap.size + 1) 209 2 (.slice a5 n5 c5) n5 (cS ah)) := hidden (by have := hW.out.r5; rw [hlen2.out.1] at this; exact this)
      have HBS : Hid (w.heap.size + 1 ≤ wr.heap.size) := hidden (by have := hW.out.blk.lt; omega)
      have hP5 : Hid (∀ w9 g c' ob, w9.ownsRow (w.heap.size + 1) 209 2 (.slice (some ⟨g, 0, none⟩) (n5 + 1) c') (n5 + 1) (cS ah ++ [.int .i32 (x.1 : Int), .int .i32 (x.2 : Int)]) → Pushed (wr.alloc ob) w9 (.slice a5 n5 c5) g → WI w w9 x (some ⟨g, 0, none⟩) c' (ah ++ [x]) a6 c6 be) := hidden (fun w9 g c' ob h1 h2 => by
        rw [← hlen2.out.1] at h1 h2
        exact hW.out.push5 hW.out.bx h1 h2)
      clear hrel
      go_wp2_with (first
        | (refine wpList_push2 _ rfl (.tmp 49) (.tmp 51) 199 rfl 209 i0 (.agg #[.int .i32 0, .int .i32 0]) 8 Tryz.underlying199 HI.out hz0 hz1 hz2 rfl (w.heap.size + 1) (.slice a5 n5 c5) n5 (cS ah) rfl (own5.out.alloc _) ⟨wr.heap.size, 0, none⟩ [.int .i32 (x.1 : Int), .int .i32 (x.2 : Int)] rfl rfl cellN.out (by intro u hu; simp at hu; rcases hu with rfl | rfl <;> rfl) (by unfold maxLen; omega) (by omega) (by have := HBS.out; simp; omega) ?_; intro g9 c9 w9 ho9 hp9; have H9 := hidden (hP5.out _ _ _ _ ho9 hp9); have HO9 := hidden ho9; have HB9 : Hid (w.heap.size + 1 ≤ w9.heap.size) := hidden (by have := H9.out.blk.lt; omega); clear hP5 ho9 hp9)
        | (refine wpList_appS _ rfl (.tmp 52) (.tmp 53) rfl (w.heap.size + 1) (.slice (some ⟨g9, 0, none⟩) (n5 + 1) c9) (n5 + 1) (ah ++ [x]) rfl (by rw [cS_append]; exact HO9.out) a6 n6 c6 be rfl (ss_of_owns H9.out.r6 H9.out.b6) hlen2.out.2 ?no6 (n5 + 1 + n6) rfl ?by6 HB9.out ?_))
      case no6 =>
        intro e
        obtain ⟨ad', c', e2, hno, _⟩ := owns_formS H9.out.r6
        injection e2 with e3 e4 e5
        subst e3 e5
        exact ⟨List.eq_nil_of_length_eq_zero (hno e).1, (hno e).2⟩
      case by6 => omega
      intro a10 c10 w10 ho10 hb10
      have HLR : Hid (R.length = n5 + 1 + n6) := hidden (by rw [← HRE.out]; simp [hlen2.out.1, hlen2.out.2]; omega)
      go_wp2
      go_ret
      refine ⟨a10, c10, by rw [HLR.out]; rfl, ?_, ?_, H9.out.bel.trans (hb10.mono (by omega))⟩
      · rw [HLR.out, ← HRE.out]
        have ho11 : w10.ownsRow (w.heap.size + 1) 209 2 (.slice a10 (n5 + 1 + n6) c10) (n5 + 1 + n6) (cS (ah ++ [x] ++ be)) := by simpa using ho10
        exact owns_base ho11 (fun g hg => by have := (ho11.lt g hg).1; omega)
      · rw [← HRE.out]
        intro y hy
        rcases List.mem_append.1 hy with hy | hy
        · exact H9.out.b5 y hy
        · exact H9.out.b6 y hy

end Go.Proofs.YtanlgplgplncdaaGreatDoor
