/-
  Words: of spans.
-/
import Derived.Test.YtndegcgcbhcokaaPuS
namespace Go.Proofs.Ytndegcgcbhcokaa
open Go.RowKit
set_option linter.unusedVariables false
set_option linter.unusedSimpArgs false

def hidB (x : Nat) : Bool := decide (55296 ≤ x) && decide (x ≤ 57343)
set_option maxHeartbeats 2000000 in
theorem isHiddenP (x : Nat) (w : World) : Calls Try.prog 35 #[.int .i32 (x : Int)] w fun e w' => e = .returned (.bool (hidB x)) ∧ w' = w := by
  by_cases h1 : 55296 ≤ x
  · have h1z : (55296 : Int) ≤ (x : Int) := by omega
    by_cases h2 : x ≤ 57343
    · have h2z : (x : Int) ≤ 57343 := by omega
      have HE : Hid (hidB x = true) := hidden (by simp [hidB, h1, h2])
      clear h1 h2
      go_enter Try.func35, Try.ntmps35
      go_wp2
      go_ret
      exact ⟨by rw [HE.out]; rfl, rfl⟩
    · have h2z : ¬ (x : Int) ≤ 57343 := by omega
      have h2y : decide ((x : Int) ≤ 57343) = false := decide_eq_false h2z
      have HE : Hid (hidB x = false) := hidden (by simp [hidB, h2])
      clear h1 h2
      go_enter Try.func35, Try.ntmps35
      go_wp2
      go_ret
      exact ⟨by rw [HE.out]; rfl, rfl⟩
  · have h1z : ¬ (55296 : Int) ≤ (x : Int) := by omega
    have h1y : decide ((55296 : Int) ≤ (x : Int)) = false := decide_eq_false h1z
    have HE : Hid (hidB x = false) := hidden (by simp [hidB, h1])
    clear h1
    go_enter Try.func35, Try.ntmps35
    go_wp2
    go_ret
    exact ⟨by rw [HE.out]; rfl, rfl⟩

def str (c : Nat) : ByteArray := Utf8.encode (c : Int)
def spC : Nat → Nat → Wl → Option Wl
  | 0, _, out => some out
  | k + 1, c, out => if hidB c then spC k (c + 1) out else if out.length = 16 then none else spC k (c + 1) (out ++ [str c])
def spF : Sn → Wl → Option Wl
  | [], out => some out
  | s :: t, out => match spC (s.2 + 1 - s.1) s.1 out with
    | some o => spF t o
    | none => none
theorem spC_at {hi c : Nat} (h : c ≤ hi) (out : Wl) : spC (hi + 1 - c) c out = if hidB c then spC (hi + 1 - (c + 1)) (c + 1) out else if out.length = 16 then none else spC (hi + 1 - (c + 1)) (c + 1) (out ++ [str c]) := by
  rw [show hi + 1 - c = (hi + 1 - (c + 1)) + 1 by omega, spC]

set_option maxRecDepth 100000 in
set_option maxHeartbeats 8000000 in
theorem spansWP (ad : Option Addr) (c : Nat) (l : Sn) (w : World) (hL : Ss w ad l) (hlen : l.length ≤ 2000) :
    Calls Try.prog 24 #[.slice ad l.length c] w (WdR w.heap.size none w (spF l [])) := by
  obtain ⟨i0, hi0, hz0, hz1, hz2⟩ := info_parts info9
  have HI := hidden hi0
  obtain ⟨n, hn⟩ : ∃ n, l.length = n := ⟨_, rfl⟩
  rw [hn] at hlen ⊢
  have HN := hidden hn
  have HL := hidden hL
  obtain ⟨R, hR⟩ : ∃ R, spF l [] = R := ⟨_, rfl⟩
  have HR : Hid (spF (l.drop 0) [] = R) := hidden (by rw [List.drop_zero]; exact hR)
  rw [hR]
  clear hi0 hn hL hR
  go_enter Try.func24, Try.ntmps24
  go_wp2
  go_loopw [4, 10] (fun s4 s10 wx => ∃ (i m cc : Nat) (aa : Option Addr), s4 = .slice aa m cc ∧ s10 = .int .i64 (i : Int) ∧ i ≤ n ∧ m ≤ 16 ∧ Hid (∃ lo : Wl, wx.ownsRow w.heap.size 9 1 (.slice aa m cc) m (sV lo) ∧ spF (l.drop i) lo = R ∧ Cm w wx none (Value.slice aa m cc).ownBlock)) (fun _ s10 _ => n - (intOf s10).toNat)
  case atStart => exact ⟨0, 0, 0, none, rfl, rfl, by omega, by omega, hidden ⟨[], World.ownsRow_nil _ _ _ _, HR.out, Cm.refl _ _⟩⟩
  case round =>
    rename World => wr
    obtain ⟨i, m, cc, aa, rfl, rfl, hi, hm, hex⟩ := hrel
    obtain ⟨lo, hown, hrel, hcm⟩ := hex.out
    clear hex HR
    by_cases hlt : i < n
    · have hltz : (i : Int) < (n : Int) := by omega
      have hbw : Below w.heap.size w wr := hcm.chg.below (Nat.le_refl _) (fun i e => by cases e)
      obtain ⟨b, off, o, rfl, hb, ho, ho', d0, d1, y1, y2⟩ := (HL.out.later hbw).get (i := i) (by rw [HN.out]; exact hlt)
      obtain ⟨x1, x2⟩ := o
      simp only at d0 d1 y1 y2
      rw [drop_at ho, spF] at hrel
      simp only at hrel
      obtain ⟨R1, hR1⟩ : ∃ R1, spC (x2 + 1 - x1) x1 lo = R1 := ⟨_, rfl⟩
      rw [hR1] at hrel
      have HREL := hidden hrel
      obtain ⟨W1, hW1⟩ : ∃ W1, wr.alloc (.cells #[.int .i32 (x1 : Int), .int .i32 (x2 : Int)] 93) = W1 := ⟨_, rfl⟩
      have B6 : Blk W1 wr.heap.size 93 [.int .i32 (x1 : Int), .int .i32 (x2 : Int)] := by rw [← hW1]; exact Blk.new wr 93 _
      have hca : Chg (fun _ => False) wr W1 := by rw [← hW1]; exact Chg.alloc _ _ _
      have hcm1 : Cm w W1 none (Value.slice aa m cc).ownBlock := ⟨hcm.chg.trans hca (fun _ _ h => h.elim), hcm.mv⟩
      have hown1 : W1.ownsRow w.heap.size 9 1 (.slice aa m cc) m (sV lo) := by rw [← hW1]; exact hown.alloc _
      have ho6 : (Value.slice aa m cc).ownBlock ≠ some wr.heap.size := fun e => by have := owns_lt hown _ e; omega
      have HST : Hid (∃ lo : Wl, W1.ownsRow w.heap.size 9 1 (.slice aa m cc) m (sV lo) ∧ spC (x2 + 1 - x1) x1 lo = R1 ∧ Cm w W1 none (Value.slice aa m cc).ownBlock ∧ Blk W1 wr.heap.size 93 [.int .i32 (x1 : Int), .int .i32 (x2 : Int)] ∧ (Value.slice aa m cc).ownBlock ≠ some wr.heap.size ∧ w.heap.size ≤ W1.heap.size) := hidden ⟨lo, hown1, hR1, hcm1, B6, ho6, hcm1.chg.size⟩
      clear hrel hcm hown hbw ho ho' hR1 hcm1 hown1 B6 ho6 hca
      obtain ⟨q, hq⟩ : ∃ q, wr.heap.size = q := ⟨_, rfl⟩
      rw [← hW1] at HST
      clear hq hW1
      by_cases hle : x1 ≤ x2 + 1
      · go_wp2
        go_loopw [4, 7] (fun s4 s7 wx => ∃ (cp m cc : Nat) (aa : Option Addr), s4 = .slice aa m cc ∧ s7 = .int .i32 (cp : Int) ∧ x1 ≤ cp ∧ cp ≤ x2 + 1 ∧ m ≤ 16 ∧ Hid (∃ lo : Wl, wx.ownsRow w.heap.size 9 1 (.slice aa m cc) m (sV lo) ∧ spC (x2 + 1 - cp) cp lo = R1 ∧ Cm w wx none (Value.slice aa m cc).ownBlock ∧ Blk wx wr.heap.size 93 [.int .i32 (x1 : Int), .int .i32 (x2 : Int)] ∧ (Value.slice aa m cc).ownBlock ≠ some wr.heap.size ∧ w.heap.size ≤ wx.heap.size)) (fun _ s7 _ => x2 + 1 - (intOf s7).toNat)
        case atStart => exact ⟨x1, m, cc, aa, rfl, rfl, Nat.le_refl _, hle, hm, HST⟩
        case round =>
          rename World => ws
          obtain ⟨cp, m1, cc1, aa1, rfl, rfl, hc1, hc2, hm1, hex⟩ := hrel
          obtain ⟨lo1, hown, hrel, hcm, hB6, ho6, hws⟩ := hex.out
          clear hex HST d0 d1
          have e1 : ws.cell? ⟨wr.heap.size, 1, none⟩ = some (.int .i32 (x2 : Int)) := hB6.cell 1
          by_cases hjt : cp ≤ x2
          · have hjtz : (cp : Int) ≤ (x2 : Int) := by omega
            rw [spC_at hjt] at hrel
            have k35 := isHiddenP cp
            cases hh : hidB cp with
            | true =>
              rw [hh] at hrel k35
              rw [if_pos rfl] at hrel
              have HX : Hid (∃ lo : Wl, ws.ownsRow w.heap.size 9 1 (.slice aa1 m1 cc1) m1 (sV lo) ∧ spC (x2 + 1 - (cp + 1)) (cp + 1) lo = R1 ∧ Cm w ws none (Value.slice aa1 m1 cc1).ownBlock ∧ Blk ws wr.heap.size 93 [.int .i32 (x1 : Int), .int .i32 (x2 : Int)] ∧ (Value.slice aa1 m1 cc1).ownBlock ≠ some wr.heap.size ∧ w.heap.size ≤ ws.heap.size) := hidden ⟨lo1, hown, hrel, hcm, hB6, ho6, hws⟩
              clear hrel hown hcm hB6 ho6 hws hh
              go_wp2_with (go_at_call 35; refine (k35 _).mono ?_; rintro e w2 ⟨rfl, rfl⟩; clear k35)
              refine ⟨⟨cp + 1, m1, cc1, aa1, by first | rfl | simp, by first | rfl | simp, by omega, by omega, hm1, HX⟩, ?_⟩
              simp [intOf]
              omega
            | false =>
              rw [hh] at hrel k35
              rw [if_neg (by simp)] at hrel
              have hll : lo1.length = m1 := by have := hown.1; rw [sV_length] at this; omega
              rw [hll] at hrel
              by_cases h16 : m1 = 16
              · rw [if_pos h16] at hrel
                have HR1 : Hid (R = none) := hidden (by rw [← HREL.out, ← hrel])
                have HCM2 := hidden hcm
                have h16z : (m1 : Int) = 16 := by omega
                have h16y : ((m1 : Int) == 16) = true := by simp [h16z]
                clear hrel hown hcm hB6 ho6 hws hh hll h16
                go_wp2_with (go_at_call 35; refine (k35 _).mono ?_; rintro e w2 ⟨rfl, rfl⟩; clear k35)
                go_ret2
                exact ⟨none, 0, 0, false, rfl, HCM2.out.chg, by omega, Or.inr ⟨rfl, HR1.out, rfl⟩⟩
              · rw [if_neg h16] at hrel
                have h16z : ¬ (m1 : Int) = 16 := by omega
                have h16y : ((m1 : Int) == 16) = false := by simp; omega
                obtain ⟨sx, hsx⟩ : ∃ sx, str cp = sx := ⟨_, rfl⟩
                rw [hsx] at hrel
                have hsx2 : Utf8.encode (cp : Int) = sx := hsx
                have HOWN := hidden hown
                have HWS := hidden hws
                have HNX : Hid (∀ w9 g9 c9 ob, w9.ownsRow w.heap.size 9 1 (.slice (some ⟨g9, 0, none⟩) (m1 + 1) c9) (m1 + 1) (sV lo1 ++ [.string sx]) → Pushed (ws.alloc ob) w9 (.slice aa1 m1 cc1) g9 → ∃ lo : Wl, w9.ownsRow w.heap.size 9 1 (.slice (some ⟨g9, 0, none⟩) (m1 + 1) c9) (m1 + 1) (sV lo) ∧ spC (x2 + 1 - (cp + 1)) (cp + 1) lo = R1 ∧ Cm w w9 none (Value.slice (some ⟨g9, 0, none⟩) (m1 + 1) c9).ownBlock ∧ Blk w9 wr.heap.size 93 [.int .i32 (x1 : Int), .int .i32 (x2 : Int)] ∧ (Value.slice (some ⟨g9, 0, none⟩) (m1 + 1) c9).ownBlock ≠ some wr.heap.size ∧ w.heap.size ≤ w9.heap.size) := hidden (fun w9 g9 c9 ob h1 h2 => by
                  obtain ⟨c1, c2⟩ := h2.chg
                  refine ⟨lo1 ++ [sx], by rw [sV_append]; exact h1, hrel, hcm.trans ⟨c1, c2⟩, c1.blk hB6 ho6, fun e => ?_, by have := c1.size; omega⟩
                  rcases c2 with e2 | ⟨g, e2, hg⟩
                  · exact ho6 (by rw [← e2]; exact e)
                  · have e3 : g9 = wr.heap.size := by simpa [Value.ownBlock] using e
                    injection e2 with e2
                    have := hB6.lt
                    omega)
                have CX : Hid ((ws.alloc (.cells #[.string sx] 9)).cell? ⟨ws.heap.size, 0, none⟩ = some (.string sx)) := hidden ((Blk.new ws 9 [.string sx]).cell 0)
                clear hrel hown hcm hB6 ho6 hws hh hll h16 hsx
                go_wp2_with (first
                  | (go_at_call 35; refine (k35 _).mono ?_; rintro e w2 ⟨rfl, rfl⟩; clear k35)
                  | (refine wpList_push _ rfl (.tmp 27) (.tmp 30) 22 rfl 9 i0 (.string ⟨#[]⟩) 16 Try.underlying22 HI.out hz0 hz1 hz2 rfl w.heap.size (.slice aa1 m1 cc1) m1 (sV lo1) rfl (HOWN.out.alloc _) ⟨w2.heap.size, 0, none⟩ (.string sx) rfl CX.out rfl (by unfold maxLen; omega) (by omega) (by have := HWS.out; simp; omega) ?_; intro g9 c9 w9 ho9 hp9; have H9 := hidden (HNX.out w9 g9 c9 _ ho9 hp9); clear HNX ho9 hp9))
                refine ⟨⟨cp + 1, m1 + 1, c9, some ⟨g9, 0, none⟩, by first | rfl | simp, by first | rfl | simp, by omega, by omega, by omega, H9⟩, ?_⟩
                simp [intOf]
                omega
          · have hjtz : ¬ (cp : Int) ≤ (x2 : Int) := by omega
            rw [show x2 + 1 - cp = 0 by omega, spC] at hrel
            subst hrel
            have HX : Hid (∃ lo : Wl, ws.ownsRow w.heap.size 9 1 (.slice aa1 m1 cc1) m1 (sV lo) ∧ spF (l.drop (i + 1)) lo = R ∧ Cm w ws none (Value.slice aa1 m1 cc1).ownBlock) := hidden ⟨lo1, hown, HREL.out, hcm⟩
            clear hown hcm hB6 ho6 hws
            go_wp2
            refine ⟨⟨i + 1, m1, cc1, aa1, by first | rfl | simp, by first | rfl | simp, by omega, hm1, HX⟩, ?_⟩
            simp [intOf]
            omega
      · have hjtz : ¬ (x1 : Int) ≤ (x2 : Int) := by omega
        obtain ⟨lo2, hown, hrel, hcm, _⟩ := HST.out
        rw [show x2 + 1 - x1 = 0 by omega, spC] at hrel
        subst hrel
        have HX : Hid (∃ lo : Wl, (wr.alloc (.cells #[.int .i32 (x1 : Int), .int .i32 (x2 : Int)] 93)).ownsRow w.heap.size 9 1 (.slice aa m cc) m (sV lo) ∧ spF (l.drop (i + 1)) lo = R ∧ Cm w (wr.alloc (.cells #[.int .i32 (x1 : Int), .int .i32 (x2 : Int)] 93)) none (Value.slice aa m cc).ownBlock) := hidden ⟨lo2, hown, HREL.out, hcm⟩
        clear hown hcm HST
        go_wp2
        go_loopw [4, 7] (fun s4 s7 wx => s4 = .slice aa m cc ∧ s7 = .int .i32 (x1 : Int) ∧ wx = wr.alloc (.cells #[.int .i32 (x1 : Int), .int .i32 (x2 : Int)] 93)) (fun _ _ _ => 0)
        case atStart => exact ⟨rfl, rfl, rfl⟩
        case round =>
          obtain ⟨rfl, rfl, rfl⟩ := hrel
          go_wp2
          refine ⟨⟨i + 1, m, cc, aa, by first | rfl | simp, by first | rfl | simp, by omega, hm, HX⟩, ?_⟩
          simp [intOf]
          omega
    · have hltz : ¬ (i : Int) < (n : Int) := by omega
      have hend : l.drop i = [] := List.drop_of_length_le (by rw [HN.out]; omega)
      rw [hend, spF] at hrel
      have HREL := hidden hrel
      have HOWN := hidden hown
      have HCM := hidden hcm
      clear hrel hown hcm hend
      go_wp2
      go_ret2
      exact ⟨aa, m, cc, true, rfl, HCM.out.chg, hm, Or.inl ⟨rfl, lo, HREL.out.symm, by have := HOWN.out.1; rw [sV_length] at this; omega, HOWN.out, HCM.out.mv⟩⟩

end Go.Proofs.Ytndegcgcbhcokaa
