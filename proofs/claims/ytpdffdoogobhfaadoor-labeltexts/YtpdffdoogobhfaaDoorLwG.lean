/-
  mark, lent.
-/
import Derived.Test.YtpdffdoogobhfaaDoorReE
import Derived.Test.YtpdffdoogobhfaaDoorPaE
namespace Go.Proofs.YtpdffdoogobhfaaDoor
open Go.RowKit
set_option linter.unusedVariables false
set_option linter.unusedSimpArgs false

def mkL (n : Nat) : Lb := ⟨⟨#[109, 105, 110, 101]⟩, strOfNums [97 + (n : Int)]⟩

theorem res_mark (tmps : Array Value) (w : World) (g : Nat) (n v : ByteArray) (hp : tmps.getD 2 undef = .pointer (some ⟨g, 0, none⟩)) (h0 : w.cell? ⟨g, 0, none⟩ = some (.string n)) (h1 : w.cell? ⟨g, 1, none⟩ = some (.string v)) :
    (results Tryd.f26 tmps).run Tryd.prog w = .ok (.agg #[.string n, .string v]) w := by
  have h : Tryd.f26.results = #[.cell 2 35] := by kernel_rfl
  have hp' : tmps[2]?.getD undef = .pointer (some ⟨g, 0, none⟩) := by simpa using hp
  simp [results, h, hp', asAddr, loadVar, h0, h1, go_sem]

set_option maxRecDepth 100000 in
set_option maxHeartbeats 4000000 in
theorem markP (n : Nat) (hn : n ≤ 25) (w : World) : Calls Tryd.prog 26 #[.int .i64 (n : Int)] w fun e w' => e = .returned (.agg #[.string (mkL n).n, .string (mkL n).v]) ∧ Below w.heap.size w w' := by
  have m1 : Int.tmod (n : Int) 26 = (n : Int) := Int.tmod_eq_of_lt (by omega) (by omega)
  have hB0 : Hid (Blk (w.alloc (.cells #[.string ⟨#[]⟩, .string ⟨#[]⟩] 35)) w.heap.size 35 [.string ⟨#[]⟩, .string ⟨#[]⟩]) := Blk.new w 35 _
  have HAL : Hid (Below w.heap.size w (w.alloc (.cells #[.string ⟨#[]⟩, .string ⟨#[]⟩] 35))) := (Below.refl _ _).alloc (Nat.le_refl _) _
  have kc : (convert 56 9 (.slice (some ⟨w.heap.size + 1, 0, none⟩) 1 1)).run Tryd.prog ((w.alloc (.cells #[.string ⟨#[]⟩, .string ⟨#[]⟩] 35)).alloc (.cells #[.int .u8 (97 + (n : Int))] 5)) = .ok (.string (strOfNums [97 + (n : Int)])) ((w.alloc (.cells #[.string ⟨#[]⟩, .string ⟨#[]⟩] 35)).alloc (.cells #[.int .u8 (97 + (n : Int))] 5)) :=
    run_string_of 56 5 9 Tryd.underlying56 Tryd.underlying5 Tryd.underlying9 (sl_lit _ [97 + (n : Int)] (fun z hz => by simp at hz; omega) 5 _ 1 rfl _ rfl _ (by simp))
  have HAL2 := hidden (HAL.out.alloc HAL.out.size (.cells #[.int .u8 (97 + (n : Int))] 5))
  have B1 : Blk ((w.alloc (.cells #[.string ⟨#[]⟩, .string ⟨#[]⟩] 35)).alloc (.cells #[.int .u8 (97 + (n : Int))] 5)) w.heap.size 35 [.string ⟨#[]⟩, .string ⟨#[]⟩] := hB0.out.alloc _
  have c0 := B1.cell 0
  have c1 := B1.cell 1
  have f0 := B1.frozen 0
  have f1 := B1.frozen 1
  simp only [List.getElem?_cons_zero, List.getElem?_cons_succ] at c0 c1
  have hB2 : Hid (Blk ((w.alloc (.cells #[.string (mkL n).n, .string (mkL n).v] 35)).alloc (.cells #[.int .u8 (97 + (n : Int))] 5)) w.heap.size 35 [.string (mkL n).n, .string (mkL n).v]) := (Blk.new w 35 [.string (mkL n).n, .string (mkL n).v]).alloc _
  have hw1 := (Below.refl w.heap.size w).alloc (Nat.le_refl _) (.cells #[.string (mkL n).n, .string (mkL n).v] 35)
  have HEND := hidden (hw1.alloc hw1.size (.cells #[.int .u8 (97 + (n : Int))] 5))
  clear hw1
  clear B1
  go_enter Tryd.func26, Tryd.ntmps26
  go_wp2
  refine bodyPost_ret (res_mark _ _ w.heap.size (mkL n).n (mkL n).v rfl (hB2.out.cell 0) (hB2.out.cell 1)) rfl ?_
  exact ⟨rfl, HEND.out⟩

theorem mkL_sz (n : Nat) : (mkL n).n.size ≤ 9223372036854775807 ∧ (mkL n).v.size ≤ 9223372036854775807 := by
  refine ⟨by show (4 : Nat) ≤ _; omega, ?_⟩
  rw [size_bts]
  simp [mkL, strOfNums, bts]

set_option maxRecDepth 100000 in
set_option maxHeartbeats 4000000 in
/-- lent: the labels, three marks behind. -/
theorem lentP (ad : Option Addr) (c : Nat) (l : List Lb) (w : World) (hL : Ls w ad l) (hno : ad = none → l = [] ∧ c = 0) (hlen : l.length * 32 ≤ 140737488351232) :
    Calls Tryd.prog 8 #[.slice ad l.length c] w fun e w' => ∃ g c', e = .returned (.slice (some ⟨g, 0, none⟩) l.length c') ∧ w'.ownsRow w.heap.size 35 2 (.slice (some ⟨g, 0, none⟩) (l.length + 3) c') (l.length + 3) (cL (l ++ [mkL 25, mkL 25, mkL 25])) ∧ Below w.heap.size w w' := by
  obtain ⟨n, hn⟩ : ∃ n, l.length = n := ⟨_, rfl⟩
  rw [hn] at hlen ⊢
  have HN := hidden hn
  have HL := hidden hL
  have HNO := hidden hno
  clear hn hL hno
  have kM : ∀ w, Calls Tryd.prog 26 #[.int .i64 25] w fun e w' => e = .returned (.agg #[.string (mkL 25).n, .string (mkL 25).v]) ∧ Below w.heap.size w w' := fun w => markP 25 (by omega) w
  obtain ⟨x, hx⟩ : ∃ x, mkL 25 = x := ⟨_, rfl⟩
  have HXS : Hid (x.n.size ≤ 9223372036854775807 ∧ x.v.size ≤ 9223372036854775807) := hidden (by rw [← hx]; exact mkL_sz 25)
  rw [hx] at kM ⊢
  clear hx
  go_enter Tryd.func8, Tryd.ntmps8
  go_wp2_with (refine wpList_appL _ rfl (.tmp 4) (.tmp 5) rfl w.heap.size (.slice none 0 0) 0 [] rfl (World.ownsRow_nil _ _ _ _) ad n c l rfl HL.out HN.out HNO.out n ?p1 ?p2 (Nat.le_refl _) ?_)
  case p1 => omega
  case p2 => omega
  intro a1 c1 w1 ho1 hb1
  try simp only [List.nil_append] at ho1
  have HO1 := hidden ho1
  have HB1 := hidden hb1
  clear ho1 hb1
  have kA := kM w1
  go_wp2_with (go_at_call 26; refine kA.mono ?_; rintro e w2 ⟨rfl, hb2⟩; clear kA)
  have HB2 := hidden hb2
  clear hb2
  have kB := kM w2
  go_wp2_with (go_at_call 26; refine kB.mono ?_; rintro e w3 ⟨rfl, hb3⟩; clear kB)
  have HB3 := hidden (HB2.out.trans (hb3.mono HB2.out.size))
  clear hb3
  have kC := kM w3
  have hL3 : ∀ w5 : World, Ls (w5.alloc (.cells #[.string x.n, .string x.v, .string x.n, .string x.v, .string x.n, .string x.v] 35)) (some ⟨w5.heap.size, 0, none⟩) [x, x, x] := fun w5 => ls_blk (Blk.new w5 35 (cL [x, x, x])) (fun y hy => by simp at hy; subst hy; exact HXS.out)
  have HL3 := hidden hL3
  clear hL3 kM
  go_wp2_with (first
    | (go_at_call 26; refine kC.mono ?_; rintro e w4 ⟨rfl, hb4⟩; clear kC; have HB4 := hidden (HB3.out.trans (hb4.mono HB3.out.size)); have HO4 := hidden (owl HO1.out HB4.out); have HB5 := hidden (HB1.out.trans (HB4.out.mono HB1.out.size)); clear hb4)
    | (refine wpList_appL _ rfl (.tmp 7) (.tmp 11) rfl w.heap.size (.slice a1 n c1) n l rfl (HO4.out.alloc _) (some ⟨w4.heap.size, 0, none⟩) 3 3 [x, x, x] rfl (HL3.out w4) rfl (fun e => by cases e) (n + 3) rfl ?p3 ?p4 ?_))
  case p3 => omega
  case p4 => have := HB5.out.size; simp; omega
  intro a6 c6 w6 ho6 hb6
  obtain ⟨_, _, eaa, hano, hasm, hic, hcm⟩ := owns_formL ho6
  injection eaa with ea1 ea2 ea3
  subst ea1 ea3
  cases a6 with
  | none => exact absurd (hano rfl).1 (by omega)
  | some a6 =>
    obtain ⟨g, goff, gsp⟩ := a6
    obtain ⟨e1, e2⟩ := hasm _ rfl
    simp only at e1 e2
    subst e1 e2
    have HO6 := hidden ho6
    have HB6 := hidden ((HB5.out.alloc HB5.out.size _).trans hb6)
    have hz : (n : Int) ≤ (c6 : Int) := by omega
    clear ho6 hb6 hasm hano
    go_wp2
    go_ret
    exact ⟨g, c6, rfl, HO6.out, HB6.out⟩

end Go.Proofs.YtpdffdoogobhfaaDoor
