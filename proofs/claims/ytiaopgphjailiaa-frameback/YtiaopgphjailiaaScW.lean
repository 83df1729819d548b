/-
  FrameScans' walk.
-/
import Derived.Test.YtiaopgphjailiaaScM
import Derived.Deep.CutRange
namespace Go.Proofs.Ytiaopgphjailiaa
open Go Go.RowKit Go.Shelf
set_option linter.unusedVariables false
set_option linter.unusedSimpArgs false
attribute [local go_sem] Oper.semAt_some

/-- A range that ends, or is left by its break: one way on. -/
theorem wp_range2 {P : Program} {α : Type} {g : Operand} {ps : Array Tmp} {assign body : Code} {Q : Exit → Act → World → Prop} {a : Act} {w : World} {gf : Nat} {lb : Array Value} (id : Nat) (hg : a.eval g = .func (.func gf) #[] lb)
    (eg : ∀ args w, (callFunc gf args).run P w = .ok (.enter gf args) w) {encs : α → Array Value} {T : World → Prop} {R : List α → α → World → Prop} {S Sp : List α → Prop} {w0 : World} (hseq : Seqs P gf lb encs T R S Sp w0) (hw0 : Below w0.heap.size w0 w) (hps : ∀ x, (encs x).size = ps.size)
    (I Ix : List α → World → Prop) (hI : ∀ pre A B, I pre A → Bk w.heap.size A B → I pre B) (hIx : ∀ pre A B, Ix pre A → Bk w.heap.size A B → Ix pre B) (hR : ∀ pre x A B, R pre x A → Bk w.heap.size A B → R pre x B)
    (hT : ∀ pre A, I pre A → T A) (h0 : I [] w) (a₁ : α → Act) (hexit : ∀ a A, Q .normal a A → Q (.exit id) a A) (Post : World → Prop) (hp1 : ∀ xs A, S xs → I xs A → Post A) (hp2 : ∀ pre A, Sp pre → Ix pre A → Post A)
    (hassign : ∀ (n l : Nat) (x : α) (A : World) (K : Act → World → Prop), K (a₁ x) A →
      assign.wpIn (Fence.wide.inRound l) n P (Exit.then K (fun _ _ _ => False)) { tmps := (ps.zip (encs x)).foldl (fun t (p, v) => t.setIfInBounds p v) a.tmps, defers := [] } A)
    (hbody : ∀ (n l : Nat) (pre : List α) (x : α) (A : World), I pre A → R pre x A → body.wpIn (Fence.wide.inRound l) n P (ownPostG w.heap.size (fun _ _ => True) I (fun c p A => c = .exit id ∧ Ix p A) (pre ++ [x]) A) (a₁ x) A)
    (hend : ∀ (D : Nat) (A : World), w.heap.size ≤ D → Post A → A.heap[D]? = some (.deferred (some [])) → Q .normal { a with defers := { target := .collected D, args := #[] } :: a.defers } A) :
    (Code.rangeFunc g ps assign body).wp P Q a w :=
  wp_range hg eg hseq hw0 hps I (fun c p A => c = .exit id ∧ Ix p A) hI (fun c pre A B h hk => ⟨h.1, hIx _ _ _ h.2 hk⟩) hR hT h0 a₁ hassign hbody
    (fun D xs A hD hS hi hk => hend D A hD (hp1 xs A hS hi) hk)
    (fun D c pre A hD hS hi hk => by
      obtain ⟨rfl, hx⟩ := hi
      exact wp_exit (hexit _ _ (hend D A hD (hp2 pre A hS hx) hk)))

theorem res_cell {fn : Func} {p : Tmp} (h : fn.results = #[.cell p 4]) (tmps : Array Value) (w : World) (g : Nat) (b : Bool) (hp : tmps.getD p undef = .pointer (some ⟨g, 0, none⟩)) (hc : w.cell? ⟨g, 0, none⟩ = some (.bool b)) :
    (results fn tmps).run Try.prog w = .ok (.bool b) w := by
  have hp' : tmps[p]?.getD undef = .pointer (some ⟨g, 0, none⟩) := by simpa using hp
  simp [results, h, hp', asAddr, loadVar, hc, go_sem]
theorem Bk.low {B : Nat} {w w' : World} (h : Bk B w w') {i : Nat} {o : Obj} (hi : i < B) (ho : w.heap[i]? = some o) : w'.heap[i]? = some o :=
  (Chg.block h i (Array.getElem?_eq_some_iff.1 ho).1 (fun e => by omega)).trans ho

theorem func_nil (a : Array Value) (w : World) : (binOp .eql 38 (.func (.func 29) #[] a) .nilFunc).run Try.prog w = .ok (.bool false) w := rfl

set_option maxRecDepth 100000 in
set_option maxHeartbeats 4000000 in
theorem scans_any (ad : Option Addr) (len cap : Nat) (l : List Int) (stop : Int) (w : World) (hs : Sl w ad len l) (hc : len ≤ cap) (hno : ad = none → len = 0 ∧ cap = 0) (hb : len ≤ 1048576) (hst : -9223372036854775808 ≤ stop ∧ stop ≤ 9223372036854775807) :
    Calls Try.prog 5 #[.slice ad len cap, .int .i64 stop] w fun e w' => e = .returned (.bool true) ∧ Below w.heap.size w w' := by
  have HS := hidden hs
  have HL := hidden hs.len
  have HBY := hidden hs.byte
  have HNO := hidden hno
  have HST := hidden hst
  clear hs hno hst
  refine (callsIn_wide (n := 3)).1 (callsIn_of_wp_marks Try.func5 rfl trivial (wpIn_wide.2 ?_) rfl)
  simp only [Try.ntmps5, List.size_toArray, List.length_cons, List.length_nil, Nat.reduceAdd, Nat.reduceSub, Array.replicate_succ, Array.replicate_zero, List.push_toArray, List.append_toArray, List.nil_append, List.cons_append]
  go_wp2_with fail
  obtain ⟨w1, hw1, hs1, hr1, hb1, hz1⟩ := two_new w 3 4 [.int .i64 stop] [.bool false]
  have hw1' : (w.alloc (.cells #[.int .i64 stop] 3)).alloc (.cells #[.bool false] 4) = w1 := hw1
  obtain ⟨S, hS⟩ : ∃ S, w.heap.size = S := ⟨_, rfl⟩
  rw [hw1', hS]
  rw [hS] at hs1 hr1
  have HSZ := hidden hS
  have HS1 := hidden hs1
  have HR1 := hidden hr1
  have HB1 := hidden hb1
  clear hw1 hw1' hs1 hr1 hb1 hS hz1
  refine (shown_any w1).mono ?_
  rintro e w2 ⟨rfl, hb2⟩
  have HB2 := hidden (HB1.out.trans (hb2.mono HB1.out.size))
  have HS2 := hidden (HS1.out.later hb2)
  have HR2 := hidden (HR1.out.later hb2)
  clear hb2 HS1 HR1 HB1
  go_wp2_with fail
  refine (lent_any ad len cap l w2 (HS.out.later HB2.out) (by omega)).mono ?_
  rintro e w3 ⟨rfl, hx3, hb3⟩
  obtain ⟨X, hX⟩ : ∃ X, w2.heap.size = X := ⟨_, rfl⟩
  rw [hX] at hx3 ⊢
  have HXX : Hid (w2.heap.size = X) := hX
  have HX3 := hidden hx3
  have HS3 := hidden (HS2.out.later hb3)
  have HR3 := hidden (HR2.out.later hb3)
  have HB3 := hidden (HB2.out.trans (hb3.mono HB2.out.size))
  clear hx3 hb3 hX
  have hcap : ¬ ((len : Int) + 8 < (len : Int)) := by omega
  go_wp2_with fail
  refine (whole_any (some ⟨X, 0, none⟩) len (len + 8) l w3 (lent_sl HX3.out HL.out HBY.out) (fun h => by cases h) (by omega)).mono ?_
  rintro e w4 ⟨rfl, hb4⟩
  have HX4 := hidden (HX3.out.later hb4)
  have HS4 := hidden (HS3.out.later hb4)
  have HR4 := hidden (HR3.out.later hb4)
  have HB4 := hidden (HB3.out.trans (hb4.mono HB3.out.size))
  have H34 := hidden hb4.size
  clear hb4
  obtain ⟨N, hN⟩ : ∃ N, fsz (frames l) = N := ⟨_, rfl⟩
  rw [hN]
  have HN := hidden hN
  clear hN
  go_wp2_with fail
  refine (scan_any (some ⟨X, 0, none⟩) len (len + 8) l w4 (lent_sl HX4.out HL.out HBY.out) (fun h => by cases h) (by omega)).mono ?_
  rintro e w5 ⟨bx, ag, c, rfl, hbx, hbs, ho, hbel⟩
  have HX5 := hidden (HX4.out.later hbel)
  have HS5 := hidden (HS4.out.later hbel)
  have HR5 := hidden (HR4.out.later hbel)
  have HB5 := hidden (HB4.out.trans (hbel.mono HB4.out.size))
  have HBX := hidden hbx
  have HBS := hidden hbs
  have HO := hidden ho
  have H45 := hidden hbel.size
  clear hbx hbs ho hbel
  go_wp2_with fail
  refine (still_any X 0 (len + 8) ad len cap l w5 (lent_cell HX5.out HL.out) (HS.out.later HB5.out) (by omega)).mono ?_
  rintro e w6 ⟨rfl, q6, rfl⟩
  have hl6 := lat_drewN w5 q6
  have HX6 := hidden (HX5.out.later hl6)
  have HS6 := hidden (HS5.out.later hl6)
  have HR6 := hidden (HR5.out.later hl6)
  have HB6 := hidden (HB5.out.trans (Below.mono hl6 HB5.out.size))
  have HBX6 := hidden (HBX.out.later hl6)
  have HO6 := hidden ((Chg.of_below (F := fun _ => False) hl6).owns HO.out (fun _ _ h => h))
  have H56 := hidden hl6.size
  clear hl6 HX5 HS5 HR5
  generalize w5.drewN q6 = w6 at *
  go_wp2_with fail
  go_loopw [10] (fun iv wr => ∃ (i : Nat) (cs : List Value), i ≤ len + 8 ∧ iv = .int .i64 (i : Int) ∧ cs.length = len + 8 ∧ Blk wr X 5 cs ∧ Chg (fun j => j = X) w6 wr) (fun iv _ => len + 8 - (intOf iv).toNat)
  case atStart => exact ⟨0, _, Nat.zero_le _, rfl, by rw [cells8_length, List.length_append, List.length_replicate, HL.out], HX6.out, Chg.refl _ _⟩
  case round =>
    obtain ⟨i, cs, hil, rfl, hcs, hbk, hch⟩ := hrel
    by_cases hlt : i < len + 8
    · have c0 : wr.cell? ⟨X, i, none⟩ = some (cs[i]'(by omega)) := by rw [hbk.cell i, List.getElem?_eq_getElem]
      have f0 := hbk.frozen i
      have HK2 := hidden (hbk.set i (.int .u8 5))
      have HC2 := hidden (hch.trans (Chg.set ⟨X, i, none⟩ (.int .u8 5) wr) (fun j _ h => h))
      clear hbk hch
      have hlt2 : (i : Int) < (len : Int) + 8 := by omega
      go_wp2
      go_roundw
      case rel => exact ⟨i + 1, cs.set i (.int .u8 5), by omega, by go_num, by rw [List.length_set]; exact hcs, HK2.out, HC2.out⟩
      case measure => simp [intOf]; omega
    · obtain rfl : i = len + 8 := by omega
      have HCH := hidden hch
      clear hbk hch
      rename World => w7
      have hXl := HX6.out.lt
      have hsx : S + 1 < X := by have := HXX.out; have := HR2.out.lt; omega
      have hXg : X < w4.heap.size := HX4.out.lt
      have hbX : X < bx := by have := HBS.out; omega
      have HS7 : Hid (Blk w7 S 3 [.int .i64 stop]) := HCH.out.blk HS6.out (fun e => by omega)
      have HR7 : Hid (Blk w7 (S + 1) 4 [.bool false]) := HCH.out.blk HR6.out (fun e => by omega)
      have HBX7 : Hid (Blk w7 bx 22 [.slice ag len c]) := HCH.out.blk HBX6.out (fun e => by omega)
      have HO7 : Hid (w7.ownsRow w4.heap.size 5 1 (.slice ag len c) len (cells8 l)) := HCH.out.owns HO6.out (fun g hg e => by have := (HO6.out.lt g hg).1; omega)
      have HB7 := hidden (HB6.out.trans (HCH.out.below HB6.out.size (fun g hg => by have := HSZ.out; have := HXX.out; omega)))
      have HSX : Hid (S + 1 < X ∧ X < w4.heap.size ∧ X < bx) := ⟨hsx, hXg, hbX⟩
      clear hXl hsx hXg hbX
      go_wp2_with fail
      refine (refScan_any ad len cap l w7 (HS.out.later HB7.out) hc HNO.out hb).mono ?_
      rintro e w8 ⟨v, els, rfl, hls, hels, hb8⟩
      obtain ⟨aw, m, cw, rfl, hm⟩ : ∃ aw m cw, v = .slice aw m cw ∧ m = els.length := by
        rcases hls.1.2 with ⟨h0, h1⟩ | ⟨g, cap, cur, h0, _⟩
        · exact ⟨_, _, _, h0, by omega⟩
        · exact ⟨_, _, _, h0, rfl⟩
      have HLS := hidden hls
      have HELS := hidden hels
      have HB8 := hidden hb8
      have HM := hidden hm
      rw [HN.out]
      clear hls hels hb8 hm
      have hfn := func_nil #[.pointer (some ⟨bx, 0, none⟩)]
      have hb9 : Below w8.heap.size w8 (w8.alloc (.cells #[.slice aw m cw] 40)) := (Below.refl _ _).alloc (Nat.le_refl _) _
      have HS9 := hidden ((HS7.out.later HB8.out).later hb9)
      have HR9 := hidden ((HR7.out.later HB8.out).later hb9)
      have HBX9 := hidden ((HBX7.out.later HB8.out).later hb9)
      have HB79 := hidden (HB8.out.trans (hb9.mono HB8.out.size))
      have HW9 := hidden (heap_alloc_new w8 (.cells #[.slice aw m cw] 40))
      have HZ9 : Hid ((w8.alloc (.cells #[.slice aw m cw] 40)).heap.size = w8.heap.size + 1) := by show _ = _; simp
      have HLS9 : Hid (Lst w7.heap.size (w8.alloc (.cells #[.slice aw m cw] 40)) (.slice aw m cw) els) := ⟨HLS.out.1.alloc _, fun x hx => (HLS.out.2 x hx).chg (Chg.alloc (fun _ => False) w8 _) (fun _ _ h => h)⟩
      have cS : (w8.alloc (.cells #[.slice aw m cw] 40)).cell? ⟨S, 0, none⟩ = some (.int .i64 stop) := HS9.out.cell 0
      have fS := HS9.out.frozen 0
      obtain ⟨Bw, hBw⟩ : ∃ Bw, w8.heap.size = Bw := ⟨_, rfl⟩
      have HBW := hidden hBw
      clear hb9
      go_upto_if 65 with fail
      rw [hBw] at HW9 HZ9
      generalize hw9 : w8.alloc (.cells #[.slice aw m cw] 40) = w9 at *
      clear hBw hw9
      generalize hbo : decide (stop < 0) = bo
      have HBO := hidden hbo
      clear hbo
      go_cut [] from 66 to 68 (fun wx => ∃ t : Nat, t ≤ 9223372036854775807 ∧ Blk wx S 3 [.int .i64 (t : Int)] ∧ Chg (fun j => j = S) w9 wx)
      case first =>
        have hcu := HST.out
        cases bo with
        | true =>
          have hneg : stop < 0 := of_decide_eq_true HBO.out
          have he : -(stop + 1) = (((-(stop + 1)).toNat : Nat) : Int) := by omega
          have HE := hidden he
          have hb9 : (-(stop + 1)).toNat ≤ 9223372036854775807 := by omega
          have HK := hidden (HS9.out.set 0 (.int .i64 (-(stop + 1))))
          have HKC := hidden (Chg.set ⟨S, 0, none⟩ (.int .i64 (-(stop + 1))) w9)
          clear he HBO
          go_wp2_with fail
          go_meet
          case rel =>
            refine ⟨_, hb9, ?_, HKC.out⟩
            rw [← HE.out]
            exact HK.out
        | false =>
          have hneg : ¬ stop < 0 := of_decide_eq_false HBO.out
          have he : stop = ((stop.toNat : Nat) : Int) := by omega
          have HE := hidden he
          have hb9 : stop.toNat ≤ 9223372036854775807 := by omega
          clear he HBO
          go_wp2_with fail
          go_meet
          case rel => exact ⟨stop.toNat, hb9, by rw [← HE.out]; exact HS9.out, Chg.refl _ _⟩
      case rest =>
        obtain ⟨t, ht9, hstb, hchs⟩ := hcut
        rename World => wc
        have HTB := hidden hstb
        have HCS := hidden hchs
        clear hstb hchs
        have hlS : S + 1 < w4.heap.size := by have := HSX.out; omega
        have hl47 : w4.heap.size ≤ w7.heap.size := by have := H45.out; have := H56.out; have := HCH.out.size; omega
        have hl78 : w7.heap.size ≤ Bw := by have := HB8.out.size; have := HBW.out; omega
        have hl9c := HCS.out.size
        have hz9 := HZ9.out
        obtain ⟨Bi, hBi⟩ : ∃ Bi, wc.heap.size = Bi := ⟨_, rfl⟩
        have hro9 : w9.ownsRow 0 5 1 (.slice ag len c) len (cells8 l) := (Chg.of_below (F := fun _ => False) HB79.out).owns (owns_zero HO7.out) (fun _ _ h => h)
        have hls9 : Lst 0 w9 (.slice aw m cw) els := HLS9.out.zero
        have hgr : ∀ g, (Value.slice ag len c).ownBlock = some g → w4.heap.size ≤ g ∧ g < w9.heap.size := fun g hg => ⟨(HO7.out.lt g hg).1, owns_lt hro9 g hg⟩
        have hgv : ∀ g, (Value.slice aw m cw).ownBlock = some g → w7.heap.size ≤ g ∧ g < w9.heap.size := fun g hg => ⟨(HLS9.out.1.lt g hg).1, owns_lt hls9.1 g hg⟩
        have hge : ∀ x ∈ els, ∀ g, x.2.1.ownBlock = some g → w7.heap.size ≤ g ∧ g < w9.heap.size := fun x hx g hg => ⟨((HLS9.out.2 x hx).2.lt g hg).1, owns_lt (hls9.2 x hx).2 g hg⟩
        have hbx9 := HBX9.out.lt
        have hC : ScC w S Bw Bi bx t (.slice aw m cw) els ag len c l (wc.alloc (.cells #[.int .i64 0] 3)) := by
          have ha := Chg.alloc (fun j => j = S) wc (.cells #[.int .i64 0] 3)
          have hcc := HCS.out.trans ha (fun j _ h => h)
          refine ⟨HTB.out.alloc _, hcc.blk HR9.out (fun e => by omega), hcc.blk HW9.out (fun e => by omega), ⟨hcc.owns hls9.1 (fun g hg e => by have := hgv g hg; omega), fun x hx => (hls9.2 x hx).chg hcc (fun g hg e => by have := hge x hx g hg; omega)⟩, hcc.blk HBX9.out (fun e => by have := HSX.out; omega), hcc.owns hro9 (fun g hg e => by have := hgr g hg; omega), ?_, ?_, ?_, ?_, ?_⟩
          · exact (HB7.out.trans (HB79.out.mono HB7.out.size)).trans (hcc.below (by have := HB7.out.size; have := HB79.out.size; omega) (fun g hg => by have := HSZ.out; omega))
          · rw [← hBi]
            simp
            have := HSZ.out
            omega
          · intro g hg; have := hgv g hg; omega
          · intro g hg; have := hgr g hg; omega
          · intro x hx g hg; have := hge x hx g hg; omega
        have HC := hidden hC
        have HBI : Hid (Blk (wc.alloc (.cells #[.int .i64 0] 3)) Bi 3 [.int .i64 0]) := by
          show Blk _ _ _ _
          rw [← hBi]
          exact Blk.new wc 3 [.int .i64 0]
        have HZC : Hid ((wc.alloc (.cells #[.int .i64 0] 3)).heap.size = Bi + 1) := by show _ = _; simp [hBi]
        have HCC : Hid (len ≤ c ∧ (ag = none → c = 0)) := ⟨(owns_cap HO7.out).2.1, fun h => ((owns_cap HO7.out).2.2.2 h).2⟩
        clear hC hro9 hls9 hgr hgv hge hlS hl47 hl78 hl9c hz9 hbx9
        go_wp2_with fail
        generalize wc.alloc (.cells #[.int .i64 0] 3) = w10 at *
        refine wp_range2 (a := { tmps := _, defers := [] }) (gf := 29) (lb := #[.pointer (some ⟨bx, 0, none⟩)]) 2 rfl (enters_of Try.func29 (by kernel_rfl) rfl) (scan1_seqs bx ag len c l w10 HCC.out.1 (by omega) HCC.out.2) (Below.refl _ _) (fun _ => rfl)
          (fun pre A => Blk A Bi 3 [.int .i64 (pre.length : Nat)] ∧ pre.length ≤ t % 8 ∧ w10.heap.size ≤ A.heap.size ∧ ScC w S Bw Bi bx t (.slice aw m cw) els ag len c l A)
          (fun pre A => Blk A Bi 3 [.int .i64 ((t % 8 : Nat) : Int)] ∧ t % 8 < els.length ∧ w10.heap.size ≤ A.heap.size ∧ ScC w S Bw Bi bx t (.slice aw m cw) els ag len c l A)
          ?hI ?hIx (fun pre x A B h hk => h.bk hk) ?hT ?h0 ?a1 ?hexit
          (fun A => ∃ j : Nat, j = min (t % 8) els.length ∧ Blk A Bi 3 [.int .i64 (j : Int)] ∧ w10.heap.size ≤ A.heap.size ∧ ScC w S Bw Bi bx t (.slice aw m cw) els ag len c l A) ?hp1 ?hp2 ?assign ?body ?hend
        case assign =>
          intro n lp x A K hK
          simp only [encE]
          gi_wp2
          exact hK
        case hexit =>
          intro a A h
          simpa [Exit.inBlock] using h
        case hI =>
          rintro pre A B ⟨h1, h2, h3, h4⟩ hk
          exact ⟨hk.blk h1, h2, Nat.le_trans h3 hk.size, h4.bk hk HC.out.bel.size⟩
        case hIx =>
          rintro pre A B ⟨h1, h2, h3, h4⟩ hk
          exact ⟨hk.blk h1, h2, Nat.le_trans h3 hk.size, h4.bk hk HC.out.bel.size⟩
        case hT => exact fun pre A h => h.2.2.2.read HBY.out h.2.2.1
        case h0 => exact ⟨HBI.out, Nat.zero_le _, Nat.le_refl _, HC.out⟩
        case hp1 =>
          rintro xs A hS ⟨h1, h2, h3, h4⟩
          have e : xs.length = els.length := by
            have := congrArg List.length (hS.trans HELS.out.symm)
            simpa using this
          exact ⟨xs.length, by omega, h1, h3, h4⟩
        case hp2 =>
          rintro pre A _ ⟨h1, h2, h3, h4⟩
          exact ⟨t % 8, by omega, h1, h3, h4⟩
        case body =>
          rintro n lp pre ⟨k, v, d⟩ A ⟨h1, h2, h3, h4⟩ ⟨⟨rest, hrest⟩, ⟨ax, cx, hv⟩, hrow⟩
          dsimp only at hv hrow
          subst hv
          obtain ⟨y, hy, hfy⟩ : ∃ y, els[pre.length]? = some y ∧ fr y = (k, d) := by
            have e : (els.map fr)[pre.length]? = some (k, d) := by
              rw [HELS.out, hrest, List.getElem?_append_right (by simp)]
              simp [fr]
            rw [List.getElem?_map] at e
            cases hq : els[pre.length]? with
            | none => rw [hq] at e; cases e
            | some y => rw [hq] at e; exact ⟨y, rfl, Option.some.inj e⟩
          obtain ⟨ky, vy, dy⟩ := y
          simp only [fr, Prod.mk.injEq] at hfy
          obtain ⟨rfl, rfl⟩ := hfy
          have hmem : ((ky, vy, dy) : El) ∈ els := List.mem_of_getElem? hy
          obtain ⟨⟨a2, c2, hvy⟩, hry⟩ := h4.ls.2 _ hmem
          dsimp only at hvy hry
          subst hvy
          obtain ⟨hme, gw, rfl, hck, hcd⟩ := h4.at hy
          have hil : pre.length < m := by rw [hme]; exact (List.getElem?_eq_some_iff.1 hy).1
          obtain ⟨i, hi⟩ : ∃ i, pre.length = i := ⟨_, rfl⟩
          obtain ⟨r8, hr8⟩ : ∃ r8, t % 8 = r8 := ⟨_, rfl⟩
          have er8 : (t : Int) % 8 = (r8 : Int) := by omega
          rw [hi] at h1 h2 hy hck hcd hil
          rw [hr8] at h2
          have cI : A.cell? ⟨Bi, 0, none⟩ = some (.int .i64 (i : Int)) := h1.cell 0
          have fI := h1.frozen 0
          have cS : A.cell? ⟨S, 0, none⟩ = some (.int .i64 (t : Int)) := h4.s.cell 0
          have H1 := hidden h1
          have H4 := hidden h4
          have HCK := hidden hck
          have HCD := hidden hcd
          have HRY := hidden hry
          have HROW := hidden hrow
          have HI := hidden hi
          have HR8 := hidden hr8
          have H3 := hidden h3
          have HDB := hidden (frames_byte HBY.out (ky, dy) (by rw [hrest]; simp [fr]))
          have HME := hidden hme
          clear h1 h4 hck hcd hry hrow hrest hi hr8 h3 hme hy hmem
          dsimp only
          by_cases hbr : r8 ≤ i
          · gi_wp2
            refine ⟨KeepsFrom.refl _ _, rfl, ?_, by rw [HR8.out, ← HME.out]; omega, H3.out, H4.out⟩
            have e : r8 = i := by omega
            rw [e]
            exact H1.out
          · gi_wp2
            have cg : ∀ {w1 : World}, Lat A w1 → Chg (fun _ => False) A w1 := fun h => Chg.of_below h
            refine scan_r20 Bi Bw gw m cw i dy.length cx dy.length c2 ky (strOfNums dy) ax a2 A _ _ lp n (fun h => by obtain ⟨_, _, h⟩ := h; exact h) (by rfl) (by rfl) (by rfl) (by rfl) (by rfl) (fun w1 hL => (H1.out.later hL).cell 0) (fun w1 hL => (H4.out.lat hL).wb.cell 0) (by omega) hil
              (fun w1 hL => (cg hL).cellS HCK.out (fun h => h)) (fun w1 hL => (cg hL).cellS HCD.out (fun h => h)) (fun w1 hL => convS (sl_of_owns ((cg hL).owns HROW.out (fun _ _ h => h)) HDB.out.1)) (fun w1 hL => convS (sl_of_owns ((cg hL).owns HRY.out (fun _ _ h => h)) HDB.out.1)) ?_
            clear cg
            intro v76 v77 v78 v79 v80 v81 v82 v83 v84 v85 v86 v87 v88 v89 v90 v91 v92 v93 v94 v95 v96 v97 v98 w1 hL
            have H1' := hidden (H1.out.later hL)
            have H4' := hidden (H4.out.lat hL)
            have HROW' := hidden ((Chg.of_below (F := fun _ => False) hL).owns HROW.out (fun _ _ h => h))
            have HLL := hidden hL
            clear hL cI fI cS
            simp only [Act.put, List.setIfInBounds_toArray, List.set_cons_succ, List.set_cons_zero]
            gi_wp2
            refine ⟨trivial, fun h => by simp [Fence.wide] at h, ?_⟩
            have hdl : dy.length ≤ 4194304 := HDB.out.2.2.2
            refine (CallsIn.inRound lp (callsIn_wide.2 (full_any ax dy.length cx dy 3 w1 (owns_zero HROW'.out) (by omega) (by omega)))).mono ?_
            rintro e w2 ⟨a3, c3, rfl, ho3, hc3, hm3⟩
            have hnew : ∀ g, (Value.slice ax dy.length cx).ownBlock = some g → Bi + 1 ≤ g := fun g hg => by have := (HROW'.out.lt g hg).1; have := HZC.out; omega
            have H42 := hidden (H4'.out.chg hc3 (fun g hg => by have := hnew g hg; omega))
            have H12 : Hid (Blk w2 Bi 3 [.int .i64 (i : Int)]) := hc3.blk H1'.out (fun hg => by have := hnew Bi hg; omega)
            have HK2 := hidden ((keeps_chg (B := w10.heap.size) (Chg.of_below (F := fun _ => False) HLL.out) (fun _ _ _ h _ => h.elim)).trans (keeps_chg (B := w10.heap.size) hc3 (fun g o _ hg ho => by
              obtain ⟨cs, fr', hT⟩ := owns_tg HROW'.out g hg
              rw [hT] at ho
              cases ho
              rfl)))
            have HSZ2 := hidden (Nat.le_trans H3.out (Nat.le_trans HLL.out.size hc3.size))
            have cI : w2.cell? ⟨Bi, 0, none⟩ = some (.int .i64 (i : Int)) := H12.out.cell 0
            have fI := H12.out.frozen 0
            clear ho3 hc3 hm3 hnew
            gi_wp2
            have hcs := Chg.set ⟨Bi, 0, none⟩ (.int .i64 ((i : Int) + 1)) w2
            refine ⟨HK2.out.trans (keeps_chg hcs (fun g o h1 h2 _ => by dsimp only at h2; have := HZC.out; omega)), trivial, ?_, ?_, Nat.le_trans HSZ2.out hcs.size, H42.out.chg hcs (fun g hg => by dsimp only at hg; omega)⟩
            · have := H12.out.set 0 (.int .i64 ((i : Int) + 1))
              rw [List.length_append, List.length_singleton, HI.out]
              exact this
            · rw [List.length_append, List.length_singleton, HI.out, HR8.out]
              omega
        case hend =>
          rintro D A hD ⟨j, hj, hbi, hsz, hC⟩ hK
          obtain ⟨r8, hr8⟩ : ∃ r8, t % 8 = r8 := ⟨_, rfl⟩
          have er8 : (t : Int) % 8 = (r8 : Int) := by omega
          rw [hr8, ← HM.out] at hj
          have HJ := hidden hj
          have HBI2 := hidden hbi
          have HC2 := hidden hC
          have HK := hidden hK
          have HSZ2 := hidden hsz
          have HD := hidden hD
          have cI : A.cell? ⟨Bi, 0, none⟩ = some (.int .i64 (j : Int)) := hbi.cell 0
          have fI := hbi.frozen 0
          have cS : A.cell? ⟨S, 0, none⟩ = some (.int .i64 (t : Int)) := hC.s.cell 0
          have cW : A.cell? ⟨Bw, 0, none⟩ = some (.slice aw m cw) := hC.wb.cell 0
          clear hj hbi hC hK hsz hr8 hD
          go_upto_region 26 with fail
          go_cut [113] from 107 to 113 (fun s113 wx => s113 = .bool false ∧ wx = A)
          case first =>
            by_cases hle : r8 ≤ m
            · have hj : j = r8 := by have := HJ.out; omega
              have hle' : (r8 : Int) ≤ (m : Int) := by omega
              go_wp2_with fail
              go_meet
              case rel => exact ⟨rfl, rfl⟩
            · have hj : j = m := by have := HJ.out; omega
              have hle' : ¬ (r8 : Int) ≤ (m : Int) := by omega
              go_wp2_with fail
              go_meet
              case rel => exact ⟨rfl, rfl⟩
          case rest =>
            obtain ⟨rfl, hwc⟩ := hcut
            obtain rfl := hwc.symm
            clear hwc
            have hcs := Chg.set ⟨Bi, 0, none⟩ (.int .i64 0) A
            have HC3 := hidden (HC2.out.chg hcs (fun g hg => by dsimp only at hg; omega))
            have HBI3 := hidden (HBI2.out.set 0 (.int .i64 0))
            have HZ3 : Hid (w10.heap.size ≤ (A.setCell ⟨Bi, 0, none⟩ (.int .i64 0)).heap.size) := Nat.le_trans HSZ2.out hcs.size
            have HK3 : Hid ((A.setCell ⟨Bi, 0, none⟩ (.int .i64 0)).heap[D]? = some (.deferred (some []))) := (hcs.block D (Array.getElem?_eq_some_iff.1 HK.out).1 (fun e => by dsimp only at e; have := HD.out; have := HZC.out; omega)).trans HK.out
            clear hcs
            go_wp2_with fail
            generalize A.setCell ⟨Bi, 0, none⟩ (.int .i64 0) = w11 at *
            have hDl : D < w11.heap.size := (Array.getElem?_eq_some_iff.1 HK3.out).1
            refine wp_range2 (a := { tmps := _, defers := _ }) (gf := 29) (lb := #[.pointer (some ⟨bx, 0, none⟩)]) 4 rfl (enters_of Try.func29 (by kernel_rfl) rfl) (scan1_seqs bx ag len c l w11 HCC.out.1 (by omega) HCC.out.2) (Below.refl _ _) (fun _ => rfl)
              (fun pre A => Blk A Bi 3 [.int .i64 (pre.length : Nat)] ∧ w11.heap.size ≤ A.heap.size ∧ ScC w S Bw Bi bx t (.slice aw m cw) els ag len c l A ∧ A.heap[D]? = some (.deferred (some [])))
              (fun pre A => False)
              ?hI2 (fun _ _ _ h _ => h) (fun pre x A B h hk => h.bk hk) ?hT2 ?h02 ?a12 ?hexit2
              (fun A => Blk A Bi 3 [.int .i64 (m : Int)] ∧ ScC w S Bw Bi bx t (.slice aw m cw) els ag len c l A ∧ A.heap[D]? = some (.deferred (some []))) ?hp12 (fun _ _ _ h => h.elim) ?assign2 ?body2 ?hend2
            case assign2 =>
              intro n lp x A K hK
              simp only [encE]
              gi_wp2
              exact hK
            case hexit2 =>
              intro a A h
              simpa [Exit.inBlock] using h
            case hI2 =>
              rintro pre A B ⟨h1, h2, h3, h4⟩ hk
              exact ⟨hk.blk h1, Nat.le_trans h2 hk.size, h3.bk hk HC3.out.bel.size, hk.low hDl h4⟩
            case hT2 => exact fun pre A h => h.2.2.1.read HBY.out h.2.1
            case h02 => exact ⟨HBI3.out, Nat.le_refl _, HC3.out, HK3.out⟩
            case hp12 =>
              rintro xs A hS ⟨h1, h2, h3, h4⟩
              have e : xs.length = m := by
                have := congrArg List.length (hS.trans HELS.out.symm)
                rw [HM.out]
                simpa using this
              rw [e] at h1
              exact ⟨h1, h3, h4⟩
            case body2 =>
              rintro n lp pre ⟨k, v, d⟩ A ⟨h1, h3, h4, h5⟩ ⟨⟨rest, hrest⟩, ⟨ax, cx, hv⟩, hrow⟩
              dsimp only at hv hrow
              subst hv
              obtain ⟨y, hy, hfy⟩ : ∃ y, els[pre.length]? = some y ∧ fr y = (k, d) := by
                have e : (els.map fr)[pre.length]? = some (k, d) := by
                  rw [HELS.out, hrest, List.getElem?_append_right (by simp)]
                  simp [fr]
                rw [List.getElem?_map] at e
                cases hq : els[pre.length]? with
                | none => rw [hq] at e; cases e
                | some y => rw [hq] at e; exact ⟨y, rfl, Option.some.inj e⟩
              obtain ⟨ky, vy, dy⟩ := y
              simp only [fr, Prod.mk.injEq] at hfy
              obtain ⟨rfl, rfl⟩ := hfy
              have hmem : ((ky, vy, dy) : El) ∈ els := List.mem_of_getElem? hy
              obtain ⟨⟨a2, c2, hvy⟩, hry⟩ := h4.ls.2 _ hmem
              dsimp only at hvy hry
              subst hvy
              obtain ⟨hme, gw, rfl, hck, hcd⟩ := h4.at hy
              have hil : pre.length < m := by rw [hme]; exact (List.getElem?_eq_some_iff.1 hy).1
              obtain ⟨i, hi⟩ : ∃ i, pre.length = i := ⟨_, rfl⟩
              rw [hi] at h1 hy hck hcd hil
              have H1 := hidden h1
              have H4 := hidden h4
              have HCK := hidden hck
              have HCD := hidden hcd
              have HRY := hidden hry
              have HROW := hidden hrow
              have HI := hidden hi
              have H3 := hidden h3
              have H5 := hidden h5
              have HDB := hidden (frames_byte HBY.out (ky, dy) (by rw [hrest]; simp [fr]))
              have hmb : m ≤ 1048576 := by
                have q1 := fsz_len (frames l)
                have q2 := fsz_le l
                have q3 := congrArg List.length HELS.out
                rw [List.length_map] at q3
                rw [HL.out] at q2
                omega
              clear h1 h4 hck hcd hry hrow hrest hi h3 h5 hme hy hmem cI fI cS cW
              dsimp only
              gi_wp2
              have cg : ∀ {w1 : World}, Lat A w1 → Chg (fun _ => False) A w1 := fun h => Chg.of_below h
              refine scan_r32 Bi Bw gw m cw i dy.length cx dy.length c2 ky (strOfNums dy) ax a2 A _ _ lp n (fun h => by obtain ⟨_, _, h⟩ := h; exact h) (by rfl) (by rfl) (by rfl) (by rfl) (by rfl) (fun w1 hL => (H1.out.later hL).cell 0) (fun w1 hL => (H4.out.lat hL).wb.cell 0) (by omega) hil
                (fun w1 hL => (cg hL).cellS HCK.out (fun h => h)) (fun w1 hL => (cg hL).cellS HCD.out (fun h => h)) (fun w1 hL => convS (sl_of_owns ((cg hL).owns HROW.out (fun _ _ h => h)) HDB.out.1)) (fun w1 hL => convS (sl_of_owns ((cg hL).owns HRY.out (fun _ _ h => h)) HDB.out.1)) ?_
              clear cg
              intro v76 v77 v78 v79 v80 v81 v82 v83 v84 v85 v86 v87 v88 v89 v90 v91 v92 v93 v94 v95 v96 v97 v98 w1 hL
              have H1' := hidden (H1.out.later hL)
              have H4' := hidden (H4.out.lat hL)
              have HLL := hidden hL
              have cI : w1.cell? ⟨Bi, 0, none⟩ = some (.int .i64 (i : Int)) := H1'.out.cell 0
              have fI := H1'.out.frozen 0
              clear hL
              simp only [Act.put, List.setIfInBounds_toArray, List.set_cons_succ, List.set_cons_zero]
              gi_wp2
              have hcs := Chg.set ⟨Bi, 0, none⟩ (.int .i64 ((i : Int) + 1)) w1
              have hbw : Bi < w11.heap.size := HC3.out.lo.2.2.2.2
              refine ⟨(keeps_chg (B := w11.heap.size) (Chg.of_below (F := fun _ => False) HLL.out) (fun _ _ _ h _ => h.elim)).trans (keeps_chg hcs (fun g o h1 h2 _ => by dsimp only at h2; omega)), trivial, ?_, Nat.le_trans H3.out (Nat.le_trans HLL.out.size hcs.size), H4'.out.chg hcs (fun g hg => by dsimp only at hg; omega), ?_⟩
              · have := H1'.out.set 0 (.int .i64 ((i : Int) + 1))
                rw [List.length_append, List.length_singleton, HI.out]
                exact this
              · have hD1 := (HLL.out.block D (Array.getElem?_eq_some_iff.1 H5.out).1).trans H5.out
                exact (hcs.block D (Array.getElem?_eq_some_iff.1 hD1).1 (fun e => by dsimp only at e; have := HD.out; have := HZC.out; omega)).trans hD1
            case hend2 =>
              rintro D2 A2 hD2 ⟨h1, h2, h3⟩ hK2
              have cI2 : A2.cell? ⟨Bi, 0, none⟩ = some (.int .i64 (m : Int)) := h1.cell 0
              have cW2 : A2.cell? ⟨Bw, 0, none⟩ = some (.slice aw m cw) := h2.wb.cell 0
              have cR2 : A2.cell? ⟨S + 1, 0, none⟩ = some (.bool false) := h2.r.cell 0
              have fR2 := h2.r.frozen 0
              have H2 := hidden h2
              have H3 := hidden h3
              have HK2 := hidden hK2
              have HD2 := hidden hD2
              clear h1 h2 h3 hK2 hD2 cI fI cS cW
              go_wp2_with fail
              have hcs := Chg.set ⟨S + 1, 0, none⟩ (.bool true) A2
              have hlo := H2.out.lo
              have hk2 : (A2.setCell ⟨S + 1, 0, none⟩ (.bool true)).heap[D2]? = some (.deferred (some [])) := (hcs.block D2 (Array.getElem?_eq_some_iff.1 HK2.out).1 (fun e => by dsimp only at e; have := HD2.out; have := HC3.out.lo; omega)).trans HK2.out
              have hk1 : (A2.setCell ⟨S + 1, 0, none⟩ (.bool true)).heap[D]? = some (.deferred (some [])) := (hcs.block D (Array.getElem?_eq_some_iff.1 H3.out).1 (fun e => by dsimp only at e; have := HD.out; have := HZC.out; omega)).trans H3.out
              have hk1' : ((A2.setCell ⟨S + 1, 0, none⟩ (.bool true)).putObj D2 (.deferred none)).heap[D]? = some (.deferred (some [])) := (World.putObj_heap_other (by have := HD2.out; omega)).trans hk1
              refine ⟨by simp, .inl ⟨_, _, rfl, run_takeDeferred hk2, ?_⟩⟩
              refine ⟨by simp, .inl ⟨_, _, rfl, run_takeDeferred hk1', ?_⟩⟩
              have q1 : Bk w10.heap.size (A2.setCell ⟨S + 1, 0, none⟩ (.bool true)) ((A2.setCell ⟨S + 1, 0, none⟩ (.bool true)).putObj D2 (.deferred none)) := Bk.put _ hk2 rfl (by have := HD2.out; have := HZ3.out; omega)
              have q2 : Bk w10.heap.size ((A2.setCell ⟨S + 1, 0, none⟩ (.bool true)).putObj D2 (.deferred none)) (((A2.setCell ⟨S + 1, 0, none⟩ (.bool true)).putObj D2 (.deferred none)).putObj D (.deferred none)) := Bk.put _ hk1' rfl HD.out
              have hrb := q2.blk (q1.blk (H2.out.r.set 0 (.bool true)))
              refine ⟨.bool true, res_cell rfl _ _ (S + 1) true rfl (hrb.cell 0), rfl, ?_⟩
              have hb0 := H2.out.bel.trans (hcs.below H2.out.bel.size (fun g hg => by dsimp only at hg; omega))
              exact Bk.below (Bk.below hb0 q1 HC.out.bel.size (Nat.le_refl _)) q2 HC.out.bel.size (Nat.le_refl _)

end Go.Proofs.Ytiaopgphjailiaa
