/-
  Scan, Whole.
-/
import Derived.Test.YtiaopgphjailiaaFrJ
namespace Go.Proofs.Ytiaopgphjailiaa
open Go Go.RowKit Go.Shelf
set_option linter.unusedVariables false
set_option linter.unusedSimpArgs false
attribute [local go_sem] Oper.semAt_some

set_option maxHeartbeats 2000000 in
theorem scan_any (ad : Option Addr) (len cap : Nat) (l : List Int) (w : World) (hs : Sl w ad len l) (hno : ad = none → len = 0 ∧ cap = 0) (hb : len ≤ 140737488355328) :
    Calls Try.prog 20 #[.slice ad len cap] w fun e w' => ∃ bx ag c, e = .returned (.func (.func 29) #[] #[.pointer (some ⟨bx, 0, none⟩)]) ∧ Blk w' bx 22 [.slice ag len c] ∧ w.heap.size ≤ bx ∧
      w'.ownsRow w.heap.size 5 1 (.slice ag len c) len (cells8 l) ∧ Below w.heap.size w w' := by
  have HS := hidden hs
  have HN := hidden hno
  clear hs hno
  go_enter Try.func20, Try.ntmps20
  go_wp2_with fail
  refine (clone_any ad len cap l w HS.out HN.out hb).mono ?_
  rintro e w1 ⟨ag, c, rfl, ho, hbel, _⟩
  have HO := hidden ho
  have HB := hidden hbel
  clear ho hbel
  go_wp2_with fail
  go_ret
  exact ⟨_, ag, c, rfl, heap_alloc_new w1 _, HB.out.size, HO.out.alloc _, HB.out.alloc HB.out.size _⟩

theorem Chg.cellS {F : Nat → Prop} {a b : World} (h : Chg F a b) {p : Addr} {v : Value} (hc : a.cell? p = some v) (hF : ¬ F p.block) : b.cell? p = some v := by
  have hlt : p.block < a.heap.size := by
    rcases Nat.lt_or_ge p.block a.heap.size with hh | hh
    · exact hh
    · exfalso
      simp [World.cell?, Array.getElem?_eq_none hh] at hc
  unfold World.cell? at *
  rw [h.block _ hlt hF]
  exact hc
theorem ReadE.bk {B B' bx : Nat} {ad : Option Addr} {len cap : Nat} {l : List Int} {w w' : World} (h : ReadE B bx ad len cap l w) (hk : Bk B' w w') : ReadE B bx ad len cap l w' := ⟨hk.cell h.1, hk.sl h.2.1, Nat.le_trans h.2.2 hk.size⟩
theorem TellE.bk {B B' : Nat} {l : List Int} {pre : List El} {x : El} {w w' : World} (h : TellE B l pre x w) (hk : Bk B' w w') : TellE B l pre x w' := ⟨h.1, h.2.1, hk.owns h.2.2⟩

set_option maxHeartbeats 2000000 in
theorem whole_any (ad : Option Addr) (len cap : Nat) (l : List Int) (w : World) (hs : Sl w ad len l) (hno : ad = none → len = 0 ∧ cap = 0) (hb : len ≤ 140737488355328) :
    Calls Try.prog 19 #[.slice ad len cap] w fun e w' => e = .returned (.int .i64 ((fsz (frames l) : Nat) : Int)) ∧ Below w.heap.size w w' := by
  have HS := hidden hs
  have HN := hidden hno
  clear hs hno
  refine (callsIn_wide (n := 3)).1 (callsIn_of_wp_marks Try.func19 rfl trivial (wpIn_wide.2 ?_) rfl)
  simp only [Try.ntmps19, List.size_toArray, List.length_cons, List.length_nil, Nat.reduceAdd, Nat.reduceSub, Array.replicate_succ, Array.replicate_zero, List.push_toArray, List.append_toArray, List.nil_append, List.cons_append]
  go_wp2_with fail
  have hb0 : Below w.heap.size w (w.alloc (.cells #[.int .i64 0] 3)) := (Below.refl _ _).alloc (Nat.le_refl _) _
  have HB0 := hidden (heap_alloc_new w (.cells #[.int .i64 0] 3))
  refine (scan_any ad len cap l _ (HS.out.later hb0) HN.out hb).mono ?_
  rintro e w1 ⟨bx, ag, c, rfl, hbx, hbs, ho, hbel⟩
  rw [World.size_alloc] at hbs hbel
  have HBX := hidden hbx
  have HO := hidden ho
  have HBL := hidden (hb0.trans (hbel.mono (Nat.le_succ _)))
  have HBB : Hid (Blk w1 w.heap.size 3 [.int .i64 0]) := (hbel.block w.heap.size (by omega)).trans HB0.out
  have HBS := hidden hbs
  clear hbx ho hbel hb0 HB0 hbs
  go_wp2_with fail
  refine wp_range (a := { tmps := _, defers := [] }) (gf := 29) (lb := #[.pointer (some ⟨bx, 0, none⟩)]) rfl (enters_of Try.func29 (by kernel_rfl) rfl) (scan1_seqs bx ag len c l w1 ?hc hb ?hn) (Below.refl _ _) (fun _ => rfl)
    (fun pre A => Blk A w.heap.size 3 [.int .i64 ((fsz (pre.map fr) : Nat) : Int)] ∧ ReadE w1.heap.size bx ag len c l A ∧ Below w.heap.size w A)
    (fun _ _ _ => False)
    ?hI (fun _ _ _ _ h _ => h) ?hR (fun _ _ h => h.2.1) ?h0
    (fun x => { tmps := #[.slice ad len cap, undef, .int .i64 0, .pointer (some ⟨w.heap.size, 0, none⟩), undef, x.2.1, .slice ad len cap, .func (.func 29) #[] #[.pointer (some ⟨bx, 0, none⟩)], .int .u8 x.1, x.2.1, undef, undef, undef, undef, undef, undef], defers := [] }) ?assign ?body ?done (fun _ _ _ _ _ _ h => h.elim)
  case hc => exact (owns_cap HO.out).2.1
  case hn => exact fun h => ((owns_cap HO.out).2.2.2 h).2
  case hI =>
    rintro pre A B ⟨h1, h2, h3⟩ hk
    exact ⟨hk.blk h1, h2.bk hk, Bk.below h3 hk (HBL.out.size) (Nat.le_refl _)⟩
  case hR => exact fun pre x A B h hk => h.bk hk
  case h0 => exact ⟨HBB.out, ⟨HBX.out.cell 0, sl_of_owns HO.out HS.out.byte, Nat.le_refl _⟩, HBL.out⟩
  case assign =>
    rintro n l ⟨k, v, d⟩ A K hK
    simp only [encE]
    gi_wp2
    exact hK
  case body =>
    rintro n lp pre ⟨k, v, d⟩ A ⟨hi1, hi2, hi3⟩ ⟨⟨rest, hrest⟩, ⟨ax, cx, hv⟩, hrow⟩
    dsimp only at hv hrow
    subst hv
    have hsz := fsz_pre (l := l) (pre := pre.map fr ++ [fr (k, .slice ax d.length cx, d)]) (rest := rest) (by rw [hrest]; simp)
    have hmem := (frames_byte HS.out.byte (fr (k, .slice ax d.length cx, d)) (by rw [hrest]; simp)).2.2.2
    rw [fsz_append] at hsz
    simp only [fsz, fr, Nat.add_zero, List.length_cons, List.length_nil] at hsz hmem
    obtain ⟨t, ht⟩ : ∃ t, fsz (pre.map fr) = t := ⟨_, rfl⟩
    rw [ht] at hi1 hsz
    have hl := HS.out.len
    have hsN := sizeN_ok d.length hmem
    have c0 := hi1.cell 0
    have f0 := hi1.frozen 0
    dsimp only
    have HF : Hid (KeepsFrom w1.heap.size A (A.setCell ⟨w.heap.size, 0, none⟩ (.int .i64 (IntKind.i64.wrap ((t : Int) + ((d.length : Int) + 9))))).drew ∧ True ∧
        Blk (A.setCell ⟨w.heap.size, 0, none⟩ (.int .i64 (IntKind.i64.wrap ((t : Int) + ((d.length : Int) + 9))))).drew w.heap.size 3 [.int .i64 ((fsz ((pre ++ [((k, .slice ax d.length cx, d) : El)]).map fr) : Nat) : Int)] ∧
        ReadE w1.heap.size bx ag len c l (A.setCell ⟨w.heap.size, 0, none⟩ (.int .i64 (IntKind.i64.wrap ((t : Int) + ((d.length : Int) + 9))))).drew ∧
        Below w.heap.size w (A.setCell ⟨w.heap.size, 0, none⟩ (.int .i64 (IntKind.i64.wrap ((t : Int) + ((d.length : Int) + 9))))).drew) := by
      have hv : IntKind.i64.wrap ((t : Int) + ((d.length : Int) + 9)) = ((fsz ((pre ++ [((k, .slice ax d.length cx, d) : El)]).map fr) : Nat) : Int) := by
        rw [wrapI _ (by omega) (by omega), List.map_append, fsz_append, ht]
        simp only [List.map_cons, List.map_nil, fsz, fr]
        omega
      rw [hv]
      have hch := (Chg.set ⟨w.heap.size, 0, none⟩ (.int .i64 ((fsz ((pre ++ [((k, .slice ax d.length cx, d) : El)]).map fr) : Nat) : Int)) A).trans (Chg.drew (fun i => i = w.heap.size) _) (fun i _ h => h)
      have hlt := HBS.out
      have hlt2 := (HBX.out).lt
      refine ⟨keeps_chg hch (fun i o h1 h2 _ => by dsimp only at h2; omega), trivial, hi1.set 0 _, ⟨?_, hch.sl hi2.2.1 (fun x hx hp => ?_), Nat.le_trans hi2.2.2 hch.size⟩, hi3.trans (hch.below hi3.size (fun i h => by dsimp only at h; omega))⟩
      · exact hch.cellS hi2.1 (fun e => by dsimp only at e; omega)
      · obtain ⟨g, hg⟩ : ∃ g, ag = some ⟨g, 0, none⟩ ∧ w.heap.size + 1 ≤ g := by
          obtain ⟨g, cc, e, _, hge, _⟩ := owns_some HO.out hp
          cases e
          exact ⟨g, rfl, by simpa using hge⟩
        rw [hx] at hg
        have := Option.some.inj hg.1
        rw [this]
        dsimp only
        omega
    have hmx : Try.prog.follows .mixedOrders = true := by kernel_rfl
    have hdp : Fence.wide.fn 13 := trivial
    gi_wp2
    gi_region_with_o (refine ⟨fun h => by simp [Fence.wide] at h, ?_⟩; refine (CallsIn.inRound lp (callsIn_wide.2 (size_any (d.length : Int) _ (by omega)))).mono ?_; rintro e w2 ⟨rfl, rfl⟩; rw [hsN])
    all_goals gi_wp2
    all_goals exact HF.out
  case done =>
    rintro D xs A hD hS ⟨h1, h2, h3⟩ hK
    rw [hS] at h1
    have c0 := h1.cell 0
    go_wp2_with fail
    refine ⟨by simp, .inl ⟨_, _, rfl, run_takeDeferred hK, ?_⟩⟩
    exact ⟨_, results_tmp rfl _ _ _, rfl, Bk.below h3 (Bk.put (B := w1.heap.size) _ hK rfl hD) HBL.out.size (Nat.le_refl _)⟩

end Go.Proofs.Ytiaopgphjailiaa
