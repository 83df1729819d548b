/-
  byName, Sort.
-/
import Derived.Test.YtpdffdoogobhfaaDoorLbR
import Derived.Test.YtpdffdoogobhfaaDoorLbV
import Derived.Lib.BufferMore
namespace Go.Proofs.YtpdffdoogobhfaaDoor
open Go.RowKit
set_option linter.unusedVariables false
set_option linter.unusedSimpArgs false

theorem info35 : (Tryd.prog.info? 35).map (fun i => (i.zero, i.size, i.bytes)) = some (some (.agg #[.string ⟨#[]⟩, .string ⟨#[]⟩]), 2, 32) := by kernel_rfl

set_option maxHeartbeats 2000000 in
set_option maxRecDepth 100000 in
theorem cloneP (ad : Option Addr) (c : Nat) (l : List Lb) (w : World) (hL : Ls w ad l) (hno : ad = none → l = [] ∧ c = 0) (hlen : l.length * 32 ≤ 140737488355328) :
    Calls Tryd.prog 49 #[.slice ad l.length c] w fun e w' => ∃ v, e = .returned v ∧ w'.ownsRow w.heap.size 35 2 v l.length (cL l) ∧ Below w.heap.size w w' := by
  obtain ⟨i0, hi0, hz0, hz1, hz2⟩ := info_parts info35
  obtain ⟨n, hn⟩ : ∃ n, l.length = n := ⟨_, rfl⟩
  rw [hn] at hlen ⊢
  have HN := hidden hn
  have HL := hidden hL
  clear hn hL
  cases ad with
  | none =>
    obtain ⟨h1, rfl⟩ := hno rfl
    have HN0 : n = 0 := by rw [← HN.out, h1]; rfl
    subst HN0
    have H1 := hidden h1
    clear h1
    have hq := fun w => Lib.run_eql_slice_nil_nil (P := Tryd.prog) w (t := 22) 0 0 Tryd.underlying22
    go_enter Tryd.func49, Tryd.ntmps49
    go_wp2
    go_ret
    refine ⟨_, rfl, ?_, Below.refl _ _⟩
    exact World.ownsRow_nil _ _ _ _
  | some x =>
    have hq := fun w => Lib.run_eql_slice_some_nil (P := Tryd.prog) w (t := 22) x n c Tryd.underlying22
    go_enter Tryd.func49, Tryd.ntmps49
    go_wp2_with (refine wpList_append_own _ rfl _ _ 22 rfl w.heap.size 35 i0 (.agg #[.string ⟨#[]⟩, .string ⟨#[]⟩]) 2 32 Tryd.underlying22 hi0 hz0 hz1 hz2 rfl (by decide) _ 0 [] rfl ?c0 x n c (cL l) rfl (by rw [cL_length, HN.out]) (HL.out.later ((Below.refl _ _).alloc (Nat.le_refl _) _)).cells' (cL_one l) ?c3 ?c4 ?c5 ?_)
    case c0 => exact ⟨rfl, .inr ⟨w.heap.size, 0, #[], rfl, Nat.le_refl _, Blk.new w 35 [], Nat.le_refl _, by unfold maxLen; omega, rfl, rfl⟩⟩
    case c3 => unfold maxLen; omega
    case c4 => omega
    case c5 => simp
    intro v' w' ho hg hne
    have HB := hidden (((Below.refl w.heap.size w).alloc (Nat.le_refl _) (.cells #[] 35)).grown hg (by simp) (fun k hk => Nat.le_of_eq (Option.some.inj hk)))
    have HO := hidden ho
    obtain ⟨a', c', rfl, _⟩ := owns_formL ho
    clear ho hg hne
    go_wp2
    go_ret
    exact ⟨_, rfl, HO.out, HB.out⟩

noncomputable def svT : TypeInfo := (Tryd.prog.info? 22).get (by kernel_rfl)
noncomputable def svE : TypeInfo := (Tryd.prog.info? 35).get (by kernel_rfl)
theorem svK2 (n : Nat) (h2 : 2 ≤ n) : Lib.swapperK n svE 25 = 9 := by
  have a : svE.hasPointers = true := by kernel_rfl
  have b : svE.bytes = 32 := by kernel_rfl
  have c : (n == 0) = false := by simp; omega
  have d : (n == 1) = false := by simp; omega
  simp [Lib.swapperK, a, b, c, d]

set_option maxHeartbeats 2000000 in
/-- The closure: by names. -/
theorem lessP (blk off c Bs size : Nat) (W : World) (G : Nat → Lb) (hs : W.cell? ⟨Bs, 0, none⟩ = some (.slice (some ⟨blk, off, none⟩) size c))
    (hc : ∀ t, t < size → W.cell? ⟨blk, off + t * 2, none⟩ = some (.string (G t).n)) (i j : Nat) (hi : i < size) (hj : j < size) (_hsz : size < 4611686018427387904) :
    Calls Tryd.prog 51 #[.int .i64 i, .int .i64 j, .pointer (some ⟨Bs, 0, none⟩)] W fun e w' => e = .returned (.bool (ltN (G i) (G j))) ∧ ∃ q, w' = W.drewN q := by
  have ci := hc i hi
  have cj := hc j hj
  have hi' : (i : Int) < (size : Int) := by omega
  have hj' : (j : Int) < (size : Int) := by omega
  go_enter Tryd.func51, Tryd.ntmps51
  go_wp2
  go_quiet (fail)
  go_wp2
  go_ret
  refine ⟨?_, nq, rfl⟩
  rw [show ltN (G i) (G j) = Op.bytesLess (G i).n.toList (G j).n.toList from by rw [bytesLess_lss, toList_bts, toList_bts]; rfl]
  rfl

/-- sort.Slice as byName calls it. -/
theorem sortSliceP (ad : Option Addr) (n c Bs B : Nat) (l : List Lb) (w : World) (hO : w.ownsRow B 35 2 (.slice ad n c) n (cL l)) (hn : n ≤ 12) (hBs : w.cell? ⟨Bs, 0, none⟩ = some (.slice ad n c)) (hB1 : Bs < w.heap.size) (hB2 : (Value.slice ad n c).ownBlock ≠ some Bs) :
    Calls Tryd.prog 50 #[.iface 22 (.slice ad n c), .func (.func 51) #[] #[.pointer (some ⟨Bs, 0, none⟩)]] w fun e w' =>
      e = .returned (.tuple #[]) ∧ ∃ m : List Lb, m.Perm l ∧ Srt m ∧ w'.ownsRow B 35 2 (.slice ad n c) n (cL m) ∧ Chg (fun i => (Value.slice ad n c).ownBlock = some i) w w' := by
  have hl := owns_len hO
  by_cases h2 : 2 ≤ n
  · obtain ⟨a', c', e, hno, hoff, _⟩ := owns_formL hO
    injection e with e1 e2 e3
    subst e1; subst e3
    cases ad with
    | none => have := hno rfl; omega
    | some x =>
      obtain ⟨g, off, sp⟩ := x
      obtain ⟨h5, h6⟩ := hoff _ rfl
      simp only at h5 h6
      subst h5; subst h6
      have hH := holds_of_owns hO
      have hlt : g < w.heap.size := (hO.lt g rfl).2
      have hne : Bs ≠ g := fun e => hB2 (by rw [e]; rfl)
      have hsz : l.toArray.size = n := by simpa using hl
      have hless : LessReadsK Tryd.prog 51 #[.pointer (some ⟨Bs, 0, none⟩)] encL 2 ltN g 0 l.toArray.size w := by
        intro m os dk hs i j hi hj
        have e : sortWorldK encL 2 w g 0 m dk os = Go.Sort.putRowK encL 2 (Go.Sort.grow (Go.Sort.ahead w m) os) g 0 dk := by
          unfold sortWorldK; rw [Go.Sort.putRowK_grow _ _ (Go.Sort.ahead w m) _ g 0 _ hlt]
        have hHg : Go.Sort.HoldsK encL 2 (Go.Sort.grow (Go.Sort.ahead w m) os) g 0 l.toArray := Go.Sort.holdsK_grow _ _ _ _ g 0 _ hlt (Go.Sort.holdsK_ahead _ _ _ _ _ _ _ hH)
        refine lessP g 0 c Bs n _ (fun t => dk[t]!) ?_ (fun t ht => ?_) i j (by omega) (by omega) (by omega)
        · rw [e, Go.Sort.cell?_putRowK_other _ _ _ g 0 dk _ (by exact hne), Go.Sort.cell?_grow _ _ _ (by exact hB1)]; exact hBs
        · rw [e]
          have := ((Go.Sort.holdsK_putRowK _ _ _ g 0 l.toArray dk hHg hs).cell (i := t) (c := 0) (by omega) (by omega)).1
          exact this
      have hS := Any.sort_Slice_small_cells_sorted Tryd.sl6 22 35 svT svE (by kernel_rfl) (by kernel_rfl) (by kernel_rfl) (by kernel_rfl) 25 (fun _ => by kernel_rfl) encL 2 (fun _ => rfl) (by kernel_rfl) (fun _ => by kernel_rfl)
        (fun x v hv => by simp [encL] at hv; rcases hv with rfl | rfl <;> rfl) ltN swo 51 _
        (enters_of Tryd.func51 (by kernel_rfl) rfl) g 0 c l.toArray (by omega) (by omega) 86 (by rw [svK2 _ (by omega)]; kernel_rfl) false
        (fun args W => run_callFunc_extern Tryd.func86 (by kernel_rfl) (by kernel_rfl) (by kernel_rfl) (e := Extern.ReflectliteSwapper.swap false) (by kernel_rfl) args W) w hless hH hlt
      rw [hsz] at hS
      refine Calls.mono hS ?_
      rintro e w' ⟨rfl, d', q, os, hp, hso, rfl⟩
      have hp' := perm_of (l := l) (d' := d') (by rw [hsz]; exact hp) (by rw [hsz]; exact hso)
      refine ⟨rfl, d'.toList, hp'.1, hp'.2.1, ?_, ?_⟩
      · have := owns_of_put (q := q) (os := os) (m := d'.toList) hO (by rw [hp'.2.2, hl])
        simpa using this
      · have hb := below_put (w := w) (B := g) (g := g) (q := q) (d := d') (os := os) (Nat.le_refl _) (by omega)
        refine ⟨hb.os, hb.tape, hb.output, hb.size, fun k hk hF => ?_⟩
        have hkg : k ≠ g := fun e => hF (by rw [e]; rfl)
        exact chg_put hk hkg
  · have hS := Any.sort_Slice_tiny Tryd.sl6 22 35 svT svE (by kernel_rfl) (by kernel_rfl) (by kernel_rfl) (by kernel_rfl) 25 (fun _ => by kernel_rfl) ad n c (by omega) (if n = 0 then 78 else 79)
      (by
        rcases (show n = 0 ∨ n = 1 by omega) with rfl | rfl
        · rw [show Lib.swapperK 0 svE 25 = 1 from rfl]; kernel_rfl
        · rw [show Lib.swapperK 1 svE 25 = 2 from rfl]; kernel_rfl) (.func 51) #[] #[.pointer (some ⟨Bs, 0, none⟩)] w
    refine Calls.mono hS ?_
    rintro e w' ⟨rfl, os, rfl⟩
    have hb : Below w.heap.size w (Go.Sort.grow w os) := by
      refine ⟨rfl, rfl, rfl, by simp [Go.Sort.grow], fun k hk => ?_⟩
      show (w.heap ++ os)[k]? = _
      rw [Array.getElem?_append_left hk]
    have hc : Chg (fun i => (Value.slice ad n c).ownBlock = some i) w (Go.Sort.grow w os) := Chg.of_below hb
    refine ⟨rfl, l, List.Perm.refl _, ?_, (Chg.of_below (F := fun _ => False) hb).owns hO (fun _ _ h => h), hc⟩
    match l, hl with
    | [], _ => exact List.Pairwise.nil
    | [x], _ => exact List.pairwise_singleton _ _
    | _ :: _ :: _, h => simp at h; omega

set_option maxRecDepth 100000 in
set_option maxHeartbeats 2000000 in
theorem byNameP (ad : Option Addr) (c : Nat) (l : List Lb) (w : World) (hL : Ls w ad l) (hno : ad = none → l = [] ∧ c = 0) (hlen : l.length ≤ 12) :
    Calls Tryd.prog 27 #[.slice ad l.length c] w fun e w' => ∃ v, e = .returned v ∧ ∃ m : List Lb, m.Perm l ∧ Srt m ∧ w'.ownsRow w.heap.size 35 2 v l.length (cL m) ∧ Below w.heap.size w w' := by
  have hC := cloneP ad c l w hL hno (by omega)
  obtain ⟨n, hn⟩ : ∃ n, l.length = n := ⟨_, rfl⟩
  rw [hn] at hlen hC ⊢
  clear hL hno
  go_enter Tryd.func27, Tryd.ntmps27
  go_wp2_with (go_at_call 49; refine hC.mono ?_)
  rintro e w1 ⟨v, rfl, ho1, hb1⟩
  obtain ⟨a1, c1, rfl, _⟩ := owns_formL ho1
  have HO := hidden ho1
  have HB := hidden hb1
  have ha := (Below.refl w1.heap.size w1).alloc (Nat.le_refl _) (.cells #[.slice a1 n c1] 22)
  have hS := sortSliceP a1 n c1 w1.heap.size w.heap.size l (w1.alloc (.cells #[.slice a1 n c1] 22)) ((Chg.of_below (F := fun _ => False) ha).owns ho1 (fun _ _ h => h)) hlen (by simp) (by simp) (fun e => by have := (ho1.lt _ e).2; omega)
  clear ho1 hb1 hC ha
  go_wp2_with (go_at_call 50; refine hS.mono ?_)
  rintro e w3 ⟨rfl, m, hp, hs, ho3, hc3⟩
  have c3 : w3.cell? ⟨w1.heap.size, 0, none⟩ = some (.slice a1 n c1) := by
    have := hc3.blk (Blk.new w1 22 [.slice a1 n c1]) (fun e => by have := (HO.out.lt _ e).2; omega)
    exact this.cell 0
  have HO3 := hidden ho3
  have HP := hidden (And.intro hp hs)
  have HB3 := hidden ((HB.out.alloc HB.out.size (.cells #[.slice a1 n c1] 22)).trans (hc3.below (B := w.heap.size) (by have := HB.out.size; simp; omega) (fun i e => (HO.out.lt _ e).1)))
  clear ho3 hc3 hS hp hs
  go_wp2
  go_ret
  exact ⟨_, rfl, m, HP.out.1, HP.out.2, HO3.out, HB3.out⟩

/-- What Sort answers: its row. -/
def sortOk (l : List Lb) : Bool := decide (l.length ≤ 8) && right (srt l)
set_option maxRecDepth 100000 in
set_option maxHeartbeats 2000000 in
theorem sortP (B : Nat) (ad : Option Addr) (c : Nat) (l : List Lb) (w : World) (hL : Ls w ad l) (hno : ad = none → l = [] ∧ c = 0) (hlen : l.length ≤ 9223372036854775807) (hT : Tb B w) :
    Calls Tryd.prog 9 #[.slice ad l.length c] w fun e w' => ∃ v, e = .returned (.tuple #[v, .int .i64 (errL (sortOk l))]) ∧ w'.ownsRow w.heap.size 35 2 v (bif sortOk l then l.length else 0) (cL (bif sortOk l then srt l else [])) ∧ Below w.heap.size w w' := by
  by_cases h8 : l.length ≤ 8
  · have hC := byNameP ad c l w hL hno (by omega)
    obtain ⟨n, hn⟩ : ∃ n, l.length = n := ⟨_, rfl⟩
    have HN := hidden hn
    have hq : Hid (sortOk l = right (srt l)) := by show _ = _; rw [sortOk, decide_eq_true h8]; simp
    have HZ := hidden hL.sz
    rw [hn] at hlen hC h8 ⊢
    have z8 : ¬ (8 : Int) < (n : Int) := by omega
    have HT := hidden hT
    clear hL hno hn hT
    rw [hq.out]
    obtain ⟨q, hqq⟩ : ∃ q, right (srt l) = q := ⟨_, rfl⟩
    rw [hqq]
    have HQ := hidden hqq
    clear hqq hq
    go_enter Tryd.func9, Tryd.ntmps9
    go_wp2_with (go_at_call 27; refine hC.mono ?_; intro e w1 hX; obtain ⟨v, hv, m, hp, hs, ho1, hb1⟩ := hX; obtain ⟨a1, c1, hvv, _⟩ := owns_formL ho1; subst hvv; subst hv)
    have hsa := srt_any hp hs
    have hml : m.length = n := owns_len ho1
    have hR := rightP B a1 c1 m w1 (ls_of_owns ho1 (fun x hx => HZ.out x (hp.mem_iff.1 hx))) (by omega) (HT.out.later hb1)
    rw [hml, hsa.1, HQ.out] at hR
    have HO := hidden ho1
    have HB := hidden hb1
    have HSA := hidden (hsa.1.symm ▸ hsa.2)
    clear ho1 hb1 hsa hp hs hC
    cases q with
    | true =>
      go_wp2_with (go_at_call 14; refine hR.mono ?_; rintro e w2 ⟨rfl, hb2⟩)
      go_ret2
      have hm : m = srt l := HSA.out HQ.out
      refine ⟨_, rfl, ?_, HB.out.trans (hb2.mono HB.out.size)⟩
      rw [← hm]
      exact (Chg.of_below (F := fun _ => False) hb2).owns HO.out (fun _ _ h => h)
    | false =>
      go_wp2_with (go_at_call 14; refine hR.mono ?_; rintro e w2 ⟨rfl, hb2⟩)
      go_ret2
      refine ⟨_, rfl, ?_, HB.out.trans (hb2.mono HB.out.size)⟩
      exact World.ownsRow_nil _ _ _ _
  · have hq : sortOk l = false := by rw [sortOk, decide_eq_false h8]; simp
    rw [hq]
    obtain ⟨n, hn⟩ : ∃ n, l.length = n := ⟨_, rfl⟩
    rw [hn] at hlen h8 ⊢
    have z8 : (8 : Int) < (n : Int) := by omega
    clear hL hno hn hT hq
    go_enter Tryd.func9, Tryd.ntmps9
    go_wp2
    go_ret2
    exact ⟨_, rfl, World.ownsRow_nil _ _ _ _, Below.refl _ _⟩

end Go.Proofs.YtpdffdoogobhfaaDoor
