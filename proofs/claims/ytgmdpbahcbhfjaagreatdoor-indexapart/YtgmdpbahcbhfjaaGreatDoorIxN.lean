import Derived.Test.YtgmdpbahcbhfjaaGreatDoorIxH
set_option linter.unusedSimpArgs false
set_option linter.unusedVariables false
set_option maxHeartbeats 40000000
set_option maxRecDepth 100000
/-
  Package index: put.
-/
namespace Go.Proofs.YtgmdpbahcbhfjaaGreatDoor.X
open Go.RowKit

/-- The roll that put works on, as it is found or made. -/
def Got (w0 : World) (c0 : Col) (j x eb rb rv : Nat) (t : ByteArray) (R : Rr) (w : World) : Prop :=
  ∃ (V : ByteArray → ByteArray → List ByteArray) (ad : Option Addr) (cap nb vb : Nat) (c : Col), ValOk R V ∧ PI w c j x eb rb rv t (.slice ad (R t).length cap) nb vb (entF R) (R t) (R t) (V t) R V ∧ Acc w0 c0 j w c
theorem got_known {w0 w : World} {c0 : Col} {j x eb rb rv : Nat} {t : ByteArray} {R : Rr} {V : ByteArray → ByteArray → List ByteArray} {ad : Option Addr} {cap nb vb : Nat} (h : Ix w0 c0 j x eb rb R) (hv : ValOk R V) (h1 : Oth w0 c0 j x eb rb t R V) (h2 : Sr w0 c0 j t (.slice ad (R t).length cap) (R t)) (h3 : Nums w0 c0 j t nb (R t)) (h4 : Vals w0 c0 j t vb (V t))
    (hb : Below w0.heap.size w0 w) (hrv : w0.heap.size ≤ rv) (hB : Blk w rv 103 [.slice ad (R t).length cap, .map (some nb), .map (some vb)]) : Got w0 c0 j x eb rb rv t R w := by
  have hcc : ∀ i, i < w0.heap.size → (fun i => if i = rv then none else c0 i : Col) i = c0 i := fun i hi => by
    have : ¬ i = rv := by omega
    simp [this]
  have hc : Chg (fun _ => False) w0 w := Chg.of_below hb
  have hK : Kp (fun _ => False) w0 c0 j (fun _ => False) := fun i _ e => e.elim
  refine ⟨V, ad, cap, nb, vb, fun i => if i = rv then none else c0 i, hv, ⟨h1.keep hc hK hcc (fun e => e) (fun e => e) (fun _ _ => ⟨fun e => e, fun e => e, fun e => e, fun e => e, fun _ e => e⟩), h.ents.keep hc hK hcc (fun e => e) (fun _ e => e), hB, by simp, h2.keep hc hK hcc (fun e => e) (fun e => e), h3.keep hc hK hcc (fun e => e), h4.keep hc hK hcc (fun e => e) (fun _ e => e)⟩, hcc, hc.mono (fun _ _ e => e.elim)⟩
theorem got_new {w0 w : World} {c0 : Col} {j x eb rb rv nb vb : Nat} {t : ByteArray} {R : Rr} {V : ByteArray → ByteArray → List ByteArray} (h : Ix w0 c0 j x eb rb R) (hv : ValOk R V) (hS : R t = []) (hV : ∀ n, V t n = []) (h1 : Oth w0 c0 j x eb rb t R V)
    (hb : Below w0.heap.size w0 w) (hrv : w0.heap.size ≤ rv) (hnb : rv < nb) (hvb : nb < vb) (hB : Blk w rv 103 [.slice none 0 0, .map (some nb), .map (some vb)]) (hmn : Ml St.val w nb []) (hmv : Ml Value.string w vb []) : Got w0 c0 j x eb rb rv t R w := by
  have hcc : ∀ i, i < w0.heap.size → (fun i => if i = rv then none else if i = nb then some (j, .nums t) else if i = vb then some (j, .vals t) else c0 i : Col) i = c0 i := fun i hi => by
    have h1 : ¬ i = rv := by omega
    have h2 : ¬ i = nb := by omega
    have h3 : ¬ i = vb := by omega
    simp [h1, h2, h3]
  have hc : Chg (fun _ => False) w0 w := Chg.of_below hb
  have hK : Kp (fun _ => False) w0 c0 j (fun _ => False) := fun i _ e => e.elim
  have n1 : ¬ nb = rv := by omega
  have n2 : ¬ vb = rv := by omega
  have n3 : ¬ vb = nb := by omega
  refine ⟨V, none, 0, nb, vb, fun i => if i = rv then none else if i = nb then some (j, .nums t) else if i = vb then some (j, .vals t) else c0 i, hv, ⟨h1.keep hc hK hcc (fun e => e) (fun e => e) (fun _ _ => ⟨fun e => e, fun e => e, fun e => e, fun e => e, fun _ e => e⟩), h.ents.keep hc hK hcc (fun e => e) (fun _ e => e), by rw [hS]; exact hB, by simp, ?_, ?_, ?_⟩, hcc, hc.mono (fun _ _ e => e.elim)⟩
  · rw [hS]
    exact ⟨⟨[], World.ownsRow_nil w 0 36 1, fun i l h => by simp at h⟩, fun g hg => by cases hg⟩
  · rw [hS]
    exact ⟨by simp [n1], [], hmn, fun s => .inr ⟨by simp, rfl⟩⟩
  · exact ⟨by simp [n2, n3], [], hmv, fun n => .inl ⟨rfl, hV n⟩⟩
theorem built105t (t : ByteArray) : Tryz.prog.built 105 [(0, .string t)] = some #[.string t, .string ⟨#[]⟩, .string ⟨#[]⟩] := by kernel_rfl
theorem built105f (t n v : ByteArray) : Tryz.prog.built 105 [(0, .string t), (1, .string n), (2, .string v)] = some #[.string t, .string n, .string v] := by kernel_rfl
set_option maxRecDepth 100000 in
set_option maxHeartbeats 1500000 in
theorem putP {w : World} {c : Col} {j x eb rb : Nat} {R : Rr} (h : Ix w c j x eb rb R) (t : ByteArray) (ht : t.size ≤ maxLen) (ad : Option Addr) (cp : Nat) (l : List L.Lb) (hL : L.Ls w ad l) (hno : ad = none → l = [] ∧ cp = 0) (hr : L.right l = true) (hn : ¬ l ∈ R t) (hlen : (R t).length < 1000) (hap : ∀ a, ad = some a → ∀ q, ¬ c a.block = some (j, q)) :
    Calls Tryz.prog 48 #[.pointer (some ⟨x, 0, none⟩), .string t, .slice ad l.length cp] w fun e w' => e = .returned (.int .i64 ((R t).length : Int)) ∧ ∃ c', Ix w' c' j x eb rb (radd R t l) ∧ Acc w c j w' c' := by
  have HT := hidden ht
  have HL := hidden hL
  have HNO := hidden hno
  have HRI := hidden hr
  have HNI := hidden hn
  have HLEN := hidden hlen
  have HAP := hidden hap
  have HIX := hidden h
  have c1 := h.blk.cell 1
  simp only [List.getElem?_cons_zero, List.getElem?_cons_succ] at c1
  obtain ⟨n, hnn⟩ : ∃ n, l.length = n := ⟨_, rfl⟩
  have HN := hidden hnn
  rw [hnn]
  obtain ⟨N, hNN⟩ : ∃ N, (R t).length = N := ⟨_, rfl⟩
  have HNN := hidden hNN
  rw [hNN]
  obtain ⟨adv, capv, nv, nbv, vbv, b, HLK, HG1⟩ : ∃ (adv : Option Addr) (capv nv : Nat) (nbv vbv : Option Nat) (b : Bool), Hid ((Instr.lookup 82 (.map (some rb)) (.string t) true).run Tryz.prog w = .ok (.tuple #[.agg #[.slice adv nv capv, .map nbv, .map vbv], .bool b]) w) ∧
      Hid ((b = true ∧ ∀ w', Below w.heap.size w w' → Blk w' w.heap.size 103 [.slice adv nv capv, .map nbv, .map vbv] → Got w c j x eb rb w.heap.size t R w') ∨ (b = false ∧ ∀ w' nb vb, Below w.heap.size w w' → w.heap.size < nb → nb < vb → Blk w' w.heap.size 103 [.slice none 0 0, .map (some nb), .map (some vb)] → Ml St.val w' nb [] → Ml Value.string w' vb [] → Got w c j x eb rb w.heap.size t R w')) := by
    by_cases hS : R t = []
    · obtain ⟨V, lr, hv, hl, ha, ho, hV⟩ := h.unknown hS
      have := hl.look ky9 Tryz.underlying82 (zero103 w) t true
      rw [ha] at this
      exact ⟨none, 0, 0, none, none, false, hidden this, hidden (.inr ⟨rfl, fun w' nb vb hb h1 h2 hB hm hm2 => got_new h hv hS hV ho hb (Nat.le_refl _) h1 h2 hB hm hm2⟩)⟩
    · obtain ⟨V, lr, adv, capv, nb, vb, _, hv, hl, ha, ho, hsr, hnu, hva⟩ := h.known hS
      have := hl.look ky9 Tryz.underlying82 (zero103 w) t true
      rw [ha] at this
      exact ⟨adv, capv, (R t).length, some nb, some vb, true, hidden this, hidden (.inl ⟨rfl, fun w' hb hB => got_known h hv ho hsr hnu hva hb (Nat.le_refl _) hB⟩)⟩
  have lk := HLK.out
  clear h ht hL hno hr hn hlen hap hnn HLK hNN
  go_enter Tryz.func48, Tryz.ntmps48
  go_upto_if 22 with (first
    | (refine wpList_alloc_blk rfl 103 rfl 7 rfl [.slice none 0 0, .map none, .map none] info103 ?_; intro w1 B1 bl1 hz1; have HB1 := hidden B1; have BL1 := hidden bl1; have HZ := hidden hz1; clear B1 bl1 hz1)
    | (refine wpList_store_blk rfl 103 (.tmp 7) (.tmp 19) rfl rfl w.heap.size (l := [.slice adv nv capv, .map nbv, .map vbv]) HB1.out rfl rfl rfl (by rw [size103]; rfl) (by intro v hv; simp at hv; rcases hv with rfl | rfl | rfl <;> rfl) ?_
       obtain ⟨w2, hw2⟩ : ∃ w2, w1.setCells w.heap.size 0 [.slice adv nv capv, .map nbv, .map vbv] = w2 := ⟨_, rfl⟩
       have B2 : Hid (Blk w2 w.heap.size 103 [.slice adv nv capv, .map nbv, .map vbv]) := hidden (by rw [← hw2]; exact blk_stored HB1.out rfl)
       have BL2 : Hid (Below w.heap.size w w2) := hidden (by rw [← hw2]; exact BL1.out.trans (below_sets (Nat.le_refl _) _ _ _))
       rw [hw2]
       clear hw2))
  go_cut [] from 23 to 23 (fun wx => Hid (Got w c j x eb rb w.heap.size t R wx))
  case first =>
    rcases HG1.out with ⟨rfl, hg⟩ | ⟨rfl, hg⟩
    · have HG := hidden (hg w2 BL2.out B2.out)
      clear hg
      go_wp2_with fail
      go_meet
      exact HG
    · have HG := hidden hg
      clear hg
      go_wp2_with (first
        | (refine (newRollP w2).mono ?_
           rintro e w3 ⟨nb, vb, rfl, m1, m2, b3, h3, h4⟩
           have M1 := hidden m1
           have M2 := hidden m2
           have B3 := hidden b3
           have H3 := hidden h3
           have H4 := hidden h4
           clear m1 m2 b3 h3 h4)
        | (refine wpList_store_blk rfl 103 (.tmp 7) (.tmp 23) rfl rfl w.heap.size (l := [.slice none 0 0, .map (some nb), .map (some vb)]) (B2.out.later B3.out) rfl rfl rfl (by rw [size103]; rfl) (by intro v hv; simp at hv; rcases hv with rfl | rfl | rfl <;> rfl) ?_))
      go_meet
      have hlt := B2.out.lt
      have hb3 := BL2.out.trans (B3.out.mono BL2.out.size)
      have h3 := H3.out
      have h4 := H4.out
      have c4 := chg_sets w.heap.size [.slice none 0 0, .map (some nb), .map (some vb)] 0 w3
      exact hidden (HG.out _ nb vb (hb3.trans (below_sets (Nat.le_refl _) _ _ _)) (by omega) h4 (blk_stored (B2.out.later B3.out) rfl) (M1.out.chg c4 (by omega)) (M2.out.chg c4 (by omega)))
  case rest =>
    rename World => wr
    have HGOT := hcut
    clear hcut B2 BL2 HB1 BL1 HZ HG1
    obtain ⟨V, adr, capr, nb, vb, cr, hv, hpi, hacc⟩ := HGOT.out
    have r0 := hpi.rvb.cell 0
    simp only [List.getElem?_cons_zero, List.getElem?_cons_succ] at r0
    have HPI := hidden hpi
    have HACC := hidden hacc
    have HV := hidden hv
    clear hv hpi hacc HGOT
    rw [HNN.out] at r0
    have HE1 : Hid (Calls Tryz.prog 69 #[.pointer (some ⟨x, 0, none⟩), .agg #[.string t, .string ⟨#[]⟩, .string ⟨#[]⟩], .int .i64 (N : Int)] wr fun e w' => (∃ b, e = .returned (.bool b)) ∧ ∃ c', PI w' c' j x eb rb w.heap.size t (.slice adr (R t).length capr) nb vb (entI R t []) (R t) (R t) (V t) R V ∧ Acc w c j w' c') := hidden (by
      have hE := enterP x eb rb cr j N (entF R) (tenK t HT.out) wr HPI.out.oth.blk HPI.out.ents (fun i hi e => by
        have hb := HPI.out.oth.box
        rcases hi with e1 | e1
        · have he := HPI.out.ents.1
          rw [← e1, e, hb] at he
          cases he
        · rw [e, hb] at e1
          cases e1) (by have := HLEN.out; rw [HNN.out] at this; omega) (by
        have := HLEN.out
        rw [HNN.out] at this
        have h9 : entF R (tenK t HT.out) = List.range (R t).length := by simp [entF, tenK]
        rw [h9, List.length_range, HNN.out]
        omega)
      refine hE.mono ?_
      rintro e w4 ⟨rfl, c4, q1, q2, q3⟩
      refine ⟨⟨_, rfl⟩, c4, ?_, HACC.out.step q1 q3 (fun i hi hf => ?_)⟩
      · rw [← entI_first R t HT.out, HNN.out]
        rw [← HNN.out]
        exact HNN.out ▸ HPI.out.entered q2 q1 q3
      · rcases hf with e1 | e1
        · exact ⟨_, by rw [e1]; exact HPI.out.ents.1⟩
        · exact ⟨_, e1⟩)
    have hn8 : n ≤ 8 := by rw [← HN.out]; exact (right_fits HRI.out).1
    clear HPI HACC
    go_upto_region 6 with (first
      | (refine wpList_build_to rfl 105 #[(0, .tmp 28)] rfl [(0, .string t)] #[.string t, .string ⟨#[]⟩, .string ⟨#[]⟩] rfl (built105t t) ?_)
      | (go_at_call 69
         refine HE1.out.mono ?_
         rintro e w4 ⟨⟨b4, rfl⟩, h4⟩
         have H4 := hidden h4
         clear h4))
    go_wp2_with fail
    go_loopw [34] (fun s34 wx => ∃ i : Nat, s34 = .int .i64 (i : Int) ∧ i ≤ n ∧ Hid (∃ c', PI wx c' j x eb rb w.heap.size t (.slice adr (R t).length capr) nb vb (entI R t (l.take i)) (R t) (R t) (fun nm => valI R (V t nm) t nm (l.take i)) R V ∧ Acc w c j wx c')) (fun s34 _ => n - (intOf s34).toNat)
    case atStart => exact ⟨0, rfl, by omega, hidden (by
      obtain ⟨c5, p5, a5⟩ := H4.out
      have e5 : (fun nm => valI R (V t nm) t nm (l.take 0)) = V t := by funext nm; simp [valI]
      rw [e5, List.take_zero]
      exact ⟨c5, p5, a5⟩)⟩
    case round =>
      rename World => wq
      obtain ⟨i, rfl, hin, HQ⟩ := hrel
      by_cases hlt : i < n
      · have hltz : (i : Int) < (n : Int) := by omega
        obtain ⟨c6o, p6o, a6o⟩ := HQ.out
        obtain ⟨c6, hc6n, _, p6, a6⟩ := p6o.recol a6o
        clear p6o a6o
        have hLq := ls_chg HL.out a6.2 (fun a e => by rintro ⟨q, hq⟩; exact HAP.out a e q hq)
        obtain ⟨lb, off, y, rfl, hlb, hy, hy', k0, k1, z0, z1⟩ := hLq.get (i := i) (by rw [HN.out]; exact hlt)
        have hfit : y.fits = true := (right_fits HRI.out).2.2 y (List.mem_of_getElem? hy)
        have hnot : ¬ y ∈ l.take i := fun hm => by
          have ho := right_oneN HRI.out
          have : OneN (l.take i ++ [y]) := by
            have e : l.take (i + 1) = l.take i ++ [y] := by rw [List.take_add_one, hy]; rfl
            rw [← e]
            exact List.Pairwise.sublist (List.take_sublist _ _) ho
          exact (List.pairwise_append.1 this).2.2 y hm y (by simp) rfl
        have htk : Hid (l.take (i + 1) = l.take i ++ [y]) := hidden (by rw [List.take_add_one, hy]; rfl)
        have HE2 : Hid (∀ wy, Below wq.heap.size wq wy → Calls Tryz.prog 69 #[.pointer (some ⟨x, 0, none⟩), .agg #[.string t, .string y.n, .string y.v], .int .i64 (N : Int)] wy fun e w' => e = .returned (.bool (decide (hasX (R t) y = []))) ∧ ∃ c', PI w' c' j x eb rb w.heap.size t (.slice adr (R t).length capr) nb vb (entI R t (l.take i ++ [y])) (R t) (R t) (fun nm => valI R (V t nm) t nm (l.take i)) R V ∧ Acc w c j w' c' ∧ Chg (fun i => ∃ q, c6 i = some (j, q)) wy w') := hidden (fun wy hb => enterLb (p6.later hb) (a6.later hb) y hfit hnot HLEN.out HT.out N HNN.out)
        have HFIT := hidden hfit
        clear hLq hy hy' hfit hnot p6 a6 HQ
        by_cases hx : hasX (R t) y = []
        · have HX := hidden hx
          simp only [hx, decide_true] at HE2
          clear hx
          go_upto_region 10 with (first
            | (refine wpList_build_to rfl 105 #[(0, .tmp 39), (1, .tmp 41), (2, .tmp 43)] rfl [(0, .string t), (1, .string y.n), (2, .string y.v)] #[.string t, .string y.n, .string y.v] rfl (built105f t y.n y.v) ?_)
            | (go_at_call 69
               refine (HE2.out _ ((Below.refl wq.heap.size wq).alloc (Nat.le_refl _) _)).mono ?_
               rintro e w6 ⟨rfl, h6⟩
               have H6 := hidden h6
               clear h6))
          obtain ⟨c7, p7, a7, g7⟩ := H6.out
          obtain ⟨hvc, lv, hml, hvw⟩ := p7.vals
          have hB6 : Blk w6 wq.heap.size 75 [.string y.n, .string y.v] := g7.blk (Blk.new wq 75 [.string y.n, .string y.v]) (by rintro ⟨q, hq⟩; rw [hc6n] at hq; cases hq)
          obtain ⟨M, hM⟩ : ∃ M, (valI R (V t y.n) t y.n (l.take i)).length = M := ⟨_, rfl⟩
          have hM9 : M ≤ 2000 := by
            have h1 := valI_len HV.out (fun t' l' hl' => right_oneN (HIX.out.ok.right t' l' hl')) t y.n (l.take i)
            have h2 := HLEN.out
            rw [List.length_take, HN.out] at h1
            omega
          have hown := (hvw y.n).owns
          rw [hM] at hown
          obtain ⟨ad0, c0, hv0, _⟩ := owns_form2 hown.1
          have HNE : Hid (¬ (Value.slice ad0 M c0).ownBlock = some wq.heap.size ∧ ¬ (Value.slice ad0 M c0).ownBlock = some w.heap.size ∧ ¬ (Value.slice ad0 M c0).ownBlock = some vb) := hidden (by
            rw [hv0] at hown
            refine ⟨fun e => ?_, fun e => ?_, fun e => ?_⟩
            · have h1 := (Blk.tg hB6).one (owns_tg hown.1 _ e)
              exact absurd h1 (by decide)
            · have h1 := hown.2 _ e
              rw [p7.rvc] at h1
              cases h1
            · have h1 := hown.2 _ e
              rw [hvc] at h1
              cases h1)
          rw [hv0] at hown
          have hrvb := p7.rvb
          have hvbl : ¬ wq.heap.size = vb := fun e => Ml.tg hml 75 (by rw [← e]; exact Blk.tg hB6)
          have hvbr : ¬ w.heap.size = vb := fun e => Ml.tg hml 103 (by rw [← e]; exact Blk.tg hrvb)
          have HR10 : Hid (∀ (a0 : Act) (Q : Exit → Act → World → Prop), a0.tmps.size = 80 → a0.tmps.getD 7 undef = .pointer (some ⟨w.heap.size, 0, none⟩) → a0.tmps.getD 11 undef = .pointer (some ⟨wq.heap.size, 0, none⟩) →
              (∀ (v47 v48 v49 v50 v51 v52 v53 v54 v55 v56 v57 v58 v59 : Value) (w1 : World), (∃ c', PI w1 c' j x eb rb w.heap.size t (.slice adr (R t).length capr) nb vb (entI R t (l.take i ++ [y])) (R t) (R t) (fun nm => valI R (V t nm) t nm (l.take i ++ [y])) R V ∧ Acc w c j w1 c') → Q .normal (((((((((((((a0.put (some 47) v47).put (some 48) v48).put (some 49) v49).put (some 50) v50).put (some 51) v51).put (some 52) v52).put (some 53) v53).put (some 54) v54).put (some 55) v55).put (some 56) v56).put (some 57) v57).put (some 58) v58).put (some 59) v59) w1) →
              Code.wp Tryz.prog ((Tryz.f48.body.bind (findRegion 10)).getD .skip) Q a0 w6) := hidden (fun a0 Q hsz s7 s11 hQ =>
            put_r10 w.heap.size wq.heap.size vb M c0 ad0 y.n y.v (strs (valI R (V t y.n) t y.n (l.take i))) lv w6 a0 Q hsz s7 s11
              (fun w' hc => by
                have h1 := hc.blk hB6 (fun e => e.elim hvbl HNE.out.1)
                have h2 := hc.blk hrvb (fun e => e.elim hvbr HNE.out.2.1)
                exact ⟨h2.cell 2, h1.cell 0, h1.cell 1⟩)
              hml hv0 hown.1 hM9 HNE.out.2.2 (fun w1 => ∃ c', PI w1 c' j x eb rb w.heap.size t (.slice adr (R t).length capr) nb vb (entI R t (l.take i ++ [y])) (R t) (R t) (fun nm => valI R (V t nm) t nm (l.take i ++ [y])) R V ∧ Acc w c j w1 c')
              (fun w1 o ⟨c', h1, h2⟩ => ⟨c', h1.later ((Below.refl _ _).alloc (Nat.le_refl _) _), h2.later ((Below.refl _ _).alloc (Nat.le_refl _) _)⟩)
              (fun g cc w9 o9 k9 mv m9 => PI.newval2 p7 a7 HX.out hml hvw hM hv0 o9 k9 mv m9) hQ)
          clear hml hvw hvc hv0 p7 a7 hM hB6 hown g7 H6 HE2 hrvb hvbl hvbr HNE
          refine HR10.out _ _ (by rfl) (by rfl) (by rfl) ?_
          intro v47 v48 v49 v50 v51 v52 v53 v54 v55 v56 v57 v58 v59 w9 h9
          have H9 := hidden h9
          clear h9
          simp only [Act.put, List.setIfInBounds_toArray, List.set_cons_succ, List.set_cons_zero]
          go_wp2_with fail
          refine ⟨⟨i + 1, by first | rfl | simp, by omega, hidden ?_⟩, ?_⟩
          · rw [htk.out]
            exact H9.out
          · simp [intOf]
            omega
        · have HX := hidden hx
          simp only [hx, decide_false] at HE2
          clear hx
          go_wp2_with (first
            | (refine wpList_build_to rfl 105 #[(0, .tmp 39), (1, .tmp 41), (2, .tmp 43)] rfl [(0, .string t), (1, .string y.n), (2, .string y.v)] #[.string t, .string y.n, .string y.v] rfl (built105f t y.n y.v) ?_)
            | (go_at_call 69
               refine (HE2.out _ ((Below.refl wq.heap.size wq).alloc (Nat.le_refl _) _)).mono ?_
               rintro e w6 ⟨rfl, h6⟩
               have H6 := hidden h6
               clear h6))
          refine ⟨⟨i + 1, by first | rfl | simp, by omega, hidden ?_⟩, ?_⟩
          · obtain ⟨c7, p7, a7, _⟩ := H6.out
            have e7 : (fun nm => valI R (V t nm) t nm (l.take i ++ [y])) = fun nm => valI R (V t nm) t nm (l.take i) := by
              funext nm
              exact valI_old R (V t nm) t nm (l.take i) y (fun h => HX.out h.2)
            rw [htk.out, e7]
            exact ⟨c7, p7, a7⟩
          · simp [intOf]
            omega
      · have hltz : ¬ (i : Int) < (n : Int) := by omega
        have hil : l.take i = l := List.take_of_length_le (by rw [HN.out]; omega)
        have hQ := HQ.out
        rw [hil] at hQ
        obtain ⟨c6, p6, a6⟩ := hQ
        have hLq := ls_chg HL.out a6.2 (fun a e => by rintro ⟨q, hq⟩; exact HAP.out a e q hq)
        have HLQ := hidden hLq
        have r1 := p6.rvb.cell 1
        simp only [List.getElem?_cons_zero, List.getElem?_cons_succ] at r1
        have HRV := hidden p6.rvb
        obtain ⟨hnc, ln, hmn, hnu⟩ := p6.nums
        have HMN := hidden hmn
        have HNU := hidden (And.intro hnc hnu)
        have HP6 := hidden (And.intro p6 a6)
        obtain ⟨V9, hV9⟩ : ∃ V9, (stOf l HRI.out).val = V9 := ⟨_, rfl⟩
        have HV9 := hidden hV9
        have HS : Hid (∀ w1, Below wq.heap.size wq w1 → Calls Tryz.prog 51 #[.slice ad n cp] w1 fun e w' => e = .returned V9 ∧ Below w1.heap.size w1 w') := hidden (fun w1 hb => by
          have := setOfP ad cp (stOf l HRI.out) w1 (HLQ.out.later hb) HNO.out
          rw [HV9.out] at this
          rw [← HN.out]
          exact this)
        clear HQ hil hLq p6 a6 hnc hmn hnu hV9
        go_upto_region 12 with fail
        go_cut [] from 61 to 65 (fun wx => Hid (∃ c', PI wx c' j x eb rb w.heap.size t (.slice adr (R t).length capr) nb vb (entI R t l) (R t) (R t ++ [l]) (fun nm => valI R (V t nm) t nm l) R V ∧ Acc w c j wx c'))
        case first =>
          go_region_with (refine (HS.out _ ((Below.refl wq.heap.size wq).drew)).mono ?_; rintro e w3 ⟨rfl, b3⟩; have B3 : Hid (Below wq.heap.size wq w3) := hidden (((Below.refl wq.heap.size wq).drew).trans b3); have q1 := (HRV.out.later B3.out).cell 1; simp only [List.getElem?_cons_zero, List.getElem?_cons_succ] at q1; obtain ⟨w9, r9, m9, k9, _⟩ := (HMN.out.later B3.out).store (P := Tryz.prog) ky110 Tryz.underlying100 (stOf l HRI.out) (.int .i64 (N : Int)); rw [HV9.out] at r9; have P9 := hidden (And.intro m9 k9); clear b3 m9 k9)
          all_goals
            go_wp2_with fail
            go_meet
            obtain ⟨m9, k9⟩ := P9.out
            obtain ⟨p6, a6⟩ := HP6.out
            obtain ⟨hnc, hnu⟩ := HNU.out
            have hnn := nu_put hnu (stOf l HRI.out) HNI.out
            rw [HNN.out] at hnn
            exact hidden ⟨c6, (p6.later B3.out).numbered ⟨hnc, _, m9, hnn⟩ k9, (a6.later B3.out).step (fun _ _ => rfl) k9 (fun i hi hf => ⟨.nums t, by rw [show i = nb from hf]; exact hnc⟩)⟩
        case rest =>
          rename World => wr2
          have H12 := hcut
          clear hcut HS HMN HNU HP6 HRV HLQ HV9 r1
          obtain ⟨c8, p8, a8⟩ := H12.out
          have hL8 := ls_chg HL.out a8.2 (fun a e => by rintro ⟨q, hq⟩; exact HAP.out a e q hq)
          obtain ⟨rows, hrow, hcl⟩ := p8.sr.own
          rw [HNN.out] at hrow
          have r0 := p8.rvb.cell 0
          have rf := p8.rvb.frozen 0
          simp only [List.getElem?_cons_zero, List.getElem?_cons_succ] at r0
          rw [HNN.out] at r0
          have hrvb := p8.rvb
          have HC : Hid (∀ w1, Below wr2.heap.size wr2 w1 → Calls Tryz.prog 52 #[.slice ad n cp] w1 fun e w' => ∃ v, e = .returned v ∧ (∃ ad1 cp1, v = .slice ad1 n cp1) ∧ w'.ownsRow w1.heap.size 75 2 v n (cLb l) ∧ Below w1.heap.size w1 w') := hidden (fun w1 hb => by
            have := cloneLP ad cp l w1 (hL8.later hb) HNO.out (by rw [HN.out]; omega)
            rw [HN.out] at this
            refine this.mono ?_
            rintro e w' ⟨v, rfl, ho, hb⟩
            obtain ⟨ad1, cp1, e1, _⟩ := owns_form2 ho
            exact ⟨v, rfl, ⟨ad1, cp1, e1⟩, ho, hb⟩)
          have hne : ∀ g, (Value.slice adr N capr).ownBlock = some g → ¬ g = w.heap.size := fun g hg e => by
            have h1 := p8.sr.col g (by rw [HNN.out]; exact hg)
            rw [e, p8.rvc] at h1
            cases h1
          have HFI : Hid (∀ (w4 w5 : World) (g5 cp5 : Nat) (ad1 : Option Addr) (cp1 : Nat), Below wr2.heap.size wr2 w4 → w4.ownsRow wr2.heap.size 75 2 (.slice ad1 n cp1) n (cLb l) → w5.ownsRow 0 36 1 (.slice (some ⟨g5, 0, none⟩) (N + 1) cp5) (N + 1) (rows ++ [.slice ad1 n cp1]) → Chg (fun i => (Value.slice adr N capr).ownBlock = some i) w4 w5 → Moved w4 (Value.slice adr N capr).ownBlock (some g5) →
              (w5.cell? ⟨w.heap.size, 0, none⟩ = some (.slice adr N capr) ∧ w5.frozen? ⟨w.heap.size, 0, none⟩ = false) ∧ ∃ c' g cap, PI (w5.setCell ⟨w.heap.size, 0, none⟩ (.slice (some ⟨g5, 0, none⟩) (N + 1) cp5)) c' j x eb rb w.heap.size t (.slice (some ⟨g, 0, none⟩) (N + 1) cap) nb vb (entI R t l) (R t ++ [l]) (R t ++ [l]) (fun nm => valI R (V t nm) t nm l) R V ∧ Acc w c j (w5.setCell ⟨w.heap.size, 0, none⟩ (.slice (some ⟨g5, 0, none⟩) (N + 1) cp5)) c') := hidden (fun w4 w5 g5 cp5 ad1 cp1 b4 o4 o5 k5 mv5 => by
            have hb5 := k5.blk (hrvb.later b4) (fun e => hne _ e rfl)
            refine ⟨⟨by have := hb5.cell 0; rw [HNN.out] at this; exact this, hb5.frozen 0⟩, ?_⟩
            have k7 := Chg.set ⟨w.heap.size, 0, none⟩ (.slice (some ⟨g5, 0, none⟩) (N + 1) cp5) w5
            have hb7 := hb5.set 0 (.slice (some ⟨g5, 0, none⟩) (N + 1) cp5)
            rw [← HNN.out] at hrow o5 k5 mv5 k7 hb7 ⊢
            obtain ⟨c', h1, h2⟩ := PI.rolled (l := l) (w1 := w4) p8 a8 (Nat.le_refl _) hrow hcl (by rw [HN.out]; exact o4) b4 o5 k5 mv5 k7 hb7
            exact ⟨c', g5, cp5, h1, h2⟩)
          have HR0 : Hid (∀ w', Below wr2.heap.size wr2 w' → w'.cell? ⟨w.heap.size, 0, none⟩ = some (.slice adr N capr)) := hidden (fun w' hb => by have := (hrvb.later hb).cell 0; rw [HNN.out] at this; exact this)
          have HROW := hidden hrow
          clear p8 a8 hL8 hcl hrvb hne hrow H12
          obtain ⟨i6, hi36, hz36, hs36, hb36⟩ := ix_info_parts info36s
          go_upto_region 13 with fail
          go_cut [] from 66 to 72 (fun wx => Hid (∃ c' g cap, PI wx c' j x eb rb w.heap.size t (.slice (some ⟨g, 0, none⟩) (N + 1) cap) nb vb (entI R t l) (R t ++ [l]) (R t ++ [l]) (fun nm => valI R (V t nm) t nm l) R V ∧ Acc w c j wx c'))
          case first =>
            go_region_law (first
              | (refine step_go (by rfl) 52 #[.slice ad n cp] (by simp [execOp, resolve, Act.eval, go_sem]) _ (HC.out _ ((Below.refl wr2.heap.size wr2).drew)) ?_
                 rintro v1 w4 ⟨⟨ad1, cp1, rfl⟩, o1, b1⟩
                 have O1 := hidden o1
                 have B1 : Hid (Below wr2.heap.size wr2 w4) := hidden (((Below.refl wr2.heap.size wr2).drew).trans b1)
                 have t0 := HR0.out w4 B1.out
                 have t0a := HR0.out (w4.alloc (.cells #[.slice ad1 n cp1] 36)) (B1.out.trans (((Below.refl w4.heap.size w4).alloc (Nat.le_refl _) _).mono B1.out.size))
                 clear o1 b1)
              | (refine step_push _ (by rfl) (.tmp 67) (.tmp 70) 29 (by rfl) 36 i6 (.slice none 0 0) 24 Tryz.underlying29 hi36 hz36 hs36 hb36 (by rfl) 0 (.slice adr N capr) N rows (by rfl) ((J.owns_later HROW.out B1.out).alloc _) ⟨w4.heap.size, 0, none⟩ (.slice ad1 n cp1) (by rfl) ((Blk.new w4 36 [.slice ad1 n cp1]).cell 0) (by rfl) (by unfold maxLen; have := HLEN.out; have := HNN.out; omega) (by have := HLEN.out; have := HNN.out; omega) (Nat.zero_le _) ?_
                 intro g5 cp5 w5 o5 p5
                 obtain ⟨k5, mv5⟩ := p5.chg
                 obtain ⟨⟨t5, f5⟩, h5⟩ := HFI.out w4 w5 g5 cp5 ad1 cp1 B1.out O1.out o5 k5 mv5
                 have H5 := hidden h5
                 clear o5 p5 k5 mv5 h5))
            all_goals
              go_wp2_with fail
              go_meet
              exact H5
          case rest =>
            rename World => wr3
            have H13 := hcut
            clear hcut HC HFI HR0 HROW r0 rf
            obtain ⟨c9, g9, cap9, p9, a9⟩ := H13.out
            have x1 := p9.oth.blk.cell 1
            have q0 := p9.rvb.cell 0
            have q1 := p9.rvb.cell 1
            have q2 := p9.rvb.cell 2
            simp only [List.getElem?_cons_zero, List.getElem?_cons_succ] at x1 q0 q1 q2
            obtain ⟨hrc, lr, hmr, hro⟩ := p9.oth.rol
            obtain ⟨w10, r10, m10, k10, _⟩ := (hmr.later ((Below.refl wr3.heap.size wr3).drew)).store (P := Tryz.prog) ky9 Tryz.underlying82 t (.agg #[.slice (some ⟨g9, 0, none⟩) (N + 1) cap9, .map (some nb), .map (some vb)])
            have HB : Hid (∃ c', Ix w10 c' j x eb rb (radd R t l) ∧ Acc w c j w10 c') := hidden (by
              obtain ⟨h1, h2⟩ := PI.back p9 a9 HV.out HIX.out.ok HRI.out HNI.out HLEN.out hmr hro m10 ((Chg.drew _ wr3).trans k10 (fun _ _ e => e))
              exact ⟨c9, h1, h2⟩)
            clear p9 a9 hrc hmr hro m10 k10 H13
            go_upto_region 14 with fail
            go_region
            all_goals
              go_wp2_with fail
              go_ret
              exact ⟨by rfl, HB.out⟩
end Go.Proofs.YtgmdpbahcbhfjaaGreatDoor.X
