import Derived.Test.YtlppibigceeimaaDoorMlG
import Derived.Maps.RangeWalk
import Derived.Test.YtlppibigceeimaaDoorSeV
/-
  Ranging over a map that is told as a list. Nothing of the program.
-/
namespace Go.Proofs.YtlppibigceeimaaDoor
open Go.RowKit Go.MapKept
open Go.ChangeMaps (setBlock heap_setBlock_same heap_setBlock_other)
set_option linter.unusedVariables false
set_option linter.unusedSectionVars false

section
variable {α : Type} [DecidableEq α]
/-- An iterator in block r over the map in block b; the keys that have come out; how many are left. -/
def Mr (e : α → Value) (w : World) (b r : Nat) (l : List (α × Value)) (dn : List α) (cnt : Nat) : Prop :=
  ∃ es clock since seen c0, w.heap[b]? = some (.map es clock) ∧ Stamped es clock ∧ (es.toList.map fun x => (x.key, x.val)).Perm (l.map fun p => (e p.1, p.2)) ∧
    w.heap[r]? = some (.mapIter (some b) since seen c0) ∧ (∀ x ∈ es.toList, x.born < since) ∧ since ≤ c0 ∧ c0 ≤ clock ∧ (leftOf es seen).size = cnt ∧
    (∀ x ∈ es.toList, seen.contains x.born = true ↔ ∃ a ∈ dn, x.key = e a)
variable {P : Program} {w : World} {b r cnt : Nat} {e : α → Value} {l : List (α × Value)} {dn : List α} {t kt et : TypeId} {d : TypeDesc}
theorem Mr.ml (h : Mr e w b r l dn cnt) : Ml e w b l := by
  obtain ⟨es, clock, since, seen, c0, h1, h2, h3, _⟩ := h
  exact ⟨es, clock, h1, h2, h3⟩
theorem Mr.lt (h : Mr e w b r l dn cnt) : r < w.heap.size := by
  obtain ⟨es, clock, since, seen, c0, h1, h2, h3, h4, _⟩ := h
  exact (Array.getElem?_eq_some_iff.1 h4).1
theorem Mr.chg {F : Nat → Prop} {w' : World} (h : Mr e w b r l dn cnt) (hc : Chg F w w') (hb : ¬ F b) (hr : ¬ F r) : Mr e w' b r l dn cnt := by
  have hbl := h.ml.lt
  have hrl := h.lt
  obtain ⟨es, clock, since, seen, c0, h1, h2, h3, h4, h5⟩ := h
  exact ⟨es, clock, since, seen, c0, (hc.block b hbl hb).trans h1, h2, h3, (hc.block r hrl hr).trans h4, h5⟩
theorem Mr.left (h : Mr e w b r l dn cnt) : w.rangeLeft b r = cnt := by
  obtain ⟨es, clock, since, seen, c0, h1, h2, h3, h4, _, _, _, h5, _⟩ := h
  unfold World.rangeLeft
  rw [h1, h4]
  exact h5
/-- 'range m'. -/
theorem Ml.range (h : Ml e w b l) (ht : P.underlying t = some (.map kt et)) : ∃ w', (Instr.range t (.map (some b))).run P w = .ok (.pointer (some ⟨w.heap.size, 0, none⟩)) w' ∧ Mr e w' b w.heap.size l [] l.length ∧ Below w.heap.size w w' := by
  have hlt := h.lt
  obtain ⟨es, clock, hb, hs, hm⟩ := h
  refine ⟨_, run_range_map w t kt et b es clock ht hb, ⟨es, clock, clock, #[], clock, ((MapKept.heap_alloc w _).2 b hlt).trans hb, hs, hm, (MapKept.heap_alloc w _).1, ((stamped_iff es clock).1 hs).1, Nat.le_refl _, Nat.le_refl _, ?_, ?_⟩, (Below.refl _ _).alloc (Nat.le_refl _) _⟩
  · have : es.size = l.length := by simpa using hm.length_eq
    have e0 : leftOf es #[] = es := by
      unfold leftOf
      exact Array.filter_eq_self.2 (by simp)
    rw [e0, this]
  · intro x hx
    simp
/-- The next key. -/
theorem Mr.next (h : Mr e w b r l dn cnt) (K : Ky P kt e d) (ty : TypeId) :
    ((∀ p ∈ l, p.1 ∈ dn) ∧ (Instr.next (.pointer (some ⟨r, 0, none⟩)) false ty).run P w = .ok (.tuple #[.bool false]) w) ∨
    ∃ a v w1 cnt', (a, v) ∈ l ∧ ¬ a ∈ dn ∧ cnt' < cnt ∧ (Instr.next (.pointer (some ⟨r, 0, none⟩)) false ty).run P w = .ok (.tuple #[.bool true, e a, v]) w1 ∧ Mr e w1 b r l (a :: dn) cnt' ∧ Chg (fun j => j = r) w w1 ∧ (Instr.entry (.pointer (some ⟨r, 0, none⟩))).run P w1 = .ok (.tuple #[e a, v]) w1 := by
  have hbl := h.ml.lt
  obtain ⟨es, clock, since, seen, c0, h1, h2, h3, h4, h5, h6, h7, h8, h9⟩ := h
  have hbr : b ≠ r := by
    rintro rfl
    rw [h1] at h4
    cases h4
  rcases run_next_at (P := P) w ty r b since c0 seen es clock h4 h1 h5 h6 with ⟨hz, hr⟩ | ⟨x, hx, w1, hw1, hr⟩
  · refine .inl ⟨fun p hp => ?_, hr⟩
    have hm : (e p.1, p.2) ∈ es.toList.map fun x => (x.key, x.val) := h3.mem_iff.2 (List.mem_map.2 ⟨p, hp, rfl⟩)
    obtain ⟨x, hx, hxp⟩ := List.mem_map.1 hm
    obtain ⟨a, ha, hxa⟩ := (h9 x hx).1 (all_seen es seen hz x hx)
    have : a = p.1 := K.inj (by rw [← hxa, (Prod.mk.inj hxp).1])
    rw [← this]
    exact ha
  · obtain ⟨hxe, hxs⟩ := mem_left hx
    have hm : (x.key, x.val) ∈ l.map fun p => (e p.1, p.2) := h3.mem_iff.1 (List.mem_map.2 ⟨x, hxe, rfl⟩)
    obtain ⟨p, hp, hpx⟩ := List.mem_map.1 hm
    have hk : x.key = e p.1 := (Prod.mk.inj hpx).1.symm
    have hv : x.val = p.2 := (Prod.mk.inj hpx).2.symm
    have hnd : ¬ p.1 ∈ dn := fun hd => by
      have := (h9 x hxe).2 ⟨p.1, hd, hk⟩
      rw [hxs] at this
      cases this
    have hr1 : w1.heap[r]? = some (.mapIter (some b) since seen c0) := by rcases hw1 with rfl | rfl <;> exact h4
    have hb1 : w1.heap[b]? = some (.map es clock) := by rcases hw1 with rfl | rfl <;> exact h1
    have hrl : r < w1.heap.size := (Array.getElem?_eq_some_iff.1 hr1).1
    have hsr : (setBlock w1 r (.mapIter (some b) since (seen.push x.born) clock)).heap[r]? = some (.mapIter (some b) since (seen.push x.born) clock) := by simp [setBlock, hrl]
    have hsb : (setBlock w1 r (.mapIter (some b) since (seen.push x.born) clock)).heap[b]? = some (.map es clock) := by
      simp only [setBlock]
      rw [Array.getElem?_setIfInBounds_ne hbr.symm]
      exact hb1
    have hc1 : Chg (fun j => j = r) w w1 := by
      rcases hw1 with rfl | rfl
      · exact Chg.refl _ _
      · exact Chg.drew _ _
    have hst := (stamped_iff es clock).1 h2
    refine .inr ⟨p.1, p.2, _, _, hp, hnd, ?_, by rw [← hk, ← hv]; exact hr, ⟨es, clock, since, seen.push x.born, clock, hsb, h2, h3, hsr, h5, Nat.le_trans h6 h7, Nat.le_refl _, rfl, ?_⟩, hc1.trans ⟨rfl, rfl, rfl, by simp [setBlock], fun k _ hk => by simp [setBlock, Ne.symm hk]⟩ (fun _ _ h => h), ?_⟩
    · rw [← h8]
      exact left_shrinks es seen x hx
    · intro y hy
      rw [contains_push]
      constructor
      · intro hyc
        rcases Bool.or_eq_true_iff.1 hyc with h | h
        · obtain ⟨a, ha, hya⟩ := (h9 y hy).1 h
          exact ⟨a, .tail _ ha, hya⟩
        · have hyx : y.born = x.born := by simpa using h
          have f1 := find_born y es.toList hst.2.1 hy
          have f2 := find_born x es.toList hst.2.1 hxe
          rw [hyx, f2] at f1
          exact ⟨p.1, .head _, by rw [← Option.some.inj f1]; exact hk⟩
      · rintro ⟨a, ha, hya⟩
        rcases List.mem_cons.1 ha with rfl | ha
        · have : y = x := entry_eq_of_key hst.2.2 hy hxe (by rw [hya, hk])
          rw [this]
          simp
        · rw [(h9 y hy).2 ⟨a, ha, hya⟩]
          simp
    · rw [← hk, ← hv]
      exact run_entry_at _ r b since seen es clock x hsr hsb hxe hst.2.1
end
end Go.Proofs.YtlppibigceeimaaDoor

/-
  Package series: Chunks, Slots, Last.
-/
namespace Go.Proofs.YtlppibigceeimaaDoor
open Go.RowKit
set_option linter.unusedVariables false
set_option linter.unusedSimpArgs false

/-- One chunk more, whose bytes are read. -/
theorem Ck.pushS {D : Nat → Prop} {w1 w2 w3 w4 : World} {base : Nat} {v : Value} {L : List (List Int)} {b : List Int} {ad : Option Addr} {n c g' c' : Nat} (h : Ck w1 base v L D) (hB : base ≤ w1.heap.size) (hn : b.length = n)
    (s : Sl w2 ad n b) (hcap : n ≤ c ∧ c ≤ maxLen) (had : ∀ x, ad = some x → w1.heap.size ≤ x.block ∧ x.block < w2.heap.size) (b2 : Below w1.heap.size w1 w2) (b3 : Below w2.heap.size w2 w3) {xs : List Value}
    (hxs : w1.ownsRow base 70 1 v L.length xs ∧ ∀ (i : Nat) (b : List Int), L[i]? = some b → ∃ (ad : Option Addr) (c : Nat), xs[i]? = some (Value.slice ad b.length c) ∧ Sl w1 ad b.length b ∧ b.length ≤ c ∧ c ≤ maxLen ∧ (∀ x, ad = some x → D x.block))
    (o4 : w4.ownsRow base 70 1 (.slice (some ⟨g', 0, none⟩) (L.length + 1) c') (L.length + 1) (xs ++ [.slice ad n c])) (hp : Pushed w3 w4 v g') :
    Ck w4 base (.slice (some ⟨g', 0, none⟩) (L.length + 1) c') (L ++ [b]) (fun i => D i ∨ (w1.heap.size ≤ i ∧ ∃ x, ad = some x ∧ x.block = i)) ∧ Chg (fun i => v.ownBlock = some i) w1 w4 ∧ Moved w1 v.ownBlock (some g') := by
  subst hn
  have s2 := b2.size
  have s3 := b3.size
  have hvlt := h.vlt
  have hb13 : Below w1.heap.size w1 w3 := b2.trans (b3.mono s2)
  have hc4 : Chg (fun i => v.ownBlock = some i) w3 w4 := by
    rcases hp with ⟨h1, h2⟩ | ⟨h1, h2⟩
    · exact Chg.of_grown h2 (fun i hi => by rw [h1]; exact hi)
    · exact Chg.of_grown h2 (fun i hi => by cases hi)
  have hc : Chg (fun i => v.ownBlock = some i) w1 w4 := (Chg.of_below (F := fun i => v.ownBlock = some i) hb13).trans hc4 (fun _ _ h => h)
  have hmv : Moved w1 v.ownBlock (some g') := by
    rcases hp with ⟨h1, h2⟩ | ⟨h1, h2⟩
    · exact .inl h1.symm
    · exact .inr ⟨g', rfl, by omega⟩
  have hg' : ∀ x, ad = some x → x.block ≠ g' := by
    intro x hx e
    rcases hp with ⟨h1, h2⟩ | ⟨h1, h2⟩
    · have := (hvlt g' h1).2
      have := (had x hx).1
      omega
    · have := (had x hx).2
      omega
  refine ⟨⟨?_, ?_, xs ++ [.slice ad b.length c], ?_, ?_⟩, hc, hmv⟩
  · rintro i (hi | ⟨hi, x, hx, rfl⟩)
    · exact ⟨(h.lt i hi).1, Nat.lt_of_lt_of_le (h.lt i hi).2 hc.size⟩
    · exact ⟨by omega, Nat.lt_of_lt_of_le (had x hx).2 (Nat.le_trans s3 hc4.size)⟩
  · intro g hg
    obtain rfl : g' = g := by simpa [Value.ownBlock] using hg
    rintro (hi | ⟨hi, x, hx, e⟩)
    · rcases hmv with e | ⟨g2, e, hg2⟩
      · exact h.off _ e.symm hi
      · cases e
        have := (h.lt _ hi).2
        omega
    · exact hg' x hx e
  · rw [List.length_append]
    exact o4
  · intro i b' hb'
    by_cases hi : i < L.length
    · rw [List.getElem?_append_left hi] at hb'
      obtain ⟨ad', c2, a1, a2, a3, a4, a5⟩ := hxs.2 i b' hb'
      have hxl : xs.length = L.length := by have := hxs.1.1; simpa using this
      exact ⟨ad', c2, by rw [List.getElem?_append_left (by omega)]; exact a1, hc.sl a2 (fun x hx _ e => h.off _ e (a5 x hx)), a3, a4, fun x hx => .inl (a5 x hx)⟩
    · have hi2 : i = L.length := by
        have := (List.getElem?_eq_some_iff.1 hb').1
        rw [List.length_append] at this
        simp at this
        omega
      subst hi2
      simp at hb'
      subst hb'
      have hxl : xs.length = L.length := by have := hxs.1.1; simpa using this
      refine ⟨ad, c, by rw [← hxl]; simp, ?_, hcap.1, hcap.2, fun x hx => .inr ⟨(had x hx).1, x, hx, rfl⟩⟩
      refine hc4.sl (s.later b3) (fun x hx _ e => ?_)
      have := (hvlt _ e).2
      have := (had x hx).1
      omega

set_option maxRecDepth 100000 in
set_option maxHeartbeats 4000000 in
theorem schunksP (o : ByteArray) (k : Int) (F : Nat → Prop) (S p n : Nat) (st : K.Sx) (Z : ByteArray → List En) (w : World) (h : SQ F w S p n st Z) :
    Calls Tryd.prog 14 #[.pointer (some ⟨S, 0, none⟩), .string o, .int .i64 k] w fun e w' => CksP w w.heap.size ((gO (gF (enL (Z o) k).2)).map encC) e w' := by
  have hz := h.sz
  have hen := hz.en o k
  have hfew := hz.few o k
  have hmem := enL_mem (l := Z o) (k := k)
  obtain ⟨T, sh, R, G, h1, h2, h3, h4, h5⟩ := h
  have hn1 := h2.n1
  have hrow := h1.slots o k (hz.key o)
  obtain ⟨a0, c0, hv⟩ := owns_form hrow
  have c1 : w.cell? ⟨S, 1, none⟩ = some (.map (some T)) := h1.blk.cell 1
  have l1 := h1.lookT o
  have l2 := h1.lookS o k
  rw [hv] at hrow l2
  have HBI := hidden (fun (s : Nat) (wx : World) (hb : Below w.heap.size w wx) => bytesInP S _ (s : Int) G p n st wx (h1.blk.later hb) (h2.later hb) hz.small)
  have hlt : ∀ s ∈ (enL (Z o) k).1, s < n := fun s hs => by
    have := (perm_en k (hz.key o)).mem_iff (a := s)
    exact ((hz.mem o s).1 (this.2 (List.mem_append.2 (.inl hs)))).1
  generalize enL (Z o) k = q9 at *
  obtain ⟨sl, A⟩ := q9
  simp only at *
  have HAT : Hid (∀ (i s : Nat), sl[i]? = some s → ∃ d, K.atS st n (s : Int) = some (s, o, d) ∧ ((gO (gF A)).map encC)[i]? = some (K.bts d) ∧ 0 < d.size) := hidden (fun i s hs => by
    have h9 := hen.1.1
    have hi := (List.getElem?_eq_some_iff.1 hs).1
    obtain ⟨g, hg⟩ : ∃ g, (gO (gF A))[i]? = some g := ⟨(gO (gF A))[i]'(by omega), by simp⟩
    obtain ⟨d, e1, e2⟩ := hen.1.2 i s g hs hg
    refine ⟨d, ?_, by rw [List.getElem?_map, hg, e2]; rfl, ?_⟩
    rotate_left
    · rw [← K.bts_length, e2, encC_len (gO_ne (okG hen.2.2.1) g (List.mem_of_getElem? hg)).1]
      omega
    unfold K.atS
    have := hlt s (List.mem_of_getElem? hs)
    rw [if_pos ⟨by omega, by omega⟩, Int.toNat_natCast, e1]
    rfl)
  have hLl : ((gO (gF A)).map encC).length = sl.length := by rw [List.length_map]; exact hen.1.1.symm
  obtain ⟨L, hL⟩ : ∃ L, (gO (gF A)).map encC = L := ⟨_, rfl⟩
  rw [hL] at HAT hLl ⊢
  obtain ⟨M, hM⟩ : ∃ M, sl.length = M := ⟨_, rfl⟩
  rw [hM] at l2 hrow hfew hLl
  have HLl := hidden (And.intro hLl hM)
  have HR := hidden (sli_owns hrow)
  have hM9 : M ≤ 65536 := by omega
  obtain ⟨i7, hi7, hz7, hs7, hb7⟩ := info70p
  clear h1 h2 h3 h4 h5 hz hen hfew hmem hn1 hrow hv hlt hL hLl hM
  generalize sh o = sho at *
  go_enter Tryd.func14, Tryd.ntmps14
  go_wp2_with fail
  go_loopw [7, 19] (fun v7 v19 wx => ∃ i : Nat, v19 = .int .i64 (i : Int) ∧ i ≤ M ∧ Hid (∃ D, Ck wx w.heap.size v7 (L.take i) D ∧ Below w.heap.size w wx)) (fun _ v19 _ => M - (intOf v19).toNat)
  case atStart => exact ⟨0, rfl, by omega, hidden ⟨_, by rw [List.take_zero]; exact Ck.nil w _, Below.refl _ _⟩⟩
  case round =>
    obtain ⟨i, rfl, hi, hI⟩ := hrel
    clear c1 l1 l2
    obtain ⟨D, ck, bw⟩ := hI.out
    obtain ⟨ad7, c7, hv7⟩ := ck.form
    subst hv7
    have hli : (L.take i).length = i := by rw [List.length_take]; have := HLl.out.1; omega
    rw [hli] at ck ⊢
    have CK := hidden ck
    have BW := hidden bw
    by_cases hin : i < M
    · obtain ⟨s, hs⟩ : ∃ s, sl[i]? = some s := ⟨sl[i]'(by have := HLl.out.2; omega), by simp⟩
      obtain ⟨g, off, rfl, hlt, hcell⟩ := (HR.out.later bw).at' (by rintro rfl; simp at hs)
      have hcs := hcell i s hs
      obtain ⟨d, hat, hLi, hd0⟩ := HAT.out i s hs
      have HA := hidden (And.intro hat (And.intro hLi hd0))
      obtain ⟨xs, hxs⟩ := ck.row
      have OX2 := hidden hxs
      clear hI ck bw hcell hlt hs hat hLi hxs hd0
      go_wp2_with fail
      refine (HBI.out s wr BW.out).mono ?_
      rintro e w1 ⟨b1, hh⟩
      rcases hh with ⟨hno, _⟩ | ⟨i2, o2, d2, ga, cg, hat2, rfl, hga, hsl, hcg, hcg2⟩
      · rw [HA.out.1] at hno; cases hno
      · have hd2 : d = d2 := by rw [HA.out.1] at hat2; simp only [Option.some.injEq, Prod.mk.injEq] at hat2; exact hat2.2.2
        subst hd2
        obtain ⟨m, hm⟩ : ∃ m, d.size = m := ⟨_, rfl⟩
        have HM := hidden hm
        rw [hm] at hsl hcg ⊢
        have H1 := hidden (And.intro b1 (And.intro hga (And.intro hsl (And.intro hcg hcg2))))
        have hgt : ga < w1.heap.size := hsl.lt _ rfl (by rw [← hm]; exact HA.out.2.2)
        have HGT := hidden hgt
        have B1 : Hid (Below w.heap.size w w1) := hidden (BW.out.trans (b1.mono BW.out.size))
        have OX : Hid (∀ wx, Below wr.heap.size wr wx → wx.ownsRow w.heap.size 70 1 (.slice ad7 i c7) i xs) := hidden (fun wx hb => by have q := owl OX2.out.1 hb; rw [hli] at q; exact q)
        have HLI := hidden hli
        clear b1 hga hsl hcg hcg2 hat2 hm hgt hli
        go_wp2_with (refine wpList_push _ rfl (.tmp 23) (.tmp 27) 42 rfl 70 i7 (.slice none 0 0) 24 Tryd.underlying42 hi7 hz7 hs7 hb7 rfl w.heap.size (.slice ad7 i c7) i xs rfl (OX.out _ (H1.out.1.trans (((Below.refl _ _).alloc (Nat.le_refl _) _).mono H1.out.1.size))) ⟨w1.heap.size, 0, none⟩ (.slice (some ⟨ga, 0, none⟩) m cg) rfl ((Blk.new w1 70 [.slice (some ⟨ga, 0, none⟩) m cg]).cell 0) rfl (by unfold maxLen; omega) (by omega) (by have := B1.out.size; simp; omega) ?_; intro g5 c5 w5 o5 p5; have O5 := hidden (And.intro o5 p5); clear o5 p5)
        have HC := hidden (Ck.pushS CK.out BW.out.size (by rw [K.bts_length]; exact HM.out) H1.out.2.2.1 ⟨H1.out.2.2.2.1, by have := H1.out.2.2.2.2; unfold maxLen; omega⟩ (fun x hx => by cases hx; exact ⟨H1.out.2.1, HGT.out⟩) H1.out.1 ((Below.refl _ _).alloc (Nat.le_refl _) (.cells #[.slice (some ⟨ga, 0, none⟩) m cg] 70)) OX2.out (by rw [HLI.out]; exact O5.out.1) O5.out.2)
        have htk : L.take (i + 1) = L.take i ++ [K.bts d] := by rw [List.take_add_one, HA.out.2.1]; rfl
        refine ⟨⟨i + 1, by first | rfl | simp, by omega, hidden ⟨_, by rw [htk]; rw [HLI.out] at HC; exact HC.out.1, BW.out.trans (HC.out.2.1.below BW.out.size (fun j hj => (CK.out.vlt j hj).1))⟩⟩, ?_⟩
        show M - ((i : Int) + 1).toNat < M - (i : Int).toNat
        omega
    · have e9 : L.take i = L := List.take_of_length_le (by have := HLl.out.1; omega)
      rw [e9] at CK
      have hiM : i = M := by omega
      have HI := hidden hiM
      clear hI ck bw hiM e9
      go_wp2_with fail
      go_ret
      refine ⟨ad7, c7, D, ?_, ?_, BW.out⟩
      · rw [HLl.out.1, ← HI.out]; rfl
      · rw [HLl.out.1, ← HI.out]; exact CK.out

theorem sum_rows (Zo : List En) : (Zo.flatMap slF).length = (Zo.map fun e => e.2.1.length).sum := by
  induction Zo with
  | nil => rfl
  | cons e Zo ih => rw [List.flatMap_cons, List.length_append, ih, List.map_cons, List.sum_cons]; rfl
/-- What was counted: the keys that were seen. -/
def cntK (Zo : List En) (dn : List Int) : Nat := ((Zo.filter fun e => decide (e.1 ∈ dn)).map fun e => e.2.1.length).sum
theorem cntK_cons : ∀ {Zo : List En} {dn : List Int} {e : En}, Zo.Pairwise (fun p q => ¬ p.1 = q.1) → e ∈ Zo → ¬ e.1 ∈ dn → cntK Zo (e.1 :: dn) = cntK Zo dn + e.2.1.length
  | [], dn, e, _, he, _ => by simp at he
  | x :: Zo, dn, e, h, he, hn => by
    have h2 := List.pairwise_cons.1 h
    unfold cntK
    rcases List.mem_cons.1 he with rfl | he
    · have e1 : (Zo.filter fun y => decide (y.1 ∈ e.1 :: dn)) = Zo.filter fun y => decide (y.1 ∈ dn) := by
        refine List.filter_congr (fun y hy => ?_)
        have := h2.1 y hy
        refine decide_eq_decide.2 ⟨fun hm => ?_, fun hm => List.mem_cons.2 (.inr hm)⟩
        rcases List.mem_cons.1 hm with e9 | hm
        · exact absurd e9.symm this
        · exact hm
      rw [List.filter_cons_of_pos (by simp), List.filter_cons_of_neg (by simpa using hn), e1]
      simp only [List.map_cons, List.sum_cons]
      omega
    · have ih := cntK_cons h2.2 he hn
      unfold cntK at ih
      have hxe : ¬ x.1 = e.1 := h2.1 e he
      by_cases hx : x.1 ∈ dn
      · rw [List.filter_cons_of_pos (by simp [hx]), List.filter_cons_of_pos (by simp [hx])]
        simp only [List.map_cons, List.sum_cons]
        omega
      · rw [List.filter_cons_of_neg (by simp [hx, hxe]), List.filter_cons_of_neg (by simp [hx])]
        exact ih
theorem cntK_all {Zo : List En} {dn : List Int} (h : ∀ e ∈ Zo, e.1 ∈ dn) : cntK Zo dn = (Zo.flatMap slF).length := by
  unfold cntK
  rw [List.filter_eq_self.2 (fun e he => by simpa using h e he), sum_rows]
theorem cntK_le (Zo : List En) (dn : List Int) : cntK Zo dn ≤ (Zo.flatMap slF).length := by
  unfold cntK
  rw [sum_rows]
  induction Zo with
  | nil => simp
  | cons e Zo ih =>
    by_cases h : e.1 ∈ dn
    · rw [List.filter_cons_of_pos (by simpa using h)]
      simp only [List.map_cons, List.sum_cons]
      omega
    · rw [List.filter_cons_of_neg (by simpa using h)]
      simp only [List.map_cons, List.sum_cons]
      omega
set_option maxRecDepth 100000 in
set_option maxHeartbeats 4000000 in
theorem sslotsP (o : ByteArray) (F : Nat → Prop) (S p n : Nat) (st : K.Sx) (Z : ByteArray → List En) (w : World) (h : SQ F w S p n st Z) :
    Calls Tryd.prog 16 #[.pointer (some ⟨S, 0, none⟩), .string o] w fun e w' => e = .returned (.int .i64 (((Z o).flatMap slF).length : Int)) ∧ Below w.heap.size w w' := by
  have hz := h.sz
  have hused := hz.used o
  obtain ⟨T, sh, R, G, h1, h2, h3, h4, h5⟩ := h
  have hn1 := h2.n1
  have hle : ((Z o).flatMap slF).length ≤ 65536 := by
    have h3 : (K.setL st n o).length ≤ n := by
      unfold K.setL
      have := List.length_filterMap_le (fun i => match st i with | some x => if x.1 = o then some ((i : Int), K.uV) else none | none => none) (List.range n)
      rw [List.length_range] at this
      exact this
    omega
  have c1 : w.cell? ⟨S, 1, none⟩ = some (.map (some T)) := h1.blk.cell 1
  have l1 := h1.lookT o
  cases hsh : sh o with
  | none =>
    rw [hsh] at l1
    have hz0 := h1.non o hsh
    rw [hz0]
    have r1 := run_range_nilMap (P := Tryd.prog) w 68 3 23 Tryd.underlying68
    have r2 := run_next_nilMap (P := Tryd.prog) w 0 0 0 #[]
    obtain ⟨w1, hw1⟩ : ∃ w1, w.alloc (.mapIter none 0 #[] 0) = w1 := ⟨_, rfl⟩
    rw [hw1] at r1 r2
    have b1 : Below w.heap.size w w1 := by rw [← hw1]; exact (Below.refl _ _).alloc (Nat.le_refl _) _
    have B1 := hidden b1
    clear hw1 h1 h2 h3 h4 h5 hz hused hn1 hle hz0 b1 hsh
    go_enter Tryd.func16, Tryd.ntmps16
    go_wp2_with fail
    go_loopw [5] (fun v5 wx => v5 = .int .i64 0 ∧ wx = w1) (fun _ _ => 0)
    case atStart => exact ⟨rfl, rfl⟩
    case round =>
      obtain ⟨rfl, rfl⟩ := hrel
      go_wp2_with fail
      go_ret
      exact ⟨rfl, B1.out⟩
  | some sb =>
    rw [hsh] at l1
    obtain ⟨s1, s2⟩ := h1.set o sb hsh
    obtain ⟨w1, r1, m1, b1⟩ := s1.range (P := Tryd.prog) Tryd.underlying68
    have HM1 := hidden m1
    have HB1 := hidden b1
    have HROW := hidden (fun e (he : e ∈ Z o) => h1.row o e he)
    have HKEY := hidden (hz.key o)
    have hsl := s1.lt
    clear m1 b1 h1 h2 h3 h4 h5 hz hused hn1 s1 hsh
    go_enter Tryd.func16, Tryd.ntmps16
    go_wp2_with fail
    go_loopw [5] (fun v5 wx => ∃ c : Nat, v5 = .int .i64 (c : Int) ∧ Hid (∃ dn cnt, c = cntK (Z o) dn ∧ Mr K.K3 wx sb w.heap.size ((Z o).map fun e => (e.1, R o e.1)) dn cnt ∧ Below w.heap.size w wx)) (fun _ wx => wx.rangeLeft sb w.heap.size)
    case atStart => exact ⟨0, rfl, hidden ⟨[], _, by unfold cntK; rw [List.filter_eq_nil_iff.2 (by simp)]; rfl, HM1.out, HB1.out⟩⟩
    case round =>
      obtain ⟨c, rfl, hI⟩ := hrel
      obtain ⟨dn, cnt, hc, hM, hB⟩ := hI.out
      rcases hM.next (P := Tryd.prog) K.kyI 0 with ⟨hall, hr⟩ | ⟨a, v, w2, cnt', hav, hnd, hcnt, hr, hM2, hc2, hent⟩
      · have HC : Hid (c = ((Z o).flatMap slF).length) := hidden (by rw [hc]; exact cntK_all (fun e he => hall (e.1, R o e.1) (List.mem_map.2 ⟨e, he, rfl⟩)))
        have HB := hidden hB
        clear hI hc hM hB hall
        go_wp2_with fail
        go_ret
        exact ⟨by rw [← HC.out]; rfl, HB.out⟩
      · obtain ⟨e, he, hev⟩ := List.mem_map.1 hav
        simp only [Prod.mk.injEq] at hev
        obtain ⟨rfl, rfl⟩ := hev
        obtain ⟨ade, ce, hve⟩ := owns_form (HROW.out e he)
        rw [hve] at hr hent
        have hck := cntK_cons (dn := dn) HKEY.out he hnd
        have hle2 := cntK_le (Z o) (e.1 :: dn)
        rw [hck, ← hc] at hle2
        have HE : Hid (∃ dn cnt, c + e.2.1.length = cntK (Z o) dn ∧ Mr K.K3 w2 sb w.heap.size ((Z o).map fun e => (e.1, R o e.1)) dn cnt ∧ Below w.heap.size w w2) := hidden ⟨e.1 :: dn, cnt', by rw [hck, hc], hM2, hB.trans (hc2.below hB.size (fun i hi => by rw [hi]; exact Nat.le_refl _))⟩
        have HL : Hid (w2.rangeLeft sb w.heap.size < wr.rangeLeft sb w.heap.size) := hidden (by rw [hM2.left, hM.left]; exact hcnt)
        obtain ⟨q, hq⟩ : ∃ q, e.2.1.length = q := ⟨_, rfl⟩
        rw [hq] at hr hent HE hle2
        unfold K.K3 at hr hent
        clear hI hc hM hB hav hnd hcnt hM2 hc2 hck hve hq
        go_wp2_with fail
        refine ⟨⟨c + q, by first | rfl | simp, hidden HE.out⟩, HL.out⟩

/-- The last sample. -/
def lastV (l : List Sm) : List Value := [.int .i64 (l.getLast?.getD z0).t, .int .u64 ((l.getLast?.getD z0).v : Int)]
end Go.Proofs.YtlppibigceeimaaDoor
