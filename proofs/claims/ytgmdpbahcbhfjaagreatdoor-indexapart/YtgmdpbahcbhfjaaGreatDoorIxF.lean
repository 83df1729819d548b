import Derived.Test.YtgmdpbahcbhfjaaGreatDoorIxD
import Derived.Test.YtgmdpbahcbhfjaaGreatDoorJPoB
import Derived.Deep.RegionLaw
import Derived.Deep.QuietTactic
set_option linter.unusedSimpArgs false
set_option linter.unusedVariables false
set_option maxHeartbeats 40000000
set_option maxRecDepth 100000
/-
  Package index: who owns which block; the numbers under a key; enter.
-/
namespace Go.Proofs.YtgmdpbahcbhfjaaGreatDoor.X
open Go.RowKit

/-- What a block of an index is. -/
inductive Own where
  | box | ents | rolls
  | ids (k : Kx)
  | ser (t : ByteArray) | labs (t : ByteArray) | nums (t : ByteArray) | vals (t : ByteArray)
  | row (t n : ByteArray)
/-- Which index a block belongs to, and what it is there. -/
abbrev Col := Nat → Option (Nat × Own)
/-- The numbers that lie under a key. -/
def Rw (w : World) (c : Col) (j : Nat) (k : Kx) (o : Option Value) (ids : List Nat) : Prop :=
  (o = none ∧ ids = []) ∨ ∃ v, o = some v ∧ ids ≠ [] ∧ J.Wrd ids ∧ w.ownsRow 0 114 1 v ids.length (J.cells32 ids) ∧ ∀ g, v.ownBlock = some g → c g = some (j, .ids k)
/-- All of them. -/
def Ents (w : World) (c : Col) (j eb : Nat) (E : Kx → List Nat) : Prop :=
  c eb = some (j, .ents) ∧ ∃ l, Ml Kx.val w eb l ∧ ∀ k, Rw w c j k (al l k) (E k)
theorem Rw.chg {F : Nat → Prop} {w w' : World} {c c' : Col} {j : Nat} {k : Kx} {o : Option Value} {ids : List Nat} (h : Rw w c j k o ids) (hc : Chg F w w') (hF : ∀ i, i < w.heap.size → F i → ¬ c i = some (j, .ids k)) (hcc : ∀ i, i < w.heap.size → c i = some (j, .ids k) → c' i = c i) : Rw w' c' j k o ids := by
  rcases h with h | ⟨v, h1, h2, h3, h4, h5⟩
  · exact .inl h
  · refine .inr ⟨v, h1, h2, h3, hc.owns h4 (fun g hg hf => hF g (owns_lt h4 g hg) hf (h5 g hg)), fun g hg => ?_⟩
    rw [hcc g (owns_lt h4 g hg) (h5 g hg)]
    exact h5 g hg
theorem Ents.chg {F : Nat → Prop} {w w' : World} {c c' : Col} {j eb : Nat} {E : Kx → List Nat} (h : Ents w c j eb E) (hc : Chg F w w') (he : ¬ F eb) (hF : ∀ k i, i < w.heap.size → F i → ¬ c i = some (j, .ids k)) (hcc : ∀ i, i < w.heap.size → c' i = c i) : Ents w' c' j eb E := by
  obtain ⟨h1, l, h2, h3⟩ := h
  exact ⟨by rw [hcc eb h2.lt]; exact h1, l, h2.chg hc he, fun k => (h3 k).chg hc (hF k) (fun i hi _ => hcc i hi)⟩
theorem Ents.later {w w' : World} {c : Col} {j eb : Nat} {E : Kx → List Nat} (h : Ents w c j eb E) (hb : Below w.heap.size w w') : Ents w' c j eb E :=
  h.chg (Chg.of_below (F := fun _ => False) hb) (fun e => e) (fun _ _ _ e => e.elim) (fun _ _ => rfl)
/-- What a look gives. -/
def rwV (o : Option Value) : Value := o.getD (.slice none 0 0)
theorem Rw.owns {w : World} {c : Col} {j : Nat} {k : Kx} {o : Option Value} {ids : List Nat} (h : Rw w c j k o ids) : w.ownsRow 0 114 1 (rwV o) ids.length (J.cells32 ids) ∧ J.Wrd ids ∧ ∀ g, (rwV o).ownBlock = some g → c g = some (j, .ids k) := by
  rcases h with ⟨rfl, rfl⟩ | ⟨v, rfl, _, h3, h4, h5⟩
  · exact ⟨World.ownsRow_nil w 0 114 1, fun n hn => absurd hn (by simp), fun g hg => by cases hg⟩
  · exact ⟨h4, h3, h5⟩
theorem zero107 (w : World) : (zeroValue 107).run Tryz.prog w = .ok (.slice none 0 0) w := by kernel_rfl
theorem al_rm {l : List (Kx × Value)} {k k' : Kx} (h : ¬ k' = k) : al (rm l k) k' = al l k' := by
  unfold al rm
  congr 1
  rw [List.find?_filter]
  congr 1
  funext p
  by_cases e : p.1 = k'
  · subst e; simp [h]
  · simp [e]
theorem al_put {l : List (Kx × Value)} {k k' : Kx} {v : Value} : al ((k, v) :: rm l k) k' = if k' = k then some v else al l k' := by
  by_cases h : k' = k
  · subst h; simp [al]
  · rw [if_neg h, ← al_rm (l := l) h]
    have : ¬ k = k' := fun e => h e.symm
    simp [al, this]
def eput (E : Kx → List Nat) (k : Kx) (l : List Nat) : Kx → List Nat := fun k' => if k' = k then l else E k'
/-- A number behind the others. -/
theorem Ents.put {w w6 w7 : World} {c : Col} {j eb g : Nat} {cap id : Nat} {E : Kx → List Nat} {k : Kx} {l : List (Kx × Value)} (hc : c eb = some (j, .ents)) (hl : Ml Kx.val w eb l) (hR : ∀ k, Rw w c j k (al l k) (E k)) (hid : id ≤ 4294967295)
    (o6 : w6.ownsRow 0 114 1 (.slice (some ⟨g, 0, none⟩) ((E k).length + 1) cap) ((E k).length + 1) (J.cells32 (E k ++ [id]))) (c6 : Chg (fun i => (rwV (al l k)).ownBlock = some i) w w6) (mv : Moved w (rwV (al l k)).ownBlock (some g))
    (m7 : Ml Kx.val w7 eb ((k, .slice (some ⟨g, 0, none⟩) ((E k).length + 1) cap) :: rm l k)) (c7 : Chg (fun i => i = eb) w6 w7) :
    ∃ c', (∀ i, i < w.heap.size → c' i = c i) ∧ Ents w7 c' j eb (eput E k (E k ++ [id])) ∧ Chg (fun i => i = eb ∨ c i = some (j, .ids k)) w w7 := by
  have hown := (hR k).owns
  have hgc : g < w.heap.size → c g = some (j, .ids k) := by
    intro hg
    rcases mv with e | ⟨g', e, hg'⟩
    · exact hown.2.2 g e.symm
    · obtain rfl := Option.some.inj e
      omega
  have hge : ¬ g = eb := by
    intro e
    subst e
    have := hgc hl.lt
    rw [hc] at this
    cases this
  have hch : Chg (fun i => i = eb ∨ c i = some (j, .ids k)) w w7 := (c6.mono (fun i _ hi => .inr (hown.2.2 i hi))).trans c7 (fun i _ hi => .inl hi)
  have hcc : ∀ i, i < w.heap.size → (fun i => if i = g then some (j, Own.ids k) else c i) i = c i := by
    intro i hi
    by_cases e : i = g
    · subst e
      simp only [if_true]
      exact (hgc hi).symm
    · simp only [if_neg e]
  refine ⟨fun i => if i = g then some (j, .ids k) else c i, hcc, ⟨by rw [hcc eb hl.lt]; exact hc, _, m7, fun k' => ?_⟩, hch⟩
  rw [al_put]
  unfold eput
  by_cases hk : k' = k
  · subst hk
    rw [if_pos rfl, if_pos rfl]
    refine .inr ⟨_, rfl, by simp, J.Wrd.append hown.2.1 (J.Wrd.one hid), ?_, fun g' hg' => ?_⟩
    · rw [List.length_append, List.length_singleton]
      exact c7.owns o6 (fun g' hg' e => by cases hg'; exact hge e)
    · cases hg'
      simp
  · rw [if_neg hk, if_neg hk]
    refine (hR k').chg hch (fun i _ hi hq => ?_) (fun i hi _ => hcc i hi)
    rcases hi with e | e
    · rw [e, hc] at hq
      cases hq
    · rw [e] at hq
      simp only [Option.some.injEq, Prod.mk.injEq, true_and, Own.ids.injEq] at hq
      exact hk hq.symm
end Go.Proofs.YtgmdpbahcbhfjaaGreatDoor.X
/-
  Package index: enter.
-/
namespace Go.Proofs.YtgmdpbahcbhfjaaGreatDoor.X
open Go.RowKit

set_option maxRecDepth 100000 in
set_option maxHeartbeats 4000000 in
theorem enterP (x eb rb : Nat) (c : Col) (j id : Nat) (E : Kx → List Nat) (k : Kx) (w : World) (hB : Blk w x 84 [.map (some eb), .map (some rb)]) (hE : Ents w c j eb E) (hx : ∀ i, i = eb ∨ c i = some (j, .ids k) → ¬ i = x) (hid : id ≤ 4294967295) (hn : (E k).length ≤ 1000000000) :
    Calls Tryz.prog 69 #[.pointer (some ⟨x, 0, none⟩), k.val, .int .i64 (id : Int)] w fun e w' => e = .returned (.bool (decide ((E k).length = 0))) ∧ ∃ c', (∀ i, i < w.heap.size → c' i = c i) ∧ Ents w' c' j eb (eput E k (E k ++ [id])) ∧ Chg (fun i => i = eb ∨ c i = some (j, .ids k)) w w' := by
  obtain ⟨hc, l, hl, hR⟩ := hE
  have hown := (hR k).owns
  have HFI : Hid (∀ (w1 w6 w7 : World) g cap, Below w.heap.size w w1 → w6.ownsRow 0 114 1 (.slice (some ⟨g, 0, none⟩) ((E k).length + 1) cap) ((E k).length + 1) (J.cells32 (E k ++ [id])) → Chg (fun i => (rwV (al l k)).ownBlock = some i) w1 w6 → Moved w1 (rwV (al l k)).ownBlock (some g) → Ml Kx.val w7 eb ((k, .slice (some ⟨g, 0, none⟩) ((E k).length + 1) cap) :: rm l k) → Chg (fun i => i = eb) w6 w7 →
      ∃ c', (∀ i, i < w.heap.size → c' i = c i) ∧ Ents w7 c' j eb (eput E k (E k ++ [id])) ∧ Chg (fun i => i = eb ∨ c i = some (j, .ids k)) w w7) := hidden (fun w1 w6 w7 g cap hb o6 c6 mv m7 c7 => by
    refine Ents.put hc hl hR hid o6 ((Chg.of_below hb).trans c6 (fun _ _ h => h)) ?_ m7 c7
    rcases mv with e | ⟨g', e, hg'⟩
    · exact .inl e
    · exact .inr ⟨g', e, Nat.le_trans hb.size hg'⟩)
  have hlk : Hid (∀ w1, Below w.heap.size w w1 → (Instr.lookup 81 (.map (some eb)) (.agg #[.string k.t, .string k.n, .string k.v]) false).run Tryz.prog w1 = .ok (rwV (al l k)) w1) := hidden (fun w1 hb => by
    have := (hl.later hb).look ky105 Tryz.underlying81 (zero107 w1) k false
    exact this)
  have HOW : Hid (∀ w1, Below w.heap.size w w1 → w1.ownsRow 0 114 1 (rwV (al l k)) (E k).length (J.cells32 (E k))) := hidden (fun w1 hb => (Chg.of_below (F := fun _ => False) hb).owns hown.1 (fun _ _ e => e))
  have HXN : Hid (¬ eb = x ∧ ∀ g, (rwV (al l k)).ownBlock = some g → ¬ g = x ∧ g < w.heap.size) := hidden ⟨hx eb (.inl rfl), fun g hg => ⟨hx g (.inr (hown.2.2 g hg)), owns_lt hown.1 g hg⟩⟩
  have HEN : Hid (∀ g, (rwV (al l k)).ownBlock = some g → ¬ g = eb) := hidden (fun g hg e => by
    have := hown.2.2 g hg
    rw [e, hc] at this
    cases this)
  have HL := hidden hl
  have HB := hidden hB
  obtain ⟨ad0, c0, hv0⟩ := J.owns_form hown.1
  have hu : Kx.val k = .agg #[.string k.t, .string k.n, .string k.v] := rfl
  rw [hu]
  rw [hv0] at HFI hlk HOW HXN HEN
  obtain ⟨n, hnn⟩ : ∃ n, (E k).length = n := ⟨_, rfl⟩
  rw [hnn] at HFI hlk HOW HXN HEN hn ⊢
  clear hB hl hR hown hc hx hv0
  obtain ⟨i0, hi, hz, hsize, hby⟩ := ix_info_parts J.info23
  go_enter Tryz.func69, Tryz.ntmps69
  go_wp2_with (first
    | (refine wpList_box_blk rfl 105 (.tmp 1) rfl [.string k.t, .string k.n, .string k.v] rfl ?_; intro w1 B1 bl1 hz1))
  have hxl := HB.out.lt
  have hel := HL.out.lt
  have p0 := (HB.out.later bl1).cell 0
  have d0 := B1.cell 0
  have d1 := B1.cell 1
  have d2 := B1.cell 2
  simp only [List.getElem?_cons_zero, List.getElem?_cons_succ] at p0 d0 d1 d2
  have lk := hlk.out (w1.drew) (bl1.drew)
  have HB1 := hidden B1
  have BL1 := hidden bl1
  clear B1 bl1
  go_region
  all_goals
    go_wp2_with fail
    clear lk
    have hwr : IntKind.u32.wrap (id : Int) = (id : Int) := by simp [IntKind.wrap, IntKind.signed, IntKind.bits]; omega
    have hbd : Below w.heap.size w w1.drew.drew := BL1.out.drew.drew
    have q0 := ((HB.out.later hbd).later ((Below.refl _ _).alloc (Nat.le_refl _) (.cells #[.int .u32 (id : Int)] 114))).cell 0
    have HB3 : Hid (Blk (w1.drew.drew.alloc (.cells #[.int .u32 (id : Int)] 114)) w.heap.size 105 [.string k.t, .string k.n, .string k.v]) := hidden (Blk.later (w := w1.drew.drew) HB1.out ((Below.refl _ _).alloc (Nat.le_refl _) _))
    have f0 := HB3.out.cell 0
    have f1 := HB3.out.cell 1
    have f2 := HB3.out.cell 2
    simp only [List.getElem?_cons_zero, List.getElem?_cons_succ] at q0 f0 f1 f2
    have HBD := hidden hbd
    have HCL : Hid ((w1.drew.drew.alloc (.cells #[.int .u32 (id : Int)] 114)).cell? ⟨w.heap.size + 1, 0, none⟩ = some (.int .u32 (id : Int))) := hidden (by
      have := (Blk.new w1.drew.drew 114 [.int .u32 (id : Int)]).cell 0
      rw [← hz1]
      exact this)
    clear hbd
    go_region_law (first
      | (refine step_push (w1.drew.drew.alloc (.cells #[.int .u32 (id : Int)] 114)) (by rfl) (.tmp 19) (.tmp 22) 107 (by rfl) 114 i0 (.int .u32 0) 4 Tryz.underlying107 hi hz hsize hby (by rfl) 0 (.slice ad0 n c0) n (J.cells32 (E k)) (by rfl) ((HOW.out _ HBD.out).alloc _) ⟨w.heap.size + 1, 0, none⟩ (.int .u32 (id : Int)) (by rfl) HCL.out (by rfl) (by unfold maxLen; omega) (by omega) (Nat.zero_le _) ?_
         intro g6 c6 w6 o6 hp6
         obtain ⟨k6, mv6⟩ := hp6.chg
         obtain ⟨w7, r7, m7, k7, z7⟩ := ((HL.out.later HBD.out).chg k6 (fun e => HEN.out eb e rfl)).store (P := Tryz.prog) ky105 Tryz.underlying81 k (.slice (some ⟨g6, 0, none⟩) (n + 1) c6)
         have s0 := (k6.blk (HB.out.later HBD.out) (fun e => (HXN.out.2 x e).1 rfl)).cell 0
         have B6 := k6.blk (show Blk w1.drew.drew w.heap.size 105 [.string k.t, .string k.n, .string k.v] from HB1.out) (fun e => Nat.lt_irrefl _ (HXN.out.2 _ e).2)
         have t0 := B6.cell 0
         have t1 := B6.cell 1
         have t2 := B6.cell 2
         simp only [List.getElem?_cons_zero, List.getElem?_cons_succ] at s0 t0 t1 t2
         have HF := hidden (HFI.out w1.drew.drew w6 w7 g6 c6 HBD.out (by rw [J.cells32_append]; exact o6) k6 mv6 m7 k7)
         unfold Kx.val at r7
         clear o6 hp6 k6 mv6 m7 k7 z7 B6))
    all_goals
      go_wp2_with fail
      go_ret
      refine ⟨?_, HF.out⟩
      show Ending.returned (.bool ((n : Int) == 0)) = Ending.returned (.bool (decide (n = 0)))
      congr 2
      by_cases h : n = 0 <;> simp [h]
end Go.Proofs.YtgmdpbahcbhfjaaGreatDoor.X
