import Derived.Test.YtgmdpbahcbhfjaaGreatDoorAny
import Derived.Maps.OwnSet
import Derived.DeepKeys4
set_option linter.unusedSectionVars false
set_option linter.unusedSimpArgs false
set_option linter.unusedVariables false
set_option maxHeartbeats 40000000
set_option maxRecDepth 100000
/-
  Maps as lists of keys and values, in any order. Nothing of the program.
-/
namespace Go.Proofs.YtgmdpbahcbhfjaaGreatDoor
open Go.RowKit Go.MapKept
open Go.ChangeMaps (setBlock heap_setBlock_same heap_setBlock_other)

section
variable {α : Type} [DecidableEq α]

/-- How keys are written. -/
structure Ky (P : Program) (kt : TypeId) (e : α → Value) : Prop where
  inj : ∀ {a b}, e a = e b → a = b
  check : ∀ (w : World) (em : Bool) (a : α), (Instr.checkKey em 10000 kt (e a)).run P w = .ok () w
  find : ∀ (w : World) (a : α) (es : List MapEntry), (∀ x ∈ es, ∃ b, x.key = e b) → ((Instr.findKey kt (e a) es).run P w = .ok none w ∧ ∀ x ∈ es, x.key ≠ e a) ∨ ∃ j x, (Instr.findKey kt (e a) es).run P w = .ok (some (j, x.val)) w ∧ es[j]? = some x ∧ x.key = e a
  stays : ∀ (w : World) (a : α), (Instr.keyThatStays (e a) (e a)).run P w = .ok (e a) w
/-- What lies at a key. -/
def al (l : List (α × Value)) (k : α) : Option Value := (l.find? (fun p => decide (p.1 = k))).map (·.2)
/-- All but one key. -/
def rm (l : List (α × Value)) (k : α) : List (α × Value) := l.filter (fun p => decide (¬ p.1 = k))
/-- Block b is a map that holds just these, in some order. -/
def Ml (e : α → Value) (w : World) (b : Nat) (l : List (α × Value)) : Prop :=
  ∃ es clock, w.heap[b]? = some (.map es clock) ∧ Stamped es clock ∧ (es.toList.map fun x => (x.key, x.val)).Perm (l.map fun p => (e p.1, p.2))

theorem al_none {l : List (α × Value)} {k : α} (h : ∀ p ∈ l, ¬ p.1 = k) : al l k = none := by
  unfold al
  rw [List.find?_eq_none.2 (fun p hp => by simpa using h p hp)]
  rfl
theorem al_mem {l : List (α × Value)} {k : α} {v : Value} (h : al l k = some v) : (k, v) ∈ l := by
  unfold al at h
  cases e : l.find? (fun p => decide (p.1 = k)) with
  | none => rw [e] at h; cases h
  | some p =>
    rw [e] at h
    simp only [Option.map_some, Option.some.injEq] at h
    have h1 := List.find?_some e
    have h2 := List.mem_of_find?_eq_some e
    simp only [decide_eq_true_eq] at h1
    rw [← h1, ← h]
    exact h2
theorem al_of_mem {l : List (α × Value)} (hn : l.Pairwise (fun p q => ¬ p.1 = q.1)) {k : α} {v : Value} (h : (k, v) ∈ l) : al l k = some v := by
  cases e : al l k with
  | none =>
    unfold al at e
    rw [Option.map_eq_none_iff, List.find?_eq_none] at e
    exact absurd (by simp : decide ((k, v).1 = k) = true) (e _ h)
  | some u =>
    have h2 := al_mem e
    have key : ∀ (l : List (α × Value)), l.Pairwise (fun p q => ¬ p.1 = q.1) → (k, v) ∈ l → (k, u) ∈ l → u = v := by
      intro l
      induction l with
      | nil => intro _ h; simp at h
      | cons x r ih =>
        intro hp h1 h2
        rw [List.pairwise_cons] at hp
        rcases List.mem_cons.1 h1 with e1 | h1
        · rcases List.mem_cons.1 h2 with e2 | h2
          · rw [← e1] at e2
            exact (Prod.mk.inj e2).2
          · exact absurd (by rw [← e1]) (hp.1 _ h2)
        · rcases List.mem_cons.1 h2 with e2 | h2
          · exact absurd (by rw [← e2]) (hp.1 _ h1)
          · exact ih hp.2 h1 h2
    rw [key l hn h h2]

variable {P : Program} {w : World} {b : Nat} {e : α → Value} {l : List (α × Value)} {t kt et : TypeId}

theorem Ml.lt (h : Ml e w b l) : b < w.heap.size := by
  obtain ⟨es, clock, hb, _⟩ := h
  exact (Array.getElem?_eq_some_iff.1 hb).1
theorem Ml.of_block {w' : World} (h : Ml e w b l) (k : w'.heap[b]? = w.heap[b]?) : Ml e w' b l := by
  obtain ⟨es, clock, hb, r⟩ := h
  exact ⟨es, clock, k.trans hb, r⟩
theorem Ml.chg {F : Nat → Prop} {w' : World} (h : Ml e w b l) (hc : Chg F w w') (hF : ¬ F b) : Ml e w' b l := h.of_block (hc.block b h.lt hF)
theorem Ml.later {w' : World} (h : Ml e w b l) (hc : Below w.heap.size w w') : Ml e w' b l := h.of_block (hc.block b h.lt)
theorem Ml.made (e : α → Value) (w : World) : Ml e (w.alloc (.map #[] 0)) w.heap.size [] := ⟨#[], 0, (MapKept.heap_alloc w _).1, stamped_empty 0, by simp⟩
theorem Ml.tg (h : Ml e w b l) (t : TypeId) : ¬ Tg w b t := by
  obtain ⟨es, clock, hb, r⟩ := h
  rintro ⟨cs, fr, k⟩
  rw [hb] at k
  cases k
theorem Ml.nodup (h : Ml e w b l) : l.Pairwise (fun p q => ¬ p.1 = q.1) := by
  obtain ⟨es, clock, hb, hs, hm⟩ := h
  have h1 : (es.toList.map fun x => (x.key, x.val)).Pairwise (fun p q => p.1 ≠ q.1) := by
    rw [List.pairwise_map]
    exact ((stamped_iff es clock).1 hs).2.2
  have h2 := (hm.pairwise_iff (fun {a b} (h : a.1 ≠ b.1) => h.symm)).1 h1
  rw [List.pairwise_map] at h2
  exact h2.imp (fun h e1 => h (by rw [e1]))
/-- Where a key stands. -/
theorem Ml.find (h : Ml e w b l) (K : Ky P kt e) (k : α) : ∃ es clock, w.heap[b]? = some (.map es clock) ∧ Stamped es clock ∧ (es.toList.map fun x => (x.key, x.val)).Perm (l.map fun p => (e p.1, p.2)) ∧
    (((Instr.findKey kt (e k) es.toList).run P w = .ok none w ∧ (∀ x ∈ es.toList, x.key ≠ e k) ∧ al l k = none ∧ rm l k = l) ∨
      ∃ j e0, (Instr.findKey kt (e k) es.toList).run P w = .ok (some (j, e0.val)) w ∧ es.toList[j]? = some e0 ∧ e0.key = e k ∧ al l k = some e0.val ∧ ((es.toList.eraseIdx j).map fun x => (x.key, x.val)).Perm ((rm l k).map fun p => (e p.1, p.2))) := by
  classical
  have hn := h.nodup
  obtain ⟨es, clock, hb, hs, hm⟩ := h
  refine ⟨es, clock, hb, hs, hm, ?_⟩
  have hks : ∀ x ∈ es.toList, ∃ q, x.key = e q := fun x hx => by
    have : (x.key, x.val) ∈ l.map fun p => (e p.1, p.2) := hm.mem_iff.1 (List.mem_map.2 ⟨x, hx, rfl⟩)
    obtain ⟨p, _, hp⟩ := List.mem_map.1 this
    exact ⟨p.1, (Prod.mk.inj hp).1.symm⟩
  rcases K.find w k es.toList hks with ⟨h1, h2⟩ | ⟨j, e0, h1, h2, h3⟩
  · have hno : ∀ p ∈ l, ¬ p.1 = k := fun p hp e1 => by
      have : (e p.1, p.2) ∈ es.toList.map fun x => (x.key, x.val) := hm.mem_iff.2 (List.mem_map.2 ⟨p, hp, rfl⟩)
      obtain ⟨x, hx, hxp⟩ := List.mem_map.1 this
      exact h2 x hx (by rw [(Prod.mk.inj hxp).1, e1])
    exact .inl ⟨h1, h2, al_none hno, List.filter_eq_self.2 (fun p hp => by simpa using hno p hp)⟩
  · refine .inr ⟨j, e0, h1, h2, h3, ?_, ?_⟩
    · have : (e0.key, e0.val) ∈ l.map fun p => (e p.1, p.2) := hm.mem_iff.1 (List.mem_map.2 ⟨e0, List.mem_of_getElem? h2, rfl⟩)
      obtain ⟨p, hp, hpe⟩ := List.mem_map.1 this
      have e1 : p.1 = k := K.inj ((Prod.mk.inj hpe).1.trans h3)
      refine al_of_mem hn ?_
      rw [← e1, ← (Prod.mk.inj hpe).2]
      exact hp
    · have hpw : es.toList.Pairwise (fun x y => x.key ≠ y.key) := ((stamped_iff es clock).1 hs).2.2
      have hjl : j < es.toList.length := (List.getElem?_eq_some_iff.1 h2).1
      have he : es.toList.Perm (e0 :: es.toList.eraseIdx j) := by
        have h4 : es.toList[j] = e0 := (List.getElem?_eq_some_iff.1 h2).2
        have h5 := ChangeMaps.set_perm es.toList j hjl e0
        rw [← h4, List.set_getElem_self] at h5
        rw [h4] at h5
        exact h5
      have h5 : (e0 :: es.toList.eraseIdx j).Pairwise (fun x y => x.key ≠ y.key) := (he.pairwise_iff (fun {a b} (h : a.key ≠ b.key) => h.symm)).1 hpw
      rw [List.pairwise_cons] at h5
      have h6 := (he.map (fun x => (x.key, x.val))).symm.trans hm
      have h7 := h6.filter (fun q => decide (¬ q.1 = e k))
      have h8 : ((e0 :: es.toList.eraseIdx j).map fun x => (x.key, x.val)).filter (fun q => decide (¬ q.1 = e k)) = (es.toList.eraseIdx j).map fun x => (x.key, x.val) := by
        rw [List.map_cons, List.filter_cons_of_neg (by simp [h3]), List.filter_eq_self]
        intro q hq
        obtain ⟨x, hx, rfl⟩ := List.mem_map.1 hq
        simp only [decide_eq_true_eq]
        intro e1
        exact h5.1 x hx (h3.trans e1.symm)
      have h9 : (l.map fun p => (e p.1, p.2)).filter (fun q => decide (¬ q.1 = e k)) = (rm l k).map fun p => (e p.1, p.2) := by
        unfold rm
        rw [List.filter_map]
        congr 1
        apply List.filter_congr
        intro p hp
        show decide (¬ e p.1 = e k) = decide (¬ p.1 = k)
        by_cases hq : p.1 = k
        · simp [hq]
        · have : ¬ e p.1 = e k := fun e1 => hq (K.inj e1)
          simp [hq, this]
      rw [h8, h9] at h7
      exact h7

/-- 'm[k]', 'v, ok := m[k]'. -/
theorem Ml.look (h : Ml e w b l) (K : Ky P kt e) (ht : P.underlying t = some (.map kt et)) {z : Value} (hz : (zeroValue et).run P w = .ok z w) (k : α) (c : Bool) :
    (Instr.lookup t (.map (some b)) (e k) c).run P w = .ok (if c then .tuple #[(al l k).getD z, .bool (al l k).isSome] else (al l k).getD z) w := by
  obtain ⟨es, clock, hb, _, _, ⟨h1, _, hf, _⟩ | ⟨j, e0, h1, _, _, hf, _⟩⟩ := h.find K k
  · simp [Instr.lookup, run_underlying ht, MapKept.run_getObj_map hb, K.check w _ k, h1, hz, Result.andThen, hf]
  · simp [Instr.lookup, run_underlying ht, MapKept.run_getObj_map hb, K.check w _ k, h1, Result.andThen, hf]
theorem ml_nil_look (K : Ky P kt e) (ht : P.underlying t = some (.map kt et)) {z : Value} (hz : (zeroValue et).run P w = .ok z w) (k : α) (c : Bool) :
    (Instr.lookup t (.map none) (e k) c).run P w = .ok (if c then .tuple #[z, .bool false] else z) w := by
  have h1 : (Instr.findKey kt (e k) []).run P w = .ok none w := by
    rcases K.find w k [] (by simp) with ⟨h, _⟩ | ⟨j, x, _, h, _⟩
    · exact h
    · simp at h
  simp [Instr.lookup, run_underlying ht, K.check w _ k, h1, hz, Result.andThen]
theorem ml_setBlock {o o' : Obj} (hb : w.heap[b]? = some o) : Chg (fun i => i = b) w (setBlock w b o') :=
  ⟨rfl, rfl, rfl, by simp [setBlock], fun k _ hk => by simp [setBlock, Ne.symm hk]⟩
/-- 'm[k] = v'. -/
theorem Ml.store (h : Ml e w b l) (K : Ky P kt e) (ht : P.underlying t = some (.map kt et)) (k : α) (v : Value) :
    ∃ w', (Instr.mapUpdate t (.map (some b)) (e k) v).run P w = .ok () w' ∧ Ml e w' b ((k, v) :: rm l k) ∧ Chg (fun i => i = b) w w' ∧ w'.heap.size = w.heap.size := by
  obtain ⟨es, clock, hb, hs, hm, ⟨h1, h2, hf, hr⟩ | ⟨j, e0, h1, h2, h3, hf, hr⟩⟩ := h.find K k
  · refine ⟨setBlock w b (.map (es.push ⟨e k, v, clock⟩) (clock + 1)), ?_, ⟨_, _, heap_setBlock_same hb _, stamped_push hs h2, ?_⟩, ml_setBlock hb, by simp [setBlock]⟩
    · simp [Instr.mapUpdate, run_underlying ht, MapKept.run_getObj_map hb, K.check w _ k, h1, MapKept.run_setObj_map _ hb, Result.andThen, setBlock]
    · rw [hr, Array.toList_push, List.map_append, List.map_cons]
      exact (List.perm_append_comm).trans (hm.cons _)
  · have hj : es[j]? = some e0 := by simpa using h2
    have hjl : j < es.toList.length := (List.getElem?_eq_some_iff.1 h2).1
    have hlist : (es.modify j (fun e' => { e' with key := e k, val := v })).toList = es.toList.set j { e0 with key := e k, val := v } := by rw [Array.toList_modify, ChangeMaps.modify_eq_set _ _ _ _ h2]
    refine ⟨setBlock w b (.map (es.modify j (fun e' => { e' with key := e k, val := v })) clock), ?_, ⟨_, _, heap_setBlock_same hb _, stamped_modify hs _ _ (fun _ _ => rfl) (fun e' _ he' => by rw [hj] at he'; cases he'; exact h3.symm), ?_⟩, ml_setBlock hb, by simp [setBlock]⟩
    · simp [Instr.mapUpdate, run_underlying ht, MapKept.run_getObj_map hb, K.check w _ k, h1, hj, h3, K.stays w k, MapKept.run_setObj_map _ hb, Result.andThen, setBlock]
    · rw [hlist, List.map_cons]
      have hp : (es.toList.set j { e0 with key := e k, val := v }).Perm ({ e0 with key := e k, val := v } :: es.toList.eraseIdx j) := ChangeMaps.set_perm _ _ hjl _
      exact (hp.map _).trans (hr.cons _)
/-- 'delete(m, k)'. -/
theorem Ml.drop {ty : TypeId} (h : Ml e w b l) (K : Ky P kt e) (ht : P.underlying t = some (.map kt et)) (k : α) :
    ∃ w', (Builtin.delete_ #[t, kt] ty #[.map (some b), e k]).run P w = .ok (.tuple #[]) w' ∧ Ml e w' b (rm l k) ∧ Chg (fun i => i = b) w w' ∧ w'.heap.size = w.heap.size := by
  obtain ⟨es, clock, hb, hs, hm, ⟨h1, h2, hf, hr⟩ | ⟨j, e0, h1, h2, h3, hf, hr⟩⟩ := h.find K k
  · refine ⟨setBlock w b (.map es clock), ?_, ⟨_, _, heap_setBlock_same hb _, hs, by rw [hr]; exact hm⟩, ml_setBlock hb, by simp [setBlock]⟩
    simp [Builtin.delete_, run_underlying ht, MapKept.run_getObj_map hb, K.check w _ k, h1, MapKept.run_setObj_map _ hb, Result.andThen, setBlock]
  · have hjl : j < es.toList.length := (List.getElem?_eq_some_iff.1 h2).1
    have hjs : j < es.size := by simpa using hjl
    have hsub : (es.eraseIdxIfInBounds j).toList = es.toList.eraseIdx j := by
      unfold Array.eraseIdxIfInBounds
      rw [dif_pos hjs]
      simp
    refine ⟨setBlock w b (.map (es.eraseIdxIfInBounds j) clock), ?_, ⟨_, _, heap_setBlock_same hb _, stamped_erase hs j, by rw [hsub]; exact hr⟩, ml_setBlock hb, by simp [setBlock]⟩
    simp [Builtin.delete_, run_underlying ht, MapKept.run_getObj_map hb, K.check w _ k, h1, MapKept.run_setObj_map _ hb, Result.andThen, setBlock]
/-- 'len(m)'. -/
theorem Ml.len (h : Ml e w b l) (ht : P.underlying t = some (.map kt et)) (ty : TypeId) : (Builtin.len_ #[t] ty #[.map (some b)]).run P w = .ok (.int .i64 (l.length : Int)) w := by
  obtain ⟨es, clock, hb, hs, hm⟩ := h
  have e1 : es.size = l.length := by simpa using hm.length_eq
  simp [Builtin.len_, run_underlying ht, MapKept.run_getObj_map hb, goInt, Result.andThen, e1]
end
theorem ky_plain {α : Type} {P : Program} {kt : TypeId} {e : α → Value} {d : TypeDesc} (hu : P.underlying kt = some d) (hk : ∀ a, IsKey d (e a)) (hi : ∀ {a b}, e a = e b → a = b) : Ky P kt e where
  inj := hi
  check := fun w em a => run_checkKey (w := w) hu (hk a) em 9999
  find := fun w a es hes => by
    rcases findNow_spec (hk a) es 0 (fun x hx => by obtain ⟨b, hb⟩ := hes x hx; rw [hb]; exact hk b) with ⟨h1, h2⟩ | ⟨j, x, h1, h2, h3⟩
    · exact .inl ⟨run_findKey (w := w) hu h1, h2⟩
    · exact .inr ⟨j, x, run_findKey (w := w) hu (by simpa using h1), h2, h3⟩
  stays := fun w a => run_keyThatStays (P := P) (w := w) (d := d) (k := e a) (hk a)
theorem ky_string {P : Program} {kt : TypeId} (h : P.underlying kt = some .string) : Ky P kt Value.string := ky_plain h (fun _ => trivial) (fun h => by simpa using h)
/-- Arrays, structs. -/
theorem ky_deep {α : Type} {P : Program} {kt : TypeId} {e : α → Value} (L : WideMaps.KeyLaw P kt) (hk : ∀ a, ∃ l, keyOf P kt (e a) = some l) (hi : ∀ {a b}, e a = e b → a = b) : Ky P kt e where
  inj := hi
  check := fun w em a => by obtain ⟨l, hl⟩ := hk a; exact L.check w em hl
  find := fun w a es hes => by
    obtain ⟨l, hl⟩ := hk a
    exact L.find w hl es (fun x hx => by obtain ⟨b, hb⟩ := hes x hx; rw [hb]; exact hk b)
  stays := fun w a => by obtain ⟨l, hl⟩ := hk a; exact L.stays w hl

end Go.Proofs.YtgmdpbahcbhfjaaGreatDoor
