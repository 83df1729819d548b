import Derived.Test.YtlppibigceeimaaDoorSeR
/-
  Package series: span; samples of some time, purely.
-/
namespace Go.Proofs.YtlppibigceeimaaDoor
open Go.RowKit
set_option linter.unusedVariables false
set_option linter.unusedSimpArgs false

/-- span.take. -/
def spS (f t : Int) (s : List Sm) (x : Sm) : Bool × List Sm := if t < x.t then (false, s) else if f ≤ x.t then (true, s ++ [x]) else (true, s)
/-- The samples of some time. -/
def rng (f t : Int) (l : List Sm) : List Sm := l.filter fun x => decide (f ≤ x.t ∧ x.t ≤ t)
theorem foldE_app {σ : Type} (step : σ → Sm → Bool × σ) (l m : List Sm) (s : σ) (h : (foldE step l s).1 = true) : foldE step (l ++ m) s = foldE step m (foldE step l s).2 := by
  induction l generalizing s with
  | nil => rfl
  | cons x l ih =>
    unfold foldE at h
    by_cases e : (step s x).1 = true
    · rw [if_pos e] at h
      show (if (step s x).1 = true then foldE step (l ++ m) (step s x).2 else _) = _
      rw [if_pos e, ih _ h]
      show _ = foldE step m (if (step s x).1 = true then foldE step l (step s x).2 else _).2
      rw [if_pos e]
    · rw [if_neg e] at h; cases h
theorem sp_len (f t : Int) : ∀ (l s : List Sm), (foldE (spS f t) l s).2.length ≤ s.length + l.length
  | [], s => by simp [foldE]
  | x :: l, s => by
    have h2 : (spS f t s x).2.length ≤ s.length + 1 := by unfold spS; split <;> (try split) <;> simp
    show ((if (spS f t s x).1 = true then foldE (spS f t) l (spS f t s x).2 else (false, (spS f t s x).2)) : Bool × List Sm).2.length ≤ _
    have h3 := sp_len f t l (spS f t s x).2
    simp only [List.length_cons]
    split
    · omega
    · simp only; omega
theorem sp_fold (f t : Int) : ∀ (l s : List Sm), Ris l → (foldE (spS f t) l s).2 = s ++ rng f t l
  | [], s, _ => by simp [foldE, rng]
  | x :: l, s, h => by
    have h2 := List.pairwise_cons.1 h
    show ((if (spS f t s x).1 = true then foldE (spS f t) l (spS f t s x).2 else (false, (spS f t s x).2)) : Bool × List Sm).2 = _
    by_cases h1 : t < x.t
    · have e : spS f t s x = (false, s) := by unfold spS; rw [if_pos h1]
      rw [e]
      have : rng f t (x :: l) = [] := by
        unfold rng
        rw [List.filter_eq_nil_iff]
        intro a ha
        rcases List.mem_cons.1 ha with rfl | ha
        · simp; omega
        · have := h2.1 a ha
          unfold LtT at this
          simp; omega
      rw [this]
      simp
    · by_cases h3 : f ≤ x.t
      · have e : spS f t s x = (true, s ++ [x]) := by unfold spS; rw [if_neg h1, if_pos h3]
        rw [e, if_pos rfl, sp_fold f t l _ h2.2]
        have : rng f t (x :: l) = x :: rng f t l := by
          unfold rng
          rw [List.filter_cons_of_pos (by simp; omega)]
        rw [this]
        simp
      · have e : spS f t s x = (true, s) := by unfold spS; rw [if_neg h1, if_neg h3]
        rw [e, if_pos rfl, sp_fold f t l _ h2.2]
        have : rng f t (x :: l) = rng f t l := by
          unfold rng
          rw [List.filter_cons_of_neg (by simp; omega)]
        rw [this]
/-- What may be left away: groups ahead of one that begins in time. -/
theorem rng_drop {f t : Int} {G : List (List Sm)} {i : Nat} (h : Ris G.flatten) (hi : i = 0 ∨ ∃ g x, G[i]? = some g ∧ g[0]? = some x ∧ x.t ≤ f) : rng f t (G.drop i).flatten = rng f t G.flatten := by
  rcases hi with rfl | ⟨g, x, hg, hx, hxf⟩
  · rw [List.drop_zero]
  · have e : G.flatten = (G.take i).flatten ++ (G.drop i).flatten := by rw [← List.flatten_append, List.take_append_drop]
    rw [e] at h ⊢
    have h2 := (List.pairwise_append.1 h).2.2
    have hxm : x ∈ (G.drop i).flatten := by
      refine List.mem_flatten.2 ⟨g, ?_, List.mem_of_getElem? hx⟩
      refine List.mem_iff_getElem?.2 ⟨0, ?_⟩
      rw [List.getElem?_drop]
      exact hg
    unfold rng
    rw [List.filter_append]
    have : (G.take i).flatten.filter (fun x => decide (f ≤ x.t ∧ x.t ≤ t)) = [] := by
      rw [List.filter_eq_nil_iff]
      intro a ha
      have := h2 a ha x hxm
      unfold LtT at this
      simp; omega
    rw [this]
    rfl

/-- A span in memory. -/
def SPn (w : World) (base b : Nat) (f t : Int) (l : List Sm) (rb : Option Nat) : Prop := ∃ v, v.ownBlock = rb ∧ Blk w b 64 [.int .i64 f, .int .i64 t, v] ∧ w.ownsRow base 35 2 v l.length (cS l) ∧ base ≤ b ∧ ∀ x ∈ l, OkS x
theorem SPn.later {w w' : World} {base b : Nat} {f t : Int} {l : List Sm} {rb : Option Nat} (h : SPn w base b f t l rb) (hb : Below w.heap.size w w') : SPn w' base b f t l rb := by
  obtain ⟨v, h0, h1, h2, h3⟩ := h
  exact ⟨v, h0, h1.later hb, owl h2 hb, h3⟩
/-- What a span's calls may change. -/
def FS (b : Nat) (rb : Option Nat) : Nat → Prop := fun i => i = b ∨ rb = some i
theorem SPn.ge {w : World} {base b : Nat} {f t : Int} {l : List Sm} {rb : Option Nat} (h : SPn w base b f t l rb) : ∀ i, FS b rb i → base ≤ i ∧ i < w.heap.size := by
  obtain ⟨v, h0, h1, h2, h3, _⟩ := h
  rintro i (rfl | e)
  · exact ⟨h3, h1.lt⟩
  · rw [← h0] at e
    refine ⟨?_, owns_lt h2 i e⟩
    rcases h2.2 with ⟨e0, _⟩ | ⟨g, cap, cur, e0, hg, _⟩
    · rw [e0] at e; cases e
    · rw [e0] at e
      have : g = i := by simpa [Value.ownBlock] using e
      omega
set_option maxRecDepth 100000 in
set_option maxHeartbeats 4000000 in
theorem spTakeP (w : World) (base b : Nat) (f t : Int) (l : List Sm) (x : Sm) (rb : Option Nat) (h : SPn w base b f t l rb) (hx : OkS x) (hl : l.length ≤ 1000000000) (hbs : base ≤ w.heap.size) :
    Calls Tryd.prog 25 #[.pointer (some ⟨b, 0, none⟩), .agg #[.int .i64 x.t, .int .u64 (x.v : Int)]] w fun e w' => e = .returned (.bool (spS f t l x).1) ∧ ∃ rb', SPn w' base b f t (spS f t l x).2 rb' ∧ Chg (FS b rb) w w' ∧ Moved w rb rb' := by
  have HP := hidden h
  have HX := hidden hx
  have HBS := hidden hbs
  obtain ⟨v, h0, h1, h2, h3, h4⟩ := h
  have H0 := hidden h0
  clear h0
  have c0 : ∀ o, (w.alloc o).cell? ⟨b, 0, none⟩ = some (.int .i64 f) := fun o => (h1.alloc o).cell 0
  have c1 : ∀ o, (w.alloc o).cell? ⟨b, 1, none⟩ = some (.int .i64 t) := fun o => (h1.alloc o).cell 1
  have c2 : ∀ o, (w.alloc o).cell? ⟨b, 2, none⟩ = some v := fun o => (h1.alloc o).cell 2
  by_cases ht : t < x.t
  · have e : spS f t l x = (false, l) := by unfold spS; rw [if_pos ht]
    rw [e]
    clear h1 h2 h3 h4 hl hbs hx c0 c2
    go_enter Tryd.func25, Tryd.ntmps25
    go_wp2_with fail
    go_quiet (fail)
    go_wp2_with fail
    go_ret
    exact ⟨rfl, rb, (HP.out.later ((Below.refl _ _).alloc (Nat.le_refl _) _)).later (below_drewN (Below.refl _ _) _), Chg.of_below (below_drewN ((Below.refl _ _).alloc (Nat.le_refl _) _) _), .inl rfl⟩
  · by_cases hf : f ≤ x.t
    · have e : spS f t l x = (true, l ++ [x]) := by unfold spS; rw [if_neg ht, if_pos hf]
      rw [e]
      obtain ⟨i0, hi0, hz0, hz1, hz2⟩ := info_parts info32
      have OW : Hid (∀ wx, Below w.heap.size w wx → wx.ownsRow base 35 2 v l.length (cS l)) := hidden (fun wx hb => owl h2 hb)
      have HB := hidden h1
      have HR := hidden (And.intro h2 (And.intro h3 h4))
      have f2 : ∀ o j, (w.alloc o).frozen? ⟨b, j, none⟩ = false := fun o j => (h1.alloc o).frozen j
      have hlt := h1.lt
      have hvb : ¬ v.ownBlock = some b := fun e => by have := (owns_tg h2 b e).one h1.tg; cases this
      have HVB := hidden hvb
      obtain ⟨n, hn⟩ : ∃ n, l.length = n := ⟨_, rfl⟩
      have HN := hidden hn
      rw [hn] at OW hl
      have ht2 : decide (t < x.t) = false := by simpa using ht
      clear h1 h2 h3 h4 hx hvb hn
      go_enter Tryd.func25, Tryd.ntmps25
      go_wp2_with fail
      go_quiet (fail)
      go_wp2_with fail
      go_quiet (fail)
      go_wp2_with fail
      generalize hw4 : World.drewN (World.drewN _ _) _ = w4
      have bl1 : Below w.heap.size w (w.alloc (.cells #[.int .i64 x.t, .int .u64 (x.v : Int)] 35)) := (Below.refl _ _).alloc (Nat.le_refl _) _
      have B4 : Hid (Below w.heap.size w w4) := hidden (by rw [← hw4]; exact below_drewN (below_drewN bl1 _) _)
      have G4 : Hid (Blk w4 w.heap.size 35 [.int .i64 x.t, .int .u64 (x.v : Int)]) := hidden (by rw [← hw4]; exact Blk.new w 35 [.int .i64 x.t, .int .u64 (x.v : Int)])
      have Bb : Hid (Blk w4 b 64 [.int .i64 f, .int .i64 t, v]) := hidden (HB.out.later B4.out)
      have O4 : Hid (w4.ownsRow base 35 2 v n (cS l)) := hidden (OW.out w4 B4.out)
      have d0 : w4.cell? ⟨w.heap.size, 0, none⟩ = some (.int .i64 x.t) := G4.out.cell 0
      have d1 : w4.cell? ⟨w.heap.size, 1, none⟩ = some (.int .u64 (x.v : Int)) := G4.out.cell 1
      have d2 : w4.cell? ⟨b, 2, none⟩ = some v := Bb.out.cell 2
      have d3 := Bb.out.frozen 2
      have hl4 : b < w4.heap.size := Bb.out.lt
      have hl5 : w.heap.size < w4.heap.size := G4.out.lt
      have hb4 : base ≤ w4.heap.size := by have := HBS.out; omega
      clear c0 c1 c2 hw4 bl1 f2 hbs
      go_region_law (first
        | (refine step_push2 _ (by rfl) (.tmp 23) (.tmp 25) 22 (by rfl) 35 i0 (.agg #[.int .i64 0, .int .u64 0]) 16 Tryd.underlying22 hi0 hz0 hz1 hz2 rfl base v n (cS l) (by rfl) (World.ownsRow.alloc (w := w4.drew) O4.out _) ⟨w4.heap.size, 0, none⟩ [.int .i64 x.t, .int .u64 (x.v : Int)] (by rfl) rfl (fun j u hu => by
             have h9 := (Blk.new w4.drew 35 [.int .i64 x.t, .int .u64 (x.v : Int)]).cell (0 + j)
             rw [Addr.add_lit]
             refine h9.trans ?_
             rw [Nat.zero_add]
             exact hu) (by intro u hu; simp at hu; rcases hu with rfl | rfl <;> rfl) (by unfold maxLen; omega) (by omega) (by show base ≤ (w4.drew.alloc _).heap.size; simp; omega) ?_
           intro g5 c5 w5 o5 p5
           have P5 : Hid (w5.ownsRow base 35 2 (.slice (some ⟨g5, 0, none⟩) (n + 1) c5) (n + 1) (cS (l ++ [x])) ∧ Chg (fun i => v.ownBlock = some i) w4 w5 ∧ Blk w5 b 64 [.int .i64 f, .int .i64 t, v] ∧ g5 ≠ b ∧ Moved w4 v.ownBlock (some g5)) := hidden (by
             have q := Pushed.chg (w := w4.drew) p5
             have q1 : Chg (fun i => v.ownBlock = some i) w4 w5 := (Chg.drew _ w4).trans q.1 (fun _ _ e => e)
             refine ⟨by rw [cS_append]; exact o5, q1, q1.blk Bb.out HVB.out, ?_, q.2⟩
             rcases q.2 with e | ⟨g, e, hg⟩
             · intro e2; exact HVB.out (by rw [← e, e2])
             · cases e
               intro e2
               have : w4.drew.heap.size = w4.heap.size := rfl
               omega)
           have e0 : w5.cell? ⟨b, 2, none⟩ = some v := P5.out.2.2.1.cell 2
           have e1 := P5.out.2.2.1.frozen 2
           clear o5 p5))
      all_goals
        go_wp2_with fail
        go_ret
        have cs := Chg.set ⟨b, 2, none⟩ (.slice (some ⟨g5, 0, none⟩) (n + 1) c5) w5
        refine ⟨rfl, some g5, ⟨.slice (some ⟨g5, 0, none⟩) (n + 1) c5, rfl, P5.out.2.2.1.set 2 _, ?_, HR.out.2.1, fun y hy => ?_⟩, ?_, ?_⟩
        · have e9 : (l ++ [x]).length = n + 1 := by rw [List.length_append, HN.out]; rfl
          rw [e9]
          exact cs.owns P5.out.1 (fun g hg e2 => by
            have : g5 = g := by simpa [Value.ownBlock] using hg
            exact P5.out.2.2.2.1 (by rw [this]; exact e2))
        · rcases List.mem_append.1 hy with hy | hy
          · exact HR.out.2.2 y hy
          · simp at hy; subst hy; exact HX.out
        · rw [← H0.out]
          exact ((Chg.of_below (F := FS b v.ownBlock) B4.out).trans P5.out.2.1 (fun i _ e => .inr e)).trans cs (fun i _ e => .inl e)
        · rw [← H0.out]
          rcases P5.out.2.2.2.2 with e | ⟨g, e, hg⟩
          · exact .inl e
          · exact .inr ⟨g, e, Nat.le_trans B4.out.size hg⟩
    · have e : spS f t l x = (true, l) := by unfold spS; rw [if_neg ht, if_neg hf]
      rw [e]
      have ht2 : decide (t < x.t) = false := by simpa using ht
      have hf2 : decide (f ≤ x.t) = false := by simpa using hf
      clear h1 h2 h3 h4 hl hbs hx c2
      go_enter Tryd.func25, Tryd.ntmps25
      go_wp2_with fail
      go_quiet (fail)
      go_wp2_with fail
      go_quiet (fail)
      go_wp2_with fail
      go_ret
      exact ⟨rfl, rb, ((HP.out.later ((Below.refl _ _).alloc (Nat.le_refl _) _)).later (below_drewN (Below.refl _ _) _)).later (below_drewN (Below.refl _ _) _), Chg.of_below (below_drewN (below_drewN ((Below.refl _ _).alloc (Nat.le_refl _) _) _) _), .inl rfl⟩

end Go.Proofs.YtlppibigceeimaaDoor

/-
  Package series: beginsAfter; the closure; sort.Search.
-/
namespace Go.Proofs.YtlppibigceeimaaDoor
open Go.RowKit
set_option linter.unusedVariables false
set_option linter.unusedSimpArgs false

/-- Does it begin behind a time? -/
def bgn (l : List Sm) (t : Int) : Bool := match l with
  | [] => false
  | x :: _ => decide (t < x.t)
set_option maxRecDepth 100000 in
set_option maxHeartbeats 2000000 in
theorem beginsP (S p n s : Nat) (t : Int) (F : Nat → Prop) (st : K.Sx) (Z : ByteArray → List En) (w : World) (h : SQ F w S p n st Z) (hG : Gv w) (hlo : 2 ≤ w.heap.size) :
    Calls Tryd.prog 40 #[.pointer (some ⟨S, 0, none⟩), .int .i64 (s : Int), .int .i64 t] w fun e w' => e = .returned (.bool (bgn (samV st n (s : Int)) t)) ∧ Below w.heap.size w w' := by
  have hz := h.sz
  obtain ⟨T, sh, R, G, h1, h2, h3, h4, h5⟩ := h
  have HSI := hidden (samplesInP S _ (s : Int) G p n st w h1.blk h2 hz.small hG hlo)
  clear h1 h2 h3 h4 h5 hz hG hlo
  generalize samV st n (s : Int) = l at *
  go_enter Tryd.func40, Tryd.ntmps40
  go_wp2_with fail
  refine HSI.out.mono ?_
  rintro e w1 ⟨ad, c, rfl, o1, k1, b1⟩
  have B1 := hidden b1
  cases l with
  | nil =>
    clear o1 k1 b1 HSI
    go_wp2_with fail
    go_ret
    exact ⟨rfl, B1.out⟩
  | cons x l =>
    obtain ⟨b', off, rfl, hlt, hc⟩ := (ss_of_owns o1 k1).at' (by simp)
    obtain ⟨q0, q1⟩ := hc 0 x rfl
    simp only [Nat.zero_mul, Nat.add_zero] at q0
    have hn : l.length + 1 ≤ 9223372036854775807 := by
      have := owns_formS o1
      obtain ⟨a2, c2, e2, _, _, e3, e4⟩ := this
      unfold maxLen at e4
      simp only [List.length_cons] at e3
      omega
    rw [List.length_cons]
    generalize l.length = N at *
    clear o1 k1 b1 HSI hc q1
    by_cases ht : t < x.t
    · have ht2 : decide (t < x.t) = true := by simpa using ht
      have HE : Hid (true = bgn (x :: l) t) := hidden (by show _ = decide (t < x.t); rw [ht2])
      go_wp2_with fail
      go_ret
      exact ⟨by rw [← HE.out]; rfl, B1.out⟩
    · have ht2 : decide (t < x.t) = false := by simpa using ht
      have HE : Hid (false = bgn (x :: l) t) := hidden (by show _ = decide (t < x.t); rw [ht2])
      go_wp2_with fail
      go_ret
      exact ⟨by rw [← HE.out]; rfl, B1.out⟩
/-- A row of slots, read. -/
structure SlI (w : World) (ad : Option Addr) (l : List Nat) : Prop where
  at' : l ≠ [] → ∃ b off, ad = some ⟨b, off, none⟩ ∧ b < w.heap.size ∧ ∀ (i s : Nat), l[i]? = some s → w.cell? ⟨b, off + i, none⟩ = some (.int .i64 (s : Int))
theorem SlI.later {w w' : World} {ad : Option Addr} {l : List Nat} (h : SlI w ad l) (hb : Below w.heap.size w w') : SlI w' ad l := by
  refine ⟨fun h0 => ?_⟩
  obtain ⟨b, off, e, hlt, hc⟩ := h.at' h0
  refine ⟨b, off, e, Nat.lt_of_lt_of_le hlt hb.size, fun i s hs => ?_⟩
  rw [hb.cell (p := ⟨b, off + i, none⟩) hlt]
  exact hc i s hs
theorem sli_owns {w : World} {base n c : Nat} {ad : Option Addr} {l : List Nat} (h : w.ownsRow base 3 1 (.slice ad n c) n (cI l)) : SlI w ad l := by
  refine ⟨fun h0 => ?_⟩
  have hl : l.length = n := by have := h.1; rw [cI_len] at this; omega
  obtain ⟨g, rfl, _⟩ := owns_ad h (by have := List.length_pos_iff.2 h0; omega)
  refine ⟨g, 0, rfl, owns_lt h g rfl, fun i s hs => ?_⟩
  rw [Nat.zero_add]
  exact owns_cell h i _ (by unfold cI; rw [List.getElem?_map, hs]; rfl)
set_option maxRecDepth 100000 in
set_option maxHeartbeats 2000000 in
theorem closP (S p n s i N cc pa pb pc g off : Nat) (t : Int) (F : Nat → Prop) (st : K.Sx) (Z : ByteArray → List En) (w : World) (h : SQ F w S p n st Z) (hG : Gv w) (hlo : 2 ≤ w.heap.size)
    (ha : Blk w pa 30 [.pointer (some ⟨S, 0, none⟩)]) (hb : Blk w pb 23 [.slice (some ⟨g, off, none⟩) N cc]) (hc : Blk w pc 2 [.int .i64 t]) (hi : i < N) (hN : N ≤ 1000000) (hs : w.cell? ⟨g, off + i, none⟩ = some (.int .i64 (s : Int))) :
    Calls Tryd.prog 39 #[.int .i64 (i : Int), .pointer (some ⟨pa, 0, none⟩), .pointer (some ⟨pb, 0, none⟩), .pointer (some ⟨pc, 0, none⟩)] w fun e w' => e = .returned (.bool (bgn (samV st n (s : Int)) t)) ∧ Below w.heap.size w w' := by
  have ca : w.cell? ⟨pa, 0, none⟩ = some (.pointer (some ⟨S, 0, none⟩)) := ha.cell 0
  have cb : w.cell? ⟨pb, 0, none⟩ = some (.slice (some ⟨g, off, none⟩) N cc) := hb.cell 0
  have c3 : w.cell? ⟨pc, 0, none⟩ = some (.int .i64 t) := hc.cell 0
  have HB : Hid (Calls Tryd.prog 40 #[.pointer (some ⟨S, 0, none⟩), .int .i64 (s : Int), .int .i64 t] w.drew fun e w' => ∃ v, e = .returned v ∧ (v = .bool (bgn (samV st n (s : Int)) t) ∧ Below w.heap.size w w')) := hidden ((beginsP S p n s t F st Z w.drew (h.later ((Below.refl _ _).drew)) (hG.later ((Below.refl _ _).drew)) hlo).mono fun e w' ⟨e1, e2⟩ => ⟨_, e1, rfl, ((Below.refl _ _).drew).trans e2⟩)
  generalize bgn (samV st n (s : Int)) t = q at *
  have hi2 : (i : Int) < (N : Int) := by omega
  clear h hG hlo ha hb hc
  go_enter Tryd.func39, Tryd.ntmps39
  go_wp2_with fail
  go_region_law (refine step_go (by rfl) 40 #[.pointer (some ⟨S, 0, none⟩), .int .i64 (s : Int), .int .i64 t] (by simp [execOp, resolve, Act.eval, go_sem]) _ HB.out ?_
                 rintro v1 w4 ⟨rfl, b1⟩
                 have B1 := hidden b1
                 clear b1)
  all_goals
    go_wp2_with fail
    go_ret
    exact ⟨rfl, B1.out⟩

set_option maxRecDepth 100000 in
set_option maxHeartbeats 2000000 in
/-- sort.Search over the closure. -/
theorem searchP (N pa pb pc : Nat) (P : Nat → Bool) (T : World → Prop) (w : World) (hN : N ≤ 1000000) (hT : T w) (hcf : ∀ a w, (callFunc 39 a).run Tryd.prog w = .ok (.enter 39 a) w)
    (hc : ∀ i wx, i < N → T wx → Calls Tryd.prog 39 #[.int .i64 (i : Int), .pointer (some ⟨pa, 0, none⟩), .pointer (some ⟨pb, 0, none⟩), .pointer (some ⟨pc, 0, none⟩)] wx fun e w' => e = .returned (.bool (P i)) ∧ T w') :
    Calls Tryd.prog 38 #[.int .i64 (N : Int), .func (.func 39) #[] #[.pointer (some ⟨pa, 0, none⟩), .pointer (some ⟨pb, 0, none⟩), .pointer (some ⟨pc, 0, none⟩)]] w fun e w' => ∃ j : Nat, e = .returned (.int .i64 (j : Int)) ∧ j ≤ N ∧ (j = 0 ∨ P (j - 1) = false) ∧ (j = N ∨ P j = true) ∧ T w' := by
  have HT := hidden hT
  have HC := hidden hc
  clear hT hc
  go_enter Tryd.func38, Tryd.ntmps38
  go_wp2_with fail
  go_loopw [5, 6] (fun v5 v6 wx => ∃ i j : Nat, v5 = .int .i64 (i : Int) ∧ v6 = .int .i64 (j : Int) ∧ i ≤ j ∧ j ≤ N ∧ Hid ((i = 0 ∨ P (i - 1) = false) ∧ (j = N ∨ P j = true) ∧ T wx)) (fun v5 v6 _ => (intOf v6).toNat - (intOf v5).toNat)
  case atStart => exact ⟨0, N, rfl, rfl, by omega, by omega, hidden ⟨.inl rfl, .inl rfl, HT.out⟩⟩
  case round =>
    obtain ⟨i, j, rfl, rfl, hij, hjN, hI⟩ := hrel
    clear HT
    by_cases hlt : i < j
    · have hij2 : (i : Int) < (j : Int) := by omega
      obtain ⟨m, hm⟩ : ∃ m, (i + j) / 2 = m := ⟨_, rfl⟩
      have hw1 : ((i : Int) + (j : Int)) / 2 = (m : Int) := by omega
      have hmi : i ≤ m ∧ m < j := by omega
      go_wp2_with fail
      refine (HC.out m wr (by omega) hI.out.2.2).mono ?_
      rintro e w2 ⟨rfl, t2⟩
      have H2 := hidden t2
      clear t2 hm hw1
      cases hP : P m with
      | true =>
        have HP := hidden hP
        clear hP
        go_wp2_with fail
        refine ⟨⟨i, m, rfl, rfl, hmi.1, by omega, hidden ⟨hI.out.1, .inr HP.out, H2.out⟩⟩, ?_⟩
        show (m : Int).toNat - (i : Int).toNat < (j : Int).toNat - (i : Int).toNat
        omega
      | false =>
        have HP := hidden hP
        clear hP
        go_wp2_with fail
        refine ⟨⟨m + 1, j, by first | rfl | simp, rfl, by omega, by omega, hidden ⟨.inr (by rw [Nat.add_sub_cancel]; exact HP.out), hI.out.2.1, H2.out⟩⟩, ?_⟩
        show (j : Int).toNat - ((m : Int) + 1).toNat < (j : Int).toNat - (i : Int).toNat
        omega
    · have hij3 : i = j := by omega
      subst hij3
      clear hlt
      go_wp2_with fail
      go_ret
      exact ⟨i, rfl, hjN, hI.out⟩

end Go.Proofs.YtlppibigceeimaaDoor
