import Derived.Test.YtlppibigceeimaaDoorSeF
/-
  Package series: the packer in memory; its take.
-/
namespace Go.Proofs.YtlppibigceeimaaDoor
open Go.RowKit
set_option linter.unusedVariables false
set_option linter.unusedSimpArgs false

/-- Chunks in memory: a row of slices, the bytes of each in blocks of D. -/
structure Ck (w : World) (base : Nat) (v : Value) (L : List (List Int)) (D : Nat → Prop) : Prop where
  lt : ∀ i, D i → base ≤ i ∧ i < w.heap.size
  off : ∀ g, v.ownBlock = some g → ¬ D g
  row : ∃ xs : List Value, w.ownsRow base 70 1 v L.length xs ∧ ∀ (i : Nat) (b : List Int), L[i]? = some b → ∃ (ad : Option Addr) (c : Nat), xs[i]? = some (Value.slice ad b.length c) ∧ Sl w ad b.length b ∧ b.length ≤ c ∧ c ≤ maxLen ∧ (∀ x, ad = some x → D x.block)
theorem Ck.chg {F D : Nat → Prop} {w w' : World} {base : Nat} {v : Value} {L : List (List Int)} (h : Ck w base v L D) (hc : Chg F w w') (hD : ∀ i, D i → ¬ F i) (hv : ∀ g, v.ownBlock = some g → ¬ F g) : Ck w' base v L D := by
  obtain ⟨xs, h1, h2⟩ := h.row
  refine ⟨fun i hi => ⟨(h.lt i hi).1, Nat.lt_of_lt_of_le (h.lt i hi).2 hc.size⟩, h.off, xs, hc.owns h1 hv, fun i b hb => ?_⟩
  obtain ⟨ad, c, a1, a2, a3, a4, a5⟩ := h2 i b hb
  exact ⟨ad, c, a1, hc.sl a2 (fun x hx _ => hD _ (a5 x hx)), a3, a4, a5⟩
theorem Ck.later {D : Nat → Prop} {w w' : World} {base : Nat} {v : Value} {L : List (List Int)} (h : Ck w base v L D) (hb : Below w.heap.size w w') : Ck w' base v L D := h.chg (Chg.of_below (F := fun _ => False) hb) (fun _ _ h => h) (fun _ _ h => h)
theorem Ck.nil (w : World) (base : Nat) : Ck w base (.slice none 0 0) [] (fun _ => False) := ⟨fun i h => h.elim, (fun g h => by cases h), [], World.ownsRow_nil _ _ _ _, fun i b h => by simp at h⟩
theorem Ck.vlt {D : Nat → Prop} {w : World} {base : Nat} {v : Value} {L : List (List Int)} (h : Ck w base v L D) : ∀ g, v.ownBlock = some g → base ≤ g ∧ g < w.heap.size := by
  intro g hg
  obtain ⟨xs, h1, h2⟩ := h.row
  refine ⟨?_, owns_lt h1 g hg⟩
  rcases h1.2 with ⟨rfl, _⟩ | ⟨g', cap, cur, rfl, hb, hh, r⟩
  · cases hg
  · obtain rfl : g' = g := by simpa [Value.ownBlock] using hg
    exact hb
theorem info70 : (Tryd.prog.info? 70).map (fun i => (i.zero, i.size, i.bytes)) = some (some (.slice none 0 0), 1, 24) := by kernel_rfl
/-- One chunk more: its bytes lie above all. -/
theorem Ck.push {D : Nat → Prop} {w1 w2 w3 w4 : World} {base : Nat} {v : Value} {L : List (List Int)} {b : List Int} {ad : Option Addr} {n c g' c' : Nat} (h : Ck w1 base v L D) (hB : base ≤ w1.heap.size) (hn : b.length = n)
    (o : w2.ownsRow w1.heap.size 5 1 (.slice ad n c) n (cells8 b)) (hb : Byte b) (b2 : Below w1.heap.size w1 w2) (b3 : Below w2.heap.size w2 w3) {xs : List Value}
    (hxs : w1.ownsRow base 70 1 v L.length xs ∧ ∀ (i : Nat) (b : List Int), L[i]? = some b → ∃ (ad : Option Addr) (c : Nat), xs[i]? = some (Value.slice ad b.length c) ∧ Sl w1 ad b.length b ∧ b.length ≤ c ∧ c ≤ maxLen ∧ (∀ x, ad = some x → D x.block))
    (o4 : w4.ownsRow base 70 1 (.slice (some ⟨g', 0, none⟩) (L.length + 1) c') (L.length + 1) (xs ++ [.slice ad n c])) (hp : Pushed w3 w4 v g') :
    Ck w4 base (.slice (some ⟨g', 0, none⟩) (L.length + 1) c') (L ++ [b]) (fun i => D i ∨ (w1.heap.size ≤ i ∧ ∃ x, ad = some x ∧ x.block = i)) ∧ Chg (fun i => v.ownBlock = some i) w1 w4 ∧ Moved w1 v.ownBlock (some g') ∧ ∀ x, ad = some x → w1.heap.size ≤ x.block := by
  subst hn
  have s2 := b2.size
  have s3 := b3.size
  have hvlt := h.vlt
  have hb13 : Below w1.heap.size w1 w3 := b2.trans (b3.mono s2)
  have hc4 : Chg (fun i => v.ownBlock = some i) w3 w4 := by
    rcases hp with ⟨h1, h2⟩ | ⟨h1, h2⟩
    · exact Chg.of_grown h2 (fun i hi => by rw [h1]; exact hi)
    · exact Chg.of_grown h2 (fun i hi => by cases hi)
  have hc : Chg (fun i => v.ownBlock = some i) w1 w4 := (Chg.of_below (F := fun i => v.ownBlock = some i) hb13).trans hc4 (fun _ _ h => h)
  have hmv : Moved w1 v.ownBlock (some g') := by
    rcases hp with ⟨h1, h2⟩ | ⟨h1, h2⟩
    · exact .inl h1.symm
    · exact .inr ⟨g', rfl, by omega⟩
  have had : ∀ x, ad = some x → w1.heap.size ≤ x.block ∧ x.block < w2.heap.size := by
    intro x hx
    rcases o.2 with ⟨e, _⟩ | ⟨g, cap, cur, e, hg, hh, _⟩
    · simp only [Value.slice.injEq] at e
      rw [e.1] at hx
      cases hx
    · simp only [Value.slice.injEq] at e
      rw [e.1] at hx
      cases hx
      exact ⟨hg, (Array.getElem?_eq_some_iff.1 hh).1⟩
  have hg' : ∀ x, ad = some x → x.block ≠ g' := by
    intro x hx e
    rcases hp with ⟨h1, h2⟩ | ⟨h1, h2⟩
    · have := (hvlt g' h1).2
      have := (had x hx).1
      omega
    · have := (had x hx).2
      omega
  refine ⟨⟨?_, ?_, xs ++ [.slice ad b.length c], ?_, ?_⟩, hc, hmv, fun x hx => (had x hx).1⟩
  · rintro i (hi | ⟨hi, x, hx, rfl⟩)
    · exact ⟨(h.lt i hi).1, Nat.lt_of_lt_of_le (h.lt i hi).2 hc.size⟩
    · exact ⟨by omega, Nat.lt_of_lt_of_le (had x hx).2 (Nat.le_trans s3 hc4.size)⟩
  · intro g hg
    obtain rfl : g' = g := by simpa [Value.ownBlock] using hg
    rintro (hi | ⟨hi, x, hx, e⟩)
    · rcases hmv with e | ⟨g2, e, hg2⟩
      · exact h.off _ e.symm hi
      · cases e
        have := (h.lt _ hi).2
        omega
    · exact hg' x hx e
  · rw [List.length_append]
    exact o4
  · intro i b' hb'
    by_cases hi : i < L.length
    · rw [List.getElem?_append_left hi] at hb'
      obtain ⟨ad', c2, a1, a2, a3, a4, a5⟩ := hxs.2 i b' hb'
      have hxl : xs.length = L.length := by have := hxs.1.1; simpa using this
      exact ⟨ad', c2, by rw [List.getElem?_append_left (by omega)]; exact a1, hc.sl a2 (fun x hx _ e => h.off _ e (a5 x hx)), a3, a4, fun x hx => .inl (a5 x hx)⟩
    · have hi2 : i = L.length := by
        have := (List.getElem?_eq_some_iff.1 hb').1
        rw [List.length_append] at this
        simp at this
        omega
      subst hi2
      simp at hb'
      subst hb'
      have hxl : xs.length = L.length := by have := hxs.1.1; simpa using this
      obtain ⟨_, q2, q3, _⟩ := owns_cap o
      refine ⟨ad, c, by rw [← hxl]; simp, ?_, q2, q3, fun x hx => .inr ⟨(had x hx).1, x, hx, rfl⟩⟩
      have s1 := sl_of_owns o hb
      refine hc4.sl (s1.later b3) (fun x hx _ e => ?_)
      have := (hvlt _ e).2
      have := (had x hx).1
      omega

/-- A packer in memory. -/
def PK (w : World) (base b : Nat) (s : Gs) : Prop := ∃ c p rb v D, Blk w b 98 (pkC v c) ∧ CS w c p rb 128 s.2 ∧ Ck w base v (s.1.map encC) D ∧ base ≤ b ∧ (∀ i, FC c p rb i → base ≤ i) ∧ ¬ FC c p rb b ∧ ¬ D b ∧ (∀ g, v.ownBlock = some g → g ≠ b ∧ ¬ FC c p rb g) ∧ ∀ i, D i → ¬ FC c p rb i
theorem PK.later {w w' : World} {base b : Nat} {s : Gs} (h : PK w base b s) (hb : Below w.heap.size w w') : PK w' base b s := by
  obtain ⟨c, p, rb, v, D, h1, h2, h3, h4⟩ := h
  exact ⟨c, p, rb, v, D, h1.later hb, h2.later hb, h3.later hb, h4⟩
theorem fc_moved {w : World} {c p : Nat} {rb rb' : Option Nat} (h : Moved w rb rb') {i : Nat} (hi : FC c p rb' i) : FC c p rb i ∨ w.heap.size ≤ i := by
  rcases hi with (rfl | hi) | rfl
  · exact .inl (.inl (.inl rfl))
  · rcases h with rfl | ⟨g, rfl, hg⟩
    · exact .inl (.inl (.inr hi))
    · cases hi; exact .inr hg
  · exact .inl (.inr rfl)
theorem packerP (w : World) (hlo : 2 ≤ w.heap.size) :
    Calls Tryd.prog 32 #[] w fun e w' => ∃ b, e = .returned (.pointer (some ⟨b, 0, none⟩)) ∧ PK w' w.heap.size b ([], []) ∧ Below w.heap.size w w' :=
  (newPackerP w hlo).mono fun e w' ⟨b, c, p, he, h1, h2, h3, h4, h5, hB, hC, hb⟩ => ⟨b, he, ⟨c, p, none, _, _, hB, hC, Ck.nil w' w.heap.size, h1, (by
    rintro i ((rfl | hi) | rfl)
    · exact h3
    · cases hi
    · exact h2), (by
    rintro ((rfl | hi) | rfl)
    · exact h5 rfl
    · cases hi
    · exact h4 rfl), fun h => h, (fun g hg => by cases hg), fun i hi => hi.elim⟩, hb⟩
/-- Where the open chunk takes it. -/
theorem takeYes {w : World} {base b : Nat} {s : Gs} {x : Sm} (h : PK w base b s) (hG : Gv w) (hx : OkS x) (hl : s.2.length ≤ 1000000) (hfit : ((encC (s.2 ++ [x])).length : Int) ≤ 128) (hbs : base ≤ w.heap.size) :
    Calls Tryd.prog 33 #[.pointer (some ⟨b, 0, none⟩), .agg #[.int .i64 x.t, .int .u64 (x.v : Int)]] w fun e w' => e = .returned (.bool true) ∧ PK w' base b (gS s x) ∧ Below base w w' := by
  obtain ⟨c, p, rb, v, D, h1, h2, h3, h4, h5, h6, h7, h8, h9⟩ := h
  refine (packYes w b c p rb v s.2 x h1 h2 hG hx hl h6 hfit).mono ?_
  rintro e w' ⟨rfl, rb', k1, k2, k3, k4⟩
  rw [gS_yes hfit]
  refine ⟨rfl, ⟨c, p, rb', v, D, k1, k2, h3.chg k3 h9 (fun g hg => (h8 g hg).2), h4, ?_, ?_, h7, ?_, ?_⟩, k3.below hbs h5⟩
  · intro i hi
    rcases fc_moved k4 hi with hi | hi
    · exact h5 i hi
    · omega
  · intro hi
    rcases fc_moved k4 hi with hi | hi
    · exact h6 hi
    · have := h1.lt; omega
  · intro g hg
    refine ⟨(h8 g hg).1, fun hi => ?_⟩
    rcases fc_moved k4 hi with hi | hi
    · exact (h8 g hg).2 hi
    · have := (h3.vlt g hg).2; omega
  · intro i hi hf
    rcases fc_moved k4 hf with hf | hf
    · exact h9 i hi hf
    · have := (h3.lt i hi).2; omega

end Go.Proofs.YtlppibigceeimaaDoor

/-
  Package series: the packer's take, where the open chunk is full; its chunks.
-/
namespace Go.Proofs.YtlppibigceeimaaDoor
open Go.RowKit
set_option linter.unusedVariables false
set_option linter.unusedSimpArgs false

theorem info70p : ∃ i, Tryd.prog.info? 70 = some i ∧ i.zero = some (.slice none 0 0) ∧ i.size = 1 ∧ i.bytes = 24 := by
  have h := info70
  cases e : Tryd.prog.info? 70 with
  | none => rw [e] at h; cases h
  | some i =>
    rw [e] at h
    simp only [Option.map_some, Option.some.injEq, Prod.mk.injEq] at h
    exact ⟨i, rfl, h.1, h.2.1, h.2.2⟩
/-- What the full chunk's region leaves. -/
def FulP (w3 : World) (base b c : Nat) (v : Value) (L : List (List Int)) (B : List Int) (D : Nat → Prop) (w6 : World) : Prop :=
  ∃ v' D', Blk w6 b 98 (pkC v' c) ∧ Ck w6 base v' (L ++ [B]) D' ∧ Chg (fun i => i = b ∨ v.ownBlock = some i) w3 w6 ∧ Moved w3 v.ownBlock v'.ownBlock ∧ ∀ i, D' i → D i ∨ w3.heap.size ≤ i
theorem Gv.bel {w w' : World} {B : Nat} (h : Gv w) (hb : Below B w w') (hB : 2 ≤ B) : Gv w' :=
  ⟨fun j hj => by rw [hb.cell (p := ⟨1, j, none⟩) (by show 1 < B; omega)]; exact h.wid j hj,
   fun j hj => by rw [hb.cell (p := ⟨0, j, none⟩) (by show 0 < B; omega)]; exact h.tab j hj⟩
/-- What take leaves where a chunk was full. -/
def PkN (w : World) (base b : Nat) (L : List (List Int)) (B : List Int) (s : Sm) (w' : World) : Prop :=
  ∃ c p rb v D, Blk w' b 98 (pkC v c) ∧ CS w' c p rb 128 [s] ∧ Ck w' base v (L ++ [B]) D ∧ (∀ i, FC c p rb i → base ≤ i) ∧ ¬ FC c p rb b ∧ ¬ D b ∧ (∀ g, v.ownBlock = some g → g ≠ b ∧ ¬ FC c p rb g) ∧ (∀ i, D i → ¬ FC c p rb i) ∧ Below base w w'
theorem KA.app2 {w : World} {b c p g : Nat} {rb : Option Nat} {full : Value} {l : List Sm} {s : Sm} (hB : Blk w b 98 (pkC full c)) (hC : CS w c p rb 128 l) (hG : Gv w) (hs : OkS s) (hl : l.length ≤ 1000000) (hF : ¬ FC c p rb b) (hg : ¬ FC c p rb g) {w1 : World} (h : KA w g s w1) :
    Calls Tryd.prog 44 #[.pointer (some ⟨c, 0, none⟩), .int .i64 s.t, .int .u64 (s.v : Int)] w1 fun e w2 => e = .returned (.bool (decide (((encC (l ++ [s])).length : Int) ≤ 128))) ∧ KB w b c p rb full (if ((encC (l ++ [s])).length : Int) ≤ 128 then l ++ [s] else l) g s w2 := by
  refine (cappendP w1 c p rb 128 l s (hC.later h.1) (hG.later h.1) hs hl).mono ?_
  rintro e w2 ⟨rfl, rb', k1, k2, k3⟩
  refine ⟨rfl, k2.blk (hB.later h.1) hF, k2.blk h.2 hg, rb', k1, (Chg.of_below (F := FC c p rb) h.1).trans k2 (fun _ _ e => e), ?_⟩
  rcases k3 with rfl | ⟨g', rfl, hg'⟩
  · exact .inl rfl
  · exact .inr ⟨g', rfl, Nat.le_trans h.1.size hg'⟩
set_option maxRecDepth 100000 in
set_option maxHeartbeats 8000000 in
theorem packNo (w : World) (base b c p n : Nat) (rb : Option Nat) (v : Value) (L : List (List Int)) (l : List Sm) (D : Nat → Prop) (s : Sm) (hB : Blk w b 98 (pkC v c)) (hC : CS w c p rb 128 l) (hG : Gv w) (hs : OkS s) (hl : l.length ≤ 1000000) (hF : ¬ FC c p rb b) (hK : Ck w base v L D) (hbs : base ≤ w.heap.size) (hv : ∀ g, v.ownBlock = some g → g ≠ b ∧ ¬ FC c p rb g) (hD : ∀ i, D i → ¬ FC c p rb i) (hb : base ≤ b) (hDb : ¬ D b) (hFb : ∀ i, FC c p rb i → base ≤ i) (hlo : 2 ≤ base) (hn : L.length = n) (hn9 : n ≤ 1000000000)
    (hfit : ¬ ((encC (l ++ [s])).length : Int) ≤ 128) :
    Calls Tryd.prog 33 #[.pointer (some ⟨b, 0, none⟩), .agg #[.int .i64 s.t, .int .u64 (s.v : Int)]] w fun e w' => e = .returned (.bool true) ∧ PkN w base b L (encC l) s w' := by
  have HA := hidden (fun (w1 : World) (h : KA w w.heap.size s w1) => by have h9 := KA.app hB hC hG hs hl hF (Nat.le_refl _) h; rw [if_neg hfit, decide_eq_false hfit] at h9; exact h9)
  have HB := hidden hB
  have hlt := hB.lt
  have HK := hidden hK
  have HV := hidden (And.intro hv (And.intro hD hbs))
  have HL := hidden hl
  have HN := hidden hn
  have HG := hidden hG
  have HS := hidden hs
  have HR := hidden (And.intro hb (And.intro hDb (And.intro hFb hlo)))
  clear hB hC hG hs hl hF hfit hK hv hD hbs hb hDb hFb hlo
  go_enter Tryd.func33, Tryd.ntmps33
  go_wp2_with (first
    | (refine wpList_box_blk rfl 35 (.tmp 1) rfl (smC s) rfl ?_; intro w2 B2 bl2 hz2; have HB2 := hidden B2; have BL2 := hidden bl2; clear B2 bl2))
  refine pk_r1 b c w.heap.size s.v s.t false (ph2 (KA w w.heap.size s) (KB w b c p rb v l w.heap.size s)) _ _ _ rfl rfl rfl (fun w1 ⟨j, hj, hI⟩ => by rcases (show j = 0 ∨ j = 1 by omega) with rfl | rfl; exact (HB.out.later hI.1).cell 1; exact hI.1.cell 1) (fun w1 ⟨j, hj, hI⟩ => by rcases (show j = 0 ∨ j = 1 by omega) with rfl | rfl; exact hI.2.cell 0; exact hI.2.1.cell 0) (fun w1 ⟨j, hj, hI⟩ => by rcases (show j = 0 ∨ j = 1 by omega) with rfl | rfl; exact hI.2.cell 1; exact hI.2.1.cell 1) ⟨BL2.out.drew, HB2.out.drew⟩ (fun w1 hI => HA.out w1 hI) ?_
  intro v5 v6 v7 v8 v9 v10 v11 v12 v13 w3 hI
  obtain ⟨k1, k2, rb3, k3, k4, k5⟩ : KB w b c p rb v l w.heap.size s w3 := hI
  have H3 := hidden (And.intro k1 (And.intro k2 (And.intro k3 (And.intro k4 k5))))
  simp only [Act.put, List.setIfInBounds_toArray, List.set_cons_succ, List.set_cons_zero, Bool.not_false]
  have C0 : Hid (∀ wx, Below w3.heap.size w3 wx → wx.cell? ⟨b, 0, none⟩ = some v) := hidden (fun wx hb => (k1.later hb).cell 0)
  have C1 : Hid (∀ wx, Below w3.heap.size w3 wx → wx.cell? ⟨b, 1, none⟩ = some (.pointer (some ⟨c, 0, none⟩))) := hidden (fun wx hb => (k1.later hb).cell 1)
  obtain ⟨m, hm⟩ : ∃ m, (encC l).length = m := ⟨_, rfl⟩
  have HBY : Hid (∀ wx, Below w3.heap.size w3 wx → Calls Tryd.prog 45 #[.pointer (some ⟨c, 0, none⟩)] wx fun e w' => ∃ v, e = .returned v ∧ ((∃ ad c', v = .slice ad m c') ∧ w'.ownsRow wx.heap.size 5 1 v m (cells8 (encC l)) ∧ Below wx.heap.size wx w')) := hidden (fun wx hb => by
    refine (cbytesP wx c p rb3 128 l (k3.later hb) HL.out).mono ?_
    rintro e w' ⟨ad, cc, rfl, o, bb⟩
    rw [hm] at o ⊢
    exact ⟨_, rfl, ⟨ad, cc, rfl⟩, o, bb⟩)
  have c0 := C0.out _ (Below.refl _ _)
  have c1 := C1.out _ (Below.refl _ _)
  have f0 := k1.frozen 0
  have hlt3 := k1.lt
  have HM := hidden hm
  have HEB : Hid (Byte (encC l)) := hidden (encC_byte l (by have := HL.out; omega))
  obtain ⟨i7, hi7, hz7, hs7, hb7⟩ := info70p
  have HK3 : Hid (Ck w3 base v L D) := hidden (HK.out.chg k4 HV.out.2.1 (fun g hg => (HV.out.1 g hg).2))
  have HBS : Hid (base ≤ w3.heap.size) := hidden (Nat.le_trans HV.out.2.2 k4.size)
  have HVB : Hid (¬ v.ownBlock = some b) := hidden (fun e => (HV.out.1 b e).1 rfl)
  obtain ⟨xs, hxs⟩ := HK3.out.row
  have OX2 := hidden hxs
  have OX : Hid (∀ wx, Below w3.heap.size w3 wx → wx.ownsRow base 70 1 v n xs) := hidden (fun wx hb => by rw [← HN.out]; exact owl hxs.1 hb)
  clear hm k1 k2 k3 k4 k5 hxs hn
  go_wp2_with fail
  go_region_law (first
    | (refine step_go (by rfl) 45 #[.pointer (some ⟨c, 0, none⟩)] (by simp [execOp, resolve, Act.eval, go_sem]) _ (HBY.out _ ((Below.refl _ _).drew)) ?_
       rintro v1 w4 ⟨⟨ad1, cp1, rfl⟩, o1, b1⟩
       have O1 := hidden o1
       have B1 : Hid (Below w3.heap.size w3 w4) := hidden (((Below.refl _ _).drew).trans b1)
       have d0 := C0.out _ B1.out
       have d1 := C1.out _ B1.out
       have d9 : b < w4.heap.size := Nat.lt_of_lt_of_le hlt3 B1.out.size
       clear o1 b1)
    | (refine step_push _ (by rfl) (.tmp 19) (.tmp 25) 42 (by rfl) 70 i7 (.slice none 0 0) 24 Tryd.underlying42 hi7 hz7 hs7 hb7 (by rfl) base v n xs (by rfl) (OX.out _ (B1.out.trans (((Below.refl _ _).alloc (Nat.le_refl _) _).mono B1.out.size))) ⟨w4.heap.size, 0, none⟩ (.slice ad1 m cp1) (by rfl) ((Blk.new w4 70 [.slice ad1 m cp1]).cell 0) (by rfl) (by unfold maxLen; omega) (by omega) (by have := B1.out.size; have := HBS.out; simp; omega) ?_
       intro g5 cp5 w5 o5 p5
       have P5 : Hid (Ck w5 base (.slice (some ⟨g5, 0, none⟩) (L.length + 1) cp5) (L ++ [encC l]) (fun i => D i ∨ (w3.heap.size ≤ i ∧ ∃ x, ad1 = some x ∧ x.block = i)) ∧ Chg (fun i => v.ownBlock = some i) w3 w5 ∧ Moved w3 v.ownBlock (some g5)) := hidden (by
         have q := Ck.push HK3.out HBS.out HM.out O1.out HEB.out B1.out ((Below.refl _ _).alloc (Nat.le_refl _) _) OX2.out (by rw [HN.out]; exact o5) p5
         exact ⟨q.1, q.2.1, q.2.2.1⟩)
       have B5 : Hid (Blk w5 b 98 (pkC v c)) := hidden (P5.out.2.1.blk H3.out.1 HVB.out)
       have e0 : w5.cell? ⟨b, 0, none⟩ = some v := B5.out.cell 0
       have e1 := B5.out.frozen 0
       clear o5 p5))
  all_goals
    obtain ⟨vs, hvs⟩ : ∃ vs, Value.slice (some ⟨g5, 0, none⟩) (n + 1) cp5 = vs := ⟨_, rfl⟩
    obtain ⟨w6, hw6⟩ : ∃ w6, w5.setCell ⟨b, 0, none⟩ vs = w6 := ⟨_, rfl⟩
    have F6 : Hid (Blk w6 b 98 (pkC vs c) ∧ Blk w6 w.heap.size 35 (smC s) ∧ Ck w6 base vs (L ++ [encC l]) (fun i => D i ∨ (w3.heap.size ≤ i ∧ ∃ x, ad1 = some x ∧ x.block = i)) ∧ (∀ g, vs.ownBlock = some g → g ≠ b) ∧ Below base w w6) := hidden (by
      have hwl : w.heap.size ≤ w3.heap.size := H3.out.2.2.2.1.size
      have hg5 : g5 ≠ b := by
        rcases P5.out.2.2 with e | ⟨g, e, hg⟩
        · exact (HV.out.1 g5 e.symm).1
        · cases e; omega
      have hown : vs.ownBlock = some g5 := by rw [← hvs]; rfl
      have hD' : ∀ i, (D i ∨ (w3.heap.size ≤ i ∧ ∃ x, ad1 = some x ∧ x.block = i)) → ¬ i = b := by
        rintro i (hi | ⟨hi, _⟩) e
        · subst e; exact HR.out.2.1 hi
        · omega
      have cs : Chg (fun i => i = b) w5 w6 := by rw [← hw6]; exact Chg.set ⟨b, 0, none⟩ vs w5
      have ck := P5.out.1
      rw [HN.out, hvs] at ck
      refine ⟨by rw [← hw6]; exact B5.out.set 0 vs, ?_, ck.chg cs hD' (fun g hg e => by rw [hown] at hg; cases hg; exact hg5 e), fun g hg => by rw [hown] at hg; cases hg; exact hg5, ?_⟩
      · refine cs.blk (P5.out.2.1.blk H3.out.2.1 (fun e => ?_)) (by omega)
        have := (HK.out.vlt _ e).2
        omega
      · have hbs := HV.out.2.2
        have b1 : Below base w w3 := H3.out.2.2.2.1.below hbs HR.out.2.2.1
        have b2 : Below base w3 w5 := P5.out.2.1.below HBS.out (fun i hi => (HK.out.vlt i hi).1)
        have b3 : Below base w5 w6 := cs.below (Nat.le_trans HBS.out P5.out.2.1.size) (fun i hi => by rw [hi]; exact HR.out.1)
        exact (b1.trans b2).trans b3)
    rw [hvs, hw6]
    have HLO6 : Hid (2 ≤ w6.heap.size) := hidden (Nat.le_trans (Nat.le_trans HR.out.2.2.2 HV.out.2.2) F6.out.2.2.2.2.size)
    clear e0 e1 d0 d1 d9 hw6 c0 c1 f0
    go_wp2_with fail
    refine (newP w6 128 (by unfold I64; omega) HLO6.out).mono ?_
    rintro e w7 ⟨c7, p7, rfl, hc7, hp7, hC7, bl7⟩
    have HC7 := hidden hC7
    have BL7 := hidden bl7
    have B7 : Hid (Blk w7 b 98 (pkC vs c)) := hidden (F6.out.1.later bl7)
    have e1 : w7.cell? ⟨b, 1, none⟩ = some (.pointer (some ⟨c, 0, none⟩)) := B7.out.cell 1
    have e2 := B7.out.frozen 1
    have hb6 := F6.out.1.lt
    clear hC7 bl7
    go_wp2_with fail
    obtain ⟨w8, hw8⟩ : ∃ w8, w7.setCell ⟨b, 1, none⟩ (.pointer (some ⟨c7, 0, none⟩)) = w8 := ⟨_, rfl⟩
    have F8 : Hid (Blk w8 b 98 (pkC vs c7) ∧ Blk w8 w.heap.size 35 (smC s) ∧ CS w8 c7 p7 none 128 [] ∧ Gv w8 ∧ ¬ FC c7 p7 none b ∧ ¬ FC c7 p7 none w.heap.size ∧ Chg (fun i => i = b) w6 w8) := hidden (by
      have cs : Chg (fun i => i = b) w7 w8 := by rw [← hw8]; exact Chg.set ⟨b, 1, none⟩ _ w7
      have hfc : ∀ i, FC c7 p7 none i → w6.heap.size ≤ i := by
        rintro i ((rfl | e) | rfl)
        · exact hp7
        · cases e
        · exact hc7
      have hws : w.heap.size < w6.heap.size := F6.out.2.1.lt
      refine ⟨by rw [← hw8]; exact B7.out.set 1 _, cs.blk (F6.out.2.1.later BL7.out) (by omega), HC7.out.chg cs (fun i hi e => by have := hfc i hi; omega), ?_, fun e => by have := hfc _ e; omega, fun e => by have := hfc _ e; omega, (Chg.of_below (F := fun i => i = b) BL7.out).trans cs (fun _ _ e => e)⟩
      have bb : Below base w w8 := (F6.out.2.2.2.2.trans (BL7.out.mono (Nat.le_trans HV.out.2.2 F6.out.2.2.2.2.size))).trans (cs.below (Nat.le_trans (Nat.le_trans HV.out.2.2 F6.out.2.2.2.2.size) BL7.out.size) (fun i hi => by rw [hi]; exact HR.out.1))
      exact HG.out.bel bb HR.out.2.2.2)
    rw [hw8]
    have hq1 : encC ([] ++ [s]) = encC [s] := rfl
    have h17 : ((encC ([] ++ [s])).length : Int) ≤ 128 := by rw [hq1, encC_one]; omega
    have HA8 := hidden (fun (w1 : World) (h : KA w8 w.heap.size s w1) => by have h9 := KA.app2 F8.out.1 F8.out.2.2.1 F8.out.2.2.2.1 HS.out (by simp) F8.out.2.2.2.2.1 F8.out.2.2.2.2.2.1 h; rw [if_pos h17, decide_eq_true h17] at h9; exact h9)
    clear h17 hq1 e1 e2 hw8
    refine pk_r4 b c7 w.heap.size s.v s.t true (ph2 (KA w8 w.heap.size s) (KB w8 b c7 p7 none vs ([] ++ [s]) w.heap.size s)) _ _ _ rfl rfl rfl (fun w1 ⟨j, hj, hI⟩ => by rcases (show j = 0 ∨ j = 1 by omega) with rfl | rfl; exact (F8.out.1.later hI.1).cell 1; exact hI.1.cell 1) (fun w1 ⟨j, hj, hI⟩ => by rcases (show j = 0 ∨ j = 1 by omega) with rfl | rfl; exact hI.2.cell 0; exact hI.2.1.cell 0) (fun w1 ⟨j, hj, hI⟩ => by rcases (show j = 0 ∨ j = 1 by omega) with rfl | rfl; exact hI.2.cell 1; exact hI.2.1.cell 1) ⟨(Below.refl _ _).drew, F8.out.2.1.drew⟩ (fun w1 hI => HA8.out w1 hI) ?_
    intro v33 v34 v35 v36 v37 v38 v39 v40 w9 hI
    obtain ⟨k1, k2, rb9, k3, k4, k5⟩ : KB w8 b c7 p7 none vs ([] ++ [s]) w.heap.size s w9 := hI
    have H9 := hidden (And.intro k1 (And.intro k3 (And.intro k4 k5)))
    clear k1 k2 k3 k4 k5
    simp only [Act.put, List.setIfInBounds_toArray, List.set_cons_succ, List.set_cons_zero]
    go_wp2_with fail
    go_ret
    refine ⟨rfl, ?_⟩
    obtain ⟨q1, q2, q3, q4⟩ := H9.out
    have hfc : ∀ i, FC c7 p7 rb9 i → w6.heap.size ≤ i := by
      intro i hi
      rcases fc_moved q4 hi with ((rfl | e) | rfl) | hi
      · exact hp7
      · cases e
      · exact hc7
      · have := F8.out.2.2.2.2.2.2.size
        omega
    have hfn : ∀ i, FC c7 p7 none i → w6.heap.size ≤ i := by
      rintro i ((rfl | e) | rfl)
      · exact hp7
      · cases e
      · exact hc7
    have ck6 := F6.out.2.2.1
    have ck8 : Ck w8 base vs (L ++ [encC l]) (fun i => D i ∨ (w3.heap.size ≤ i ∧ ∃ x, ad1 = some x ∧ x.block = i)) := ck6.chg F8.out.2.2.2.2.2.2 (by
        rintro i (hi | ⟨hi, _⟩) e
        · rw [e] at hi; exact HR.out.2.1 hi
        · omega) (fun g hg => F6.out.2.2.2.1 g hg)
    have hbs6 : base ≤ w6.heap.size := Nat.le_trans HV.out.2.2 F6.out.2.2.2.2.size
    have b68 : Below base w6 w8 := F8.out.2.2.2.2.2.2.below hbs6 (fun i hi => by rw [hi]; exact HR.out.1)
    refine ⟨c7, p7, rb9, vs, _, q1, q2, ck8.chg q3 (fun i hi e => ?_) (fun g hg e => ?_), fun i hi => by have := hfc i hi; omega, fun e => by have := hfc _ e; omega, ?_, fun g hg => ⟨F6.out.2.2.2.1 g hg, fun e => ?_⟩, fun i hi e => ?_, (F6.out.2.2.2.2.trans b68).trans (q3.below (Nat.le_trans hbs6 b68.size) (fun i hi => by have := hfn i hi; omega))⟩
    · have := hfn i e; have := (ck6.lt i hi).2; omega
    · have := hfn g e; have := (ck6.vlt g hg).2; omega
    · rintro (hi | ⟨hi, _⟩)
      · exact HR.out.2.1 hi
      · omega
    · have := hfc g e; have := (ck6.vlt g hg).2; omega
    · have := hfc i e; have := (ck6.lt i hi).2; omega

end Go.Proofs.YtlppibigceeimaaDoor
