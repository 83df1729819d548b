import Derived.Test.YtlppibigceeimaaDoorSeJ
/-
  Package series: the packer: take, whichever way it goes; its chunks.
-/
namespace Go.Proofs.YtlppibigceeimaaDoor
open Go.RowKit
set_option linter.unusedVariables false
set_option linter.unusedSimpArgs false

theorem pkTakeP {w : World} {base b : Nat} {s : Gs} {x : Sm} (h : PK w base b s) (hG : Gv w) (hx : OkS x) (hl : s.2.length ≤ 1000000) (hn : s.1.length ≤ 1000000000) (hlo : 2 ≤ base) (hbs : base ≤ w.heap.size) :
    Calls Tryd.prog 33 #[.pointer (some ⟨b, 0, none⟩), .agg #[.int .i64 x.t, .int .u64 (x.v : Int)]] w fun e w' => e = .returned (.bool true) ∧ PK w' base b (gS s x) ∧ Below base w w' := by
  by_cases hfit : ((encC (s.2 ++ [x])).length : Int) ≤ 128
  · exact takeYes h hG hx hl hfit hbs
  · obtain ⟨c, p, rb, v, D, h1, h2, h3, h4, h5, h6, h7, h8, h9⟩ := h
    refine (packNo w base b c p _ rb v (s.1.map encC) s.2 D x h1 h2 hG hx hl h6 h3 hbs h8 h9 h4 h7 h5 hlo rfl (by simpa using hn) hfit).mono ?_
    rintro e w' ⟨rfl, c', p', rb', v', D', k1, k2, k3, k4, k5, k6, k7, k8, k9⟩
    rw [gS_no hfit]
    refine ⟨rfl, ⟨c', p', rb', v', D', k1, k2, ?_, h4, k4, k5, k6, k7, k8⟩, k9⟩
    simpa using k3
/-- What chunks tells. -/
def CksP (w : World) (base : Nat) (L : List (List Int)) (e : Ending) (w' : World) : Prop := ∃ ad cc D, e = .returned (.slice ad L.length cc) ∧ Ck w' base (.slice ad L.length cc) L D ∧ Below base w w'
theorem Ck.form {D : Nat → Prop} {w : World} {base : Nat} {v : Value} {L : List (List Int)} (h : Ck w base v L D) : ∃ ad cc, v = .slice ad L.length cc := by
  obtain ⟨xs, h1, _⟩ := h.row
  exact owns_form h1
set_option maxRecDepth 100000 in
set_option maxHeartbeats 8000000 in
theorem packsSome (w : World) (base b c p n : Nat) (rb : Option Nat) (v : Value) (L : List (List Int)) (l : List Sm) (D : Nat → Prop) (hB : Blk w b 98 (pkC v c)) (hC : CS w c p rb 128 l) (hl : l.length ≤ 1000000) (hl0 : l ≠ []) (hK : Ck w base v L D) (hbs : base ≤ w.heap.size) (hn : L.length = n) (hn9 : n ≤ 1000000000) :
    Calls Tryd.prog 34 #[.pointer (some ⟨b, 0, none⟩)] w fun e w' => CksP w base (L ++ [encC l]) e w' := by
  have HK := hidden hK
  have HN := hidden hn
  have HBS := hidden hbs
  have HC := hidden hC
  have C0 : Hid (∀ wx, Below w.heap.size w wx → wx.cell? ⟨b, 0, none⟩ = some v) := hidden (fun wx hb => (hB.later hb).cell 0)
  have C1 : Hid (∀ wx, Below w.heap.size w wx → wx.cell? ⟨b, 1, none⟩ = some (.pointer (some ⟨c, 0, none⟩))) := hidden (fun wx hb => (hB.later hb).cell 1)
  obtain ⟨m, hm⟩ : ∃ m, (encC l).length = m := ⟨_, rfl⟩
  have HBY : Hid (∀ wx, Below w.heap.size w wx → Calls Tryd.prog 45 #[.pointer (some ⟨c, 0, none⟩)] wx fun e w' => ∃ v, e = .returned v ∧ ((∃ ad c', v = .slice ad m c') ∧ w'.ownsRow wx.heap.size 5 1 v m (cells8 (encC l)) ∧ Below wx.heap.size wx w')) := hidden (fun wx hb => by
    refine (cbytesP wx c p rb 128 l (hC.later hb) hl).mono ?_
    rintro e w' ⟨ad, cc, rfl, o, bb⟩
    rw [hm] at o ⊢
    exact ⟨_, rfl, ⟨ad, cc, rfl⟩, o, bb⟩)
  have HM := hidden hm
  have HEB : Hid (Byte (encC l)) := hidden (encC_byte l (by omega))
  obtain ⟨i7, hi7, hz7, hs7, hb7⟩ := info70p
  obtain ⟨xs, hxs⟩ := hK.row
  have OX2 := hidden hxs
  have OX : Hid (∀ wx, Below w.heap.size w wx → wx.ownsRow base 70 1 v n xs) := hidden (fun wx hb => by rw [← hn]; exact owl hxs.1 hb)
  have c0 := C0.out _ (Below.refl _ _)
  have c1 := C1.out _ (Below.refl _ _)
  have hlt3 := hB.lt
  obtain ⟨q, hq⟩ : ∃ q : Int, (l.length : Int) = q := ⟨_, rfl⟩
  have hq0 : ¬ q = 0 := by
    have := List.length_pos_iff.2 hl0
    omega
  have HQ := hidden hq
  clear hB hC hl hl0 hK hbs hn hm hxs hq
  go_enter Tryd.func34, Tryd.ntmps34
  go_wp2_with fail
  refine (clenP w c p rb 128 l HC.out).mono ?_
  rintro e w1 ⟨rfl, rfl⟩
  rw [HQ.out]
  go_wp2_with fail
  go_region_law (first
    | (refine step_go (by rfl) 45 #[.pointer (some ⟨c, 0, none⟩)] (by simp [execOp, resolve, Act.eval, go_sem]) _ (HBY.out _ ((Below.refl _ _).drew)) ?_
       rintro v1 w4 ⟨⟨ad1, cp1, rfl⟩, o1, b1⟩
       have O1 := hidden o1
       have B1 : Hid (Below w1.heap.size w1 w4) := hidden (((Below.refl _ _).drew).trans b1)
       have d0 := C0.out _ B1.out
       have d1 := C1.out _ B1.out
       have d9 : b < w4.heap.size := Nat.lt_of_lt_of_le hlt3 B1.out.size
       clear o1 b1)
    | (refine step_push _ (by rfl) (.tmp 16) (.tmp 22) 42 (by rfl) 70 i7 (.slice none 0 0) 24 Tryd.underlying42 hi7 hz7 hs7 hb7 (by rfl) base v n xs (by rfl) (OX.out _ (B1.out.trans (((Below.refl _ _).alloc (Nat.le_refl _) _).mono B1.out.size))) ⟨w4.heap.size, 0, none⟩ (.slice ad1 m cp1) (by rfl) ((Blk.new w4 70 [.slice ad1 m cp1]).cell 0) (by rfl) (by unfold maxLen; omega) (by omega) (by have := B1.out.size; have := HBS.out; simp; omega) ?_
       intro g5 cp5 w5 o5 p5
       have P5 : Hid (Ck w5 base (.slice (some ⟨g5, 0, none⟩) (L.length + 1) cp5) (L ++ [encC l]) (fun i => D i ∨ (w1.heap.size ≤ i ∧ ∃ x, ad1 = some x ∧ x.block = i)) ∧ Chg (fun i => v.ownBlock = some i) w1 w5) := hidden (by
         have q := Ck.push HK.out HBS.out HM.out O1.out HEB.out B1.out ((Below.refl _ _).alloc (Nat.le_refl _) _) OX2.out (by rw [HN.out]; exact o5) p5
         exact ⟨q.1, q.2.1⟩)
       clear o5 p5))
  all_goals
    go_wp2_with fail
    go_ret
    have e9 : (L ++ [encC l]).length = n + 1 := by rw [List.length_append, HN.out]; rfl
    refine ⟨some ⟨g5, 0, none⟩, cp5, (fun i => D i ∨ (w1.heap.size ≤ i ∧ ∃ x, ad1 = some x ∧ x.block = i)), by rw [e9]; rfl, ?_, P5.out.2.below HBS.out (fun i hi => (HK.out.vlt i hi).1)⟩
    have ck := P5.out.1
    rw [HN.out] at ck
    rw [e9]
    exact ck
theorem chunksP {w : World} {base b : Nat} {s : Gs} (h : PK w base b s) (hk : OkG s) (hl : s.2.length ≤ 1000000) (hn : s.1.length ≤ 1000000000) (hbs : base ≤ w.heap.size) :
    Calls Tryd.prog 34 #[.pointer (some ⟨b, 0, none⟩)] w fun e w' => CksP w base ((gO s).map encC) e w' := by
  obtain ⟨c, p, rb, v, D, h1, h2, h3, h4, h5, h6, h7, h8, h9⟩ := h
  by_cases h0 : s.2 = []
  · have e : gO s = s.1 := by unfold gO; rw [if_pos h0]
    rw [e]
    rw [h0] at h2
    refine (packsNone w b c p rb v 128 h1 h2).mono ?_
    rintro e w' ⟨rfl, rfl⟩
    obtain ⟨ad, cc, rfl⟩ := h3.form
    exact ⟨ad, cc, D, rfl, h3, Below.refl _ _⟩
  · rw [gO_last h0, List.map_append]
    exact packsSome w base b c p _ rb v (s.1.map encC) s.2 D h1 h2 hl h0 h3 hbs rfl (by simpa using hn)
/-- The packer as a taker. -/
def pkStep (s : Gs) (x : Sm) : Bool × Gs := (true, gS s x)
theorem pk_foldE : ∀ (l : List Sm) (s : Gs), foldE pkStep l s = (true, l.foldl gS s)
  | [], s => rfl
  | x :: l, s => by
    show (if (pkStep s x).1 then foldE pkStep l (pkStep s x).2 else _) = _
    rw [if_pos (show (pkStep s x).1 = true from rfl)]
    exact pk_foldE l (gS s x)
theorem fold_len : ∀ (l : List Sm) (s : Gs), (l.foldl gS s).1.length ≤ s.1.length + l.length
  | [], s => by simp
  | x :: l, s => by
    have h := fold_len l (gS s x)
    have h2 : (gS s x).1.length ≤ s.1.length + 1 := by unfold gS; split <;> simp
    simp only [List.foldl_cons, List.length_cons]
    omega
/-- each(l, p.take). -/
theorem eachPack (w0 w : World) (base b : Nat) (s : Gs) (ad : Option Addr) (N c : Nat) (l : List Sm) (h : PK w base b s) (hk : OkG s) (hG : Gv w) (hL : Ss w0 ad l) (hb0 : Below base w0 w) (hbase : w0.heap.size ≤ base) (hN : l.length = N) (hN9 : N ≤ 1000000) (hn : s.1.length ≤ 1000000) (hlo : 2 ≤ base) (hbs : base ≤ w.heap.size) :
    Calls Tryd.prog 27 #[.slice ad N c, .func (.func 33) #[.pointer (some ⟨b, 0, none⟩)] #[]] w fun e w' => e = .returned (.bool true) ∧ PK w' base b (l.foldl gS s) ∧ Below base w w' := by
  have q := eachP 33 (.pointer (some ⟨b, 0, none⟩)) pkStep (fun s' wx => PK wx base b s' ∧ Below base w wx) ad N c l s w (fun a w => by kernel_rfl) hN (by omega) hL.sz ⟨h, Below.refl _ _⟩
    (fun s' wx wy ⟨h1, h2⟩ hb => ⟨h1.later hb, h2.trans (hb.mono (Nat.le_trans hbs h2.size))⟩)
    (fun s' wx ⟨h1, h2⟩ => by
      refine ⟨hL.sz, fun h0 => ?_⟩
      obtain ⟨b', off, e, hlt, hc⟩ := hL.at' h0
      refine ⟨b', off, e, by have := h2.size; omega, fun i x hx => ?_⟩
      have hbb := hb0.trans h2
      rw [hbb.cell (p := ⟨b', off + i * 2, none⟩) (by show b' < base; omega), hbb.cell (p := ⟨b', off + i * 2 + 1, none⟩) (by show b' < base; omega)]
      exact hc i x hx)
    (fun i x wx hx hox ⟨h1, h2⟩ => by
      have hi := (List.getElem?_eq_some_iff.1 hx).1
      rw [pk_foldE] at h1 ⊢
      have h1' : PK wx base b ((l.take i).foldl gS s) := h1
      have hok : OkG ((l.take i).foldl gS s) := hk.fold (fun y hy => hL.sz y (List.mem_of_mem_take hy))
      refine (pkTakeP (s := (l.take i).foldl gS s) h1' (hG.bel h2 hlo) hox (by have := encC_few hok.fit2; omega) (by have := fold_len (l.take i) s; rw [List.length_take] at this; omega) hlo (Nat.le_trans hbs h2.size)).mono ?_
      rintro e w' ⟨rfl, k1, k2⟩
      exact ⟨rfl, k1, h2.trans k2⟩)
  refine q.mono ?_
  rw [pk_foldE]
  rintro e w' ⟨rfl, h1, h2⟩
  exact ⟨rfl, h1, h2⟩

end Go.Proofs.YtlppibigceeimaaDoor

/-
  Package series: a store in memory; New; openOf.
-/
namespace Go.Proofs.YtlppibigceeimaaDoor
open Go.RowKit
set_option linter.unusedVariables false
set_option linter.unusedSimpArgs false

/-- Slots as cells. -/
def cI (l : List Nat) : List Value := l.map fun (i : Nat) => Value.int .i64 (i : Int)
theorem cI_len (l : List Nat) : (cI l).length = l.length := by simp [cI]
structure Stm (w : World) (S p T : Nat) (sh : ByteArray → Option Nat) (R : ByteArray → Int → Value) (Z : ByteArray → List En) : Prop where
  blk : Blk w S 58 [.pointer (some ⟨p, 0, none⟩), .map (some T)]
  top : ∃ lo : List (ByteArray × Value), Ml Value.string w T lo ∧ ∀ o, al lo o = (sh o).map fun sb => Value.map (some sb)
  set : ∀ o sb, sh o = some sb → Ml K.K3 w sb ((Z o).map fun e => (e.1, R o e.1)) ∧ sb ≠ T
  non : ∀ o, sh o = none → Z o = []
  inj : ∀ o o' sb, sh o = some sb → sh o' = some sb → o = o'
  row : ∀ o e, e ∈ Z o → w.ownsRow 0 3 1 (R o e.1) e.2.1.length (cI e.2.1)
  rin : ∀ o e o' e' b, e ∈ Z o → e' ∈ Z o' → (R o e.1).ownBlock = some b → (R o' e'.1).ownBlock = some b → o = o' ∧ e.1 = e'.1
/-- Where it lies. -/
def SFp (T : Nat) (sh : ByteArray → Option Nat) (R : ByteArray → Int → Value) (Z : ByteArray → List En) (i : Nat) : Prop := i = T ∨ (∃ o, sh o = some i) ∨ ∃ o e, e ∈ Z o ∧ (R o e.1).ownBlock = some i
theorem Stm.chg {F : Nat → Prop} {w w' : World} {S p T : Nat} {sh : ByteArray → Option Nat} {R : ByteArray → Int → Value} {Z : ByteArray → List En} (h : Stm w S p T sh R Z) (hc : Chg F w w') (hS : ¬ F S) (hF : ∀ i, SFp T sh R Z i → ¬ F i) : Stm w' S p T sh R Z := by
  obtain ⟨lo, l1, l2⟩ := h.top
  exact ⟨hc.blk h.blk hS, ⟨lo, l1.chg hc (hF T (.inl rfl)), l2⟩, fun o sb e => ⟨(h.set o sb e).1.chg hc (hF sb (.inr (.inl ⟨o, e⟩))), (h.set o sb e).2⟩, h.non, h.inj, fun o e he => hc.owns (h.row o e he) (fun g hg => hF g (.inr (.inr ⟨o, e, he, hg⟩))), h.rin⟩
theorem Stm.later {w w' : World} {S p T : Nat} {sh : ByteArray → Option Nat} {R : ByteArray → Int → Value} {Z : ByteArray → List En} (h : Stm w S p T sh R Z) (hb : Below w.heap.size w w') : Stm w' S p T sh R Z := h.chg (Chg.of_below (F := fun _ => False) hb) (fun h => h) (fun _ _ h => h)
theorem Stm.tag {w : World} {S p T : Nat} {sh : ByteArray → Option Nat} {R : ByteArray → Int → Value} {Z : ByteArray → List En} (h : Stm w S p T sh R Z) {i : Nat} (hi : SFp T sh R Z i) : i < w.heap.size ∧ ∀ t, Tg w i t → t = 3 := by
  rcases hi with rfl | ⟨o, e⟩ | ⟨o, e, he, hg⟩
  · obtain ⟨lo, l1, l2⟩ := h.top
    exact ⟨l1.lt, fun t ht => absurd ht (l1.tg t)⟩
  · exact ⟨(h.set o i e).1.lt, fun t ht => absurd ht ((h.set o i e).1.tg t)⟩
  · exact ⟨owns_lt (h.row o e he) i hg, fun t ht => (ht.one (owns_tg (h.row o e he) i hg))⟩
/-- A store and its pool, and just the blocks that its calls may change. -/
def SQ (F : Nat → Prop) (w : World) (S p n : Nat) (st : K.Sx) (Z : ByteArray → List En) : Prop := ∃ T sh R G, Stm w S p T sh R Z ∧ K.PQ G w p n st ∧ SZ n st Z ∧ (∀ i, G i → ¬ SFp T sh R Z i) ∧ ∀ i, F i ↔ (SFp T sh R Z i ∨ G i)
theorem SQ.tag {F : Nat → Prop} {w : World} {S p n : Nat} {st : K.Sx} {Z : ByteArray → List En} (h : SQ F w S p n st Z) {i : Nat} (hi : F i) : i < w.heap.size ∧ ∀ t, Tg w i t → t = 3 ∨ t = 33 := by
  obtain ⟨T, sh, R, G, h1, h2, h3, h4, h5⟩ := h
  rcases (h5 i).1 hi with hi | hi
  · exact ⟨(h1.tag hi).1, fun t ht => .inl ((h1.tag hi).2 t ht)⟩
  · exact ⟨h2.lt hi, fun t ht => .inr (h2.tag hi t ht)⟩
theorem SQ.pool {F : Nat → Prop} {w : World} {S p n : Nat} {st : K.Sx} {Z : ByteArray → List En} (h : SQ F w S p n st Z) : ∃ G, K.PQ G w p n st ∧ (∀ i, G i → F i) := by
  obtain ⟨T, sh, R, G, h1, h2, h3, h4, h5⟩ := h
  exact ⟨G, h2, fun i hi => (h5 i).2 (.inr hi)⟩
theorem SQ.sz {F : Nat → Prop} {w : World} {S p n : Nat} {st : K.Sx} {Z : ByteArray → List En} (h : SQ F w S p n st Z) : SZ n st Z := by
  obtain ⟨T, sh, R, G, h1, h2, h3, h4, h5⟩ := h
  exact h3
theorem SQ.blk {F : Nat → Prop} {w : World} {S p n : Nat} {st : K.Sx} {Z : ByteArray → List En} (h : SQ F w S p n st Z) : Tg w S 58 ∧ Tg w p 55 := by
  obtain ⟨T, sh, R, G, h1, h2, h3, h4, h5⟩ := h
  exact ⟨h1.blk.tg, h2.own⟩
theorem SQ.chg {F H : Nat → Prop} {w w' : World} {S p n : Nat} {st : K.Sx} {Z : ByteArray → List En} (h : SQ F w S p n st Z) (hc : Chg H w w') (hS : ¬ H S) (hp : ¬ H p) (hF : ∀ i, F i → ¬ H i) : SQ F w' S p n st Z := by
  obtain ⟨T, sh, R, G, h1, h2, h3, h4, h5⟩ := h
  exact ⟨T, sh, R, G, h1.chg hc hS (fun i hi => hF i ((h5 i).2 (.inl hi))), h2.chg hc (fun i hi => hF i ((h5 i).2 (.inr hi))) hp, h3, h4, h5⟩
theorem SQ.later {F : Nat → Prop} {w w' : World} {S p n : Nat} {st : K.Sx} {Z : ByteArray → List En} (h : SQ F w S p n st Z) (hb : Below w.heap.size w w') : SQ F w' S p n st Z := h.chg (Chg.of_below (F := fun _ => False) hb) (fun h => h) (fun h => h) (fun _ _ h => h)
theorem built58s (p T : Nat) : Tryd.prog.built 58 [(0, .pointer (some ⟨p, 0, none⟩)), (1, .map (some T))] = some #[.pointer (some ⟨p, 0, none⟩), .map (some T)] := by kernel_rfl
set_option maxRecDepth 100000 in
set_option maxHeartbeats 4000000 in
theorem storeP (G : Nat → Prop) (w : World) (p n : Nat) (hP : K.PQ G w p n (fun _ => none)) :
    Calls Tryd.prog 7 #[.pointer (some ⟨p, 0, none⟩)] w fun e w' => ∃ S F, e = .returned (.pointer (some ⟨S, 0, none⟩)) ∧ SQ F w' S p n (fun _ => none) (fun _ => []) ∧ Below w.heap.size w w' ∧ w.heap.size ≤ S ∧ ∀ i, F i → G i ∨ w.heap.size ≤ i := by
  have hmm := @run_makeMap Tryd.prog
  have HP := hidden hP
  clear hP
  go_enter Tryd.func7, Tryd.ntmps7
  go_wp2_with (first
    | (refine wpList_build_to rfl 58 #[(0, .tmp 3), (1, .tmp 4)] rfl [(0, .pointer (some ⟨p, 0, none⟩)), (1, .map (some w.heap.size))] [.pointer (some ⟨p, 0, none⟩), .map (some w.heap.size)].toArray rfl (built58s _ _) ?_)
    | (refine wpList_box_blk rfl 58 (.tmp 5) rfl [.pointer (some ⟨p, 0, none⟩), .map (some w.heap.size)] rfl ?_; intro w2 B2 bl2 hz2))
  go_ret
  have hsa : (w.alloc (.map #[] 0)).heap.size = w.heap.size + 1 := by simp
  rw [hsa] at B2
  have m1 : Ml Value.string (w.alloc (.map #[] 0)) w.heap.size [] := Ml.made Value.string w
  have bl1 : Below w.heap.size w (w.alloc (.map #[] 0)) := (Below.refl _ _).alloc (Nat.le_refl _) _
  have bl : Below w.heap.size w w2 := bl1.trans (bl2.mono bl1.size)
  refine ⟨_, fun i => SFp w.heap.size (fun _ => none) (fun _ _ => .slice none 0 0) (fun _ => []) i ∨ G i, rfl, ⟨w.heap.size, fun _ => none, fun _ _ => .slice none 0 0, G, ⟨B2, ⟨[], m1.later bl2, fun _ => rfl⟩, fun o sb e => (by cases e), fun _ _ => rfl, fun o o' sb e => (by cases e), fun o e he => (by simp at he), fun o e o' e' b he => (by simp at he)⟩, HP.out.later bl, ⟨fun _ => List.Pairwise.nil, fun o e he => (by simp at he), fun _ => (by simp), fun o i => (by simp), fun i o d e => (by cases e)⟩, ?_, fun i => Iff.rfl⟩, bl, by omega, ?_⟩
  · rintro i hi (rfl | ⟨o, e⟩ | ⟨o, e, he, _⟩)
    · have := HP.out.lt hi; omega
    · cases e
    · simp at he
  · rintro i ((rfl | ⟨o, e⟩ | ⟨o, e, he, _⟩) | hi)
    · exact .inr (Nat.le_refl _)
    · cases e
    · simp at he
    · exact .inl hi

/-- The slots of a series, as a value. -/
def slV (R : ByteArray → Int → Value) (Z : ByteArray → List En) (o : ByteArray) (k : Int) : Value := (al ((Z o).map fun e => (e.1, R o e.1)) k).getD (.slice none 0 0)
theorem slV_in {w : World} {S p T : Nat} {sh : ByteArray → Option Nat} {R : ByteArray → Int → Value} {Z : ByteArray → List En} (h : Stm w S p T sh R Z) {o : ByteArray} {k : Int} {x : List Nat × List Sm} (hkey : (Z o).Pairwise (fun p q => ¬ p.1 = q.1)) (hm : (k, x) ∈ Z o) : slV R Z o k = R o k := by
  unfold slV
  have : ((Z o).map fun e => (e.1, R o e.1)).Pairwise (fun p q => ¬ p.1 = q.1) := by
    rw [List.pairwise_map]
    exact hkey
  rw [al_of_mem this (List.mem_map.2 ⟨(k, x), hm, rfl⟩)]
  rfl
theorem slV_out {R : ByteArray → Int → Value} {Z : ByteArray → List En} {o : ByteArray} {k : Int} (hm : ∀ p ∈ Z o, ¬ p.1 = k) : slV R Z o k = .slice none 0 0 := by
  unfold slV
  rw [al_none (by
    intro q hq
    obtain ⟨e, he, rfl⟩ := List.mem_map.1 hq
    exact hm e he)]
  rfl
theorem Stm.slots {w : World} {S p T : Nat} {sh : ByteArray → Option Nat} {R : ByteArray → Int → Value} {Z : ByteArray → List En} (h : Stm w S p T sh R Z) (o : ByteArray) (k : Int) (hkey : (Z o).Pairwise (fun p q => ¬ p.1 = q.1)) : w.ownsRow 0 3 1 (slV R Z o k) (enL (Z o) k).1.length (cI (enL (Z o) k).1) := by
  rcases enL_mem (l := Z o) (k := k) with hm | ⟨he, hm⟩
  · rw [slV_in h hkey hm]
    exact h.row o _ hm
  · rw [slV_out hm, he]
    exact (World.ownsRow_nil w 0 3 1 : w.ownsRow 0 3 1 (.slice none 0 0) 0 [])
theorem zero68 (w : World) : (zeroValue 68).run Tryd.prog w = .ok (.map none) w := by kernel_rfl
theorem zero23 (w : World) : (zeroValue 23).run Tryd.prog w = .ok (.slice none 0 0) w := by kernel_rfl
theorem Stm.lookT {w : World} {S p T : Nat} {sh : ByteArray → Option Nat} {R : ByteArray → Int → Value} {Z : ByteArray → List En} (h : Stm w S p T sh R Z) (o : ByteArray) : (Instr.lookup 56 (.map (some T)) (.string o) false).run Tryd.prog w = .ok (.map (sh o)) w := by
  obtain ⟨lo, h1, h2⟩ := h.top
  have := h1.look K.kyS Tryd.underlying56 (zero68 w) o false
  rw [h2 o] at this
  rw [this]
  cases sh o <;> rfl
theorem Stm.lookS {w : World} {S p T : Nat} {sh : ByteArray → Option Nat} {R : ByteArray → Int → Value} {Z : ByteArray → List En} (h : Stm w S p T sh R Z) (o : ByteArray) (k : Int) : (Instr.lookup 68 (.map (sh o)) (.int .i64 k) false).run Tryd.prog w = .ok (slV R Z o k) w := by
  cases e : sh o with
  | none =>
    have := ml_nil_look (w := w) K.kyI Tryd.underlying68 (zero23 w) k false
    have e2 : slV R Z o k = .slice none 0 0 := by unfold slV; rw [h.non o e]; rfl
    rw [e2]
    exact this
  | some sb => exact (h.set o sb e).1.look K.kyI Tryd.underlying68 (zero23 w) k false
theorem owns_cell {w : World} {base : Nat} {e : TypeId} {size g n cap : Nat} {xs : List Value} (hO : w.ownsRow base e size (.slice (some ⟨g, 0, none⟩) n cap) n xs) (q : Nat) (x : Value) (hq : xs[q]? = some x) : w.cell? ⟨g, q, none⟩ = some x := by
  have hl := (List.getElem?_eq_some_iff.1 hq).1
  have := hO.cellAt q (by have := hO.1; omega)
  rw [this]
  exact hq
theorem owns_ad {w : World} {base : Nat} {e : TypeId} {ad : Option Addr} {n c : Nat} {xs : List Value} (h : w.ownsRow base e 1 (.slice ad n c) n xs) (hp : 0 < n) : ∃ g, ad = some ⟨g, 0, none⟩ ∧ base ≤ g := by
  rcases h.2 with ⟨_, h0⟩ | ⟨g, c', cur, hv, hb, _⟩
  · omega
  · simp only [Value.slice.injEq] at hv
    exact ⟨g, hv.1, hb⟩

end Go.Proofs.YtlppibigceeimaaDoor
