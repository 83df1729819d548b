import Derived.Test.YtcgjmioncbihhaaDoorDcD
import Derived.Test.YtcgjmioncbihhaaDoorLwA
import Derived.BigQuiet
/-
  The document's own chunk: New, Append, Len, Bytes.
-/
namespace Go.Proofs.YtcgjmioncbihhaaDoor
open Go.RowKit
set_option linter.unusedVariables false
set_option linter.unusedSimpArgs false

/-- The document's chunk in memory. -/
structure XC (w : World) (x : Nat) (rb : Option Nat) (most : Int) (l : List Sm) : Prop where
  blk : ∃ ad c, Blk w x 63 [.slice ad l.length c, .int .i64 most] ∧ w.ownsRow 0 32 2 (.slice ad l.length c) l.length (cS l) ∧ (Value.slice ad l.length c).ownBlock = rb
  ok : ∀ y ∈ l, OkS y
  most : I64 most
/-- Where it lies. -/
def FX (x : Nat) (rb : Option Nat) : Nat → Prop := fun i => i = x ∨ rb = some i
theorem XC.chg {F : Nat → Prop} {w w' : World} {x : Nat} {rb : Option Nat} {most : Int} {l : List Sm} (h : XC w x rb most l) (hc : Chg F w w') (hF : ∀ i, FX x rb i → ¬ F i) : XC w' x rb most l := by
  obtain ⟨ad, c, h1, h2, h3⟩ := h.blk
  exact ⟨⟨ad, c, hc.blk h1 (hF x (.inl rfl)), hc.owns h2 (fun g hg => hF g (.inr (by rw [← h3]; exact hg))), h3⟩, h.ok, h.most⟩
theorem XC.later {w w' : World} {x : Nat} {rb : Option Nat} {most : Int} {l : List Sm} (h : XC w x rb most l) (hb : Below w.heap.size w w') : XC w' x rb most l := h.chg (Chg.of_below (F := fun _ => False) hb) (fun _ _ e => e)
theorem built63 (most : Int) : Tryd.prog.built 63 [(1, .int .i64 most)] = some #[.slice none 0 0, .int .i64 most] := by kernel_rfl

set_option maxRecDepth 100000 in
theorem newD (w : World) (most : Int) (hm : I64 most) :
    Calls Tryd.prog 19 #[.int .i64 most] w fun e w' => ∃ x, e = .returned (.pointer (some ⟨x, 0, none⟩)) ∧ w.heap.size ≤ x ∧ XC w' x none most [] ∧ Below w.heap.size w w' := by
  have hmb := hm
  unfold I64 at hmb
  go_enter Tryd.func19, Tryd.ntmps19
  go_wp2_with (first
    | (refine wpList_build_to rfl 63 #[(1, .tmp 3)] rfl [(1, .int .i64 most)] #[.slice none 0 0, .int .i64 most] rfl (built63 _) ?_)
    | (refine wpList_box_blk rfl 63 (.tmp 4) rfl [.slice none 0 0, .int .i64 most] rfl ?_; intro w2 B2 bl2 hz2))
  go_ret
  exact ⟨_, rfl, Nat.le_refl _, ⟨⟨none, 0, B2, World.ownsRow_nil _ _ _ _, rfl⟩, by simp, hm⟩, bl2⟩

set_option maxRecDepth 100000 in
theorem lenD (w : World) (x : Nat) (rb : Option Nat) (most : Int) (l : List Sm) (h : XC w x rb most l) :
    Calls Tryd.prog 11 #[.pointer (some ⟨x, 0, none⟩)] w fun e w' => e = .returned (.int .i64 (l.length : Int)) ∧ w' = w := by
  obtain ⟨ad, c, h1, _⟩ := h.blk
  have c0 := h1.cell 0
  simp at c0
  clear h h1
  go_enter Tryd.func11, Tryd.ntmps11
  go_wp2
  go_ret
  exact ⟨rfl, rfl⟩

set_option maxRecDepth 100000 in
theorem bytesD (w : World) (x : Nat) (rb : Option Nat) (most : Int) (l : List Sm) (h : XC w x rb most l) (hl : l.length ≤ 1000000) :
    Calls Tryd.prog 26 #[.pointer (some ⟨x, 0, none⟩)] w (BtP w (encC l)) := by
  obtain ⟨ad, c, h1, h2, h3⟩ := h.blk
  have c0 := h1.cell 0
  simp at c0
  have HE := hidden (encodeD w ad l.length c l (ss_of_owns h2 h.ok) rfl hl)
  clear h h1 h2 h3
  go_enter Tryd.func26, Tryd.ntmps26
  go_wp2_with fail
  refine HE.out.mono ?_
  rintro e w1 ⟨ad1, c1, rfl, o1, b1⟩
  go_wp2
  go_ret
  exact ⟨_, _, rfl, o1, b1⟩

set_option maxRecDepth 100000 in
set_option maxHeartbeats 8000000 in
theorem appendD (w : World) (x : Nat) (rb : Option Nat) (most : Int) (l : List Sm) (s : Sm) (h : XC w x rb most l) (hs : OkS s) (hl : l.length ≤ 100000) :
    Calls Tryd.prog 9 #[.pointer (some ⟨x, 0, none⟩), .int .i64 s.t, .int .u64 (s.v : Int)] w fun e w' => e = .returned (.bool (decide (((encC (l ++ [s])).length : Int) ≤ most))) ∧ ∃ rb', XC w' x rb' most (if ((encC (l ++ [s])).length : Int) ≤ most then l ++ [s] else l) ∧ Chg (fun i => i = x) w w' ∧ Moved w rb rb' := by
  obtain ⟨ad, c, h1, h2, h3⟩ := h.blk
  have c0 := h1.cell 0
  have c1 := h1.cell 1
  simp at c0 c1
  have hst := hs.t
  have hsv := hs.v
  have hmb := h.most
  unfold I64 at hst hmb
  have HX := hidden h
  have HS := hidden (ss_of_owns h2 h.ok)
  have HNO : Hid (ad = none → l = [] ∧ c = 0) := hidden (fun e => by
    obtain ⟨ad', c', e1, e2, _⟩ := owns_formS h2
    injection e1 with e3 e4 e5
    subst e3 e5
    exact ⟨List.eq_nil_of_length_eq_zero (e2 e).1, (e2 e).2⟩)
  have HB := hidden h1
  have HOK : Hid (∀ y ∈ l ++ [s], OkS y) := hidden (fun y hy => by
    rcases List.mem_append.1 hy with hy | hy
    · exact h.ok y hy
    · rw [List.mem_singleton.1 hy]; exact hs)
  obtain ⟨N, hN⟩ : ∃ N, (encC (l ++ [s])).length = N := ⟨_, rfl⟩
  have hNb : N ≤ 20 * (l.length + 1) := by have := encC_le HOK.out; rw [hN] at this; simpa using this
  rw [hN]
  have HNN := hidden hN
  obtain ⟨n, hn⟩ : ∃ n, l.length = n := ⟨_, rfl⟩
  rw [hn] at c0 hl hNb
  have HLN := hidden hn
  clear h h1 h2 hs hN hn
  go_enter Tryd.func9, Tryd.ntmps9
  go_wp2_with (first
    | (refine wpList_appS _ rfl (.tmp 8) (.tmp 12) rfl w.heap.size (.slice none 0 0) 0 [] rfl (World.ownsRow_nil _ _ _ _) ad n c l rfl HS.out HLN.out HNO.out n (by omega) (by omega) (Nat.le_refl _) ?_
       intro a1 cc1 w1 o1 b1
       have O1 := hidden o1
       have B1 := hidden b1
       clear o1 b1)
    | (refine wpList_build_to rfl 32 #[(0, .tmp 15), (1, .tmp 16)] rfl [(0, .int .i64 s.t), (1, .int .u64 (s.v : Int))] #[.int .i64 s.t, .int .u64 (s.v : Int)] rfl (built32 _ _ _ _ rfl rfl) ?_)
    | (refine wpList_pushM _ rfl (.tmp 14) (.tmp 18) rfl w.heap.size (.slice a1 n cc1) n ([] ++ l) rfl w1 O1.out s rfl rfl (by omega) B1.out.size ?_
       intro g2 cc2 w2 o2 b2 _
       have O2 : Hid (w2.ownsRow w.heap.size 32 2 (.slice (some ⟨g2, 0, none⟩) (n + 1) cc2) (n + 1) (cS (l ++ [s]))) := hidden o2
       have B2 := hidden (B1.out.trans b2)
       clear o2 b2))
  have HEN := hidden (fun wy (hb : Below w2.heap.size w2 wy) => encodeD wy (some ⟨g2, 0, none⟩) (n + 1) cc2 (l ++ [s]) (ss_of_owns (owl O2.out hb) HOK.out) (by rw [List.length_append, HLN.out]; rfl) (by omega))
  unfold BtP at HEN
  rw [HNN.out] at HEN
  have MO : Hid (∀ wy, Below w.heap.size w wy → wy.cell? ⟨x, 1, none⟩ = some (.int .i64 most)) := hidden (fun wy hb => by
    have := (HB.out.later hb).cell 1
    simpa using this)
  have e1 := MO.out w2 B2.out
  have hbl2 := B2.out.size
  have hxl := HB.out.lt
  clear c1
  by_cases hf : (N : Int) ≤ most
  · have hnf : ¬ most < (N : Int) := by omega
    have HFF := hidden hf
    clear hf
    go_region_with (refine (HEN.out _ ((Below.refl _ _).drew)).mono ?_; rintro e w3 ⟨ad3, c3, rfl, _, b3⟩; have B3 : Hid (Below w2.heap.size w2 w3) := hidden (((Below.refl _ _).drew).trans b3); have e3 := MO.out w3 (B2.out.trans (B3.out.mono hbl2)); clear b3)
    all_goals
      have B4 := hidden (HB.out.later (B2.out.trans (B3.out.mono hbl2)))
      have c3 := B4.out.cell 0
      have f3 := B4.out.frozen 0
      simp at c3
      go_wp2_with fail
      first | go_region | skip
      go_wp2
      go_ret
      have B5 := B4.out.set 0 (.slice (some ⟨g2, 0, none⟩) (n + 1) cc2)
      have C5 := chg_set w3 x 0 (.slice (some ⟨g2, 0, none⟩) (n + 1) cc2)
      have hgx : w.heap.size ≤ g2 := (O2.out.lt g2 rfl).1
      have hX : XC (w3.setCell ⟨x, 0, none⟩ (.slice (some ⟨g2, 0, none⟩) (n + 1) cc2)) x (some g2) most (l ++ [s]) := by
        have hlen : (l ++ [s]).length = n + 1 := by rw [List.length_append, HLN.out]; rfl
        refine ⟨⟨some ⟨g2, 0, none⟩, cc2, by rw [hlen]; simpa using B5, ?_, rfl⟩, HOK.out, HX.out.most⟩
        rw [hlen]
        exact C5.owns (owns_base (owl O2.out B3.out) (fun _ _ => Nat.zero_le _)) (fun g hg e => by simp [Value.ownBlock] at hg; omega)
      have hC : Chg (fun i => i = x) w (w3.setCell ⟨x, 0, none⟩ (.slice (some ⟨g2, 0, none⟩) (n + 1) cc2)) := (Chg.of_below (F := fun i => i = x) (B2.out.trans (B3.out.mono hbl2))).trans C5 (fun _ _ e => e)
      refine ⟨by first | rfl | simp | (simp; omega), some g2, ?_, hC, .inr ⟨g2, rfl, hgx⟩⟩
      first | exact hX | (rw [if_pos (by omega)]; exact hX)
  · have hnf : most < (N : Int) := by omega
    have HFF := hidden hf
    clear hf
    go_region_with (refine (HEN.out _ ((Below.refl _ _).drew)).mono ?_; rintro e w3 ⟨ad3, c3, rfl, _, b3⟩; have B3 : Hid (Below w2.heap.size w2 w3) := hidden (((Below.refl _ _).drew).trans b3); have e3 := MO.out w3 (B2.out.trans (B3.out.mono hbl2)); clear b3)
    all_goals
      go_wp2
      go_ret
      have hX := HX.out.later (B2.out.trans (B3.out.mono hbl2))
      refine ⟨by first | rfl | simp | (simp; omega), rb, ?_, Chg.of_below (B2.out.trans (B3.out.mono hbl2)), .inl rfl⟩
      first | exact hX | (rw [if_neg (by omega)]; exact hX)

end Go.Proofs.YtcgjmioncbihhaaDoor

/-
  The statements' own began; rows that are written over.
-/
namespace Go.Proofs.YtcgjmioncbihhaaDoor
open Go.RowKit
set_option linter.unusedVariables false
set_option linter.unusedSimpArgs false

theorem built27 (c x : Nat) : Tryd.prog.built 27 [(0, .pointer (some ⟨c, 0, none⟩)), (1, .pointer (some ⟨x, 0, none⟩))] = some #[.pointer (some ⟨c, 0, none⟩), .pointer (some ⟨x, 0, none⟩)] := by kernel_rfl
def z27 : List Value := [.pointer none, .pointer none]
theorem info27z : (Tryd.prog.info? 27).map (fun i => i.zero.map (·.cells)) = some (some z27.toArray) := by kernel_rfl
theorem size27 : (Tryd.prog.info? 27).map (·.size) = some 2 := by kernel_rfl
theorem res_began (tmps : Array Value) (w : World) (g : Nat) (a b c : Value) (hp : tmps.getD 2 undef = .pointer (some ⟨g, 0, none⟩)) (h0 : w.cell? ⟨g, 0, none⟩ = some a) (h1 : w.cell? ⟨g, 1, none⟩ = some b) (h3 : tmps.getD 3 undef = c) :
    (results Tryd.f7 tmps).run Tryd.prog w = .ok (.tuple #[.agg #[a, b], c]) w := by
  have h : Tryd.f7.results = #[.cell 2 27, .tmp 3] := by kernel_rfl
  have hp' : tmps[2]?.getD undef = .pointer (some ⟨g, 0, none⟩) := by simpa using hp
  have h3' : tmps[3]?.getD undef = c := by simpa using h3
  simp [results, h, hp', h3', asAddr, loadVar, h0, h1, go_sem]

set_option maxRecDepth 100000 in
set_option maxHeartbeats 8000000 in
theorem beganP (w : World) (most : Int) (hm : I64 most) (hlo : 2 ≤ w.heap.size) :
    Calls Tryd.prog 7 #[.int .i64 most] w fun e w' => ∃ c p x, e = .returned (.tuple #[.agg #[.pointer (some ⟨c, 0, none⟩), .pointer (some ⟨x, 0, none⟩)], .bool true]) ∧ w.heap.size ≤ c ∧ w.heap.size ≤ p ∧ w.heap.size ≤ x ∧ CS w' c p none most [] ∧ XC w' x none most [] ∧ Below w.heap.size w w' := by
  have hmb := hm
  unfold I64 at hmb
  go_enter Tryd.func7, Tryd.ntmps7
  go_wp2_with (refine wpList_alloc_blk rfl 27 rfl 2 rfl z27 info27z ?_; intro w1 B1 bl1 hz1; have HB1 := hidden B1; have BL1 := hidden bl1; clear B1 bl1 hz1)
  have hs1 := BL1.out.size
  refine (newP w1 most hm (by omega)).mono ?_
  rintro e w2 ⟨c, p, rfl, hc, hp, h2, b2⟩
  have HB2 := hidden (HB1.out.later b2)
  have BL2 := hidden (BL1.out.trans (b2.mono hs1))
  have C2 := hidden h2
  have hs2 := b2.size
  clear h2 b2
  go_wp2_with fail
  refine (newD w2 most hm).mono ?_
  rintro e w3 ⟨x, rfl, hx, h3, b3⟩
  have HB3 := hidden (HB2.out.later b3)
  have BL3 := hidden (BL2.out.trans (b3.mono BL2.out.size))
  have C3 := hidden (C2.out.later b3)
  have X3 := hidden h3
  have hg1 := HB1.out.lt
  clear h3 b3
  go_wp2_with (first
    | (refine wpList_build_to rfl 27 #[(0, .tmp 7), (1, .tmp 9)] rfl [(0, .pointer (some ⟨c, 0, none⟩)), (1, .pointer (some ⟨x, 0, none⟩))] #[.pointer (some ⟨c, 0, none⟩), .pointer (some ⟨x, 0, none⟩)] rfl (built27 _ _) ?_)
    | (refine wpList_store_blk rfl 27 (.tmp 2) (.tmp 10) rfl rfl w.heap.size (l := [.pointer (some ⟨c, 0, none⟩), .pointer (some ⟨x, 0, none⟩)]) HB3.out rfl rfl rfl size27 (by intro v hv; simp at hv; rcases hv with rfl | rfl <;> rfl) ?_))
  have hN := blk_stored (l := [.pointer (some ⟨c, 0, none⟩), .pointer (some ⟨x, 0, none⟩)]) HB3.out rfl
  refine bodyPost_ret (res_began _ _ w.heap.size _ _ _ rfl (hN.cell 0) (hN.cell 1) rfl) rfl ?_
  have hcs := Chg.sets w.heap.size [.pointer (some ⟨c, 0, none⟩), .pointer (some ⟨x, 0, none⟩)] 0 w3
  refine ⟨c, p, x, by first | rfl | simp, by omega, by omega, by omega, C3.out.chg hcs (fun i hi e => ?_), X3.out.chg hcs (fun i hi e => ?_), BL3.out.trans (hcs.below BL3.out.size (fun i hi => by omega))⟩
  · rcases hi with (rfl | hi) | rfl
    · omega
    · exact absurd hi (by simp)
    · omega
  · rcases hi with rfl | hi
    · omega
    · exact absurd hi (by simp)

/-- So many of one byte. -/
def ones (n : Nat) (u : Int) : List Int := List.replicate n u
theorem ones_next (n : Nat) (u : Int) : cells8 (ones n u) ++ [.int .u8 u] = cells8 (ones (n + 1) u) := by
  unfold ones
  rw [List.replicate_succ', cells8_append]
  rfl
theorem Pushed.rest {w w' : World} {v : Value} {g' : Nat} {o : Obj} (hp : Pushed (w.alloc o) w' v g') : Chg (fun i => i = g') w w' := by
  have h0 : Chg (fun i => i = g') w (w.alloc o) := Chg.of_below ((Below.refl _ _).alloc (Nat.le_refl _) o)
  rcases hp with ⟨_, h⟩ | ⟨_, h⟩
  · exact h0.trans (Chg.of_grown (F := fun i => i = g') h (fun i hi => by injection hi with hi; exact hi.symm)) (fun _ _ e => e)
  · exact h0.trans (Chg.of_grown (F := fun i => i = g') h (fun i hi => by cases hi)) (fun _ _ e => e)
/-- A row keeps what it holds while another that began as it grows. -/
theorem sl_push {w w' : World} {ad : Option Addr} {n m g' c' base : Nat} {u : Int} {v : Value} {o : Obj} (h : Sl w ad n (ones n u)) (hoff : ∀ x, ad = some x → x.off = 0 ∧ x.spot = none) (hn : n ≤ m + 1) (ho : w'.ownsRow base 5 1 (.slice (some ⟨g', 0, none⟩) (m + 1) c') (m + 1) (cells8 (ones (m + 1) u))) (hp : Pushed (w.alloc o) w' v g') : Sl w' ad n (ones n u) := by
  refine ⟨h.len, h.byte, fun j hj => ?_⟩
  obtain ⟨x, hx, hc⟩ := h.cell j hj
  refine ⟨x, hx, ?_⟩
  obtain ⟨b, off, sp⟩ := x
  obtain ⟨rfl, rfl⟩ := hoff _ hx
  rw [Addr.add_lit, Nat.zero_add] at hc ⊢
  by_cases hb : b = g'
  · subst hb
    have h1 := ho.cells rfl j (.int .u8 u) (by simp [cells8, ones, show j < m + 1 by omega])
    rw [Addr.add_lit, Nat.zero_add] at h1
    rw [h1]
    simp [ones, List.getD, hj]
  · have hlt : b < w.heap.size := World.block_lt_of_cell? w _ hc
    rw [World.cell?_of_block (w := w) (a := ⟨b, j, none⟩) (hp.rest.block b hlt hb)]
    exact hc

end Go.Proofs.YtcgjmioncbihhaaDoor
