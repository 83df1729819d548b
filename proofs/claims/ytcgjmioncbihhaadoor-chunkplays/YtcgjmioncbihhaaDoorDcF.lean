import Derived.Test.YtcgjmioncbihhaaDoorDcD
import Derived.Test.YtcgjmioncbihhaaDoorLwB
import Derived.BigQuiet
import Derived.Test.YtcgjmioncbihhaaDoorAnyB
import Derived.Test.YtcgjmioncbihhaaDoorAnyM
/-
  The statements' own began; rows that are written over.
-/
namespace Go.Proofs.YtcgjmioncbihhaaDoor
open Go.RowKit
set_option linter.unusedVariables false
set_option linter.unusedSimpArgs false

theorem built27 (c x : Nat) : Tryd.prog.built 27 [(0, .pointer (some ⟨c, 0, none⟩)), (1, .pointer (some ⟨x, 0, none⟩))] = some #[.pointer (some ⟨c, 0, none⟩), .pointer (some ⟨x, 0, none⟩)] := by kernel_rfl
def z27 : List Value := [.pointer none, .pointer none]
theorem info27z : (Tryd.prog.info? 27).map (fun i => i.zero.map (·.cells)) = some (some z27.toArray) := by kernel_rfl
theorem size27 : (Tryd.prog.info? 27).map (·.size) = some 2 := by kernel_rfl
theorem res_began (tmps : Array Value) (w : World) (g : Nat) (a b c : Value) (hp : tmps.getD 2 undef = .pointer (some ⟨g, 0, none⟩)) (h0 : w.cell? ⟨g, 0, none⟩ = some a) (h1 : w.cell? ⟨g, 1, none⟩ = some b) (h3 : tmps.getD 3 undef = c) :
    (results Tryd.f7 tmps).run Tryd.prog w = .ok (.tuple #[.agg #[a, b], c]) w := by
  have h : Tryd.f7.results = #[.cell 2 27, .tmp 3] := by kernel_rfl
  have hp' : tmps[2]?.getD undef = .pointer (some ⟨g, 0, none⟩) := by simpa using hp
  have h3' : tmps[3]?.getD undef = c := by simpa using h3
  simp [results, h, hp', h3', asAddr, loadVar, h0, h1, go_sem]

set_option maxRecDepth 100000 in
set_option maxHeartbeats 8000000 in
theorem beganP (w : World) (most : Int) (hm : I64 most) (hlo : 2 ≤ w.heap.size) :
    Calls Tryd.prog 7 #[.int .i64 most] w fun e w' => ∃ c p x, e = .returned (.tuple #[.agg #[.pointer (some ⟨c, 0, none⟩), .pointer (some ⟨x, 0, none⟩)], .bool true]) ∧ w.heap.size ≤ c ∧ w.heap.size ≤ p ∧ w.heap.size ≤ x ∧ CS w' c p none most [] ∧ XC w' x none most [] ∧ Below w.heap.size w w' := by
  have hmb := hm
  unfold I64 at hmb
  go_enter Tryd.func7, Tryd.ntmps7
  go_wp2_with (refine wpList_alloc_blk rfl 27 rfl 2 rfl z27 info27z ?_; intro w1 B1 bl1 hz1; have HB1 := hidden B1; have BL1 := hidden bl1; clear B1 bl1 hz1)
  have hs1 := BL1.out.size
  refine (newP w1 most hm (by omega)).mono ?_
  rintro e w2 ⟨c, p, rfl, hc, hp, h2, b2⟩
  have HB2 := hidden (HB1.out.later b2)
  have BL2 := hidden (BL1.out.trans (b2.mono hs1))
  have C2 := hidden h2
  have hs2 := b2.size
  clear h2 b2
  go_wp2_with fail
  refine (newD w2 most hm).mono ?_
  rintro e w3 ⟨x, rfl, hx, h3, b3⟩
  have HB3 := hidden (HB2.out.later b3)
  have BL3 := hidden (BL2.out.trans (b3.mono BL2.out.size))
  have C3 := hidden (C2.out.later b3)
  have X3 := hidden h3
  have hg1 := HB1.out.lt
  clear h3 b3
  go_wp2_with (first
    | (refine wpList_build_to rfl 27 #[(0, .tmp 7), (1, .tmp 9)] rfl [(0, .pointer (some ⟨c, 0, none⟩)), (1, .pointer (some ⟨x, 0, none⟩))] #[.pointer (some ⟨c, 0, none⟩), .pointer (some ⟨x, 0, none⟩)] rfl (built27 _ _) ?_)
    | (refine wpList_store_blk rfl 27 (.tmp 2) (.tmp 10) rfl rfl w.heap.size (l := [.pointer (some ⟨c, 0, none⟩), .pointer (some ⟨x, 0, none⟩)]) HB3.out rfl rfl rfl size27 (by intro v hv; simp at hv; rcases hv with rfl | rfl <;> rfl) ?_))
  have hN := blk_stored (l := [.pointer (some ⟨c, 0, none⟩), .pointer (some ⟨x, 0, none⟩)]) HB3.out rfl
  refine bodyPost_ret (res_began _ _ w.heap.size _ _ _ rfl (hN.cell 0) (hN.cell 1) rfl) rfl ?_
  have hcs := Chg.sets w.heap.size [.pointer (some ⟨c, 0, none⟩), .pointer (some ⟨x, 0, none⟩)] 0 w3
  refine ⟨c, p, x, by first | rfl | simp, by omega, by omega, by omega, C3.out.chg hcs (fun i hi e => ?_), X3.out.chg hcs (fun i hi e => ?_), BL3.out.trans (hcs.below BL3.out.size (fun i hi => by omega))⟩
  · rcases hi with (rfl | hi) | rfl
    · omega
    · exact absurd hi (by simp)
    · omega
  · rcases hi with rfl | hi
    · omega
    · exact absurd hi (by simp)

/-- So many of one byte. -/
def ones (n : Nat) (u : Int) : List Int := List.replicate n u
theorem ones_next (n : Nat) (u : Int) : cells8 (ones n u) ++ [.int .u8 u] = cells8 (ones (n + 1) u) := by
  unfold ones
  rw [List.replicate_succ', cells8_append]
  rfl
theorem Pushed.rest {w w' : World} {v : Value} {g' : Nat} {o : Obj} (hp : Pushed (w.alloc o) w' v g') : Chg (fun i => i = g') w w' := by
  have h0 : Chg (fun i => i = g') w (w.alloc o) := Chg.of_below ((Below.refl _ _).alloc (Nat.le_refl _) o)
  rcases hp with ⟨_, h⟩ | ⟨_, h⟩
  · exact h0.trans (Chg.of_grown (F := fun i => i = g') h (fun i hi => by injection hi with hi; exact hi.symm)) (fun _ _ e => e)
  · exact h0.trans (Chg.of_grown (F := fun i => i = g') h (fun i hi => by cases hi)) (fun _ _ e => e)
/-- A row keeps what it holds while another that began as it grows. -/
theorem sl_push {w w' : World} {ad : Option Addr} {n m g' c' base : Nat} {u : Int} {v : Value} {o : Obj} (h : Sl w ad n (ones n u)) (hoff : ∀ x, ad = some x → x.off = 0 ∧ x.spot = none) (hn : n ≤ m + 1) (ho : w'.ownsRow base 5 1 (.slice (some ⟨g', 0, none⟩) (m + 1) c') (m + 1) (cells8 (ones (m + 1) u))) (hp : Pushed (w.alloc o) w' v g') : Sl w' ad n (ones n u) := by
  refine ⟨h.len, h.byte, fun j hj => ?_⟩
  obtain ⟨x, hx, hc⟩ := h.cell j hj
  refine ⟨x, hx, ?_⟩
  obtain ⟨b, off, sp⟩ := x
  obtain ⟨rfl, rfl⟩ := hoff _ hx
  rw [Addr.add_lit, Nat.zero_add] at hc ⊢
  by_cases hb : b = g'
  · subst hb
    have h1 := ho.cells rfl j (.int .u8 u) (by simp [cells8, ones, show j < m + 1 by omega])
    rw [Addr.add_lit, Nat.zero_add] at h1
    rw [h1]
    simp [ones, List.getD, hj]
  · have hlt : b < w.heap.size := World.block_lt_of_cell? w _ hc
    rw [World.cell?_of_block (w := w) (a := ⟨b, j, none⟩) (hp.rest.block b hlt hb)]
    exact hc

end Go.Proofs.YtcgjmioncbihhaaDoor

/-
  The statements' own tells: a region that draws its order.
-/
namespace Go.Proofs.YtcgjmioncbihhaaDoor
open Go.RowKit
set_option linter.unusedVariables false
set_option linter.unusedSimpArgs false

set_option maxRecDepth 100000 in
set_option maxHeartbeats 2000000 in
theorem tells_r4 (bx c x n c1 c2 m : Nat) (ad1 ad2 : Option Addr) (S : ByteArray) (w : World) (a0 : Act) (Q : Exit → Act → World → Prop) (hsz : a0.tmps.size = 124)
    (s3 : a0.tmps.getD 3 undef = .slice ad1 n c1)
    (s4 : a0.tmps.getD 4 undef = .slice ad2 n c2)
    (s5 : a0.tmps.getD 5 undef = .string S)
    (s1 : a0.tmps.getD 1 undef = .pointer (some ⟨bx, 0, none⟩))
    (hs1 : ∀ w1, Lat w w1 → (convert 38 9 (.slice ad1 n c1)).run Tryd.prog w1 = .ok (.string S) w1)
    (hs2 : ∀ w1, Lat w w1 → (convert 38 9 (.slice ad2 n c2)).run Tryd.prog w1 = .ok (.string S) w1)
    (hc0 : ∀ w1, Lat w w1 → w1.cell? ⟨bx, 0, none⟩ = some (.pointer (some ⟨c, 0, none⟩)))
    (hc1 : ∀ w1, Lat w w1 → w1.cell? ⟨bx, 1, none⟩ = some (.pointer (some ⟨x, 0, none⟩)))
    (hle : ∀ wx, Lat w wx → Calls Tryd.prog 10 #[.pointer (some ⟨c, 0, none⟩)] wx fun e w' => e = .returned (.int .i64 (m : Int)) ∧ Lat wx w')
    (hlx : ∀ wx, Lat w wx → Calls Tryd.prog 11 #[.pointer (some ⟨x, 0, none⟩)] wx fun e w' => e = .returned (.int .i64 (m : Int)) ∧ Lat wx w')
    (hQ : ∀ (v23 v24 v25 v26 v27 v28 v29 v30 v31 v32 v33 v34 v35 v36 v37 v38 v39 v40 v41 : Value) (w1 : World), Lat w w1 → v41 = .bool false → Q .normal (((((((((((((((((((a0.put (some 23) v23).put (some 24) v24).put (some 25) v25).put (some 26) v26).put (some 27) v27).put (some 28) v28).put (some 29) v29).put (some 30) v30).put (some 31) v31).put (some 32) v32).put (some 33) v33).put (some 34) v34).put (some 35) v35).put (some 36) v36).put (some 37) v37).put (some 38) v38).put (some 39) v39).put (some 40) v40).put (some 41) v41) w1) :
    Code.wp Tryd.prog ((Tryd.f12.body.bind (findRegion 4)).getD .skip) Q a0 w := by
  conv => arg 2; whnf
  refine wp_region_inv Lat (TE [Ent.val (.slice ad1 n c1), Ent.val (.string S), Ent.val (.string S), Ent.val (.bool false), Ent.val (.bool false), Ent.val (.slice ad2 n c2), Ent.val (.string S), Ent.val (.string S), Ent.val (.bool false), Ent.val (.bool false), Ent.val (.bool false), Ent.val (.pointer (some ⟨bx, 0, none⟩)), Ent.val (.pointer (some ⟨c, 0, none⟩)), Ent.val (.int .i64 (m : Int)), Ent.val (.pointer (some ⟨bx, 1, none⟩)), Ent.val (.pointer (some ⟨x, 0, none⟩)), Ent.val (.int .i64 (m : Int)), Ent.val (.bool false), Ent.val (.bool false)]) (by kernel_rfl) (by kernel_rfl) (by kernel_rfl) (by rw [hsz]; kernel_rfl) (by kernel_rfl) Lat.refl Lat.trans (TE_stable _) (Lat.draw w) ?hop ?hdone
  case hdone =>
    intro a w1 hL hS hT
    have he := same_puts hS
    rw [he]
    exact hQ (a.tmps.getD 23 undef) (a.tmps.getD 24 undef) (a.tmps.getD 25 undef) (a.tmps.getD 26 undef) (a.tmps.getD 27 undef) (a.tmps.getD 28 undef) (a.tmps.getD 29 undef) (a.tmps.getD 30 undef) (a.tmps.getD 31 undef) (a.tmps.getD 32 undef) (a.tmps.getD 33 undef) (a.tmps.getD 34 undef) (a.tmps.getD 35 undef) (a.tmps.getD 36 undef) (a.tmps.getD 37 undef) (a.tmps.getD 38 undef) (a.tmps.getD 39 undef) (a.tmps.getD 40 undef) (a.tmps.getD 41 undef) w1 hL (hT 18 _ rfl)
  case hop =>
    intro i o hi
    have hlt : i < 19 := (Array.getElem?_eq_some_iff.1 hi).1
    rcases (show i = 0 ∨ i = 1 ∨ i = 2 ∨ i = 3 ∨ i = 4 ∨ i = 5 ∨ i = 6 ∨ i = 7 ∨ i = 8 ∨ i = 9 ∨ i = 10 ∨ i = 11 ∨ i = 12 ∨ i = 13 ∨ i = 14 ∨ i = 15 ∨ i = 16 ∨ i = 17 ∨ i = 18 by omega) with rfl | rfl | rfl | rfl | rfl | rfl | rfl | rfl | rfl | rfl | rfl | rfl | rfl | rfl | rfl | rfl | rfl | rfl | rfl
    · obtain rfl := Option.some.inj hi
      clear hi hlt
      intro a w1 hL hS hD
      have e3 : a.tmps.getD 3 undef = .slice ad1 n c1 := (hS.slot 3 (by kernel_rfl)).trans s3
      refine step_yes rfl ?_
      exact ok_value Lat.refl (.slice ad1 n c1) (by simp [execOp, Act.eval, e3, go_sem]) rfl
    · obtain rfl := Option.some.inj hi
      clear hi hlt
      intro a w1 hL hS hD
      have d0 : a.tmps.getD 23 undef = .slice ad1 n c1 := hD ⟨0, .data⟩ (by simp) rfl _ rfl
      refine step_yes rfl ?_
      exact ok_value Lat.refl (.string S) (by simp [execOp, Act.eval, d0, hs1 w1 hL, go_sem]) rfl
    · obtain rfl := Option.some.inj hi
      clear hi hlt
      intro a w1 hL hS hD
      have e5 : a.tmps.getD 5 undef = .string S := (hS.slot 5 (by kernel_rfl)).trans s5
      refine step_yes rfl ?_
      exact ok_value Lat.refl (.string S) (by simp [execOp, Act.eval, e5, go_sem]) rfl
    · obtain rfl := Option.some.inj hi
      clear hi hlt
      intro a w1 hL hS hD
      have d1 : a.tmps.getD 24 undef = .string S := hD ⟨1, .data⟩ (by simp) rfl _ rfl
      have d2 : a.tmps.getD 25 undef = .string S := hD ⟨2, .data⟩ (by simp) rfl _ rfl
      refine step_yes rfl ?_
      exact ok_value Lat.refl (.bool false) (by simp [execOp, Act.eval, d1, d2, go_sem]) rfl
    · obtain rfl := Option.some.inj hi
      clear hi hlt
      intro a w1 hL hS hD
      have d3 : a.tmps.getD 26 undef = .bool false := hD ⟨3, .data⟩ (by simp) rfl _ rfl
      refine step_yes rfl ?_
      exact ok_value Lat.refl (.bool false) (by simp [execOp, Act.eval, d3, go_sem]) rfl
    · obtain rfl := Option.some.inj hi
      clear hi hlt
      intro a w1 hL hS hD
      have e4 : a.tmps.getD 4 undef = .slice ad2 n c2 := (hS.slot 4 (by kernel_rfl)).trans s4
      have d4 : a.tmps.getD 27 undef = .bool false := hD ⟨4, .guard⟩ (by simp) rfl _ rfl
      refine step_yes (wanted_yes rfl rfl rfl d4) ?_
      exact ok_value Lat.refl (.slice ad2 n c2) (by simp [execOp, Act.eval, e4, go_sem]) rfl
    · obtain rfl := Option.some.inj hi
      clear hi hlt
      intro a w1 hL hS hD
      have d4 : a.tmps.getD 27 undef = .bool false := hD ⟨4, .guard⟩ (by simp) rfl _ rfl
      have d5 : a.tmps.getD 28 undef = .slice ad2 n c2 := hD ⟨5, .data⟩ (by simp) rfl _ rfl
      refine step_yes (wanted_yes rfl rfl rfl d4) ?_
      exact ok_value Lat.refl (.string S) (by simp [execOp, Act.eval, d5, hs2 w1 hL, go_sem]) rfl
    · obtain rfl := Option.some.inj hi
      clear hi hlt
      intro a w1 hL hS hD
      have e5 : a.tmps.getD 5 undef = .string S := (hS.slot 5 (by kernel_rfl)).trans s5
      have d4 : a.tmps.getD 27 undef = .bool false := hD ⟨4, .guard⟩ (by simp) rfl _ rfl
      refine step_yes (wanted_yes rfl rfl rfl d4) ?_
      exact ok_value Lat.refl (.string S) (by simp [execOp, Act.eval, e5, go_sem]) rfl
    · obtain rfl := Option.some.inj hi
      clear hi hlt
      intro a w1 hL hS hD
      have d4 : a.tmps.getD 27 undef = .bool false := hD ⟨4, .guard⟩ (by simp) rfl _ rfl
      have d6 : a.tmps.getD 29 undef = .string S := hD ⟨6, .data⟩ (by simp) rfl _ rfl
      have d7 : a.tmps.getD 30 undef = .string S := hD ⟨7, .data⟩ (by simp) rfl _ rfl
      refine step_yes (wanted_yes rfl rfl rfl d4) ?_
      exact ok_value Lat.refl (.bool false) (by simp [execOp, Act.eval, d6, d7, go_sem]) rfl
    · obtain rfl := Option.some.inj hi
      clear hi hlt
      intro a w1 hL hS hD
      have d4 : a.tmps.getD 27 undef = .bool false := hD ⟨4, .data⟩ (by simp) rfl _ rfl
      have d8 : a.tmps.getD 31 undef = .bool false := hD ⟨8, .data⟩ (by simp) rfl _ rfl
      refine step_yes rfl ?_
      exact ok_value Lat.refl (.bool false) (by simp [execOp, Act.eval, d4, d8, go_sem]) rfl
    · obtain rfl := Option.some.inj hi
      clear hi hlt
      intro a w1 hL hS hD
      have d9 : a.tmps.getD 32 undef = .bool false := hD ⟨9, .data⟩ (by simp) rfl _ rfl
      refine step_yes rfl ?_
      exact ok_value Lat.refl (.bool false) (by simp [execOp, Act.eval, d9, go_sem]) rfl
    · obtain rfl := Option.some.inj hi
      clear hi hlt
      intro a w1 hL hS hD
      have e1 : a.tmps.getD 1 undef = .pointer (some ⟨bx, 0, none⟩) := (hS.slot 1 (by kernel_rfl)).trans s1
      have d10 : a.tmps.getD 33 undef = .bool false := hD ⟨10, .guard⟩ (by simp) rfl _ rfl
      refine step_yes (wanted_yes rfl rfl rfl d10) ?_
      exact ok_value Lat.refl (.pointer (some ⟨bx, 0, none⟩)) (by simp [execOp, Act.eval, e1, go_sem]) rfl
    · obtain rfl := Option.some.inj hi
      clear hi hlt
      intro a w1 hL hS hD
      have d10 : a.tmps.getD 33 undef = .bool false := hD ⟨10, .guard⟩ (by simp) rfl _ rfl
      have d11 : a.tmps.getD 34 undef = .pointer (some ⟨bx, 0, none⟩) := hD ⟨11, .data⟩ (by simp) rfl _ rfl
      refine step_yes (wanted_yes rfl rfl rfl d10) ?_
      exact ok_value Lat.refl (.pointer (some ⟨c, 0, none⟩)) (by simp [execOp, Act.eval, d11, hc0 w1 hL, go_sem]) rfl
    · obtain rfl := Option.some.inj hi
      clear hi hlt
      intro a w1 hL hS hD
      have d10 : a.tmps.getD 33 undef = .bool false := hD ⟨10, .guard⟩ (by simp) rfl _ rfl
      have d12 : a.tmps.getD 35 undef = .pointer (some ⟨c, 0, none⟩) := hD ⟨12, .data⟩ (by simp) rfl _ rfl
      refine step_yes (wanted_yes rfl rfl rfl d10) ?_
      refine ok_call (f := 10) (args := #[.pointer (some ⟨c, 0, none⟩)]) (by simp [execOp, resolve, Act.eval, d12, go_sem]) ?_
      refine (hle w1 hL).mono ?_
      rintro e w2 ⟨rfl, b5⟩
      exact ⟨_, rfl, b5, rfl⟩
    · obtain rfl := Option.some.inj hi
      clear hi hlt
      intro a w1 hL hS hD
      have e1 : a.tmps.getD 1 undef = .pointer (some ⟨bx, 0, none⟩) := (hS.slot 1 (by kernel_rfl)).trans s1
      have d10 : a.tmps.getD 33 undef = .bool false := hD ⟨10, .guard⟩ (by simp) rfl _ rfl
      refine step_yes (wanted_yes rfl rfl rfl d10) ?_
      exact ok_value Lat.refl (.pointer (some ⟨bx, 1, none⟩)) (by simp [execOp, Act.eval, e1, go_sem]) rfl
    · obtain rfl := Option.some.inj hi
      clear hi hlt
      intro a w1 hL hS hD
      have d10 : a.tmps.getD 33 undef = .bool false := hD ⟨10, .guard⟩ (by simp) rfl _ rfl
      have d14 : a.tmps.getD 37 undef = .pointer (some ⟨bx, 1, none⟩) := hD ⟨14, .data⟩ (by simp) rfl _ rfl
      refine step_yes (wanted_yes rfl rfl rfl d10) ?_
      exact ok_value Lat.refl (.pointer (some ⟨x, 0, none⟩)) (by simp [execOp, Act.eval, d14, hc1 w1 hL, go_sem]) rfl
    · obtain rfl := Option.some.inj hi
      clear hi hlt
      intro a w1 hL hS hD
      have d10 : a.tmps.getD 33 undef = .bool false := hD ⟨10, .guard⟩ (by simp) rfl _ rfl
      have d15 : a.tmps.getD 38 undef = .pointer (some ⟨x, 0, none⟩) := hD ⟨15, .data⟩ (by simp) rfl _ rfl
      refine step_yes (wanted_yes rfl rfl rfl d10) ?_
      refine ok_call (f := 11) (args := #[.pointer (some ⟨x, 0, none⟩)]) (by simp [execOp, resolve, Act.eval, d15, go_sem]) ?_
      refine (hlx w1 hL).mono ?_
      rintro e w2 ⟨rfl, b5⟩
      exact ⟨_, rfl, b5, rfl⟩
    · obtain rfl := Option.some.inj hi
      clear hi hlt
      intro a w1 hL hS hD
      have d10 : a.tmps.getD 33 undef = .bool false := hD ⟨10, .guard⟩ (by simp) rfl _ rfl
      have d13 : a.tmps.getD 36 undef = .int .i64 (m : Int) := hD ⟨13, .data⟩ (by simp) rfl _ rfl
      have d16 : a.tmps.getD 39 undef = .int .i64 (m : Int) := hD ⟨16, .data⟩ (by simp) rfl _ rfl
      refine step_yes (wanted_yes rfl rfl rfl d10) ?_
      exact ok_value Lat.refl (.bool false) (by simp [execOp, Act.eval, d13, d16, go_sem]) rfl
    · obtain rfl := Option.some.inj hi
      clear hi hlt
      intro a w1 hL hS hD
      have d10 : a.tmps.getD 33 undef = .bool false := hD ⟨10, .data⟩ (by simp) rfl _ rfl
      have d17 : a.tmps.getD 40 undef = .bool false := hD ⟨17, .data⟩ (by simp) rfl _ rfl
      refine step_yes rfl ?_
      exact ok_value Lat.refl (.bool false) (by simp [execOp, Act.eval, d10, d17, go_sem]) rfl

end Go.Proofs.YtcgjmioncbihhaaDoor

/-
  The statements' own tells.
-/
namespace Go.Proofs.YtcgjmioncbihhaaDoor
open Go.RowKit
set_option linter.unusedVariables false
set_option linter.unusedSimpArgs false

theorem own_at {w : World} {base g n c : Nat} {R : List Int} (h : w.ownsRow base 5 1 (.slice (some ⟨g, 0, none⟩) n c) n (cells8 R)) (j : Nat) (hj : j < R.length) : w.cell? ⟨g, j, none⟩ = some (.int .u8 (R.getD j 0)) ∧ w.frozen? ⟨g, j, none⟩ = false := by
  have h1 := h.cells rfl j (.int .u8 (R.getD j 0)) (by simp [cells8, List.getD, hj])
  rw [Addr.add_lit, Nat.zero_add] at h1
  refine ⟨h1, ?_⟩
  rcases h.2 with ⟨e, _⟩ | ⟨g', cap, cur, e, _, hh, _⟩
  · cases e
  · injection e with e
    injection e with e
    injection e with e
    subst e
    exact frozen_of_row w g _ _ 5 hh
theorem over_next {B : List Int} {i : Nat} {u : Int} (hi : i < B.length) : (ones i u ++ B.drop i).set i u = ones (i + 1) u ++ B.drop (i + 1) := by
  unfold ones
  rw [List.set_append_right _ _ (by simp), List.length_replicate, Nat.sub_self, List.drop_eq_getElem_cons hi, List.set_cons_zero, List.replicate_succ', List.append_assoc]
  rfl
theorem over_byte {B : List Int} {i : Nat} {u : Int} (hB : Byte B) (hu : 0 ≤ u ∧ u ≤ 255) : Byte (ones i u ++ B.drop i) := by
  intro z hz
  rcases List.mem_append.1 hz with hz | hz
  · rw [(List.mem_replicate.1 hz).2]; exact hu
  · exact hB z (List.mem_of_mem_drop hz)
theorem own_some {w : World} {base n c : Nat} {ad : Option Addr} {xs : List Value} (h : w.ownsRow base 5 1 (.slice ad n c) n xs) (hn : 0 < n) : ∃ g, ad = some ⟨g, 0, none⟩ := by
  rcases h.2 with ⟨_, e⟩ | ⟨g, cap, cur, e, _⟩
  · omega
  · injection e with e; exact ⟨g, e⟩

/-- What is held while the rows are written over: a, b; their blocks are apart and new. -/
structure TW (w wx : World) (ad1 ad2 : Option Addr) (n c1 c2 : Nat) (R1 R2 : List Int) : Prop where
  a : wx.ownsRow w.heap.size 5 1 (.slice ad1 n c1) n (cells8 R1)
  b : wx.ownsRow w.heap.size 5 1 (.slice ad2 n c2) n (cells8 R2)
  ne : ∀ g, (Value.slice ad1 n c1).ownBlock = some g → ¬ (Value.slice ad2 n c2).ownBlock = some g
  bel : Below w.heap.size w wx
theorem TW.la {w wx : World} {ad1 ad2 : Option Addr} {n c1 c2 : Nat} {R1 R2 : List Int} (h : TW w wx ad1 ad2 n c1 c2 R1 R2) : R1.length = n := by have := h.a.1; rw [cells8_length] at this; omega
theorem TW.lb {w wx : World} {ad1 ad2 : Option Addr} {n c1 c2 : Nat} {R1 R2 : List Int} (h : TW w wx ad1 ad2 n c1 c2 R1 R2) : R2.length = n := by have := h.b.1; rw [cells8_length] at this; omega
theorem TW.seta {w wx : World} {g : Nat} {ad2 : Option Addr} {n c1 c2 : Nat} {R1 R2 : List Int} (h : TW w wx (some ⟨g, 0, none⟩) ad2 n c1 c2 R1 R2) (i : Nat) (u : Int) (hi : i < n) : TW w (wx.setCell ⟨g, i, none⟩ (.int .u8 u)) (some ⟨g, 0, none⟩) ad2 n c1 c2 (R1.set i u) R2 := by
  have hc := chg_set wx g i (.int .u8 u)
  refine ⟨owns_set h.a i u (by rw [h.la]; exact hi), hc.owns h.b (fun q hq e => ?_), h.ne, h.bel.trans (hc.below h.bel.size (fun q hq => by subst hq; exact (h.a.lt q rfl).1))⟩
  subst e
  exact h.ne q rfl hq
theorem TW.setb {w wx : World} {g : Nat} {ad1 : Option Addr} {n c1 c2 : Nat} {R1 R2 : List Int} (h : TW w wx ad1 (some ⟨g, 0, none⟩) n c1 c2 R1 R2) (i : Nat) (u : Int) (hi : i < n) : TW w (wx.setCell ⟨g, i, none⟩ (.int .u8 u)) ad1 (some ⟨g, 0, none⟩) n c1 c2 R1 (R2.set i u) := by
  have hc := chg_set wx g i (.int .u8 u)
  refine ⟨hc.owns h.a (fun q hq e => ?_), owns_set h.b i u (by rw [h.lb]; exact hi), h.ne, h.bel.trans (hc.below h.bel.size (fun q hq => by subst hq; exact (h.b.lt q rfl).1))⟩
  subst e
  exact h.ne q hq rfl

/-- What is held while they grow: x behind a, y behind b. -/
structure TG (w wx : World) (ad1 ad2 : Option Addr) (n : Nat) (v1 v2 : Value) (k1 k2 : Nat) : Prop where
  a : Sl wx ad1 n (ones n 1)
  b : Sl wx ad2 n (ones n 2)
  x : wx.ownsRow w.heap.size 5 1 v1 (n + k1) (cells8 (ones (n + k1) 1))
  y : wx.ownsRow w.heap.size 5 1 v2 (n + k2) (cells8 (ones (n + k2) 2))
  xy : ∀ g, v1.ownBlock = some g → ¬ v2.ownBlock = some g
  xb : ∀ g, v1.ownBlock = some g → ∀ z, ad2 = some z → z.block ≠ g
  ya : ∀ g, v2.ownBlock = some g → ∀ z, ad1 = some z → z.block ≠ g
  bel : Below w.heap.size w wx
theorem TG.pushx {w wx w' : World} {ad1 ad2 : Option Addr} {n k1 k2 g' c' : Nat} {v1 v2 : Value} {o : Obj} (h : TG w wx ad1 ad2 n v1 v2 k1 k2) (hoff : ∀ z, ad1 = some z → z.off = 0 ∧ z.spot = none) (hl2 : ∀ z, ad2 = some z → z.block < wx.heap.size)
    (ho : w'.ownsRow w.heap.size 5 1 (.slice (some ⟨g', 0, none⟩) (n + k1 + 1) c') (n + k1 + 1) (cells8 (ones (n + k1) 1) ++ [.int .u8 1])) (hp : Pushed (wx.alloc o) w' v1 g') : TG w w' ad1 ad2 n (.slice (some ⟨g', 0, none⟩) (n + k1 + 1) c') v2 (k1 + 1) k2 := by
  rw [ones_next] at ho
  have hr := hp.rest
  have hm := hp.chg.2
  have hy : ∀ g, v2.ownBlock = some g → g < wx.heap.size := fun g hg => (h.y.lt g hg).2
  have hg2 : ∀ g, v2.ownBlock = some g → ¬ g = g' := by
    intro g hg e
    subst e
    rcases hm with e2 | ⟨q, e2, hq⟩
    · exact h.xy g e2.symm hg
    · injection e2 with e2
      have := hy g hg
      omega
  have hgb : ∀ z, ad2 = some z → z.block ≠ g' := by
    intro z hz e
    rcases hm with e2 | ⟨q, e2, hq⟩
    · exact h.xb g' e2.symm z hz e
    · injection e2 with e2
      have := hl2 z hz
      omega
  refine ⟨sl_push h.a hoff (by omega) ho hp, hr.sl h.b (fun z hz _ e => hgb z hz e), ho, hr.owns h.y hg2, ?_, ?_, h.ya, h.bel.trans ?_⟩
  · intro g hg
    simp [Value.ownBlock] at hg
    subst hg
    intro e
    exact hg2 g' e rfl
  · intro g hg z hz
    simp [Value.ownBlock] at hg
    subst hg
    exact hgb z hz
  · exact hp.chg.1.below h.bel.size (fun q hq => (h.x.lt q hq).1)
theorem TG.pushy {w wx w' : World} {ad1 ad2 : Option Addr} {n k1 k2 g' c' : Nat} {v1 v2 : Value} {o : Obj} (h : TG w wx ad1 ad2 n v1 v2 k1 k2) (hoff : ∀ z, ad2 = some z → z.off = 0 ∧ z.spot = none) (hl1 : ∀ z, ad1 = some z → z.block < wx.heap.size)
    (ho : w'.ownsRow w.heap.size 5 1 (.slice (some ⟨g', 0, none⟩) (n + k2 + 1) c') (n + k2 + 1) (cells8 (ones (n + k2) 2) ++ [.int .u8 2])) (hp : Pushed (wx.alloc o) w' v2 g') : TG w w' ad1 ad2 n v1 (.slice (some ⟨g', 0, none⟩) (n + k2 + 1) c') k1 (k2 + 1) := by
  rw [ones_next] at ho
  have hr := hp.rest
  have hm := hp.chg.2
  have hy : ∀ g, v1.ownBlock = some g → g < wx.heap.size := fun g hg => (h.x.lt g hg).2
  have hg2 : ∀ g, v1.ownBlock = some g → ¬ g = g' := by
    intro g hg e
    subst e
    rcases hm with e2 | ⟨q, e2, hq⟩
    · exact h.xy g hg e2.symm
    · injection e2 with e2
      have := hy g hg
      omega
  have hgb : ∀ z, ad1 = some z → z.block ≠ g' := by
    intro z hz e
    rcases hm with e2 | ⟨q, e2, hq⟩
    · exact h.ya g' e2.symm z hz e
    · injection e2 with e2
      have := hl1 z hz
      omega
  refine ⟨hr.sl h.a (fun z hz _ e => hgb z hz e), sl_push h.b hoff (by omega) ho hp, hr.owns h.x hg2, ho, ?_, h.xb, ?_, h.bel.trans ?_⟩
  · intro g hg e
    simp [Value.ownBlock] at e
    exact hg2 g hg e.symm
  · intro g hg z hz
    simp [Value.ownBlock] at hg
    subst hg
    exact hgb z hz
  · exact hp.chg.1.below h.bel.size (fun q hq => (h.y.lt q hq).1)

end Go.Proofs.YtcgjmioncbihhaaDoor
