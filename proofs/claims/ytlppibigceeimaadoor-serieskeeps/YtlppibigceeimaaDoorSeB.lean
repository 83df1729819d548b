import Derived.Test.YtlppibigceeimaaDoorPpA
/-
  Package series: each.
-/
namespace Go.Proofs.YtlppibigceeimaaDoor
open Go.RowKit
set_option linter.unusedVariables false
set_option linter.unusedSimpArgs false

/-- One by one, until one is refused. -/
def foldE {σ : Type} (step : σ → Sm → Bool × σ) : List Sm → σ → Bool × σ
  | [], s => (true, s)
  | x :: l, s => if (step s x).1 then foldE step l (step s x).2 else (false, (step s x).2)
theorem foldE_snoc {σ : Type} (step : σ → Sm → Bool × σ) : ∀ (l : List Sm) (s : σ) (x : Sm), (foldE step l s).1 = true → foldE step (l ++ [x]) s = step (foldE step l s).2 x
  | [], s, x, _ => by
    show (if (step s x).1 then _ else _) = step s x
    cases h : step s x with
    | mk b s' => cases b <;> rfl
  | y :: l, s, x, h => by
    unfold foldE at h ⊢
    by_cases e : (step s y).1 = true
    · rw [if_pos e] at h
      show (if (step s y).1 then foldE step (l ++ [x]) (step s y).2 else _) = _
      rw [if_pos e, if_pos e]
      exact foldE_snoc step l _ x h
    · rw [if_neg e] at h; cases h
theorem foldE_stop {σ : Type} (step : σ → Sm → Bool × σ) : ∀ (l : List Sm) (s : σ) (r : List Sm), (foldE step l s).1 = false → foldE step (l ++ r) s = foldE step l s
  | [], s, r, h => by cases h
  | y :: l, s, r, h => by
    unfold foldE at h ⊢
    by_cases e : (step s y).1 = true
    · rw [if_pos e] at h
      show (if (step s y).1 then foldE step (l ++ r) (step s y).2 else _) = _
      rw [if_pos e, if_pos e]
      exact foldE_stop step l _ r h
    · show (if (step s y).1 then _ else _) = _
      rw [if_neg e, if_neg e]
set_option maxHeartbeats 2000000 in
theorem eachP {σ : Type} (f : FuncId) (fa : Value) (step : σ → Sm → Bool × σ) (T : σ → World → Prop) (ad : Option Addr) (N c : Nat) (l : List Sm) (s : σ) (w : World) (hcf : ∀ a w, (callFunc f a).run Tryd.prog w = .ok (.enter f a) w) (hN : l.length = N) (hN9 : N ≤ 9223372036854775807) (hOk : ∀ x ∈ l, OkS x) (h : T s w)
    (hl : ∀ s wx wy, T s wx → Below wx.heap.size wx wy → T s wy) (hS : ∀ s wx, T s wx → Ss wx ad l)
    (hc : ∀ i x wx, l[i]? = some x → OkS x → T (foldE step (l.take i) s).2 wx → Calls Tryd.prog f #[fa, .agg #[.int .i64 x.t, .int .u64 (x.v : Int)]] wx fun e w' => e = .returned (.bool (step (foldE step (l.take i) s).2 x).1) ∧ T (step (foldE step (l.take i) s).2 x).2 w') :
    Calls Tryd.prog 27 #[.slice ad N c, .func (.func f) #[fa] #[]] w fun e w' => e = .returned (.bool (foldE step l s).1) ∧ T (foldE step l s).2 w' := by
  have HN := hidden hN
  have HO := hidden hOk
  have H := hidden h
  have HL := hidden hl
  have HS := hidden hS
  have HC := hidden hc
  clear hN hOk h hl hS hc
  go_enter Tryd.func27, Tryd.ntmps27
  go_wp2_with fail
  go_loopw [9] (fun v9 wx => ∃ i : Nat, v9 = .int .i64 (i : Int) ∧ i ≤ N ∧ Hid ((foldE step (l.take i) s).1 = true ∧ T (foldE step (l.take i) s).2 wx)) (fun v9 _ => N - (intOf v9).toNat)
  case atStart => exact ⟨0, rfl, by omega, hidden ⟨rfl, H.out⟩⟩
  case round =>
    obtain ⟨i, rfl, hi, hI⟩ := hrel
    clear H
    by_cases hin : i < N
    · obtain ⟨x, hx⟩ : ∃ x, l[i]? = some x := ⟨l[i]'(by have := HN.out; omega), by simp⟩
      obtain ⟨bb, off, rfl, hbb, hcell⟩ := (HS.out _ _ hI.out.2).at' (by rintro rfl; simp at hx)
      obtain ⟨c0, c1⟩ := hcell i x hx
      have htk : l.take (i + 1) = l.take i ++ [x] := by rw [List.take_add_one, hx]; rfl
      have HX := hidden (And.intro hx (And.intro (HO.out x (List.mem_of_getElem? hx)) htk))
      clear hcell hx htk hbb
      go_wp2_with fail
      have bw : Below wr.heap.size wr (wr.alloc (.cells #[.int .i64 x.t, .int .u64 (x.v : Int)] 35)) := (Below.refl _ _).alloc (Nat.le_refl _) _
      refine (HC.out i x _ HX.out.1 HX.out.2.1 (HL.out _ _ _ hI.out.2 bw)).mono ?_
      rintro e w5 ⟨rfl, h5⟩
      have hfs := foldE_snoc step (l.take i) s x hI.out.1
      rw [← HX.out.2.2] at hfs
      have H5 := hidden (And.intro h5 hfs)
      clear h5 hfs bw c0 c1
      cases hb : (step (foldE step (l.take i) s).2 x).1 with
      | true =>
        have HB := hidden hb
        clear hb
        go_wp2_with fail
        refine ⟨⟨i + 1, by first | rfl | simp, by omega, hidden ?_⟩, ?_⟩
        · rw [H5.out.2]
          exact ⟨HB.out, H5.out.1⟩
        · show N - ((i : Int) + 1).toNat < N - (i : Int).toNat
          omega
      | false =>
        have HB := hidden hb
        clear hb
        go_wp2_with fail
        go_ret
        have hst := foldE_stop step (l.take (i + 1)) s (l.drop (i + 1)) (by rw [H5.out.2]; exact HB.out)
        rw [List.take_append_drop] at hst
        rw [hst, H5.out.2]
        exact ⟨by rw [HB.out]; rfl, H5.out.1⟩
    · have hiN : i = N := by omega
      have hT : Hid ((foldE step l s).1 = true ∧ T (foldE step l s).2 wr) := hidden (by have h9 := hI.out; rw [List.take_of_length_le (by have := HN.out; omega)] at h9; exact h9)
      clear hI hiN
      go_wp2_with fail
      go_ret
      exact ⟨by rw [hT.out.1]; rfl, hT.out.2⟩

end Go.Proofs.YtlppibigceeimaaDoor

/-
  Package series: the packer: newPacker; chunks of a packer with nothing open.
-/
namespace Go.Proofs.YtlppibigceeimaaDoor
open Go.RowKit
set_option linter.unusedVariables false
set_option linter.unusedSimpArgs false

/-- What a packer holds: the full chunks, the open one. -/
def pkC (full : Value) (c : Nat) : List Value := [full, .pointer (some ⟨c, 0, none⟩)]
theorem built98 (c : Nat) : Tryd.prog.built 98 [(1, .pointer (some ⟨c, 0, none⟩))] = some (pkC (.slice none 0 0) c).toArray := by kernel_rfl

set_option maxRecDepth 100000 in
set_option maxHeartbeats 8000000 in
theorem newPackerP (w : World) (hlo : 2 ≤ w.heap.size) :
    Calls Tryd.prog 32 #[] w fun e w' => ∃ b c p, e = .returned (.pointer (some ⟨b, 0, none⟩)) ∧ w.heap.size ≤ b ∧ w.heap.size ≤ c ∧ w.heap.size ≤ p ∧ b ≠ c ∧ b ≠ p ∧ Blk w' b 98 (pkC (.slice none 0 0) c) ∧ CS w' c p none 128 [] ∧ Below w.heap.size w w' := by
  go_enter Tryd.func32, Tryd.ntmps32
  go_wp2_with fail
  refine (newP w 128 (by unfold I64; omega) hlo).mono ?_
  rintro e w1 ⟨c, p, rfl, hc, hp, hC, bl1⟩
  have HC := hidden hC
  have BL1 := hidden bl1
  clear hC bl1
  go_wp2_with (first
    | (refine wpList_build_to rfl 98 #[(1, .tmp 1)] rfl [(1, .pointer (some ⟨c, 0, none⟩))] (pkC (.slice none 0 0) c).toArray rfl (built98 _) ?_)
    | (refine wpList_box_blk rfl 98 (.tmp 2) rfl (pkC (.slice none 0 0) c) rfl ?_; intro w2 B2 bl2 hz2))
  go_ret
  have l1 := HC.out.blk.lt
  have l2 := HC.out.ws.lt p (.inl rfl)
  refine ⟨w1.heap.size, c, p, rfl, BL1.out.size, hc, hp, by omega, by omega, B2, HC.out.later bl2, BL1.out.trans (bl2.mono BL1.out.size)⟩

set_option maxRecDepth 100000 in
set_option maxHeartbeats 4000000 in
theorem packsNone (w : World) (b c p : Nat) (rb : Option Nat) (full : Value) (most : Int) (hB : Blk w b 98 (pkC full c)) (hC : CS w c p rb most []) :
    Calls Tryd.prog 34 #[.pointer (some ⟨b, 0, none⟩)] w fun e w' => e = .returned full ∧ w' = w := by
  have c0 : w.cell? ⟨b, 0, none⟩ = some full := hB.cell 0
  have c1 : w.cell? ⟨b, 1, none⟩ = some (.pointer (some ⟨c, 0, none⟩)) := hB.cell 1
  clear hB
  have HC := hidden hC
  clear hC
  go_enter Tryd.func34, Tryd.ntmps34
  go_wp2_with fail
  refine (clenP w c p rb most [] HC.out).mono ?_
  rintro e w1 ⟨rfl, rfl⟩
  go_wp2_with fail
  go_ret
  exact ⟨rfl, rfl⟩

end Go.Proofs.YtlppibigceeimaaDoor
