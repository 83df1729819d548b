import Derived.Test.YtjlpkgepiajapaaDoorPpB
/-
  The document's pool: New, is, Take, Give.
-/
namespace Go.Proofs.YtjlpkgepiajapaaDoor
open Go.RowKit
set_option linter.unusedVariables false
set_option linter.unusedSimpArgs false

theorem info85 : (Tryd.prog.info? 85).map (fun i => (i.zero, i.size, i.bytes)) = some (some (.agg #[.bool false, .string ⟨#[]⟩, .slice none 0 0]), 3, 48) := by kernel_rfl
def nB : Nat → Value := fun _ => .slice none 0 0
theorem made_rL (n : Nat) : (madeCells (Value.agg #[.bool false, .string ⟨#[]⟩, .slice none 0 0]).cells (n * 3)).toList = rL n (fun _ => none) nB := by
  apply List.ext_getElem?
  intro j
  unfold rL madeCells
  simp only [Value.cells, Array.toList_map, List.getElem?_map, Array.toList_range]
  by_cases hj : j < n * 3
  · rw [List.getElem?_range hj]
    simp only [Option.map_some, Option.some.injEq]
    unfold rcV
    rcases (show j % 3 = 0 ∨ j % 3 = 1 ∨ j % 3 = 2 by omega) with h | h | h
    · rw [if_pos h]; simp [h]
    · rw [if_neg (by omega), if_pos h]; simp [h]
    · rw [if_neg (by omega), if_neg (by omega)]; simp [h]
  · rw [List.getElem?_eq_none (by simp; omega)]
    rfl
set_option maxHeartbeats 1000000 in
theorem newR (n : Nat) (h1 : 1 ≤ n) (h2 : n ≤ 65536) (w : World) : Calls Tryd.prog 7 #[.int .i64 (n : Int)] w fun e w' => ∃ r q, e = .returned (.tuple #[.pointer (some ⟨r, 0, none⟩), .int .i64 0]) ∧ RP w' r q n (fun _ => none) nB ∧ Below w.heap.size w w' ∧ w.heap.size ≤ r ∧ w.heap.size ≤ q := by
  have hb66 : ∀ g : Nat, Tryd.prog.built 66 [(0, .slice (some ⟨g, 0, none⟩) n n)] = some #[.slice (some ⟨g, 0, none⟩) n n] := fun g => by kernel_rfl
  go_enter Tryd.func7, Tryd.ntmps7
  go_wp2_with (refine wpList_make_any _ rfl (.tmp 10) (.tmp 10) 64 rfl 85 _ 3 48 Tryd.underlying64 info85 n rfl rfl (by omega) (by omega) ?_; intro w1 hB hz bl; rw [made_rL] at hB; have HB := hidden hB; have HZ := hidden hz; have BL := hidden bl; clear hB hz bl)
  go_ret2
  have b2 : Below w1.heap.size w1 (w1.alloc (.cells #[.slice (some ⟨w.heap.size, 0, none⟩) n n] 66)) := (Below.refl _ _).alloc (Nat.le_refl _) _
  refine ⟨w1.heap.size, w.heap.size, rfl, ⟨Blk.new w1 66 [_], HB.out.later b2, ⟨h1, h2⟩, fun _ _ => rfl, fun i o d h => by cases h⟩, BL.out.trans (b2.mono BL.out.size), BL.out.size, Nat.le_refl _⟩
theorem newRbad (k : Int) (hk : k < 1 ∨ 65536 < k) (w : World) : Calls Tryd.prog 7 #[.int .i64 k] w fun e w' => e = .returned (.tuple #[.pointer none, .int .i64 1]) ∧ w' = w := by
  rcases (show k < 1 ∨ (1 ≤ k ∧ 65536 < k) by omega) with h | ⟨h, h'⟩
  all_goals
    clear hk
    go_enter Tryd.func7, Tryd.ntmps7
    go_wp2_with fail
    go_ret2
    exact ⟨rfl, rfl⟩
theorem RP.c0 {w : World} {r q n : Nat} {st : Sx} {B : Nat → Value} (h : RP w r q n st B) : w.cell? ⟨r, 0, none⟩ = some (.slice (some ⟨q, 0, none⟩) n n) := h.blk.cell 0
theorem RP.k0 {w : World} {r q n i : Nat} {st : Sx} {B : Nat → Value} (h : RP w r q n st B) (hi : i < n) {b : Bool} (hb : (st i).isSome = b) : w.cell? ⟨q, i * 3, none⟩ = some (.bool b) := by
  rw [h.row.cell, ← Nat.add_zero (i * 3), rL_at st B hi (by omega), Nat.add_zero, rcV0, hb]
theorem RP.k1 {w : World} {r q n i : Nat} {st : Sx} {B : Nat → Value} (h : RP w r q n st B) (hi : i < n) : w.cell? ⟨q, i * 3 + 1, none⟩ = some (.string (((st i).map (·.1)).getD ⟨#[]⟩)) := by
  rw [h.row.cell, rL_at st B hi (by omega), rcV1]
theorem RP.k2 {w : World} {r q n i : Nat} {st : Sx} {B : Nat → Value} (h : RP w r q n st B) (hi : i < n) {x : ByteArray × ByteArray} (hx : st i = some x) : w.cell? ⟨q, i * 3 + 2, none⟩ = some (B i) := by
  rw [h.row.cell, rL_at st B hi (by omega), rcV2 st B i hx]
theorem RP.k2' {w : World} {r q n i : Nat} {st : Sx} {B : Nat → Value} (h : RP w r q n st B) (hi : i < n) : ∃ v, w.cell? ⟨q, i * 3 + 2, none⟩ = some v := by
  rw [h.row.cell, rL_at st B hi (by omega)]
  exact ⟨_, rfl⟩
theorem atS_isR (k : Int) (r q n : Nat) (st : Sx) (B : Nat → Value) (w : World) (h : RP w r q n st B) : Calls Tryd.prog 37 #[.pointer (some ⟨r, 0, none⟩), .int .i64 k] w fun e w' => e = .returned (.bool (atS st n k).isSome) ∧ w' = w := by
  have c0 := h.c0
  unfold atS
  by_cases h0 : 0 ≤ k
  · by_cases h1 : k < (n : Int)
    · obtain ⟨i, rfl⟩ : ∃ i : Nat, k = (i : Int) := ⟨k.toNat, by omega⟩
      rw [if_pos ⟨h0, h1⟩, Int.toNat_natCast, Option.isSome_map]
      have hi : i < n := by omega
      obtain ⟨b, hb⟩ : ∃ b, (st i).isSome = b := ⟨_, rfl⟩
      have k0 := h.k0 hi hb
      rw [hb]
      clear h h0 h1 hb
      go_enter Tryd.func37, Tryd.ntmps37
      go_wp2_with fail
      all_goals
        go_ret
        exact ⟨rfl, rfl⟩
    · rw [if_neg (by omega)]
      clear h
      go_enter Tryd.func37, Tryd.ntmps37
      go_wp2_with fail
      go_ret
      exact ⟨rfl, rfl⟩
  · rw [if_neg (by omega)]
    clear h
    go_enter Tryd.func37, Tryd.ntmps37
    go_wp2_with fail
    go_ret
    exact ⟨rfl, rfl⟩

end Go.Proofs.YtjlpkgepiajapaaDoor

/-
  The document's pool: Take, Give.
-/
namespace Go.Proofs.YtjlpkgepiajapaaDoor
open Go.RowKit
set_option linter.unusedVariables false
set_option linter.unusedSimpArgs false

theorem fst1_some {st : Sx} {n i : Nat} (hi : i < n) (hs : st i = none) (h : ∀ j, j < i → ¬ st j = none) : fst1 st n = some i := by
  unfold fst1
  refine lst_some (by omega) (by omega) (by simp [hi, hs]) (fun k _ hk => ?_)
  have := h k hk
  cases e : st k with
  | none => exact absurd e this
  | some x => simp
theorem fst1_none {st : Sx} {n : Nat} (h : ∀ j, j < n → ¬ st j = none) : fst1 st n = none := by
  unfold fst1
  refine lst_none (fun k _ hk => ?_)
  by_cases hn : k < n
  · have := h k hn
    cases e : st k with
    | none => exact absurd e this
    | some x => simp
  · simp [hn]
theorem rg_put {w : World} {st : Sx} {B : Nat → Value} {i : Nat} {x : Option (ByteArray × ByteArray)} {v : Value} (h : ∀ o d ad c, x = some (o, d) → v = .slice (some ad) d.size c → 0 < d.size → w.heap.size ≤ ad.block) : Nw w (RG st B) (RG (upS st i x) (upN B i v)) := by
  rintro k ⟨j, o, d, ad, c, e1, e2, e3, rfl⟩
  unfold upS at e1
  unfold upN at e2
  by_cases e : j = i
  · rw [if_pos e] at e1 e2
    exact .inr (h o d ad c e1 e2 e3)
  · rw [if_neg e] at e1 e2
    exact .inl ⟨j, o, d, ad, c, e1, e2, e3, rfl⟩
def RPo (w w' : World) (r q n : Nat) (st : Sx) (B : Nat → Value) (st' : Sx) : Prop := ∃ B', RP w' r q n st' B' ∧ Chg (fun i => i = q) w w' ∧ Nw w (RG st B) (RG st' B')
theorem RP.same {w : World} {r q n : Nat} {st : Sx} {B : Nat → Value} (h : RP w r q n st B) : RPo w w r q n st B st := ⟨B, h, Chg.refl _ _, Nw.refl _ _⟩
/-- Three cells of a slot are written. -/
theorem RP.three {w : World} {r q n i : Nat} {st : Sx} {B : Nat → Value} (h : RP w r q n st B) (hi : i < n) (x : Option (ByteArray × ByteArray)) (hx : ∀ o d, x = some (o, d) → d = emp) :
    RPo w (((w.setCell ⟨q, i * 3, none⟩ (.bool x.isSome)).setCell ⟨q, i * 3 + 1, none⟩ (.string ((x.map (·.1)).getD ⟨#[]⟩))).setCell ⟨q, i * 3 + 2, none⟩ (.slice none 0 0)) r q n st B (upS st i x) := by
  have hk : Chg (fun j => j = q) w (((w.setCell ⟨q, i * 3, none⟩ (.bool x.isSome)).setCell ⟨q, i * 3 + 1, none⟩ (.string ((x.map (·.1)).getD ⟨#[]⟩))).setCell ⟨q, i * 3 + 2, none⟩ (.slice none 0 0)) :=
    ((Chg.set ⟨q, i * 3, none⟩ _ w).trans (Chg.set ⟨q, i * 3 + 1, none⟩ _ _) (fun _ _ e => e)).trans (Chg.set ⟨q, i * 3 + 2, none⟩ _ _) (fun _ _ e => e)
  refine ⟨_, h.put x (.slice none 0 0) hi hk (by rw [← rL_set n i st B x _ (fun _ => rfl) hi]; exact ((h.row.set _ _).set _ _).set _ _) (fun o d e => ?_), hk, rg_put (fun o d ad c _ e _ => by cases e)⟩
  rw [hx o d e]
  exact ⟨none, 0, rfl, Sl.nil _ _, fun _ => ⟨rfl, rfl⟩, fun x hx => by cases hx⟩
set_option maxHeartbeats 2000000 in
theorem takeR (o : ByteArray) (r q n : Nat) (st : Sx) (B : Nat → Value) (w : World) (h : RP w r q n st B) :
    Calls Tryd.prog 20 #[.pointer (some ⟨r, 0, none⟩), .string o] w fun e w' => e = .returned (takeV st n) ∧ RPo w w' r q n st B (takeS st n o) := by
  have c0 := h.c0
  have hn := h.n1
  have HR := hidden h
  have hb85 : Tryd.prog.built 85 [(0, .bool true), (1, .string o)] = some #[.bool true, .string o, .slice none 0 0] := by kernel_rfl
  clear h
  go_enter Tryd.func20, Tryd.ntmps20
  go_wp2_with fail
  go_loopw [6] (fun v6 wx => ∃ i : Nat, v6 = .int .i64 (i : Int) ∧ i ≤ n ∧ wx = w ∧ Hid (∀ j, j < i → ¬ st j = none)) (fun v6 _ => n - (intOf v6).toNat)
  case atStart => exact ⟨0, rfl, by omega, rfl, hidden (fun j hj => absurd hj (by omega))⟩
  case round =>
    obtain ⟨i, rfl, hi, rfl, hlt⟩ := hrel
    by_cases hin : i < n
    · cases hs : st i with
      | none =>
        have k0 := HR.out.k0 hin (show (st i).isSome = false by rw [hs]; rfl)
        have k1 := HR.out.k1 hin
        obtain ⟨v2, k2⟩ := HR.out.k2' hin
        have f0 := HR.out.row.frozen (i * 3)
        have f1 := HR.out.row.frozen (i * 3 + 1)
        have f2 := HR.out.row.frozen (i * 3 + 2)
        have hf := fst1_some hin hs hlt.out
        go_wp2_with fail
        go_ret2
        unfold takeV takeS
        rw [hf]
        exact ⟨rfl, HR.out.three hin (some (o, emp)) (fun o' d e => (Prod.mk.inj (Option.some.inj e)).2.symm)⟩
      | some x =>
        have k0 := HR.out.k0 hin (show (st i).isSome = true by rw [hs]; rfl)
        have HS := hidden hs
        clear hs
        go_wp2_with fail
        refine ⟨⟨i + 1, by first | rfl | simp, by omega, by first | rfl | trivial, hidden (fun j hj => ?_)⟩, ?_⟩
        · by_cases e : j = i
          · rw [e, HS.out]; exact fun h => by cases h
          · exact hlt.out j (by omega)
        · show n - ((i : Int) + 1).toNat < n - (i : Int).toNat
          omega
    · have hf : fst1 st n = none := fst1_none (fun j hj => hlt.out j (by omega))
      have HF := hidden hf
      clear hf
      go_wp2_with fail
      go_ret2
      unfold takeV takeS
      rw [HF.out]
      exact ⟨rfl, HR.out.same⟩
set_option maxHeartbeats 2000000 in
theorem giveR (k : Int) (r q n : Nat) (st : Sx) (B : Nat → Value) (w : World) (h : RP w r q n st B) :
    Calls Tryd.prog 21 #[.pointer (some ⟨r, 0, none⟩), .int .i64 k] w fun e w' => e = .returned (.int .i64 (giveS st n k).1) ∧ RPo w w' r q n st B (giveS st n k).2 := by
  have c0 := h.c0
  have hn := h.n1
  have HR := hidden h
  have HIS := hidden (atS_isR k r q n st B w h)
  have hb85 : Tryd.prog.built 85 [] = some #[.bool false, .string ⟨#[]⟩, .slice none 0 0] := by kernel_rfl
  clear h
  unfold giveS
  rcases atS_cases st n k with ⟨e1, e2⟩ | ⟨i, o, d, e1, rfl, hi, hst, e2⟩
  · rw [e1] at HIS ⊢
    clear e2
    go_enter Tryd.func21, Tryd.ntmps21
    go_wp2_with (refine HIS.out.mono ?_; clear HIS; rintro e w1 ⟨rfl, rfl⟩)
    go_ret
    exact ⟨rfl, HR.out.same⟩
  · rw [e1] at HIS ⊢
    clear e2
    have k0 := HR.out.k0 hi (show (st i).isSome = true by rw [hst]; rfl)
    have k1 := HR.out.k1 hi
    obtain ⟨v2, k2⟩ := HR.out.k2' hi
    have f0 := HR.out.row.frozen (i * 3)
    have f1 := HR.out.row.frozen (i * 3 + 1)
    have f2 := HR.out.row.frozen (i * 3 + 2)
    clear hst
    go_enter Tryd.func21, Tryd.ntmps21
    go_wp2_with (refine HIS.out.mono ?_; clear HIS; rintro e w1 ⟨rfl, rfl⟩)
    go_ret
    exact ⟨rfl, HR.out.three hi none (fun o' d e => by cases e)⟩

end Go.Proofs.YtjlpkgepiajapaaDoor
