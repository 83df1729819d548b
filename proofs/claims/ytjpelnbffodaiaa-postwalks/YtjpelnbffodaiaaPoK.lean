/-
  Package post: Get.
-/
import Derived.Test.YtjpelnbffodaiaaPoJ
namespace Go.Proofs.Ytjpelnbffodaiaa
open Go.RowKit
set_option linter.unusedVariables false
set_option linter.unusedSimpArgs false

theorem own_room {w : World} {e : TypeId} {g m : Nat} {z : Value} (h : w.heap[g]? = some (.cells (List.replicate m z).toArray e (0, 0))) (hm : m ≤ maxLen) : w.ownsRow g e 1 (.slice (some ⟨g, 0, none⟩) 0 m) 0 [] := by
  refine ⟨rfl, .inr ⟨g, m, _, rfl, Nat.le_refl _, h, by omega, hm, by simp, by simp⟩⟩

/-- 'make([]uint32, 0, c)'. -/
theorem wpList_room32 (w : World) {ops : Array Oper} {rest : List Oper} {o : Oper} {a : Act} {Q : Exit → Act → World → Prop}
    (hg : o.guard = none) (l c : Operand) (hop : o.op = Op.makeSlice 22 l c) (kl kc : IntKind) (C : Int) (m : Nat) (hl : a.eval l = .int kl 0) (hc : a.eval c = .int kc C) (hC : C = (m : Int)) (b2 : m ≤ 100000000)
    (hK : ∀ w', w'.ownsRow w.heap.size 23 1 (.slice (some ⟨w.heap.size, 0, none⟩) 0 m) 0 (cells32 []) → Below w.heap.size w w' → wpList Try.prog ops Q rest (a.put o.dst (.slice (some ⟨w.heap.size, 0, none⟩) 0 m)) w') :
    wpList Try.prog ops Q (o :: rest) a w := by
  obtain ⟨i, h2, h3, h4, h5⟩ := info_parts info23
  refine wpList_plain hg fun K hK' => ?_
  subst hC
  have hr := run_make (P := Try.prog) w 22 23 i _ Try.underlying22 h2 h3 kl kc 0 m (by omega) (by omega) (by rw [h5]; omega) (by omega)
  have hz6 : (Value.int IntKind.u32 0).cells = #[Value.int IntKind.u32 0] := rfl
  rw [h4, hz6] at hr
  simp only [Int.toNat_natCast, Nat.mul_one] at hr
  unfold Oper.wp
  simp [execOp, hop, hl, hc, hr, Result.andThen]
  refine hK' _ _ (hK _ ?_ ((Below.refl _ _).alloc (Nat.le_refl _) _))
  refine own_room (z := .int .u32 0) ?_ (by unfold maxLen; omega)
  rw [heap_alloc_new w]
  have := toList_madeCells_one (Value.int IntKind.u32 0) m
  rw [← this]

/-- A list and a number. -/
def OutG (w : World) (e : Ending) (w' : World) (g : Option (List Nat × Nat)) : Prop :=
  ∃ ad c, e = .returned (.tuple #[.slice ad (g.getD ([], 0)).1.length c, .int .i64 ((g.getD ([], 0)).2 : Int)]) ∧ w'.ownsRow w.heap.size 23 1 (.slice ad (g.getD ([], 0)).1.length c) (g.getD ([], 0)).1.length (cells32 (g.getD ([], 0)).1) ∧ Below w.heap.size w w'
theorem OutG.none' {w w' : World} {g : Option (List Nat × Nat)} (h : g = none) (hb : Below w.heap.size w w') : OutG w (.returned (.tuple #[.slice none 0 0, .int .i64 0])) w' g := by
  subst h
  exact ⟨none, 0, rfl, World.ownsRow_nil _ _ _ _, hb⟩

/-- What is left to be read. -/
def cont (b : List Int) (m k at' : Nat) (out : List Nat) : Option (List Nat × Nat) :=
  match getL m k (b.drop at') with
  | none => none
  | some (l, t) => some (out ++ l, at' + t)
theorem cont_none {b : List Int} {m k at' d s : Nat} {out : List Nat} (hd : dec (b.drop at') = (d, s)) (h : s = 0 ∨ 4294967295 < d ∨ 4294967295 < k + d) : cont b (m + 1) k at' out = none := by
  unfold cont
  rw [getL, hd, if_pos h]
theorem cont_step {b : List Int} {m k at' d s : Nat} {out : List Nat} (hd : dec (b.drop at') = (d, s)) (h : ¬ (s = 0 ∨ 4294967295 < d ∨ 4294967295 < k + d)) : cont b (m + 1) k at' out = cont b m (k + d + 1) (at' + s) (out ++ [k + d]) := by
  unfold cont
  rw [getL, hd, if_neg h, List.drop_drop]
  simp only []
  rcases getL m (k + d + 1) (List.drop (at' + s) b) with _ | ⟨l, t⟩
  · rfl
  · simp
    omega
theorem sl_rest {w : World} {b1 o1 n c K : Nat} {b : List Int} (h : Sl w (some ⟨b1, o1, none⟩) n b) (hc : n ≤ c) (hK : K ≤ n) : Sl w (if c = K then some ⟨b1, o1, none⟩ else some ⟨b1, o1 + K, none⟩) (n - K) (b.drop K) := by
  have := h.cut (K := K) (N := n - K) (ad := if c = K then some ⟨b1, o1, none⟩ else some ⟨b1, o1 + K, none⟩) (by omega) (fun hp => by rw [if_neg (by omega)])
  rw [List.take_of_length_le (by simp [h.len])] at this
  exact this

set_option maxRecDepth 100000 in
set_option maxHeartbeats 4000000 in
theorem getP (w : World) (ad : Option Addr) (n c : Nat) (b : List Int) (hs : Sl w ad n b) (hc : n ≤ c) (hcm : c ≤ maxLen) (hn : n ≤ 1000000) :
    Calls Try.prog 29 #[.slice ad n c] w fun e w' => OutG w e w' (getF b) := by
  unfold maxLen at hcm
  have HS := hidden hs
  have HL := hidden hs.len
  have hbd := dec_bound b hs.byte
  have hlen := hs.len
  clear hs
  obtain ⟨⟨m, s⟩, hd⟩ : ∃ p, dec b = p := ⟨_, rfl⟩
  rw [hd, hlen] at hbd
  simp only at hbd
  obtain ⟨hb1, hb2, hb3⟩ := hbd
  clear hlen
  go_enter Try.func29, Try.ntmps29
  go_wp2_with fail
  refine (uint_any ad n c b w HS.out (by omega)).mono ?_
  rintro e w' ⟨rfl, rfl⟩
  rw [hd]
  by_cases h0 : s = 0
  · have hg : getF b = none := by unfold getF; rw [hd, if_pos (.inl h0)]
    have HG := hidden hg
    subst h0
    clear hd hg
    go_wp2
    go_ret2
    exact OutG.none' HG.out (Below.refl _ _)
  · have h0z : ¬ (s : Int) = 0 := by omega
    obtain ⟨r, hr⟩ : ∃ r, n - s = r := ⟨_, rfl⟩
    have hrz : (n : Int) - (s : Int) = (r : Int) := by omega
    by_cases h1 : r < m
    · have hg : getF b = none := by unfold getF; rw [hd, if_pos (.inr (by rw [HL.out]; simp only; omega))]
      have HG := hidden hg
      have h1z : (m : Int) > (r : Int) := by omega
      clear hd hg
      go_wp2
      go_ret2
      exact OutG.none' HG.out (Below.refl _ _)
    · have h1z : ¬ (m : Int) > (r : Int) := by omega
      have hg : getF b = cont b m 0 s [] := by
        unfold getF cont
        rw [hd, if_neg (by rw [HL.out]; simp only; omega)]
        simp only [List.nil_append]
        rcases getL m 0 (List.drop s b) with _ | ⟨l, t⟩ <;> rfl
      have HG := hidden hg
      have HD := hidden hd
      clear hd hg
      obtain ⟨b1, o1, rfl, _, _⟩ := HS.out.at (by omega)
      go_wp2_with (refine wpList_room32 _ rfl _ _ rfl _ _ _ m rfl rfl rfl (by omega) ?_; intro w1 o1' b1'; have O1 := hidden o1'; have B1 := hidden b1'; clear o1' b1')
      go_loopw [5, 6, 7, 29] (fun s5 s6 s7 s29 wr => ∃ (i k at' c' : Nat) (a' : Option Addr) (out : List Nat), s5 = .int .i64 (at' : Int) ∧ s6 = .slice a' i c' ∧ s7 = .int .u64 (k : Int) ∧ s29 = .int .u64 (i : Int) ∧ i ≤ m ∧ at' ≤ n ∧ k ≤ 4294967296 ∧ Hid (wr.ownsRow w'.heap.size 23 1 (.slice a' i c') i (cells32 out)) ∧ Hid (getF b = cont b (m - i) k at' out) ∧ Hid (Below w'.heap.size w' wr)) (fun _ _ _ s29 _ => m - (intOf s29).toNat)
      case atStart => exact ⟨0, 0, s, m, _, [], rfl, rfl, rfl, rfl, by omega, by omega, by omega, O1, HG, B1⟩
      case round =>
        rename World => wr
        obtain ⟨i, k, at', c', a', out, rfl, rfl, rfl, rfl, hi, hat, hk, hown, hG, hbel⟩ := hrel
        clear O1 B1 HG
        by_cases hlt : i < m
        · have hltz : (i : Int) < (m : Int) := by omega
          have HSR := hidden (sl_rest (HS.out.later hbel.out) hc hat)
          have hbd := dec_bound _ HSR.out.byte
          rw [HSR.out.len] at hbd
          obtain ⟨⟨d, z⟩, hd⟩ : ∃ p, dec (b.drop at') = p := ⟨_, rfl⟩
          rw [hd] at hbd
          simp only at hbd
          obtain ⟨hd1, hd2, hd3⟩ := hbd
          have HD2 := hidden hd
          clear hd
          obtain ⟨q, hq⟩ : ∃ q, m - i = q + 1 := ⟨m - i - 1, by omega⟩
          have HQ := hidden hq
          clear hq
          have HR1 : Hid (c = at' → Sl wr (some ⟨b1, o1, none⟩) (n - at') (b.drop at')) := hidden (fun e => by have := HSR.out; rw [if_pos e] at this; exact this)
          have HR2 : Hid (¬ c = at' → Sl wr (some ⟨b1, o1 + at', none⟩) (n - at') (b.drop at')) := hidden (fun e => by have := HSR.out; rw [if_neg e] at this; exact this)
          clear HSR
          go_wp2_with fail
          all_goals
            refine (uint_any _ (n - at') _ (b.drop at') wr (by first | exact HR2.out (by omega) | exact HR1.out (by omega)) (by omega)).mono ?_
            rintro e w5 ⟨rfl, rfl⟩
            rw [HD2.out]
            by_cases hz0 : z = 0
            · subst hz0
              have HN : Hid (getF b = none) := hidden (hG.out.trans (by rw [HQ.out]; exact cont_none HD2.out (.inl rfl)))
              clear hG HD2
              go_wp2
              go_ret2
              exact OutG.none' HN.out hbel.out
            · have hz0z : ¬ (z : Int) = 0 := by omega
              first | (exfalso; omega) | skip
              all_goals
                by_cases hd32 : 4294967295 < d
                · have hd32z : (d : Int) > 4294967295 := by omega
                  have HN : Hid (getF b = none) := hidden (hG.out.trans (by rw [HQ.out]; exact cont_none HD2.out (.inr (.inl hd32))))
                  clear hG HD2
                  go_wp2
                  go_ret2
                  exact OutG.none' HN.out hbel.out
                · have hd32z : ¬ (d : Int) > 4294967295 := by omega
                  obtain ⟨y, hy⟩ : ∃ y, k + d = y := ⟨_, rfl⟩
                  have hyz : (k : Int) + (d : Int) = (y : Int) := by omega
                  by_cases hk32 : 4294967295 < y
                  · have hk32z : (y : Int) > 4294967295 := by omega
                    have HN : Hid (getF b = none) := hidden (hG.out.trans (by rw [HQ.out]; exact cont_none HD2.out (.inr (.inr (by omega)))))
                    clear hG HD2
                    go_wp2
                    go_ret2
                    exact OutG.none' HN.out hbel.out
                  · have hk32z : ¬ (y : Int) > 4294967295 := by omega
                    have HN : Hid (getF b = cont b q (k + d + 1) (at' + z) (out ++ [k + d])) := hidden (hG.out.trans (by rw [HQ.out]; exact cont_step HD2.out (by omega)))
                    rw [hy] at HN
                    have HNQ : Hid (m - (i + 1) = q) := hidden (by have := HQ.out; omega)
                    have hyz2 : (k : Int) + ((d : Int) + 1) = ((y + 1 : Nat) : Int) := by omega
                    clear hG HD2 hy
                    go_wp2_with (refine wpList_pushW _ rfl (.tmp 50) (.tmp 55) rfl w'.heap.size (.slice a' i c') i out rfl w5 hown.out y _ rfl rfl rfl (by omega) hbel.out.size ?_; intro g8 c8 w8 o8 b8; have O8 := hidden o8; have B8 := hidden (hbel.out.trans b8); clear o8 b8)
                    all_goals first
                      | (exfalso; rename_i hbad; simp at hbad; omega)
                      | (refine ⟨⟨i + 1, y + 1, at' + z, c8, some ⟨g8, 0, none⟩, out ++ [y], by first | rfl | simp, by first | rfl | simp, by first | rfl | simp, by first | rfl | simp, by omega, by omega, by omega, O8, by rw [HNQ.out]; exact HN, B8⟩, ?_⟩; simp [intOf]; omega)
        · have hltz : ¬ (i : Int) < (m : Int) := by omega
          have hE := hG.out
          rw [show m - i = 0 by omega, cont, getL] at hE
          simp only [List.append_nil, Nat.add_zero] at hE
          have HE := hidden hE
          clear hE
          have hol := hidden (own_len hown.out)
          go_wp2
          go_ret2
          rw [OutG, HE.out]
          simp only [Option.getD_some]
          rw [hol.out]
          exact ⟨a', c', rfl, hown.out, hbel.out⟩

end Go.Proofs.Ytjpelnbffodaiaa
