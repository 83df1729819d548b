/-
  PostAlgebra: what is asked of sets, purely; the document's Rises; an append behind a row's rest.
-/
import Derived.Test.YtjpelnbffodaiaaPoL
import Derived.Test.YtjpelnbffodaiaaPoH
import Derived.ArgAppend
namespace Go.Proofs.Ytjpelnbffodaiaa
open Go.RowKit
set_option linter.unusedVariables false
set_option linter.unusedSimpArgs false

theorem andF_ris (a b : List Nat) : Ris (andF a b) := joF_ris _ _ _ _ _
theorem orF_ris (a b : List Nat) : Ris (orF a b) := joF_ris _ _ _ _ _
theorem notF_ris (a b : List Nat) : Ris (notF a b) := joF_ris _ _ _ _ _
theorem alg1 {a b : List Nat} (h1 : Ris a) (h2 : Ris b) : orF (andF a b) (notF a b) = a :=
  ris_ext (orF_ris _ _) h1 (fun x => by
    rw [orF_mem (andF_ris _ _) (notF_ris _ _), andF_mem h1 h2, notF_mem h1 h2]
    by_cases h : x ∈ b <;> simp [h])
theorem alg2 {a b : List Nat} (h1 : Ris a) (h2 : Ris b) : andF b a = andF a b :=
  ris_ext (andF_ris _ _) (andF_ris _ _) (fun x => by rw [andF_mem h2 h1, andF_mem h1 h2, and_comm])
theorem alg3 {a b : List Nat} (h1 : Ris a) (h2 : Ris b) : orF a b = orF b a :=
  ris_ext (orF_ris _ _) (orF_ris _ _) (fun x => by rw [orF_mem h1 h2, orF_mem h2 h1, or_comm])
theorem alg4 {a b : List Nat} (h1 : Ris a) (h2 : Ris b) : notF a (notF a b) = andF a b :=
  ris_ext (notF_ris _ _) (andF_ris _ _) (fun x => by
    rw [notF_mem h1 (notF_ris _ _), andF_mem h1 h2, notF_mem h1 h2]
    by_cases h : x ∈ b <;> by_cases k : x ∈ a <;> simp [h, k])
theorem alg5 {a b : List Nat} (h1 : Ris a) (h2 : Ris b) : andF (notF a b) b = [] :=
  ris_ext (andF_ris _ _) ris_nil (fun x => by
    rw [andF_mem (notF_ris _ _) h2, notF_mem h1 h2]
    by_cases h : x ∈ b <;> simp [h])
theorem addF_mem {a : List Nat} (h1 : Ris a) (n x : Nat) : x ∈ addF a n ↔ x ∈ a ∨ x = n := by
  unfold addF; rw [orF_mem h1 (ris_one n)]; simp
theorem takF_mem {a : List Nat} (h1 : Ris a) (n x : Nat) : x ∈ takF a n ↔ x ∈ a ∧ x ≠ n := by
  unfold takF; rw [notF_mem h1 (ris_one n)]; simp
theorem addF_ris (a : List Nat) (n : Nat) : Ris (addF a n) := orF_ris _ _
theorem takF_ris (a : List Nat) (n : Nat) : Ris (takF a n) := notF_ris _ _
theorem alg6 {a : List Nat} (h1 : Ris a) (n : Nat) : hasF (addF a n) n = true := by
  simp [hasF, addF_ris, addF_mem h1]
theorem alg7 (a : List Nat) (n : Nat) : hasF (takF (addF a n) n) n = false := by
  simp [hasF, takF_mem (addF_ris a n)]
theorem alg8 {a : List Nat} (h1 : Ris a) {n : Nat} (h : hasF a n = false) : takF (addF a n) n = a :=
  ris_ext (takF_ris _ _) h1 (fun x => by
    have hn : n ∉ a := by simpa [hasF, h1] using h
    rw [takF_mem (addF_ris _ _), addF_mem h1]
    by_cases e : x = n
    · subst e; simp [hn]
    · simp [e])
theorem wrd_and {a b : List Nat} (h1 : Wrd a) (h2 : Wrd b) : Wrd (andF a b) := wrd_joF h1 h2
theorem wrd_or {a b : List Nat} (h1 : Wrd a) (h2 : Wrd b) : Wrd (orF a b) := wrd_joF h1 h2
theorem wrd_not {a b : List Nat} (h1 : Wrd a) (h2 : Wrd b) : Wrd (notF a b) := wrd_joF h1 h2
theorem wrd_add {a : List Nat} {n : Nat} (h1 : Wrd a) (h2 : n ≤ 4294967295) : Wrd (addF a n) := wrd_joF h1 (Wrd.one h2)
theorem wrd_tak {a : List Nat} {n : Nat} (h1 : Wrd a) (h2 : n ≤ 4294967295) : Wrd (takF a n) := wrd_joF h1 (Wrd.one h2)
theorem len_and (a b : List Nat) : (andF a b).length ≤ a.length + b.length := joF_len _ _ _ _ _
theorem len_or (a b : List Nat) : (orF a b).length ≤ a.length + b.length := joF_len _ _ _ _ _
theorem len_not (a b : List Nat) : (notF a b).length ≤ a.length + b.length := joF_len _ _ _ _ _
theorem len_add (a : List Nat) (n : Nat) : (addF a n).length ≤ a.length + 1 := joF_len _ _ _ _ _
theorem len_tak (a : List Nat) (n : Nat) : (takF a n).length ≤ a.length + 1 := joF_len _ _ _ _ _

set_option maxRecDepth 100000 in
set_option maxHeartbeats 4000000 in
theorem risesR (w : World) (ad : Option Addr) (n c : Nat) (l : List Nat) (hs : Sw w ad n l) (hn : n ≤ 1000000000) :
    Calls Try.prog 31 #[.slice ad n c] w fun e w' => e = .returned (.bool (decide (Ris l))) ∧ Below w.heap.size w w' := by
  have HS := hidden hs
  clear hs
  go_enter Try.func31, Try.ntmps31
  go_wp2_with fail
  go_loopw [3] (fun s3 wx => ∃ i : Nat, s3 = .int .i64 ((i + 1 : Nat) : Int) ∧ i ≤ n ∧ Hid (Adj l (i + 1)) ∧ Hid (Below w.heap.size w wx)) (fun s3 _ => n + 1 - (intOf s3).toNat)
  case atStart => exact ⟨0, rfl, by omega, hidden (adj_one _), hidden (Below.refl _ _)⟩
  case round =>
    rename World => wr
    obtain ⟨i, rfl, hi, hadj, hbel⟩ := hrel
    have hl := HS.out.len
    by_cases hlt : i + 1 < n
    · have hltz : ((i + 1 : Nat) : Int) < (n : Int) := by omega
      obtain ⟨b, o, rfl, _, hc⟩ := (HS.out.later hbel.out).at (by omega)
      have k1 := hc i (by omega)
      have k2 := hc (i + 1) (by omega)
      obtain ⟨x, hx⟩ : ∃ x, l.getD i 0 = x := ⟨_, rfl⟩
      obtain ⟨y, hy⟩ : ∃ y, l.getD (i + 1) 0 = y := ⟨_, rfl⟩
      rw [hx] at k1
      rw [hy] at k2
      have HX := hidden hx
      have HY := hidden hy
      have e1 : ((i + 1 : Nat) : Int) - 1 = (i : Int) := by omega
      clear hc hx hy
      by_cases hxy : x < y
      · have hz : ¬ (x : Int) ≥ (y : Int) := by omega
        go_wp2_with fail
        go_quiet (fail)
        go_wp2
        refine ⟨⟨i + 1, by first | rfl | simp, by omega, hidden (adj_step hadj.out (by rw [HX.out, HY.out]; exact hxy)), hidden (below_drewN hbel.out _)⟩, ?_⟩
        simp [intOf]
        omega
      · have hnr : ¬ Ris l := not_ris (i := i) (by omega) (by rw [HX.out, HY.out]; omega)
        have hz : (x : Int) ≥ (y : Int) := by omega
        go_wp2_with fail
        go_quiet (fail)
        go_wp2
        go_ret
        exact ⟨by simp [hnr], below_drewN hbel.out _⟩
    · have hltz : ¬ ((i + 1 : Nat) : Int) < (n : Int) := by omega
      go_wp2
      go_ret
      refine ⟨?_, hbel.out⟩
      have : Ris l := (ris_adj l).2 (fun j hj => hadj.out j (by omega))
      simp [this]

theorem own_spare {w : World} {base : Nat} {e : TypeId} {g n c : Nat} {xs : List Value} (h : w.ownsRow base e 1 (.slice (some ⟨g, 0, none⟩) n c) n xs) {j : Nat} (hj : j < c) : (w.cell? ⟨g, j, none⟩).isSome = true := by
  rcases h.2 with ⟨h1, _⟩ | ⟨g', c', cur, hv, h2, h3, h4, h5, h6, h7⟩
  · simp at h1
  · simp only [Value.slice.injEq, Option.some.injEq, Addr.mk.injEq] at hv
    obtain ⟨⟨rfl, _⟩, _, rfl⟩ := hv
    rw [cell_of_row w g j _ e (0, 0) h3]
    simp
    omega

/-- 'append(c[1:], x, y)', c the call's own. -/
theorem wpList_tail (w : World) {ops : Array Oper} {rest : List Oper} {o : Oper} {a : Act} {Q : Exit → Act → World → Prop} (hgd : o.guard = none) (s x : Operand)
    (ho : o.op = .call { callee := .builtin .append, args := #[s, x], argTypes := #[41, 41] })
    (B g n c : Nat) (y : Int) (L : List Int) (hby : Byte (y :: L)) (hown : w.ownsRow B 5 1 (.slice (some ⟨g, 0, none⟩) (n + 1) c) (n + 1) (cells8 (y :: L))) (hB : B ≤ w.heap.size) (hn : n ≤ 1000000)
    (hs : a.eval s = .slice (some ⟨g, 1, none⟩) n (c - 1)) (h : Nat) (m : List Int) (hm2 : m.length = 2) (hmb : Byte m) (hx : a.eval x = .slice (some ⟨h, 0, none⟩) 2 2) (hm : Sl w (some ⟨h, 0, none⟩) 2 m)
    (hK : ∀ ad' c' w', Sl w' ad' (n + 2) (L ++ m) → n + 2 ≤ c' → c' ≤ maxLen → Below B w w' → wpList Try.prog ops Q rest (a.put o.dst (.slice ad' (n + 2) c')) w') : wpList Try.prog ops Q (o :: rest) a w := by
  obtain ⟨i0, hi, hz0, hz1, hz2⟩ := info_parts info5
  have hLn : L.length = n := by have := own8_len hown; simp at this; omega
  have hsl := sl_of_owns hown hby
  obtain ⟨_, hcap, hcm, _⟩ := owns_cap hown
  have hcut := hsl.cut (K := 1) (N := n) (ad := some ⟨g, 1, none⟩) (by omega) (fun _ => by simp)
  simp only [List.drop_succ_cons, List.drop_zero] at hcut
  rw [List.take_of_length_le (by omega)] at hcut
  have hnews : ∀ j u, (cells8 m)[j]? = some u → w.cell? ((⟨h, 0, none⟩ : Addr).add j) = some u := hm.cells
  have hml : (cells8 m).length = 2 * 1 := by rw [cells8_length]; omega
  refine wpList_append_arg w hgd s x 41 ho 5 i0 _ 1 1 Try.underlying41 hi hz0 hz1 hz2 rfl (by omega) g 1 n (c - 1) (cells8 L) hs (by rw [cells8_length]; omega) (fun j u hu => by have := hcut.cells j u hu; rwa [Addr.add_lit] at this) ⟨h, 0, none⟩ 2 2 (cells8 m) hx hml hnews (cells8_one m) (fun hr j hj => ⟨own_spare hown (by rw [cells8_length] at hj; omega), own_fr hown⟩) (by unfold maxLen; omega) (by omega) ?_ ?_
  · intro hr
    obtain ⟨w', hrun, ho', hg'⟩ := run_append_fits (P := Try.prog) w B 41 0 5 i0 1 Try.underlying41 hi hz1 g (n + 1) c _ hown ⟨h, 0, none⟩ 2 2 (cells8 m) hml hnews (cells8_one m) (by omega)
    have hrun2 := run_append_room_cells (P := Try.prog) w 41 0 5 i0 Try.underlying41 hi g 0 (n + 1) c ⟨h, 0, none⟩ 2 2 (cells8 m) (by rw [hml, hz1]) hnews (cells8_one m) (by omega) (fun j hj => own_spare hown (by rw [cells8_length] at hj; rw [hz1]; omega)) (fun j hj => own_fr hown)
    rw [hrun] at hrun2
    injection hrun2 with _ hw
    rw [hz1, show 0 + (n + 1) * 1 = 1 + n * 1 by omega] at hw
    rw [← hw]
    have hsl2 := sl_of_owns (l := (y :: L) ++ m) (by rw [cells8_append]; exact ho') (hby.append hmb)
    have hcut2 := hsl2.cut (K := 1) (N := n + 2) (ad := some ⟨g, 1, none⟩) (by omega) (fun _ => by simp)
    simp only [List.cons_append, List.drop_succ_cons, List.drop_zero] at hcut2
    rw [List.take_of_length_le (by simp; omega)] at hcut2
    exact hK _ _ w' hcut2 (by omega) (by omega) ((Below.refl _ _).grown hg' hB (fun k hk => by obtain rfl := Option.some.inj hk; exact (hown.lt _ rfl).1))
  · intro hr v' w' ho' hg'
    obtain ⟨a', c', rfl⟩ := owns_form ho'
    obtain ⟨_, q1, q2, _⟩ := owns_cap ho'
    rw [← cells8_append] at ho'
    exact hK a' c' w' (sl_of_owns ho' (Byte.append (l := L) (fun n hn => hby n (by simp [hn])) hmb)) q1 q2 ((Below.refl _ _).grown hg' hB (fun k hk => by cases hk))

end Go.Proofs.Ytjpelnbffodaiaa
