/-
  The document's Take, Add, Or.
-/
import Derived.Test.YtjpelnbffodaiaaPoP
namespace Go.Proofs.Ytjpelnbffodaiaa
open Go.RowKit
set_option linter.unusedVariables false
set_option linter.unusedSimpArgs false

theorem takF_filter {a : List Nat} (h : Ris a) (n : Nat) : takF a n = a.filter (fun x => !decide (x = n)) :=
  ris_ext (takF_ris _ _) (h.filter _) (fun x => by rw [takF_mem h]; simp)
theorem tak_lt {a : List Nat} (h : Ris a) (n : Nat) : decide ((takF a n).length < a.length) = hasF a n := by
  rw [takF_filter h]
  by_cases hn : n ∈ a
  · have h1 : (a.filter (fun x => !decide (x = n))).length < a.length := by
      have h2 : (a.filter (fun x => !decide (x = n))).length ≤ a.length := List.length_filter_le _ _
      rcases Nat.lt_or_eq_of_le h2 with h3 | h3
      · exact h3
      · have := List.length_filter_eq_length_iff.1 h3 n hn
        simp at this
    simp [h1, hasF, h, hn]
  · have h1 : a.filter (fun x => !decide (x = n)) = a := List.filter_eq_self.2 (fun x hx => by
      have : x ≠ n := fun e => hn (e ▸ hx)
      simp [this])
    rw [h1]
    simp [hasF, hn]

set_option maxRecDepth 100000 in
set_option maxHeartbeats 4000000 in
theorem takeR (w : World) (a1 : Option Addr) (n1 c1 x : Nat) (A : List Nat) (h1 : Sw w a1 n1 A) (hn1 : n1 ≤ 1000000) :
    Calls Try.prog 16 #[.slice a1 n1 c1, .int .u32 (x : Int)] w fun e w' => OutB w e w' (takF A x) (hasF A x) := by
  have H1 := hidden h1
  have hl := h1.len
  clear h1
  go_enter Try.func16, Try.ntmps16
  go_wp2_with fail
  refine (risesR w a1 n1 c1 A H1.out (by omega)).mono ?_
  rintro e w1 ⟨rfl, b1⟩
  have B1 := hidden b1
  clear b1
  by_cases hr : Ris A
  · have HR := hidden hr
    simp only [hr, decide_true]
    go_wp2_with fail
    go_loopw [7, 8] (fun s7 s8 wr => ∃ (i m c' : Nat) (a' : Option Addr), s7 = .slice a' m c' ∧ s8 = .int .i64 (i : Int) ∧ i ≤ n1 ∧ m ≤ i ∧ Hid (wr.ownsRow w.heap.size 23 1 (.slice a' m c') m (cells32 ((A.take i).filter (fun y => !decide (y = x))))) ∧ Hid (Below w.heap.size w wr)) (fun _ s8 _ => n1 - (intOf s8).toNat)
    case atStart => exact ⟨0, 0, 0, none, rfl, rfl, by omega, by omega, hidden (World.ownsRow_nil _ _ _ _), B1⟩
    case round =>
      rename World => wr
      obtain ⟨i, m, c', a', rfl, rfl, hi, hm, hown, hbel⟩ := hrel
      by_cases hlt : i < n1
      · have hltz : (i : Int) < (n1 : Int) := by omega
        obtain ⟨b, o, rfl, _, hc⟩ := (H1.out.later hbel.out).at (by omega)
        have k1 := hc i hlt
        have hst := hidden (filter_step (fun y => !decide (y = x)) hl hlt)
        obtain ⟨y, hy⟩ : ∃ y, A.getD i 0 = y := ⟨_, rfl⟩
        rw [hy] at k1 hst
        clear hc hy
        by_cases hin : y = x
        · simp only [hin, decide_true, Bool.not_true, Bool.false_eq_true, if_false, List.append_nil] at hst
          subst hin
          go_wp2
          refine ⟨⟨i + 1, m, c', a', rfl, by first | rfl | simp, by omega, by omega, by rw [hst.out]; exact hown, hbel⟩, ?_⟩
          simp [intOf]
          omega
        · simp only [hin, decide_false, Bool.not_false, if_true] at hst
          have hz : ¬ (y : Int) = (x : Int) := by omega
          go_wp2_with (refine wpList_pushW _ rfl (.tmp 25) (.tmp 30) rfl w.heap.size (.slice a' m c') m _ rfl wr hown.out y _ rfl rfl rfl (by omega) hbel.out.size ?_; intro g8 c8 w8 o8 b8; have O8 := hidden o8; have B8 := hidden (hbel.out.trans b8); clear o8 b8)
          refine ⟨⟨i + 1, m + 1, c8, _, rfl, by first | rfl | simp, by omega, by omega, by rw [hst.out]; exact O8, B8⟩, ?_⟩
          simp [intOf]
          omega
      · have hltz : ¬ (i : Int) < (n1 : Int) := by omega
        obtain rfl : i = n1 := by omega
        have hE : (A.take i).filter (fun y => !decide (y = x)) = takF A x := by
          rw [List.take_of_length_le (by omega), takF_filter HR.out]
        rw [hE] at hown
        have hml := own_len hown.out
        have hlt := tak_lt HR.out x
        rw [hml, hl] at hlt
        have HML := hidden hml
        have HLT := hidden hlt
        clear hlt hml
        go_wp2
        go_ret2
        rw [OutB, HML.out, ← HLT.out]
        exact ⟨a', c', by simp, hown.out, hbel.out⟩
  · simp only [hr, decide_false]
    go_wp2
    go_ret2
    have e1 : takF A x = [] := joF_not (fun h => hr h.1)
    rw [e1, show hasF A x = false by simp [hasF, hr]]
    exact ⟨none, 0, rfl, World.ownsRow_nil _ _ _ _, B1.out⟩

/-- Where a number belongs. -/
theorem add_has {A : List Nat} (h : Ris A) {n K : Nat} (hK : K < A.length) (e : A.getD K 0 = n) : addF A n = A ∧ hasF A n = true := by
  have hm : n ∈ A := mem_getD.2 ⟨K, hK, e⟩
  refine ⟨ris_ext (addF_ris _ _) h (fun x => ?_), by simp [hasF, h, hm]⟩
  rw [addF_mem h]
  constructor
  · rintro (h | rfl)
    · exact h
    · exact hm
  · exact .inl
theorem take_lt {A : List Nat} {n K : Nat} (hlo : ∀ j, j < K → A.getD j 0 < n) (hK : K ≤ A.length) : ∀ x ∈ A.take K, x < n := by
  intro x hx
  obtain ⟨j, hj, e⟩ := mem_getD.1 hx
  simp at hj
  have := hlo j (by omega)
  have e2 : (A.take K).getD j 0 = A.getD j 0 := by simp [List.getD, List.getElem?_take, show j < K by omega]
  omega
theorem drop_gt {A : List Nat} (h : Ris A) {n K : Nat} (hhi : K < A.length → n < A.getD K 0) : ∀ x ∈ A.drop K, n < x := by
  intro x hx
  by_cases hK : K < A.length
  · have hd := h.drop K
    rw [drop_get (n := A.length) rfl (by omega)] at hd hx
    have e : (A.drop K).getD 0 0 = A.getD K 0 := by simp [List.getD]
    rcases List.mem_cons.1 hx with e1 | e1
    · have := hhi hK; omega
    · have := (List.pairwise_cons.1 hd).1 x e1
      have := hhi hK
      omega
  · rw [List.drop_eq_nil_of_le (by omega)] at hx
    simp at hx
theorem add_new {A : List Nat} (h : Ris A) {n K : Nat} (hK : K ≤ A.length) (hlo : ∀ j, j < K → A.getD j 0 < n) (hhi : K < A.length → n < A.getD K 0) : addF A n = A.take K ++ [n] ++ A.drop K ∧ hasF A n = false := by
  have h1 := take_lt hlo hK
  have h2 := drop_gt h hhi
  have hn : n ∉ A := fun hm => by
    rw [← List.take_append_drop K A] at hm
    rcases List.mem_append.1 hm with e | e
    · have := h1 n e; omega
    · have := h2 n e; omega
  refine ⟨ris_ext (addF_ris _ _) ?_ (fun x => ?_), by simp [hasF, hn]⟩
  · rw [List.append_assoc]
    refine List.pairwise_append.2 ⟨h.take K, List.pairwise_append.2 ⟨ris_one n, h.drop K, fun a ha b hb => ?_⟩, fun a ha b hb => ?_⟩
    · simp at ha; subst ha; exact h2 b hb
    · have := h1 a ha
      rcases List.mem_append.1 hb with e | e
      · simp at e; omega
      · have := h2 b e; omega
  · rw [addF_mem h]
    constructor
    · rintro (h | rfl)
      · rw [← List.take_append_drop K A] at h
        rcases List.mem_append.1 h with e | e
        · simp [e]
        · simp [e]
      · simp
    · intro h
      simp only [List.mem_append, List.mem_singleton] at h
      rcases h with (e | e) | e
      · exact .inl (List.mem_of_mem_take e)
      · exact .inr e
      · exact .inl (List.mem_of_mem_drop e)

theorem sw_rest {w : World} {b o n c K : Nat} {l : List Nat} (h : Sw w (some ⟨b, o, none⟩) n l) (hc : n ≤ c) (hK : K ≤ n) : (c = K → Sw w (some ⟨b, o, none⟩) (n - K) (l.drop K)) ∧ Sw w (some ⟨b, o + K, none⟩) (n - K) (l.drop K) := by
  refine ⟨fun e => ?_, h.drop hK⟩
  rw [List.drop_eq_nil_of_le (by rw [h.len]; omega), show n - K = 0 by omega]
  exact Sw.nil _ _

end Go.Proofs.Ytjpelnbffodaiaa
