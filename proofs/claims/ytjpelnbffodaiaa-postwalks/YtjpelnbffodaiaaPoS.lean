/-
  The document's Or.
-/
import Derived.Test.YtjpelnbffodaiaaPoR
namespace Go.Proofs.Ytjpelnbffodaiaa
open Go.RowKit
set_option linter.unusedVariables false
set_option linter.unusedSimpArgs false

theorem fold_ris : ∀ (B A : List Nat), Ris A → Ris (B.foldl addF A)
  | [], _, h => h
  | b :: t, A, _ => fold_ris t (addF A b) (addF_ris _ _)
theorem fold_mem : ∀ (B A : List Nat) (x : Nat), Ris A → (x ∈ B.foldl addF A ↔ x ∈ A ∨ x ∈ B)
  | [], _, _, _ => by simp
  | b :: t, A, x, h => by
    rw [List.foldl_cons, fold_mem t (addF A b) x (addF_ris _ _), addF_mem h, List.mem_cons, or_assoc]
theorem fold_or {A B : List Nat} (h1 : Ris A) (h2 : Ris B) : B.foldl addF A = orF A B :=
  ris_ext (fold_ris _ _ h1) (orF_ris _ _) (fun x => by rw [fold_mem _ _ _ h1, orF_mem h1 h2])
theorem fold_wrd : ∀ (B A : List Nat), Wrd A → Wrd B → Wrd (B.foldl addF A)
  | [], _, h, _ => h
  | b :: t, A, h, k => fold_wrd t (addF A b) (wrd_add h (k b (by simp))) (fun n hn => k n (by simp [hn]))
theorem fold_len : ∀ (B A : List Nat), (B.foldl addF A).length ≤ A.length + B.length
  | [], _ => by simp
  | b :: t, A => by
    have := fold_len t (addF A b)
    have := len_add A b
    simp only [List.foldl_cons, List.length_cons]
    omega
theorem fold_step {A B : List Nat} {i n : Nat} (hl : B.length = n) (hi : i < n) : (B.take (i + 1)).foldl addF A = addF ((B.take i).foldl addF A) (B.getD i 0) := by
  have h : i < B.length := by omega
  rw [List.take_add_one, List.getElem?_eq_getElem h, List.foldl_append]
  simp [List.getD, h]

set_option maxRecDepth 100000 in
set_option maxHeartbeats 4000000 in
theorem orR (w : World) (a1 a2 : Option Addr) (n1 c1 n2 c2 : Nat) (A B : List Nat) (h1 : Ar w a1 n1 c1 A) (h2 : Sw w a2 n2 B) (hn1 : n1 ≤ 100000) (hn2 : n2 ≤ 100000) :
    Calls Try.prog 19 #[.slice a1 n1 c1, .slice a2 n2 c2] w fun e w' => OutW w e w' (orF A B) := by
  have H1 := hidden h1
  have H2 := hidden h2
  have hl := h1.sw.len
  have hl2 := h2.len
  have W1 := hidden h1.sw.bd
  have W2 := hidden h2.bd
  clear h1 h2
  go_enter Try.func19, Try.ntmps19
  go_wp2_with fail
  refine (bothR w a1 a2 n1 c1 n2 c2 A B H1.out.sw H2.out (by omega) (by omega)).mono ?_
  rintro e w1 ⟨rfl, b1⟩
  have B1 := hidden b1
  clear b1
  by_cases hr : Ris A ∧ Ris B
  · have HR := hidden hr
    simp only [hr, decide_true, and_self]
    clear hr
    go_wp2_with (refine wpList_appW _ rfl (.tmp 13) (.tmp 14) rfl w.heap.size (.slice none 0 0) 0 [] rfl (World.ownsRow_nil _ _ _ _) a1 n1 c1 A rfl (H1.out.later B1.out).sw H1.out.no (by omega) B1.out.size ?_; intro a5 c5 w5 o5 b5; rw [Nat.zero_add, List.nil_append] at o5; have O5 := hidden o5; have B5 := hidden (B1.out.trans b5); clear o5 b5)
    go_loopw [6, 7] (fun s6 s7 wr => ∃ (i m c' : Nat) (a' : Option Addr), s6 = .slice a' m c' ∧ s7 = .int .i64 (i : Int) ∧ i ≤ n2 ∧ m ≤ 200000 ∧ Hid (wr.ownsRow w.heap.size 23 1 (.slice a' m c') m (cells32 ((B.take i).foldl addF A))) ∧ Hid (Below w.heap.size w wr)) (fun _ s7 _ => n2 - (intOf s7).toNat)
    case atStart => exact ⟨0, n1, c5, a5, rfl, rfl, by omega, by omega, O5, B5⟩
    case round =>
      rename World => wr
      obtain ⟨i, m, c', a', rfl, rfl, hi, hm, hown, hbel⟩ := hrel
      clear O5 B5
      by_cases hlt : i < n2
      · have hltz : (i : Int) < (n2 : Int) := by omega
        obtain ⟨b, o, rfl, _, hc⟩ := (H2.out.later hbel.out).at (by omega)
        have k1 := hc i hlt
        have hst := hidden (fold_step (A := A) hl2 hlt)
        have hy32 := W2.out.at i
        obtain ⟨y, hy⟩ : ∃ y, B.getD i 0 = y := ⟨_, rfl⟩
        rw [hy] at k1 hst hy32
        have hfl := fold_len (B.take i) A
        rw [List.length_take, hl, hl2] at hfl
        have hfw := hidden (fold_wrd (B.take i) A W1.out (W2.out.take i))
        have hML := own_len hown.out
        generalize (B.take i).foldl addF A = M at *
        clear hc hy
        subst hML
        have hAM := hidden (ar_owns hown.out hfw.out)
        go_wp2_with fail
        refine (addR wr a' M.length c' y M hAM.out (by omega) hy32).mono ?_
        rintro e w6 ⟨a6, c6, rfl, o6, b6⟩
        have hla := len_add M y
        rw [← hst.out] at o6 hla ⊢
        have O6 := hidden (owns_base o6 hbel.out.size)
        have B6 := hidden (bt hbel.out (Nat.le_refl _) b6)
        clear o6 b6
        go_wp2
        refine ⟨⟨i + 1, _, c6, a6, rfl, by first | rfl | simp, by omega, by omega, O6, B6⟩, ?_⟩
        simp [intOf]
        omega
      · have hltz : ¬ (i : Int) < (n2 : Int) := by omega
        obtain rfl : i = n2 := by omega
        rw [List.take_of_length_le (by omega), fold_or HR.out.1 HR.out.2] at hown
        have hml := own_len hown.out
        subst hml
        go_wp2
        go_ret
        exact ⟨a', c', rfl, hown.out, hbel.out⟩
  · simp only [hr, decide_false]
    go_wp2
    go_ret
    rw [orF, joF_not hr]
    exact ⟨none, 0, rfl, World.ownsRow_nil _ _ _ _, B1.out⟩

end Go.Proofs.Ytjpelnbffodaiaa
