/-
  Regions that are run in the text's order, by what each operation leaves. Nothing of the program.
-/
import Derived.Test.YtfieglepljmmkaaAnyM
namespace Go.Proofs.Ytfieglepljmmkaa
open Go.RowKit
set_option linter.unusedVariables false

section
variable {P : Program} {ops : Array Oper} {Q : Exit → Act → World → Prop} {Later : World → World → Prop} {T : Nat → Value → World → Prop} {a0 : Act} {w0 : World}

theorem wpList_inv (L : Nat) (hLs : L + 1 = ops.size) (hap : apartAll ops = true) (hfw : forward ops = true) (hsz : within ops a0.tmps.size = true) (hall : allBut ops L = true) (hgl : ∀ o, ops[L]? = some o → o.guard = none)
    (hrf : ∀ a, Later a a) (htr : ∀ a b c, Later a b → Later b c → Later a c) (hst : ∀ i v w w', T i v w → Later w w' → T i v w')
    (hop : ∀ i o, i < L → ops[i]? = some o → StepOk P ops Q Later T a0 w0 i o)
    (hlast : ∀ o a w, ops[L]? = some o → Later w0 w → Same ops a0 a → (∀ i oi, i < L → ops[i]? = some oi → T i (valOf a oi) w) → o.wp P a w (fun a' w' => Q .normal a' w') Q) :
    ∀ (n k : Nat), k + n = L → ∀ (a : Act) (w : World), Later w0 w → Same ops a0 a → (∀ i oi, i < k → ops[i]? = some oi → T i (valOf a oi) w) → wpList P ops Q (ops.toList.drop k) a w := by
  intro n
  induction n with
  | zero =>
    intro k hk a w hw hs hT
    obtain rfl : k = L := by omega
    have hlt : k < ops.toList.length := by rw [Array.length_toList]; omega
    rw [List.drop_eq_getElem_cons hlt, List.drop_eq_nil_of_le (by rw [Array.length_toList]; omega)]
    have ho : ops[k]? = some ops.toList[k] := by simp [show k < ops.size by omega]
    refine wpList_plain (hgl _ ho) (fun K hK => Oper.wp_mono (fun a' w' h' => hK _ _ h') (hlast _ a w ho hw hs (fun i oi hi hoi => hT i oi hi hoi)))
  | succ n ih =>
    intro k hk a w hw hs hT
    have hlt : k < ops.toList.length := by rw [Array.length_toList]; omega
    rw [List.drop_eq_getElem_cons hlt]
    have ho : ops[k]? = some ops.toList[k] := by simp [show k < ops.size by omega]
    generalize ops.toList[k] = o at *
    have step := hop k o (by omega) ho a w hw hs (fun e he hb oj hoj => hT e.on oj (forward_spec hfw ho e he hb) hoj)
    have hsome : o.dst.isSome = true := by
      have := List.all_eq_true.1 hall k (List.mem_range.2 (by omega))
      rw [ho] at this
      exact this
    have next : ∀ v w', Later w w' → T k v w' → wpList P ops Q (ops.toList.drop (k + 1)) (a.put o.dst v) w' := by
      intro v w' hl2 hT2
      refine ih (k + 1) (by omega) _ _ (htr _ _ _ hw hl2) (same_put ho hs) ?_
      intro j oj hj hoj
      by_cases hij : k = j
      · subst hij
        rw [ho] at hoj
        obtain rfl := Option.some.inj hoj
        rw [valOf_put_same (by rw [hs.size]; exact hsz) ho hsome]
        exact hT2
      · rw [valOf_put hap ho hoj hij]
        exact hst _ _ _ _ (hT j oj (by omega) hoj) hl2
    show (if Region.wanted o (yielded ops a.tmps) = true then _ else _)
    split
    · rename_i hwant
      rw [if_pos hwant] at step
      left
      refine Oper.wp_mono (fun a' w' h' => ?_) step
      obtain ⟨v, rfl, h1, h2⟩ := h'
      exact next v w' h1 h2
    · rename_i hwant
      rw [if_neg hwant] at step
      exact next undef w (hrf w) step

def lastPlain (ops : Array Oper) (L : Nat) : Bool := decide (L + 1 = ops.size) && match ops[L]? with
  | some o => o.guard.isNone
  | none => false

theorem wp_region_text (L : Nat) (Later : World → World → Prop) (T : Nat → Value → World → Prop) {id : Nat} {a : Act} {w : World}
    (hap : apartAll ops = true) (hf : forward ops = true) (hsz : within ops a.tmps.size = true) (hlp : lastPlain ops L = true) (hall : allBut ops L = true)
    (hrf : ∀ a, Later a a) (htr : ∀ a b c, Later a b → Later b c → Later a c) (hst : ∀ i v w w', T i v w → Later w w' → T i v w')
    (hop : ∀ i o, i < L → ops[i]? = some o → StepOk P ops Q Later T a w i o)
    (hlast : ∀ o a' w', ops[L]? = some o → Later w w' → Same ops a a' → (∀ i oi, i < L → ops[i]? = some oi → T i (valOf a' oi) w') → o.wp P a' w' (fun a'' w'' => Q .normal a'' w'') Q) : (Code.region id ops false).wp P Q a w := by
  simp only [lastPlain, Bool.and_eq_true, decide_eq_true_eq] at hlp
  obtain ⟨hLs, hg⟩ := hlp
  have := wpList_inv (Q := Q) L hLs hap hf hsz hall (fun o ho => by rw [ho] at hg; simpa using hg) hrf htr hst hop hlast L 0 (by omega) a w (hrf w) ⟨rfl, rfl, fun _ _ => rfl⟩ (fun i _ hi => absurd hi (by omega))
  exact wp_region_list (by simpa using this)
end

end Go.Proofs.Ytfieglepljmmkaa
