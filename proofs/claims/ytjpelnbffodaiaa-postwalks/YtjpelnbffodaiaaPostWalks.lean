/-
  Statement 'PostWalks' of layer 12: the frame of the row, over the walk.
-/
import Derived.Test.YtjpelnbffodaiaaRows
import Derived.WalkKit
import Derived.ProofKit
import Derived.OpenShut
import Derived.ShutString
import Derived.ChangeOld
import Derived.Below
import Derived.Deep.Matrix
import Derived.Test.YtjpelnbffodaiaaPwF
namespace Go.Proofs.Ytjpelnbffodaiaa.postWalks
open Go.ChangeShapes Go.WideShapes Go.ChangeAt Go.RowKit
open Go.ChangeMaps (open_string shut_string)
set_option linter.unusedVariables false

theorem own : ownKnob Try.prog.godebug = none := by kernel_rfl
theorem laidOut : laidOutB Try.prog = true := by kernel_rfl
theorem bounds_u32 {n : Int} (h : (Lit.int .u32 n).wf = true) : 0 ≤ n ∧ n ≤ 4294967295 := by
  simp [Lit.wf, IntKind.min, IntKind.max, IntKind.signed, IntKind.bits] at h
  omega

/-- Lists that came in. -/
def IsRows (w : World) (a : Option Addr) (len cap : Nat) : Prop :=
  ∃ xs : List Lst, Lsw w a xs ∧ xs.length = len ∧ len ≤ cap ∧ cap ≤ maxLen
theorem ar_of {w : World} {A : Option Addr} {L C : Nat} {Z : List Int} (h1 : L ≤ C) (h2 : C ≤ maxLen) (h3 : Z.length = C) (h4 : ∀ n ∈ Z, (Lit.int .u32 n).wf = true) (h5 : A = none → C = 0) (h6 : ∀ a', A = some a' → ∀ c, c < C → w.cell? (a'.add c) = some (.int .u32 (Z.getD c 0))) :
    Ar w A L C ((Z.take L).map Int.toNat) := by
  refine ⟨⟨by simp; omega, fun m hm => ?_, fun j hj => ?_⟩, fun e => ⟨by have := h5 e; omega, h5 e⟩, h1, h2⟩
  · obtain ⟨z, hz, rfl⟩ := List.mem_map.1 hm
    have := bounds_u32 (h4 z (List.mem_of_mem_take hz))
    omega
  · cases hA : A with
    | none => have := h5 hA; omega
    | some x =>
      refine ⟨x, rfl, ?_⟩
      rw [h6 x hA j (by omega)]
      have hj' : j < Z.length := by omega
      have hb := bounds_u32 (h4 Z[j] (List.getElem_mem hj'))
      have e1 : Z.getD j 0 = Z[j] := by simp [List.getD, hj']
      have e2 : ((Z.take L).map Int.toNat).getD j 0 = Z[j].toNat := by simp [List.getD, hj', hj]
      rw [e1, e2]
      congr 2
      omega

theorem walk (a0 : Option Addr) (len0 cap0 : Nat) (a1 : Int) (w : World) (w0 : IsRows w a0 len0 cap0) :
    Calls Try.prog 4 #[.slice a0 len0 cap0, .int .i64 a1] w fun e w' => e = .returned (.bool true) ∧ Below w.heap.size w w' := by
  obtain ⟨xs, h1, h2, h3, h4⟩ := w0
  exact walks_any a0 len0 cap0 xs a1 w h1 h2 h3 h4

/-! ### The row -/
set_option maxRecDepth 100000 in
theorem lifted (os : Os) (started : os.Started) (H : Type) (enc : TypeId × Value → H) :
    ReturnsInHanded {} Try.checked os 4 .any (Rows.postWalksSpec.pre6 enc Try.prog Try.f4 Rows.postWalksRow.domain false) (Rows.postWalksSpec.post enc Try.prog Try.f4 false true false false) := by
  refine returnsInHanded_of_change (C := Try.checked) own started (by kernel_rfl) Try.func4
    (ChangeSpec.witness6 (enc := enc) (C := Try.checked) false ⟨#[], #[.slice none 0 0, .int .i64 0], []⟩ 8 (by kernel_rfl) (by kernel_rfl) (by kernel_rfl) (by kernel_rfl)) ?_
  intro W base args ds gs before hval0 hW hcnd _
  have hval : ∀ (j : Nat) t v, Try.f4.params[j]? = some t → args[j]? = some v → Value.okWide Try.prog W .any base t v := hval0
  have hW' := hW
  obtain ⟨p, q, hA0, hV, rfl, hfz, hnd⟩ := hW
  have hA : DataW.TrodAll enc Try.prog W 0 (fun _ => true) true Try.f4.params.toList args.toList ds p := hA0
  rw [Try.params4] at hA hval
  obtain ⟨v0, vs0, d0, ds0, p0, q0, hargs, rfl, rfl, h0, r0⟩ := trodAll_cons hA
  obtain ⟨v1, vs1, d1, ds1, p1, q1, rfl, rfl, rfl, h1, r1⟩ := trodAll_cons r0
  obtain ⟨rfl, rfl, rfl⟩ := trodAll_nil r1
  obtain rfl : args = #[v0, v1] := by cases args; simp_all
  obtain ⟨rfl, rfl⟩ := trodVars_none hV
  obtain ⟨a0, len0, cap0, rfl⟩ := okWide_slice Try.underlying33 (hval 0 33 v0 rfl rfl)
  have k0 := h0
  have lt0 : ∀ x ∈ p0, x.block < W.heap.size := by obtain ⟨m, hm⟩ := k0; exact DataW.trod_lt m _ _ _ hm
  have w0 : IsRows W a0 len0 cap0 := by
    obtain ⟨fuel, hf⟩ := h0
    rcases Go.Deep.open_int_rows Try.underlying33 Try.underlying22 Try.underlying23 (by kernel_rfl) (by kernel_rfl) hf with ⟨hcs, _⟩ | ⟨x, l, c, A, L, C, Z, hcs, _, hl, hm, _, hr⟩
    · simp [Value.cells] at hcs
      obtain ⟨rfl, rfl, rfl⟩ := hcs
      exact ⟨[], fun i x hx => by simp at hx, rfl, Nat.le_refl _, by unfold maxLen; omega⟩
    · simp [Value.cells] at hcs
      obtain ⟨rfl, rfl, rfl⟩ := hcs
      refine ⟨(List.range len0).map (fun r => (A r, L r, C r, ((Z r).take (L r)).map Int.toNat)), fun i y hy => ?_, by simp, hl, hm⟩
      rw [List.getElem?_map] at hy
      have hi : i < len0 := by
        rcases Nat.lt_or_ge i len0 with h | h
        · exact h
        · rw [List.getElem?_eq_none (by simpa using h)] at hy
          cases hy
      rw [List.getElem?_range hi] at hy
      injection hy with hy
      subst hy
      obtain ⟨q1, q2, q3, q4, q5, q6, q7⟩ := hr i (by omega)
      obtain ⟨b, off, sp⟩ := x
      have hs : sp = none := by simpa [Addr.add] using World.cell?_spot (hr 0 (by omega)).1
      subst hs
      rw [Addr.add_lit] at q1
      exact ⟨⟨b, off, rfl, World.block_lt_of_cell? W _ q1, q1⟩, ar_of q2 q3 q4 q5 q6 (fun a' h c hc => (q7 a' h).2 c hc)⟩
  obtain ⟨a1, rfl, rfl, rfl, w1⟩ := open_int Try.underlying3 (hval 1 3 v1 rfl rfl) h1
  clear hA0 hval0
  refine (walk a0 len0 cap0 a1 W w0).mono fun e W' ⟨he, bel⟩ => ?_
  subst he
  exact ⟨_, rfl, _, _, _, [], _, [], hW', trodAll_mk1 (shut_bool Try.underlying4 _), (trodAll_cons_mk (Below.trod laidOut (by kernel_rfl) (of_decide_eq_true (by kernel_rfl)) k0 bel lt0) (trodAll_cons_mk (shut_int Try.underlying3 w1) trodAll_mk0)), rfl, bel.frame _, fun h => by cases h⟩

theorem over : Rows.postWalksRow.holds Try.pinned (OpenSpec.ofChange Rows.postWalksSpec) :=
  OpenClaim.holds_of_wide 4 Try.f4 rfl rfl rfl rfl rfl rfl rfl ⟨rfl, rfl, rfl, rfl, rfl⟩ rfl rfl rfl rfl rfl (by kernel_rfl) Try.func4 (by kernel_rfl)
    (of_decide_eq_true (by kernel_rfl)) (by unfold Func.isWrapper; first | (rw [if_pos (by decide +kernel)]; kernel_rfl) | (rw [if_neg (by decide +kernel)]; exact ⟨rfl, rfl⟩))
    (fun os started H enc _ => lifted os started H enc)

end Go.Proofs.Ytjpelnbffodaiaa.postWalks
namespace Go.Proofs.Ytjpelnbffodaiaa
theorem postWalks_holds : Rows.PostWalksSaid := postWalks.over
#print axioms postWalks_holds
end Go.Proofs.Ytjpelnbffodaiaa
