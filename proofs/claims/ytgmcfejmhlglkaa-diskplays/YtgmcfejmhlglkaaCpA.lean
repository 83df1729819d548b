/-
  Files are copied.
-/
import Derived.Test.YtgmcfejmhlglkaaRkF
namespace Go.Proofs.Ytgmcfejmhlglkaa
open Go.RowKit
set_option linter.unusedVariables false
set_option linter.unusedSimpArgs false

theorem run_copy_rowS {P : Program} (w : World) (dT sT ty elem : TypeId) (s g n : Nat) (a : Addr) (dCap sCap : Nat) (cur : Array Value) (t : TypeId) (cs : List Value)
    (hu : P.underlying dT = some (.slice elem)) (hs : (P.info? elem).map (·.size) = some s)
    (hg : w.heap[g]? = some (.cells cur t (0, 0))) (hn : cs.length = n * s)
    (hsrc : ∀ j v, cs[j]? = some v → w.cell? (a.add j) = some v) (hfit : cs.length ≤ cur.size) (h1 : ∀ v ∈ cs, v.oneCell' = true) :
    (Builtin.copy_ #[dT, sT] ty #[.slice (some ⟨g, 0, none⟩) n dCap, .slice (some a) n sCap]).run P w =
      .ok (goInt n) (w.setRow g (cs ++ cur.toList.drop cs.length).toArray) := by
  have hl := run_loadCells_list (P := P) w a cs hsrc
  have hst := run_storeCells_at P g 0 t cs 0 cur w hg (by simpa using hfit) h1
  simp only [Nat.zero_add, List.take_zero, List.nil_append] at hst
  cases hq : P.info? elem with
  | none => simp [hq] at hs
  | some i =>
    have hi : i.size = s := by simpa [hq] using hs
    rw [hn] at hl
    simp [Builtin.copy_, run_underlying hu, Builtin.lenOf, Builtin.firstCells, sizeOf, typeInfo, hq, hi, hl, hst]
theorem size82 : (Try.prog.info? 82).map (·.size) = some 2 := by kernel_rfl
theorem fcells_one {w : World} : ∀ rs : List (Value × Fl), (∀ (i : Nat) (r : Value × Fl), rs[i]? = some r → FR w r) → ∀ u ∈ fcells rs, u.oneCell' = true
  | [], _, u, hu => by simp [fcells] at hu
  | r :: l, h, u, hu => by
    simp only [fcells, List.mem_cons] at hu
    rcases hu with rfl | rfl | hu
    · obtain ⟨ad, c, hv⟩ := owns_form (h 0 r rfl).row
      rw [hv]
      rfl
    · rfl
    · exact fcells_one l (fun i s hs => h (i + 1) s hs) u hu

set_option maxHeartbeats 1000000 in
theorem copiedF (p fb fc : Nat) (rs : List (Value × Fl)) (on : Bool) (falls : Nat) (set : Bool) (ops : Nat) (kv : Value) (kl : List Int) (w : World) (h : DR 80 82 w p fb fc rs on falls set ops kv kl) :
    Calls Try.prog 54 #[.slice (some ⟨fb, 0, none⟩) rs.length fc] w fun e w' => e = .returned (.slice (some ⟨w.heap.size, 0, none⟩) rs.length rs.length) ∧ Blk w' w.heap.size 82 (fcells rs) ∧ Below w.heap.size w w' := by
  have HH := hidden h
  have h8 := h.n8
  obtain ⟨n, hn⟩ : ∃ n, rs.length = n := ⟨_, rfl⟩
  rw [hn] at h8 ⊢
  have HN := hidden hn
  clear h hn
  go_enter Try.func54, Try.ntmps54
  go_wp2_with (first
    | (refine wpList_make_any _ rfl (.tmp 5) (.tmp 5) 76 rfl 82 (.agg #[.slice none 0 0, .int .i64 0]) 2 32 Try.underlying76 info82 n rfl rfl (by omega) (by omega) ?_; intro w1 hB hz hb; rw [made82 n h8] at hB; have HB := hidden hB; have Hb := hidden hb; clear hB hb hz)
    | (refine wpList_plain rfl fun K hK => ?_; have hrun := run_copy_rowS (P := Try.prog) w1 76 76 3 82 2 w.heap.size n ⟨fb, 0, none⟩ n fc _ 82 (fcells rs) Try.underlying76 size82 HB.out (by rw [fcells_length, HN.out]) (fun j v hv => ((Chg.of_below (F := fun _ => False) Hb.out).owns HH.out.files (fun _ _ h => h)).cells rfl j v hv) (by simp [fcells_length, HN.out]) (fcells_one rs HH.out.row); unfold Oper.wp; simp [execOp, resolve, invoke, builtin, Act.eval, hrun, Result.andThen]; refine hK _ _ ?_))
  go_ret
  refine ⟨rfl, ?_, ?_⟩
  · unfold Blk
    rw [List.drop_eq_nil_of_le (by simp [fcells_length, HN.out]), List.append_nil]
    exact setRow_heap w1 w.heap.size _ (fcells rs).toArray 82 _ HB.out
  · exact Hb.out.trans ⟨rfl, rfl, rfl, by simp [World.setRow], fun k hk => setRow_other w1 w.heap.size k _ (by omega)⟩

end Go.Proofs.Ytgmcfejmhlglkaa
