import Derived.Test.YtfhhcpcedfgceaaPutsM
import Derived.Test.YtfhhcpcedfgceaaBackR
namespace Go.Proofs.Ytfhhcpcedfgceaa
open Go.RowKit
set_option linter.unusedVariables false

theorem alloc33 (w : World) : (Instr.alloc 33 true (.tuple #[])).run Try.prog w = .ok (.pointer (some ⟨w.heap.size, 0, none⟩)) (w.alloc (arr3 zero3)) := by kernel_rfl
theorem built33 (a b c : ByteArray) : (Try.prog.built 33 [(0, .string a), (1, .string b), (2, .string c)]).isSome = true := by kernel_rfl
theorem built33v (a b c : ByteArray) : Value.agg ((Try.prog.built 33 [(0, .string a), (1, .string b), (2, .string c)]).getD #[]) = .agg #[.string a, .string b, .string c] := by kernel_rfl
def noS (i : Nat) : Bool := false
theorem size33 : (Try.prog.info? 33).map (·.size) = some 3 := by kernel_rfl

set_option maxRecDepth 100000 in
set_option maxHeartbeats 4000000 in
theorem region8 (ad : Option Addr) (len cap N : Nat) (m : Int) (ae : Option Addr) (len2 cap2 : Nat) (l s : List Int) (w : World) (a0 : Act) (Q : Exit → Act → World → Prop)
    (hs : Sl w ad len l) (hs2 : Sl w ae len2 s) (hn1 : ad = none → len = 0 ∧ cap = 0) (hn2 : ae = none → len2 = 0 ∧ cap2 = 0) (hb : len + len2 ≤ 1073741824) (hN : N ≤ 18446744073709551615) (hm0 : -9223372036854775808 ≤ m) (hm1 : m ≤ 9223372036854775807) (hsz : a0.tmps.size = 187)
    (s0 : a0.tmps.getD 0 undef = .slice ad len cap)
    (s1 : a0.tmps.getD 1 undef = .int .u64 (N : Int))
    (s2 : a0.tmps.getD 2 undef = .int .i64 m)
    (s3 : a0.tmps.getD 3 undef = .slice ae len2 cap2)
    (hQ : ∀ (v45 v46 v47 v48 v49 v50 v51 v52 v53 v54 v55 v56 v57 : Value) (g : Nat) (w' : World), w.heap.size ≤ g → w'.heap[g]? = some (.cells #[.string (strOfNums (l ++ enc N)), .string (strOfNums (l ++ enc (fold m))), .string (strOfNums (l ++ enc len2 ++ s))] 33 (0, 0)) → Below w.heap.size w w' → Q .normal ((((((((((((((a0.put (some 45) v45).put (some 46) v46).put (some 47) v47).put (some 48) v48).put (some 49) v49).put (some 50) v50).put (some 51) v51).put (some 52) v52).put (some 53) v53).put (some 54) v54).put (some 55) v55).put (some 56) v56).put (some 57) v57).put (some 14) (.pointer (some ⟨g, 0, none⟩))) w') :
    Code.wp Try.prog ((Try.f3.body.bind (findRegion 8)).getD .skip) Q a0 w := by
  conv => arg 2; whnf
  have hf := fold_le m hm0 hm1
  obtain ⟨X, hX⟩ : ∃ X : Array Value, X = #[.string (strOfNums (l ++ enc N)), .string (strOfNums (l ++ enc (fold m))), .string (strOfNums (l ++ enc len2 ++ s))] := ⟨_, rfl⟩
  refine wp_region_invB (LatS w.heap.size (arr3 zero3) (arr3 X)) (TE [Ent.val (.slice ad len cap), Ent.val (.int .u64 (N : Int)), EntRow w.heap.size (len + grp N + 1) (l ++ enc N) X, Ent.val (.string (strOfNums (l ++ enc N))), Ent.val (.slice ad len cap), Ent.val (.int .i64 m), EntRow w.heap.size (len + grp (fold m) + 1) (l ++ enc (fold m)) X, Ent.val (.string (strOfNums (l ++ enc (fold m)))), Ent.val (.slice ad len cap), Ent.val (.slice ae len2 cap2), EntRow w.heap.size (len + grp len2 + 1 + len2) (l ++ enc len2 ++ s) X, Ent.val (.string (strOfNums (l ++ enc len2 ++ s))), Ent.val (.agg #[.string (strOfNums (l ++ enc N)), .string (strOfNums (l ++ enc (fold m))), .string (strOfNums (l ++ enc len2 ++ s))]), EntVar w.heap.size X, EntSto w.heap.size X]) noS (by kernel_rfl) (by kernel_rfl) (by kernel_rfl) (by rw [hsz]; kernel_rfl) (LatS.refl _ _ _) LatS.trans (TE_stable _) (fun _ _ h => h.size) (LatS.of_below (Below.refl _ _).drew) ?hop ?hdone
  case hdone =>
    intro a w' hL hS hT
    obtain ⟨g, hg1, hg2, hg3⟩ : ∃ g, a.tmps.getD 14 undef = .pointer (some ⟨g, 0, none⟩) ∧ w.heap.size ≤ g ∧ w'.heap[g]? = some (arr3 X) := hT 14 _ rfl
    have he := same_puts hS
    rw [he]
    rw [hX] at hg3
    have := hQ (a.tmps.getD 45 undef) (a.tmps.getD 46 undef) (a.tmps.getD 47 undef) (a.tmps.getD 48 undef) (a.tmps.getD 49 undef) (a.tmps.getD 50 undef) (a.tmps.getD 51 undef) (a.tmps.getD 52 undef) (a.tmps.getD 53 undef) (a.tmps.getD 54 undef) (a.tmps.getD 55 undef) (a.tmps.getD 56 undef) (a.tmps.getD 57 undef) g w' hg2 hg3 (hL.below (Nat.le_refl _))
    rw [← hg1] at this
    exact this
  case hop =>
    intro i o hi
    have hlt : i < 15 := (Array.getElem?_eq_some_iff.1 hi).1
    rcases (show i = 0 ∨ i = 1 ∨ i = 2 ∨ i = 3 ∨ i = 4 ∨ i = 5 ∨ i = 6 ∨ i = 7 ∨ i = 8 ∨ i = 9 ∨ i = 10 ∨ i = 11 ∨ i = 12 ∨ i = 13 ∨ i = 14 by omega) with rfl | rfl | rfl | rfl | rfl | rfl | rfl | rfl | rfl | rfl | rfl | rfl | rfl | rfl | rfl
    · obtain rfl := Option.some.inj hi
      clear hi hlt
      intro a w1 hL hS hD _
      have e0 : a.tmps.getD 0 undef = .slice ad len cap := (hS.slot 0 (by kernel_rfl)).trans s0
      refine stepB_yes rfl ?_
      exact (okB_value (LatS.refl _ _ _) rfl (.slice ad len cap) (by simp [execOp, Act.eval, e0, go_sem]) rfl)
    · obtain rfl := Option.some.inj hi
      clear hi hlt
      intro a w1 hL hS hD _
      have e1 : a.tmps.getD 1 undef = .int .u64 (N : Int) := (hS.slot 1 (by kernel_rfl)).trans s1
      refine stepB_yes rfl ?_
      exact (okB_value (LatS.refl _ _ _) rfl (.int .u64 (N : Int)) (by simp [execOp, Act.eval, e1, go_sem]) rfl)
    · obtain rfl := Option.some.inj hi
      clear hi hlt
      intro a w1 hL hS hD _
      have d0 : a.tmps.getD 45 undef = .slice ad len cap := hD ⟨0, .data⟩ (by simp) rfl _ rfl
      have d1 : a.tmps.getD 46 undef = .int .u64 (N : Int) := hD ⟨1, .data⟩ (by simp) rfl _ rfl
      have hB1 := hL.below (Nat.le_refl _)
      refine stepB_yes rfl ?_
      refine (okB_call (f := 8) (args := #[.slice ad len cap, .int .u64 (N : Int)]) (by simp [execOp, resolve, Act.eval, d0, d1, go_sem]) ?_)
      refine (refPutUint_any ad len cap N l w1 (hs.later hB1) hn1 (by omega) hN).mono ?_
      rintro e w2 ⟨a2, c2, rfl, ho, hB⟩
      exact ⟨_, rfl, LatS.of_below hB, ⟨_, _, rfl, owns_base ho hL.size⟩, fun h => by cases h⟩
    · obtain rfl := Option.some.inj hi
      clear hi hlt
      intro a w1 hL hS hD _
      obtain ⟨a2, c2, d2, l2⟩ : ∃ ad c, a.tmps.getD 47 undef = .slice ad (len + grp N + 1) c ∧ w1.ownsRow w.heap.size 5 1 (a.tmps.getD 47 undef) (len + grp N + 1) (cells8 (l ++ enc N)) := hD ⟨2, .data⟩ (by simp) rfl _ rfl
      rw [d2] at l2
      refine stepB_yes rfl ?_
      exact (okB_value (LatS.refl _ _ _) rfl (.string (strOfNums (l ++ enc N))) (by simp [execOp, Act.eval, d2, conv (sl_of_owns l2 (hs.byte.append (enc_byte N (by omega)))), go_sem]) rfl)
    · obtain rfl := Option.some.inj hi
      clear hi hlt
      intro a w1 hL hS hD _
      have e0 : a.tmps.getD 0 undef = .slice ad len cap := (hS.slot 0 (by kernel_rfl)).trans s0
      refine stepB_yes rfl ?_
      exact (okB_value (LatS.refl _ _ _) rfl (.slice ad len cap) (by simp [execOp, Act.eval, e0, go_sem]) rfl)
    · obtain rfl := Option.some.inj hi
      clear hi hlt
      intro a w1 hL hS hD _
      have e2 : a.tmps.getD 2 undef = .int .i64 m := (hS.slot 2 (by kernel_rfl)).trans s2
      refine stepB_yes rfl ?_
      exact (okB_value (LatS.refl _ _ _) rfl (.int .i64 m) (by simp [execOp, Act.eval, e2, go_sem]) rfl)
    · obtain rfl := Option.some.inj hi
      clear hi hlt
      intro a w1 hL hS hD _
      have d4 : a.tmps.getD 49 undef = .slice ad len cap := hD ⟨4, .data⟩ (by simp) rfl _ rfl
      have d5 : a.tmps.getD 50 undef = .int .i64 m := hD ⟨5, .data⟩ (by simp) rfl _ rfl
      have hB1 := hL.below (Nat.le_refl _)
      refine stepB_yes rfl ?_
      refine (okB_call (f := 9) (args := #[.slice ad len cap, .int .i64 m]) (by simp [execOp, resolve, Act.eval, d4, d5, go_sem]) ?_)
      refine (refPutInt_any ad len cap m l w1 (hs.later hB1) hn1 (by omega) hm0 hm1).mono ?_
      rintro e w2 ⟨a2, c2, rfl, ho, hB⟩
      exact ⟨_, rfl, LatS.of_below hB, ⟨_, _, rfl, owns_base ho hL.size⟩, fun h => by cases h⟩
    · obtain rfl := Option.some.inj hi
      clear hi hlt
      intro a w1 hL hS hD _
      obtain ⟨a6, c6, d6, l6⟩ : ∃ ad c, a.tmps.getD 51 undef = .slice ad (len + grp (fold m) + 1) c ∧ w1.ownsRow w.heap.size 5 1 (a.tmps.getD 51 undef) (len + grp (fold m) + 1) (cells8 (l ++ enc (fold m))) := hD ⟨6, .data⟩ (by simp) rfl _ rfl
      rw [d6] at l6
      refine stepB_yes rfl ?_
      exact (okB_value (LatS.refl _ _ _) rfl (.string (strOfNums (l ++ enc (fold m)))) (by simp [execOp, Act.eval, d6, conv (sl_of_owns l6 (hs.byte.append (enc_byte (fold m) (by omega)))), go_sem]) rfl)
    · obtain rfl := Option.some.inj hi
      clear hi hlt
      intro a w1 hL hS hD _
      have e0 : a.tmps.getD 0 undef = .slice ad len cap := (hS.slot 0 (by kernel_rfl)).trans s0
      refine stepB_yes rfl ?_
      exact (okB_value (LatS.refl _ _ _) rfl (.slice ad len cap) (by simp [execOp, Act.eval, e0, go_sem]) rfl)
    · obtain rfl := Option.some.inj hi
      clear hi hlt
      intro a w1 hL hS hD _
      have e3 : a.tmps.getD 3 undef = .slice ae len2 cap2 := (hS.slot 3 (by kernel_rfl)).trans s3
      refine stepB_yes rfl ?_
      exact (okB_value (LatS.refl _ _ _) rfl (.slice ae len2 cap2) (by simp [execOp, Act.eval, e3, go_sem]) rfl)
    · obtain rfl := Option.some.inj hi
      clear hi hlt
      intro a w1 hL hS hD _
      have d8 : a.tmps.getD 53 undef = .slice ad len cap := hD ⟨8, .data⟩ (by simp) rfl _ rfl
      have d9 : a.tmps.getD 54 undef = .slice ae len2 cap2 := hD ⟨9, .data⟩ (by simp) rfl _ rfl
      have hB1 := hL.below (Nat.le_refl _)
      refine stepB_yes rfl ?_
      refine (okB_call (f := 10) (args := #[.slice ad len cap, .slice ae len2 cap2]) (by simp [execOp, resolve, Act.eval, d8, d9, go_sem]) ?_)
      refine (refPutBytes_any ad len cap l ae len2 cap2 s w1 (hs.later hB1) (hs2.later hB1) hn1 hn2 (by omega)).mono ?_
      rintro e w2 ⟨a2, c2, rfl, ho, hB⟩
      exact ⟨_, rfl, LatS.of_below hB, ⟨_, _, rfl, owns_base ho hL.size⟩, fun h => by cases h⟩
    · obtain rfl := Option.some.inj hi
      clear hi hlt
      intro a w1 hL hS hD _
      obtain ⟨a10, c10, d10, l10⟩ : ∃ ad c, a.tmps.getD 55 undef = .slice ad (len + grp len2 + 1 + len2) c ∧ w1.ownsRow w.heap.size 5 1 (a.tmps.getD 55 undef) (len + grp len2 + 1 + len2) (cells8 (l ++ enc len2 ++ s)) := hD ⟨10, .data⟩ (by simp) rfl _ rfl
      rw [d10] at l10
      refine stepB_yes rfl ?_
      exact (okB_value (LatS.refl _ _ _) rfl (.string (strOfNums (l ++ enc len2 ++ s))) (by simp [execOp, Act.eval, d10, conv (sl_of_owns l10 ((hs.byte.append (enc_byte len2 (by omega))).append hs2.byte)), go_sem]) rfl)
    · obtain rfl := Option.some.inj hi
      clear hi hlt
      intro a w1 hL hS hD _
      have d3 : a.tmps.getD 48 undef = .string (strOfNums (l ++ enc N)) := hD ⟨3, .data⟩ (by simp) rfl _ rfl
      have d7 : a.tmps.getD 52 undef = .string (strOfNums (l ++ enc (fold m))) := hD ⟨7, .data⟩ (by simp) rfl _ rfl
      have d11 : a.tmps.getD 56 undef = .string (strOfNums (l ++ enc len2 ++ s)) := hD ⟨11, .data⟩ (by simp) rfl _ rfl
      have hp : ((#[(0, Operand.tmp 48), (1, .tmp 52), (2, .tmp 56)] : Array (Nat × Operand)).map fun (i, x) => (i, a.eval x)).toList = [(0, .string (strOfNums (l ++ enc N))), (1, .string (strOfNums (l ++ enc (fold m)))), (2, .string (strOfNums (l ++ enc len2 ++ s)))] := by
        rw [Array.toList_map]
        show [(0, a.tmps.getD 48 undef), (1, a.tmps.getD 52 undef), (2, a.tmps.getD 56 undef)] = _
        rw [d3, d7, d11]
      refine stepB_yes rfl ?_
      refine wp_build 33 #[(0, .tmp 48), (1, .tmp 52), (2, .tmp 56)] rfl (by rw [hp]; exact built33 _ _ _) ?_
      rw [hp]
      exact ⟨_, rfl, LatS.refl _ _ _ _, built33v _ _ _, fun h => by cases h⟩
    · obtain rfl := Option.some.inj hi
      clear hi hlt
      intro a w1 hL hS hD _
      refine stepB_yes rfl ?_
      unfold Oper.wp
      exact ⟨_, rfl, LatS.of_below ((Below.refl _ _).alloc (Nat.le_refl _) _), ⟨_, rfl, hL.size, .inl (heap_alloc_new w1 _)⟩, fun h => by cases h⟩
    · obtain rfl := Option.some.inj hi
      clear hi hlt
      intro a w1 hL hS hD _
      obtain ⟨g, d13, hg2, hg3⟩ : ∃ g, a.tmps.getD 14 undef = .pointer (some ⟨g, 0, none⟩) ∧ w.heap.size ≤ g ∧ (w1.heap[g]? = some (arr3 zero3) ∨ w1.heap[g]? = some (arr3 X)) := hD ⟨13, .data⟩ (by simp) rfl _ rfl
      have d12 : a.tmps.getD 57 undef = .agg #[.string (strOfNums (l ++ enc N)), .string (strOfNums (l ++ enc (fold m))), .string (strOfNums (l ++ enc len2 ++ s))] := hD ⟨12, .data⟩ (by simp) rfl _ rfl
      rw [← hX] at d12
      have hold : ∃ old, w1.heap[g]? = some (.cells old 33 (0, 0)) ∧ old.size = X.size := by
        rcases hg3 with h3 | h3
        · exact ⟨_, h3, by rw [hX]; rfl⟩
        · exact ⟨_, h3, rfl⟩
      obtain ⟨old, ho1, ho2⟩ := hold
      refine stepB_yes rfl ?_
      refine (wp_store_row 33 (.tmp 14) (.tmp 57) rfl g X d13 d12 33 old ho1 (by rw [hX]; exact size33) ho2 (by rw [hX]; simp [Value.oneCell']) ?_)
      exact ⟨undef, rfl, LatS.setRow hg2 hg3, ⟨g, d13, hg2, setRow_heap w1 g old X 33 (0, 0) ho1⟩, fun h => by cases h⟩

end Go.Proofs.Ytfhhcpcedfgceaa
