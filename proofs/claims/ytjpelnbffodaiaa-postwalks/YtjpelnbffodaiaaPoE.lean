/-
  Package post: join.
-/
import Derived.Test.YtjpelnbffodaiaaPoD
namespace Go.Proofs.Ytjpelnbffodaiaa
open Go.RowKit
set_option linter.unusedVariables false
set_option linter.unusedSimpArgs false

/-- A list of numbers that comes out. -/
def OutW (w : World) (e : Ending) (w' : World) (L : List Nat) : Prop :=
  ∃ ad c, e = .returned (.slice ad L.length c) ∧ w'.ownsRow w.heap.size 23 1 (.slice ad L.length c) L.length (cells32 L) ∧ Below w.heap.size w w'

/-- One that is handed in. -/
structure Ar (w : World) (ad : Option Addr) (n c : Nat) (l : List Nat) : Prop where
  sw : Sw w ad n l
  no : ad = none → n = 0 ∧ c = 0
  le : n ≤ c
  cm : c ≤ maxLen
theorem Ar.later {w w' : World} {ad : Option Addr} {n c : Nat} {l : List Nat} (h : Ar w ad n c l) (hb : Below w.heap.size w w') : Ar w' ad n c l := ⟨h.sw.later hb, h.no, h.le, h.cm⟩

theorem step_pushW {ops : Array Oper} (w : World) {o : Oper} {a : Act} {K : Act → World → Prop} {Q : Exit → Act → World → Prop} {E : Prop} (hgd : o.guard = none) (s x : Operand)
    (ho : o.op = .call { callee := .builtin .append, args := #[s, x], argTypes := #[22, 22] }) (base : Nat) (v : Value) (n : Nat) (xs : List Nat) (hs : a.eval s = v) (hown : w.ownsRow base 23 1 v n (cells32 xs)) (ad : Addr) (p : Nat) (pz : Int) (hp : pz = (p : Int))
    (hx : a.eval x = .slice (some ad) 1 1) (hc : w.cell? ad = some (.int .u32 pz)) (hn : n ≤ 1000000000) (hbase : base ≤ w.heap.size)
    (h : ∀ g' c' w', w'.ownsRow base 23 1 (.slice (some ⟨g', 0, none⟩) (n + 1) c') (n + 1) (cells32 (xs ++ [p])) → Below base w w' → K (a.put o.dst (.slice (some ⟨g', 0, none⟩) (n + 1) c')) w') :
    if Region.wanted o (yielded ops a.tmps) = true then Oper.wp Try.prog o a w K Q else E := by
  subst hp
  obtain ⟨i, hi, hz, hsize, hby⟩ := info_parts info23
  refine step_push _ hgd s x 22 ho 23 i _ 4 Try.underlying22 hi hz hsize hby rfl base v n (cells32 xs) hs hown ad (.int .u32 (p : Int)) hx hc rfl (by unfold maxLen; omega) (by omega) hbase ?_
  intro g' c' w' ho' hp'
  refine h g' c' w' (by rw [cells32_append]; exact ho') ?_
  rcases hp' with ⟨hv, hg⟩ | ⟨_, hg⟩
  · exact (Below.refl _ _).grown hg hbase (fun x hx => by obtain rfl := Option.some.inj hx; exact (hown.lt _ hv).1)
  · exact (Below.refl _ _).grown hg hbase (fun x hx => by cases hx)

theorem step_min {ops : Array Oper} (w : World) {o : Oper} {a : Act} {K : Act → World → Prop} {Q : Exit → Act → World → Prop} {E : Prop} (hgd : o.guard = none) (s x : Operand) (ts : Array TypeId)
    (ho : o.op = .call { callee := .builtin .min, args := #[s, x], argTypes := ts }) (k : IntKind) (p q z : Int) (hs : a.eval s = .int k p) (hx : a.eval x = .int k q) (hz : (if q < p then q else p) = z)
    (h : K (a.put o.dst (.int k z)) w) : if Region.wanted o (yielded ops a.tmps) = true then Oper.wp Try.prog o a w K Q else E := by
  have hw : Region.wanted o (yielded ops a.tmps) = true := by simp [Region.wanted, hgd]
  rw [if_pos hw]
  unfold Oper.wp
  simp [execOp, ho, resolve, invoke, builtin, hs, hx, run_min_int2, Result.andThen, hz]
  exact h

theorem outW_of {w w2 w' : World} {ad : Option Addr} {n c : Nat} {L L' : List Nat} (hown : w'.ownsRow w2.heap.size 23 1 (.slice ad n c) n (cells32 L)) (hb : Below w2.heap.size w2 w') (hb2 : Below w.heap.size w w2) (e : L' = L) : OutW w (.returned (.slice ad n c)) w' L' := by
  subst e
  obtain rfl := own_len hown
  exact ⟨ad, c, rfl, owns_base hown hb2.size, hb2.trans (hb.mono hb2.size)⟩

/-- What join's loop holds. -/
structure JI (w2 : World) (p q r : Bool) (A B : List Nat) (n1 n2 : Nat) (ax ay ao : Option Addr) (cx cy co i j m : Nat) (out : List Nat) (wr : World) : Prop where
  hi : i ≤ n1
  hj : j ≤ n2
  hm : m ≤ i + j
  sum : out ++ jF p q r (A.drop i) (B.drop j) = jF p q r A B
  a : Ar w2 ax (n1 - i) cx (A.drop i)
  b : Ar w2 ay (n2 - j) cy (B.drop j)
  own : wr.ownsRow w2.heap.size 23 1 (.slice ao m co) m (cells32 out)
  bel : Below w2.heap.size w2 wr

theorem Ar.next {w : World} {b o n c i : Nat} {l : List Nat} (h : Ar w (some ⟨b, o, none⟩) (n - i) c (l.drop i)) (hp : 0 < n - i) : Ar w (if c = 1 then some ⟨b, o, none⟩ else some ⟨b, o + 1, none⟩) (n - (i + 1)) (c - 1) (l.drop (i + 1)) := by
  have h1 := h.sw.drop (K := 1) hp
  rw [List.drop_drop, show n - i - 1 = n - (i + 1) by omega] at h1
  have hle := h.le
  have hcm := h.cm
  refine ⟨?_, fun e => ?_, by omega, by omega⟩
  · split
    · have h0 : n - (i + 1) = 0 := by omega
      rw [h0] at h1 ⊢
      have := List.eq_nil_of_length_eq_zero h1.len
      rw [this]
      exact Sw.nil _ _
    · exact h1
  · split at e <;> simp at e
theorem drop_get {l : List Nat} {i n : Nat} (hl : l.length = n) (hi : 0 < n - i) : l.drop i = (l.drop i).getD 0 0 :: l.drop (i + 1) := by
  have h : i < l.length := by omega
  conv => lhs; rw [List.drop_eq_getElem_cons h]
  simp [h]
theorem owns_later {w w' : World} {base : Nat} {e : TypeId} {v : Value} {n : Nat} {xs : List Value} (h : w.ownsRow base e 1 v n xs) (hb : Below w.heap.size w w') : w'.ownsRow base e 1 v n xs := by
  refine ⟨h.1, ?_⟩
  rcases h.2 with h1 | ⟨g, c, cur, h1, h2, h3, h4⟩
  · exact .inl h1
  · exact .inr ⟨g, c, cur, h1, h2, (hb.block g (Array.getElem?_eq_some_iff.1 h3).1).trans h3, h4⟩
theorem jF_lt {p q r : Bool} {x y : Nat} {s t : List Nat} (h : x < y) : jF p q r (x :: s) (y :: t) = (if p then [x] else []) ++ jF p q r s (y :: t) := by rw [jF, if_pos h]
theorem jF_gt {p q r : Bool} {x y : Nat} {s t : List Nat} (h : y < x) : jF p q r (x :: s) (y :: t) = (if r then [y] else []) ++ jF p q r (x :: s) t := by rw [jF, if_neg (by omega), if_pos h]
theorem jF_eq {p q r : Bool} {x : Nat} {s t : List Nat} : jF p q r (x :: s) (x :: t) = (if q then [x] else []) ++ jF p q r s t := by rw [jF, if_neg (by omega), if_neg (by omega)]
theorem jF_end {p q r : Bool} {a b : List Nat} (h : a = [] ∨ b = []) : jF p q r a b = (if p then a else []) ++ (if r then b else []) := by
  rcases h with rfl | rfl
  · cases p <;> simp [jF]
  · cases a with
    | nil => cases p <;> cases r <;> simp [jF]
    | cons x s => cases p <;> cases r <;> simp [jF]

theorem compare_lt {x y : Nat} (h : x < y) (w : World) : Calls Try.prog 45 #[.int .u32 (x : Int), .int .u32 (y : Int)] w fun e w' => e = .returned (.int .i64 (-1)) ∧ w' = w := by
  have := compareP x y w
  simpa [h] using this
theorem compare_gt {x y : Nat} (h : y < x) (w : World) : Calls Try.prog 45 #[.int .u32 (x : Int), .int .u32 (y : Int)] w fun e w' => e = .returned (.int .i64 1) ∧ w' = w := by
  have := compareP x y w
  simpa [h, show ¬ x < y by omega] using this
theorem compare_eq (x : Nat) (w : World) : Calls Try.prog 45 #[.int .u32 (x : Int), .int .u32 (x : Int)] w fun e w' => e = .returned (.int .i64 0) ∧ w' = w := by
  have := compareP x x w
  simpa using this

set_option maxRecDepth 100000 in
set_option maxHeartbeats 8000000 in
theorem joinP (w : World) (a1 a2 : Option Addr) (n1 c1 n2 c2 : Nat) (A B : List Nat) (p q r : Bool) (h1 : Ar w a1 n1 c1 A) (h2 : Ar w a2 n2 c2 B) (hn1 : n1 ≤ 1000000) (hn2 : n2 ≤ 1000000) :
    Calls Try.prog 32 #[.slice a1 n1 c1, .slice a2 n2 c2, ptV p q r] w fun e w' => OutW w e w' (joF p q r A B) := by
  unfold ptV
  have H1 := hidden h1
  have H2 := hidden h2
  clear h1 h2
  go_enter Try.func32, Try.ntmps32
  go_wp2_with fail
  have hb0 : Below w.heap.size w (w.alloc (.cells #[.bool p, .bool q, .bool r] 50)) := (Below.refl _ _).alloc (Nat.le_refl _) _
  refine (risesP _ a1 n1 c1 A (H1.out.sw.later hb0) (by omega)).mono ?_
  rintro e w1 ⟨rfl, hb1⟩
  have HB1 := hidden (hb0.trans (hb1.mono hb0.size))
  by_cases hr1 : Ris A
  · simp only [hr1, decide_true]
    go_wp2_with fail
    refine (risesP _ a2 n2 c2 B (H2.out.sw.later HB1.out) (by omega)).mono ?_
    rintro e w2 ⟨rfl, hb2⟩
    have HB2 := hidden (HB1.out.trans (hb2.mono HB1.out.size))
    have hblk : Blk w2 w.heap.size 50 [.bool p, .bool q, .bool r] := ((Blk.new w 50 [.bool p, .bool q, .bool r]).later hb1).later hb2
    by_cases hr2 : Ris B
    · simp only [hr2, decide_true]
      have HBLK := hidden hblk
      clear hblk hb0 hb1 hb2
      go_wp2_with fail
      go_loopw [0, 1, 7] (fun s0 s1 s7 wr => ∃ (ax ay ao : Option Addr) (cx cy co i j m : Nat) (out : List Nat), s0 = .slice ax (n1 - i) cx ∧ s1 = .slice ay (n2 - j) cy ∧ s7 = .slice ao m co ∧ Hid (JI w2 p q r A B n1 n2 ax ay ao cx cy co i j m out wr)) (fun s0 s1 _ _ => (match s0 with | .slice _ k _ => k | _ => 0) + (match s1 with | .slice _ k _ => k | _ => 0))
      case atStart => exact ⟨a1, a2, none, c1, c2, 0, 0, 0, 0, [], rfl, rfl, rfl, hidden ⟨by omega, by omega, by omega, rfl, by simpa using H1.out.later HB2.out, by simpa using H2.out.later HB2.out, World.ownsRow_nil _ _ _ _, Below.refl _ _⟩⟩
      case round =>
        rename World => wr
        obtain ⟨ax, ay, ao, cx, cy, co, i, j, m, out, rfl, rfl, rfl, hJ⟩ := hrel
        have hA := H1.out.sw.len
        have hB := H2.out.sw.len
        have d0 := (HBLK.out.later hJ.out.bel).cell 0
        have d1 := (HBLK.out.later hJ.out.bel).cell 1
        have d2 := (HBLK.out.later hJ.out.bel).cell 2
        have HBW := hidden (HBLK.out.later hJ.out.bel)
        simp at d0 d1 d2
        by_cases hpp : 0 < n1 - i ∧ 0 < n2 - j
        · obtain ⟨hpa, hpb⟩ := hpp
          have hpaz : ((n1 - i : Nat) : Int) > 0 := by omega
          have hpbz : ((n2 - j : Nat) : Int) > 0 := by omega
          obtain ⟨b1, o1, rfl, hl1, hc1⟩ := (hJ.out.a.sw.later hJ.out.bel).at hpa
          obtain ⟨b2, o2, rfl, hl2, hc2⟩ := (hJ.out.b.sw.later hJ.out.bel).at hpb
          have k1 := hc1 0 hpa
          have k2 := hc2 0 hpb
          have hx := drop_get hA hpa
          have hy := drop_get hB hpb
          obtain ⟨x, ex⟩ : ∃ x, (A.drop i).getD 0 0 = x := ⟨_, rfl⟩
          obtain ⟨y, ey⟩ : ∃ y, (B.drop j).getD 0 0 = y := ⟨_, rfl⟩
          rw [ex, Nat.add_zero] at k1
          rw [ex] at hx
          rw [ey, Nat.add_zero] at k2
          rw [ey] at hy
          have HX := hidden hx
          have HY := hidden hy
          have hlc1 := hJ.out.a.le
          have hlc2 := hJ.out.b.le
          have hcm1 := hJ.out.a.cm
          unfold maxLen at hcm1
          have hcm2 := hJ.out.b.cm
          unfold maxLen at hcm2
          clear hc1 hc2 hx hy ex ey
          rcases Nat.lt_trichotomy x y with hxy | hxy | hxy
          · have HL := compare_lt hxy
            go_wp2_with fail
            go_quiet (exact Calls.quiet_of_same (HL _))
            go_wp2_with fail
            refine (holdsP _ p q r (-1) p (.inl ⟨rfl, rfl⟩)).mono ?_
            rintro e w3 ⟨rfl, hb3⟩
            have B3 := hidden ((below_drewN hJ.out.bel _).trans (hb3.mono (below_drewN hJ.out.bel _).size))
            have O3 := hidden (owns_later (w := World.drewN wr _) hJ.out.own hb3)
            have K1 := ((hJ.out.a.sw.later B3.out).at hpa)
            have K2 := ((hJ.out.b.sw.later B3.out).at hpb)
            obtain ⟨_, _, e1, _, f1⟩ := K1
            obtain ⟨_, _, e2, _, f2⟩ := K2
            obtain ⟨rfl, rfl⟩ : _ ∧ _ := by simpa using e1
            obtain ⟨rfl, rfl⟩ : _ ∧ _ := by simpa using e2
            have l1 := f1 0 hpa
            have l2 := f2 0 hpb
            rw [HX.out] at l1
            rw [HY.out] at l2
            simp only [List.getD_cons_zero, Nat.add_zero] at l1 l2
            clear f1 f2 e1 e2 hb3
            have hm := hJ.out.hm
            have hi := hJ.out.hi
            have hj := hJ.out.hj
            cases p
            · go_wp2
              refine ⟨⟨(if cx = 1 then some ⟨b1, o1, none⟩ else some ⟨b1, o1 + 1, none⟩), some ⟨b2, o2, none⟩, ao, cx - 1, cy, co, i + 1, j, m, out, by first | rfl | (simp only [Value.slice.injEq]; refine ⟨by first | rfl | trivial, ?_, ?_⟩ <;> omega), by first | rfl | (simp only [Value.slice.injEq]; refine ⟨by first | rfl | trivial, ?_, ?_⟩ <;> omega), rfl, hidden ⟨by omega, by omega, by omega, by have := hJ.out.sum; rw [HX.out, HY.out, jF_lt hxy] at this; rw [← this]; simp [HX.out, HY.out], hJ.out.a.next hpa, hJ.out.b, O3.out, B3.out⟩⟩, ?_⟩
              dsimp only; omega
            · go_wp2_with fail
              go_region_law (first | refine step_min _ (by rfl) (.tmp 38) (.tmp 41) _ (by rfl) .u32 (x : Int) (y : Int) (x : Int) (by rfl) (by rfl) (by rw [if_neg (by omega)]) ?_ | (refine step_pushW _ (by rfl) (.tmp 35) (.tmp 43) (by rfl) w2.heap.size (.slice ao m co) m out (by rfl) (by exact (O3.out.alloc _).drew) ⟨w3.heap.size, 0, none⟩ x (x : Int) rfl (by rfl) (by simp) (by omega) (by have := B3.out.size; simp; omega) ?_; intro g4 c4 w4 o4 b4))
              all_goals
                have B4 := hidden ((below_drewN (B3.out.alloc B3.out.size _) 1).trans b4)
                have O4 := hidden o4
                clear o4 b4
                go_wp2
                refine ⟨⟨(if cx = 1 then some ⟨b1, o1, none⟩ else some ⟨b1, o1 + 1, none⟩), some ⟨b2, o2, none⟩, some ⟨g4, 0, none⟩, cx - 1, cy, c4, i + 1, j, m + 1, out ++ [x], by first | rfl | (simp only [Value.slice.injEq]; refine ⟨by first | rfl | trivial, ?_, ?_⟩ <;> omega), by first | rfl | (simp only [Value.slice.injEq]; refine ⟨by first | rfl | trivial, ?_, ?_⟩ <;> omega), rfl, hidden ⟨by omega, by omega, by omega, by have := hJ.out.sum; rw [HX.out, HY.out, jF_lt hxy] at this; rw [← this]; simp [HX.out, HY.out], hJ.out.a.next hpa, hJ.out.b, O4.out, B4.out⟩⟩, ?_⟩
                dsimp only; omega
          · subst hxy
            have HL := compare_eq x
            go_wp2_with fail
            go_quiet (exact Calls.quiet_of_same (HL _))
            go_wp2_with fail
            refine (holdsP _ p q r 0 q (.inr (.inr ⟨rfl, rfl⟩))).mono ?_
            rintro e w3 ⟨rfl, hb3⟩
            have B3 := hidden ((below_drewN hJ.out.bel _).trans (hb3.mono (below_drewN hJ.out.bel _).size))
            have O3 := hidden (owns_later (w := World.drewN wr _) hJ.out.own hb3)
            have K1 := ((hJ.out.a.sw.later B3.out).at hpa)
            have K2 := ((hJ.out.b.sw.later B3.out).at hpb)
            obtain ⟨_, _, e1, _, f1⟩ := K1
            obtain ⟨_, _, e2, _, f2⟩ := K2
            obtain ⟨rfl, rfl⟩ : _ ∧ _ := by simpa using e1
            obtain ⟨rfl, rfl⟩ : _ ∧ _ := by simpa using e2
            have l1 := f1 0 hpa
            have l2 := f2 0 hpb
            rw [HX.out] at l1
            rw [HY.out] at l2
            simp only [List.getD_cons_zero, Nat.add_zero] at l1 l2
            clear f1 f2 e1 e2 hb3
            have hm := hJ.out.hm
            have hi := hJ.out.hi
            have hj := hJ.out.hj
            cases q
            · go_wp2
              refine ⟨⟨(if cx = 1 then some ⟨b1, o1, none⟩ else some ⟨b1, o1 + 1, none⟩), (if cy = 1 then some ⟨b2, o2, none⟩ else some ⟨b2, o2 + 1, none⟩), ao, cx - 1, cy - 1, co, i + 1, j + 1, m, out, by first | rfl | (simp only [Value.slice.injEq]; refine ⟨by first | rfl | trivial, ?_, ?_⟩ <;> omega), by first | rfl | (simp only [Value.slice.injEq]; refine ⟨by first | rfl | trivial, ?_, ?_⟩ <;> omega), rfl, hidden ⟨by omega, by omega, by omega, by have := hJ.out.sum; rw [HX.out, HY.out, jF_eq] at this; rw [← this]; simp [HX.out, HY.out], hJ.out.a.next hpa, hJ.out.b.next hpb, O3.out, B3.out⟩⟩, ?_⟩
              dsimp only; omega
            · go_wp2_with fail
              go_region_law (first | refine step_min _ (by rfl) (.tmp 38) (.tmp 41) _ (by rfl) .u32 (x : Int) (x : Int) (x : Int) (by rfl) (by rfl) (by rw [if_neg (by omega)]) ?_ | (refine step_pushW _ (by rfl) (.tmp 35) (.tmp 43) (by rfl) w2.heap.size (.slice ao m co) m out (by rfl) (by exact (O3.out.alloc _).drew) ⟨w3.heap.size, 0, none⟩ x (x : Int) rfl (by rfl) (by simp) (by omega) (by have := B3.out.size; simp; omega) ?_; intro g4 c4 w4 o4 b4))
              all_goals
                have B4 := hidden ((below_drewN (B3.out.alloc B3.out.size _) 1).trans b4)
                have O4 := hidden o4
                clear o4 b4
                go_wp2
                refine ⟨⟨(if cx = 1 then some ⟨b1, o1, none⟩ else some ⟨b1, o1 + 1, none⟩), (if cy = 1 then some ⟨b2, o2, none⟩ else some ⟨b2, o2 + 1, none⟩), some ⟨g4, 0, none⟩, cx - 1, cy - 1, c4, i + 1, j + 1, m + 1, out ++ [x], by first | rfl | (simp only [Value.slice.injEq]; refine ⟨by first | rfl | trivial, ?_, ?_⟩ <;> omega), by first | rfl | (simp only [Value.slice.injEq]; refine ⟨by first | rfl | trivial, ?_, ?_⟩ <;> omega), rfl, hidden ⟨by omega, by omega, by omega, by have := hJ.out.sum; rw [HX.out, HY.out, jF_eq] at this; rw [← this]; simp [HX.out, HY.out], hJ.out.a.next hpa, hJ.out.b.next hpb, O4.out, B4.out⟩⟩, ?_⟩
                dsimp only; omega
          · have HL := compare_gt hxy
            go_wp2_with fail
            go_quiet (exact Calls.quiet_of_same (HL _))
            go_wp2_with fail
            refine (holdsP _ p q r 1 r (.inr (.inl ⟨rfl, rfl⟩))).mono ?_
            rintro e w3 ⟨rfl, hb3⟩
            have B3 := hidden ((below_drewN hJ.out.bel _).trans (hb3.mono (below_drewN hJ.out.bel _).size))
            have O3 := hidden (owns_later (w := World.drewN wr _) hJ.out.own hb3)
            have K1 := ((hJ.out.a.sw.later B3.out).at hpa)
            have K2 := ((hJ.out.b.sw.later B3.out).at hpb)
            obtain ⟨_, _, e1, _, f1⟩ := K1
            obtain ⟨_, _, e2, _, f2⟩ := K2
            obtain ⟨rfl, rfl⟩ : _ ∧ _ := by simpa using e1
            obtain ⟨rfl, rfl⟩ : _ ∧ _ := by simpa using e2
            have l1 := f1 0 hpa
            have l2 := f2 0 hpb
            rw [HX.out] at l1
            rw [HY.out] at l2
            simp only [List.getD_cons_zero, Nat.add_zero] at l1 l2
            clear f1 f2 e1 e2 hb3
            have hm := hJ.out.hm
            have hi := hJ.out.hi
            have hj := hJ.out.hj
            cases r
            · go_wp2
              refine ⟨⟨some ⟨b1, o1, none⟩, (if cy = 1 then some ⟨b2, o2, none⟩ else some ⟨b2, o2 + 1, none⟩), ao, cx, cy - 1, co, i, j + 1, m, out, by first | rfl | (simp only [Value.slice.injEq]; refine ⟨by first | rfl | trivial, ?_, ?_⟩ <;> omega), by first | rfl | (simp only [Value.slice.injEq]; refine ⟨by first | rfl | trivial, ?_, ?_⟩ <;> omega), rfl, hidden ⟨by omega, by omega, by omega, by have := hJ.out.sum; rw [HX.out, HY.out, jF_gt hxy] at this; rw [← this]; simp [HX.out, HY.out], hJ.out.a, hJ.out.b.next hpb, O3.out, B3.out⟩⟩, ?_⟩
              dsimp only; omega
            · go_wp2_with fail
              go_region_law (first | refine step_min _ (by rfl) (.tmp 38) (.tmp 41) _ (by rfl) .u32 (x : Int) (y : Int) (y : Int) (by rfl) (by rfl) (by rw [if_pos (by omega)]) ?_ | (refine step_pushW _ (by rfl) (.tmp 35) (.tmp 43) (by rfl) w2.heap.size (.slice ao m co) m out (by rfl) (by exact (O3.out.alloc _).drew) ⟨w3.heap.size, 0, none⟩ y (y : Int) rfl (by rfl) (by simp) (by omega) (by have := B3.out.size; simp; omega) ?_; intro g4 c4 w4 o4 b4))
              all_goals
                have B4 := hidden ((below_drewN (B3.out.alloc B3.out.size _) 1).trans b4)
                have O4 := hidden o4
                clear o4 b4
                go_wp2
                refine ⟨⟨some ⟨b1, o1, none⟩, (if cy = 1 then some ⟨b2, o2, none⟩ else some ⟨b2, o2 + 1, none⟩), some ⟨g4, 0, none⟩, cx, cy - 1, c4, i, j + 1, m + 1, out ++ [y], by first | rfl | (simp only [Value.slice.injEq]; refine ⟨by first | rfl | trivial, ?_, ?_⟩ <;> omega), by first | rfl | (simp only [Value.slice.injEq]; refine ⟨by first | rfl | trivial, ?_, ?_⟩ <;> omega), rfl, hidden ⟨by omega, by omega, by omega, by have := hJ.out.sum; rw [HX.out, HY.out, jF_gt hxy] at this; rw [← this]; simp [HX.out, HY.out], hJ.out.a, hJ.out.b.next hpb, O4.out, B4.out⟩⟩, ?_⟩
                dsimp only; omega
        · have hend : A.drop i = [] ∨ B.drop j = [] := by
            by_cases h : 0 < n1 - i
            · exact .inr (List.drop_eq_nil_of_le (by omega))
            · exact .inl (List.drop_eq_nil_of_le (by omega))
          have HE := hidden (hJ.out.sum.symm.trans (by rw [jF_end hend]))
          have hm := hJ.out.hm
          have hi := hJ.out.hi
          have hj := hJ.out.hj
          have hgo : (0 < n1 - i ∧ ¬ 0 < n2 - j) ∨ ¬ 0 < n1 - i := by omega
          rcases hgo with ⟨hpa, hpb⟩ | hpa
          · have hpaz : ((n1 - i : Nat) : Int) > 0 := by omega
            have hpbz : ¬ ((n2 - j : Nat) : Int) > 0 := by omega
            cases p <;> cases r
            all_goals
              go_wp2_with (first
                | (refine wpList_appW _ rfl (.tmp 55) (.tmp 56) rfl w2.heap.size (.slice ao m co) m out rfl hJ.out.own ax (n1 - i) cx (A.drop i) rfl (hJ.out.a.sw.later hJ.out.bel) hJ.out.a.no (by omega) hJ.out.bel.size ?_; intro a5 c5 w5 o5 b5; have O5 := hidden o5; have B5 := hidden (hJ.out.bel.trans b5); clear o5 b5; have e2 := (HBLK.out.later B5.out).cell 2; simp at e2)
                | (refine wpList_appW _ rfl (.tmp 60) (.tmp 61) rfl w2.heap.size (.slice a5 (m + (n1 - i)) c5) (m + (n1 - i)) (out ++ A.drop i) rfl O5.out ay (n2 - j) cy (B.drop j) rfl (hJ.out.b.sw.later B5.out) hJ.out.b.no (by omega) B5.out.size ?_; intro a6 c6 w6 o6 b6; have O6 := hidden o6; have B6 := hidden (B5.out.trans b6); clear o6 b6)
                | (refine wpList_appW _ rfl (.tmp 60) (.tmp 61) rfl w2.heap.size (.slice ao m co) m out rfl hJ.out.own ay (n2 - j) cy (B.drop j) rfl (hJ.out.b.sw.later hJ.out.bel) hJ.out.b.no (by omega) hJ.out.bel.size ?_; intro a5 c5 w5 o5 b5; have O5 := hidden o5; have B5 := hidden (hJ.out.bel.trans b5); clear o5 b5))
              go_ret
              first
                | exact outW_of O6.out B6.out HB2.out (by rw [joF, if_pos ⟨hr1, hr2⟩, HE.out]; simp)
                | exact outW_of O5.out B5.out HB2.out (by rw [joF, if_pos ⟨hr1, hr2⟩, HE.out]; simp)
                | exact outW_of hJ.out.own hJ.out.bel HB2.out (by rw [joF, if_pos ⟨hr1, hr2⟩, HE.out]; simp)
          · have hpaz : ¬ ((n1 - i : Nat) : Int) > 0 := by omega
            cases p <;> cases r
            all_goals
              go_wp2_with (first
                | (refine wpList_appW _ rfl (.tmp 55) (.tmp 56) rfl w2.heap.size (.slice ao m co) m out rfl hJ.out.own ax (n1 - i) cx (A.drop i) rfl (hJ.out.a.sw.later hJ.out.bel) hJ.out.a.no (by omega) hJ.out.bel.size ?_; intro a5 c5 w5 o5 b5; have O5 := hidden o5; have B5 := hidden (hJ.out.bel.trans b5); clear o5 b5; have e2 := (HBLK.out.later B5.out).cell 2; simp at e2)
                | (refine wpList_appW _ rfl (.tmp 60) (.tmp 61) rfl w2.heap.size (.slice a5 (m + (n1 - i)) c5) (m + (n1 - i)) (out ++ A.drop i) rfl O5.out ay (n2 - j) cy (B.drop j) rfl (hJ.out.b.sw.later B5.out) hJ.out.b.no (by omega) B5.out.size ?_; intro a6 c6 w6 o6 b6; have O6 := hidden o6; have B6 := hidden (B5.out.trans b6); clear o6 b6)
                | (refine wpList_appW _ rfl (.tmp 60) (.tmp 61) rfl w2.heap.size (.slice ao m co) m out rfl hJ.out.own ay (n2 - j) cy (B.drop j) rfl (hJ.out.b.sw.later hJ.out.bel) hJ.out.b.no (by omega) hJ.out.bel.size ?_; intro a5 c5 w5 o5 b5; have O5 := hidden o5; have B5 := hidden (hJ.out.bel.trans b5); clear o5 b5))
              go_ret
              first
                | exact outW_of O6.out B6.out HB2.out (by rw [joF, if_pos ⟨hr1, hr2⟩, HE.out]; simp)
                | exact outW_of O5.out B5.out HB2.out (by rw [joF, if_pos ⟨hr1, hr2⟩, HE.out]; simp)
                | exact outW_of hJ.out.own hJ.out.bel HB2.out (by rw [joF, if_pos ⟨hr1, hr2⟩, HE.out]; simp)
    · simp only [hr2, decide_false]
      go_wp2
      go_ret
      rw [joF_not (fun h => hr2 h.2)]
      exact ⟨none, 0, rfl, World.ownsRow_nil _ _ _ _, HB2.out⟩
  · simp only [hr1, decide_false]
    go_wp2
    go_ret
    rw [joF_not (fun h => hr1 h.1)]
    exact ⟨none, 0, rfl, World.ownsRow_nil _ _ _ _, HB1.out⟩

end Go.Proofs.Ytjpelnbffodaiaa
