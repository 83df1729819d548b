import Derived.Test.YtcgjmioncbihhaaDoorDcA
import Derived.Test.YtcgjmioncbihhaaDoorRefC
import Derived.Test.YtcgjmioncbihhaaDoorChT
/-
  The document's own bytes of some samples: Encode.
-/
namespace Go.Proofs.YtcgjmioncbihhaaDoor
open Go.RowKit
set_option linter.unusedVariables false
set_option linter.unusedSimpArgs false

theorem vl_snoc : ∀ (X : List Bool) (b : Bool), vl (X ++ [b]) = 2 * vl X + b.toNat
  | [], b => by simp [vl]
  | x :: X, b => by
    rw [List.cons_append, vl, vl, vl_snoc X b, List.length_append]
    simp only [List.length_singleton, Nat.pow_succ]
    rw [Nat.mul_add, Nat.mul_right_comm]
    generalize 2 ^ X.length * x.toNat = z
    omega
/-- The first bits of a byte. -/
def part (L : List Bool) (q k : Nat) : Nat := vl ((List.range k).map (fun j => L.getD (8 * q + j) false))
theorem part_next (L : List Bool) (q k : Nat) : part L q (k + 1) = 2 * part L q k + (L.getD (8 * q + k) false).toNat := by
  unfold part
  rw [List.range_succ, List.map_append, List.map_singleton, vl_snoc]
theorem part_lt (L : List Bool) (q k : Nat) : part L q k < 2 ^ k := by
  have := vl_lt ((List.range k).map (fun j => L.getD (8 * q + j) false))
  simpa [part] using this
theorem pk_next (L : List Bool) (q : Nat) (h : q < (L.length + 7) / 8) : (pk L).take (q + 1) = (pk L).take q ++ [((part L q 8 : Nat) : Int)] := by
  rw [List.take_add_one]
  congr 1
  simp [pk, h, part]
theorem sl_bits {w : World} {base : Nat} {ad : Option Addr} {c : Nat} {L : List Bool} (h : OW w base (.slice ad L.length c) L) : Sl w ad L.length (nI L) := by
  have h2 := h.2
  exact sl_of_owns h2 (by
    intro x hx
    simp only [nI, List.mem_map] at hx
    obtain ⟨b, _, rfl⟩ := hx
    cases b <;> simp)
theorem nI_at (L : List Bool) (i : Nat) : (nI L).getD i 0 = ((L.getD i false).toNat : Int) := by
  simp only [nI, List.getD, List.getElem?_map]
  cases L[i]? <;> rfl

theorem wpList_pushC (w : World) {ops : Array Oper} {rest : List Oper} {o : Oper} {a : Act} {Q : Exit → Act → World → Prop} (hgd : o.guard = none) (s x : Operand)
    (ho : o.op = .call { callee := .builtin .append, args := #[s, x], argTypes := #[38, 38] }) (base : Nat) (v : Value) (n : Nat) (xs : List Value) (hs : a.eval s = v) (w0 : World) (hown : w0.ownsRow base 5 1 v n xs) (y : Int)
    (hw : w = w0.alloc (.cells #[.int .u8 y] 5)) (hx : a.eval x = .slice (some ⟨w0.heap.size, 0, none⟩) 1 1) (hn : n ≤ 10000000000) (hbase : base ≤ w0.heap.size)
    (h : ∀ g' c' w', w'.ownsRow base 5 1 (.slice (some ⟨g', 0, none⟩) (n + 1) c') (n + 1) (xs ++ [.int .u8 y]) → Chg (fun i => v.ownBlock = some i) w0 w' → Moved w0 v.ownBlock (some g') → wpList Tryd.prog ops Q rest (a.put o.dst (.slice (some ⟨g', 0, none⟩) (n + 1) c')) w') : wpList Tryd.prog ops Q (o :: rest) a w := by
  subst hw
  obtain ⟨i0, hi0, hz0, hz1, hz2⟩ := info_parts info5
  refine wpList_push _ hgd s x 38 ho 5 i0 (.int .u8 0) 1 Tryd.underlying38 hi0 hz0 hz1 hz2 rfl base v n xs hs (hown.alloc _) ⟨w0.heap.size, 0, none⟩ (.int .u8 y) hx (by simp) rfl (by unfold maxLen; omega) (by omega) (by simp; omega) ?_
  intro g' c' w' h1 h2
  exact h g' c' w' h1 h2.chg.1 h2.chg.2

/-- What a round of Encode holds. -/
structure DE (w wx : World) (v : Value) (gl n : Nat) (L : List Bool) (q : Nat) : Prop where
  form : ∃ ad c, v = .slice ad (Q.grp n + 1 + q) c
  own : wx.ownsRow w.heap.size 5 1 v (Q.grp n + 1 + q) (cells8 (Q.enc n ++ (pk L).take q))
  far : ∀ g, v.ownBlock = some g → g ≠ gl
  sl : Sl wx (some ⟨gl, 0, none⟩) L.length (nI L)
  bel : Below w.heap.size w wx
theorem DE.push {w wx w' : World} {v : Value} {gl n q g' c' : Nat} {L : List Bool} (h : DE w wx v gl n L q) (hq : q < (L.length + 7) / 8) (hL : 0 < L.length) (ho : w'.ownsRow w.heap.size 5 1 (.slice (some ⟨g', 0, none⟩) (Q.grp n + 1 + q + 1) c') (Q.grp n + 1 + q + 1) (cells8 (Q.enc n ++ (pk L).take q) ++ [.int .u8 ((part L q 8 : Nat) : Int)]))
    (hc : Chg (fun i => v.ownBlock = some i) wx w') (hm : Moved wx v.ownBlock (some g')) : DE w w' (.slice (some ⟨g', 0, none⟩) (Q.grp n + 1 + q + 1) c') gl n L (q + 1) := by
  have hlt : gl < wx.heap.size := h.sl.lt ⟨gl, 0, none⟩ rfl hL
  refine ⟨⟨_, _, rfl⟩, ?_, ?_, hc.sl h.sl (fun x hx _ e => ?_), h.bel.trans (hc.below h.bel.size (fun i hi => (h.own.lt i hi).1))⟩
  · rw [pk_next L q hq, ← List.append_assoc, cells8_append]
    exact ho
  · intro g hg
    simp [Value.ownBlock] at hg
    subst hg
    rcases hm with e | ⟨g2, e, hg2⟩
    · exact h.far _ e.symm
    · injection e with e
      omega
  · injection hx with hx
    subst hx
    exact h.far _ e rfl

set_option maxRecDepth 100000 in
set_option maxHeartbeats 8000000 in
theorem encodeD (w : World) (ad : Option Addr) (n c : Nat) (l : List Sm) (h : Ss w ad l) (hn : l.length = n) (hn2 : n ≤ 1000000) :
    Calls Tryd.prog 25 #[.slice ad n c] w (BtP w (encC l)) := by
  by_cases h0 : n = 0
  · subst h0
    have hl : l = [] := List.eq_nil_of_length_eq_zero hn
    subst hl
    clear h hn
    go_enter Tryd.func25, Tryd.ntmps25
    go_wp2
    go_ret
    exact ⟨none, 0, rfl, World.ownsRow_nil _ _ _ _, Below.refl _ _⟩
  · have h0z : ¬ (n : Int) = 0 := by omega
    have hnl : l ≠ [] := fun e => h0 (by rw [← hn, e]; rfl)
    have HE : Hid (encC l = Q.enc n ++ pk (rowB l)) := hidden (by unfold encC; rw [if_neg hnl, hn])
    have hrl := rowB_le h.sz
    rw [hn] at hrl
    have hr128 : 128 ≤ (rowB l).length := by
      cases l with
      | nil => exact absurd rfl hnl
      | cons s t => simp [rowB, fiB, low_len]; omega
    have HB := hidden (fun wy (hb : Below w.heap.size w wy) => bitsD wy ad n c l (h.later hb) hn hn2)
    have HP := hidden (Q.refPutUint_any none 0 0 n [] w (Sl.nil _ _) (fun _ => ⟨rfl, rfl⟩) (by omega) (by omega))
    have hgr := Q.grp_le n
    clear h hn hnl
    obtain ⟨L, hLE⟩ : ∃ L, rowB l = L := ⟨_, rfl⟩
    rw [hLE] at HE HB hrl hr128
    clear hLE
    obtain ⟨K, hK⟩ : ∃ K, (L.length + 7) / 8 = K := ⟨_, rfl⟩
    go_enter Tryd.func25, Tryd.ntmps25
    go_wp2_with fail
    refine HP.out.mono ?_
    rintro e w1 ⟨ad1, c1, rfl, o1, b1⟩
    have O1 := hidden o1
    have B1 := hidden b1
    clear o1 b1
    go_wp2_with fail
    refine (HB.out w1 B1.out).mono ?_
    rintro e w2 ⟨v2, rfl, ⟨⟨ad2, c2, rfl⟩, o2⟩, b2⟩
    obtain ⟨gl, rfl⟩ : ∃ gl, ad2 = some ⟨gl, 0, none⟩ := by
      rcases o2.2 with ⟨_, e0⟩ | ⟨g, cap, cur, e0, _⟩
      · omega
      · injection e0 with e1; exact ⟨g, e1⟩
    have hgl : w1.heap.size ≤ gl := (o2.lt gl rfl).1
    have D2 : Hid (DE w w2 (.slice ad1 (0 + Q.grp n + 1) c1) gl n L 0) := hidden ⟨⟨ad1, c1, by rw [Nat.zero_add]⟩, by
        have := owl O1.out b2
        simpa using this, fun g hg e => by have := (O1.out.lt g hg).2; omega, sl_bits ⟨⟨_, _, rfl⟩, o2⟩, B1.out.trans (b2.mono B1.out.size)⟩
    clear o2 b2 O1 HP HB
    go_wp2_with fail
    generalize ((n : Int) == 0) = bz at *
    go_loopw [3, 5, 6, 7] (fun v3 v5 v6 v7 wx => ∃ (q : Nat) (v : Value), v5 = .int .i64 (8 * (q : Int)) ∧ q ≤ K ∧ v = v3 ∧ Hid (DE w wx v gl n L q)) (fun _ v5 _ _ _ => 8 * K + 8 - (intOf v5).toNat)
    case atStart => exact ⟨0, _, rfl, by omega, rfl, by simpa using D2⟩
    case round =>
      rename World => wx
      obtain ⟨q, v3, rfl, hq, rfl, hD⟩ := hrel
      clear D2
      by_cases hlt : q < K
      · have hltz : 8 * (q : Int) < (L.length : Int) := by omega
        have HSL := hidden hD.out.sl
        obtain ⟨ad3, c3, e3⟩ := hD.out.form
        subst e3
        go_wp2_with fail
        go_loopw [6, 7] (fun v6 v7 wy => wx = wy ∧ ∃ k : Nat, k ≤ 8 ∧ v7 = .int .i64 (k : Int) ∧ v6 = .int .u8 ((part L q k : Nat) : Int)) (fun _ v7 _ => 8 - (intOf v7).toNat)
        case atStart => exact ⟨rfl, 0, by omega, rfl, rfl⟩
        case round =>
          rename World => wy
          obtain ⟨rfl, k, hk, rfl, rfl⟩ := hrel
          have hpl := part_lt L q k
          have hpn := part_next L q k
          by_cases hk8 : k < 8
          · have hk8z : (k : Int) < 8 := by omega
            have hp2 : 2 ^ k ≤ 2 ^ 7 := Nat.pow_le_pow_right (by omega) (by omega)
            have hp128 : part L q k < 128 := by omega
            by_cases hin : 8 * q + k < L.length
            · have hinz : 8 * (q : Int) + (k : Int) < (L.length : Int) := by omega
              obtain ⟨x, hx, hcl⟩ := HSL.out.cell (8 * q + k) hin
              injection hx with hx
              subst hx
              rw [Addr.add_lit, Nat.zero_add, nI_at] at hcl
              have hcl' : wx.cell? ⟨gl, 8 * q + k, none⟩ = some (.int .u8 ((L.getD (8 * q + k) false).toNat : Int)) := hcl
              have hb1 : (L.getD (8 * q + k) false).toNat ≤ 1 := by cases L.getD (8 * q + k) false <;> simp
              clear hcl
              have HPN := hidden hpn
              clear hpn
              generalize part L q k = P at *
              generalize (L.getD (8 * q + k) false).toNat = bt1 at *
              go_wp2_with fail
              refine ⟨⟨by first | rfl | trivial, k + 1, by omega, by rw [Int.natCast_add]; rfl, ?_⟩, by simp [intOf]; omega⟩
              rw [HPN.out]
              congr 1
              omega
            · have hinz : ¬ 8 * (q : Int) + (k : Int) < (L.length : Int) := by omega
              have hz : (L.getD (8 * q + k) false).toNat = 0 := by simp [List.getD, hin]
              rw [hz] at hpn
              have HPN := hidden hpn
              clear hpn hz
              generalize part L q k = P at *
              go_wp2_with fail
              refine ⟨⟨by first | rfl | trivial, k + 1, by omega, by rw [Int.natCast_add]; rfl, ?_⟩, by simp [intOf]; omega⟩
              rw [HPN.out]
              congr 1
              omega
          · obtain rfl : k = 8 := by omega
            have HQK : Hid (q < (L.length + 7) / 8) := hidden (by omega)
            have hbs := hD.out.bel.size
            clear hpn hlt
            have DP := hidden (fun g' c' w' => hD.out.push (w' := w') (g' := g') (c' := c') HQK.out (by omega))
            generalize hPP : part L q 8 = P at *
            go_wp2_with (refine wpList_pushC _ rfl (.tmp 43) (.tmp 45) rfl w.heap.size (.slice ad3 (Q.grp n + 1 + q) c3) (Q.grp n + 1 + q) _ rfl wx hD.out.own (P : Int) rfl rfl (by omega) (by omega) ?_
                         intro g7 c7 w7 o7 ch7 m7
                         have D7 := hidden (DP.out g7 c7 w7 o7 ch7 m7)
                         clear o7 ch7 m7)
            exact ⟨⟨q + 1, _, by rw [Int.natCast_add, Int.mul_add]; rfl, by omega, rfl, D7⟩, by simp [intOf]; omega⟩
      · obtain rfl : q = K := by omega
        have hge : ¬ 8 * (q : Int) < (L.length : Int) := by omega
        have HF : Hid (BtP w (encC l) (.returned v3) wx) := hidden (by
          obtain ⟨ad3, c3, e3⟩ := hD.out.form
          have hlen : (encC l).length = Q.grp n + 1 + q := by rw [HE.out, List.length_append, Q.enc_length, pk_len, hK]
          have ho := hD.out.own
          rw [List.take_of_length_le (by rw [pk_len, hK]; exact Nat.le_refl _), ← HE.out] at ho
          subst e3
          exact ⟨ad3, c3, by rw [hlen], by rw [hlen]; exact ho, hD.out.bel⟩)
        go_wp2
        go_ret
        exact HF.out

end Go.Proofs.YtcgjmioncbihhaaDoor

/-
  The document's own chunk: New, Append, Len, Bytes.
-/
namespace Go.Proofs.YtcgjmioncbihhaaDoor
open Go.RowKit
set_option linter.unusedVariables false
set_option linter.unusedSimpArgs false

/-- The document's chunk in memory. -/
structure XC (w : World) (x : Nat) (rb : Option Nat) (most : Int) (l : List Sm) : Prop where
  blk : ∃ ad c, Blk w x 63 [.slice ad l.length c, .int .i64 most] ∧ w.ownsRow 0 32 2 (.slice ad l.length c) l.length (cS l) ∧ (Value.slice ad l.length c).ownBlock = rb
  ok : ∀ y ∈ l, OkS y
  most : I64 most
/-- Where it lies. -/
def FX (x : Nat) (rb : Option Nat) : Nat → Prop := fun i => i = x ∨ rb = some i
theorem XC.chg {F : Nat → Prop} {w w' : World} {x : Nat} {rb : Option Nat} {most : Int} {l : List Sm} (h : XC w x rb most l) (hc : Chg F w w') (hF : ∀ i, FX x rb i → ¬ F i) : XC w' x rb most l := by
  obtain ⟨ad, c, h1, h2, h3⟩ := h.blk
  exact ⟨⟨ad, c, hc.blk h1 (hF x (.inl rfl)), hc.owns h2 (fun g hg => hF g (.inr (by rw [← h3]; exact hg))), h3⟩, h.ok, h.most⟩
theorem XC.later {w w' : World} {x : Nat} {rb : Option Nat} {most : Int} {l : List Sm} (h : XC w x rb most l) (hb : Below w.heap.size w w') : XC w' x rb most l := h.chg (Chg.of_below (F := fun _ => False) hb) (fun _ _ e => e)
theorem built63 (most : Int) : Tryd.prog.built 63 [(1, .int .i64 most)] = some #[.slice none 0 0, .int .i64 most] := by kernel_rfl

set_option maxRecDepth 100000 in
theorem newD (w : World) (most : Int) (hm : I64 most) :
    Calls Tryd.prog 19 #[.int .i64 most] w fun e w' => ∃ x, e = .returned (.pointer (some ⟨x, 0, none⟩)) ∧ w.heap.size ≤ x ∧ XC w' x none most [] ∧ Below w.heap.size w w' := by
  have hmb := hm
  unfold I64 at hmb
  go_enter Tryd.func19, Tryd.ntmps19
  go_wp2_with (first
    | (refine wpList_build_to rfl 63 #[(1, .tmp 3)] rfl [(1, .int .i64 most)] #[.slice none 0 0, .int .i64 most] rfl (built63 _) ?_)
    | (refine wpList_box_blk rfl 63 (.tmp 4) rfl [.slice none 0 0, .int .i64 most] rfl ?_; intro w2 B2 bl2 hz2))
  go_ret
  exact ⟨_, rfl, Nat.le_refl _, ⟨⟨none, 0, B2, World.ownsRow_nil _ _ _ _, rfl⟩, by simp, hm⟩, bl2⟩

set_option maxRecDepth 100000 in
theorem lenD (w : World) (x : Nat) (rb : Option Nat) (most : Int) (l : List Sm) (h : XC w x rb most l) :
    Calls Tryd.prog 11 #[.pointer (some ⟨x, 0, none⟩)] w fun e w' => e = .returned (.int .i64 (l.length : Int)) ∧ w' = w := by
  obtain ⟨ad, c, h1, _⟩ := h.blk
  have c0 := h1.cell 0
  simp at c0
  clear h h1
  go_enter Tryd.func11, Tryd.ntmps11
  go_wp2
  go_ret
  exact ⟨rfl, rfl⟩

set_option maxRecDepth 100000 in
theorem bytesD (w : World) (x : Nat) (rb : Option Nat) (most : Int) (l : List Sm) (h : XC w x rb most l) (hl : l.length ≤ 1000000) :
    Calls Tryd.prog 26 #[.pointer (some ⟨x, 0, none⟩)] w (BtP w (encC l)) := by
  obtain ⟨ad, c, h1, h2, h3⟩ := h.blk
  have c0 := h1.cell 0
  simp at c0
  have HE := hidden (encodeD w ad l.length c l (ss_of_owns h2 h.ok) rfl hl)
  clear h h1 h2 h3
  go_enter Tryd.func26, Tryd.ntmps26
  go_wp2_with fail
  refine HE.out.mono ?_
  rintro e w1 ⟨ad1, c1, rfl, o1, b1⟩
  go_wp2
  go_ret
  exact ⟨_, _, rfl, o1, b1⟩

set_option maxRecDepth 100000 in
set_option maxHeartbeats 8000000 in
theorem appendD (w : World) (x : Nat) (rb : Option Nat) (most : Int) (l : List Sm) (s : Sm) (h : XC w x rb most l) (hs : OkS s) (hl : l.length ≤ 100000) :
    Calls Tryd.prog 9 #[.pointer (some ⟨x, 0, none⟩), .int .i64 s.t, .int .u64 (s.v : Int)] w fun e w' => e = .returned (.bool (decide (((encC (l ++ [s])).length : Int) ≤ most))) ∧ ∃ rb', XC w' x rb' most (if ((encC (l ++ [s])).length : Int) ≤ most then l ++ [s] else l) ∧ Chg (fun i => i = x) w w' ∧ Moved w rb rb' := by
  obtain ⟨ad, c, h1, h2, h3⟩ := h.blk
  have c0 := h1.cell 0
  have c1 := h1.cell 1
  simp at c0 c1
  have hst := hs.t
  have hsv := hs.v
  have hmb := h.most
  unfold I64 at hst hmb
  have HX := hidden h
  have HS := hidden (ss_of_owns h2 h.ok)
  have HNO : Hid (ad = none → l = [] ∧ c = 0) := hidden (fun e => by
    obtain ⟨ad', c', e1, e2, _⟩ := owns_formS h2
    injection e1 with e3 e4 e5
    subst e3 e5
    exact ⟨List.eq_nil_of_length_eq_zero (e2 e).1, (e2 e).2⟩)
  have HB := hidden h1
  have HOK : Hid (∀ y ∈ l ++ [s], OkS y) := hidden (fun y hy => by
    rcases List.mem_append.1 hy with hy | hy
    · exact h.ok y hy
    · rw [List.mem_singleton.1 hy]; exact hs)
  obtain ⟨N, hN⟩ : ∃ N, (encC (l ++ [s])).length = N := ⟨_, rfl⟩
  have hNb : N ≤ 20 * (l.length + 1) := by have := encC_le HOK.out; rw [hN] at this; simpa using this
  rw [hN]
  have HNN := hidden hN
  obtain ⟨n, hn⟩ : ∃ n, l.length = n := ⟨_, rfl⟩
  rw [hn] at c0 hl hNb
  have HLN := hidden hn
  clear h h1 h2 hs hN hn
  go_enter Tryd.func9, Tryd.ntmps9
  go_wp2_with (first
    | (refine wpList_appS _ rfl (.tmp 8) (.tmp 12) rfl w.heap.size (.slice none 0 0) 0 [] rfl (World.ownsRow_nil _ _ _ _) ad n c l rfl HS.out HLN.out HNO.out n (by omega) (by omega) (Nat.le_refl _) ?_
       intro a1 cc1 w1 o1 b1
       have O1 := hidden o1
       have B1 := hidden b1
       clear o1 b1)
    | (refine wpList_build_to rfl 32 #[(0, .tmp 15), (1, .tmp 16)] rfl [(0, .int .i64 s.t), (1, .int .u64 (s.v : Int))] #[.int .i64 s.t, .int .u64 (s.v : Int)] rfl (built32 _ _ _ _ rfl rfl) ?_)
    | (refine wpList_pushM _ rfl (.tmp 14) (.tmp 18) rfl w.heap.size (.slice a1 n cc1) n ([] ++ l) rfl w1 O1.out s rfl rfl (by omega) B1.out.size ?_
       intro g2 cc2 w2 o2 b2 _
       have O2 : Hid (w2.ownsRow w.heap.size 32 2 (.slice (some ⟨g2, 0, none⟩) (n + 1) cc2) (n + 1) (cS (l ++ [s]))) := hidden o2
       have B2 := hidden (B1.out.trans b2)
       clear o2 b2))
  have HEN := hidden (fun wy (hb : Below w2.heap.size w2 wy) => encodeD wy (some ⟨g2, 0, none⟩) (n + 1) cc2 (l ++ [s]) (ss_of_owns (owl O2.out hb) HOK.out) (by rw [List.length_append, HLN.out]; rfl) (by omega))
  unfold BtP at HEN
  rw [HNN.out] at HEN
  have MO : Hid (∀ wy, Below w.heap.size w wy → wy.cell? ⟨x, 1, none⟩ = some (.int .i64 most)) := hidden (fun wy hb => by
    have := (HB.out.later hb).cell 1
    simpa using this)
  have e1 := MO.out w2 B2.out
  have hbl2 := B2.out.size
  have hxl := HB.out.lt
  clear c1
  by_cases hf : (N : Int) ≤ most
  · have hnf : ¬ most < (N : Int) := by omega
    have HFF := hidden hf
    clear hf
    go_region_with (refine (HEN.out _ ((Below.refl _ _).drew)).mono ?_; rintro e w3 ⟨ad3, c3, rfl, _, b3⟩; have B3 : Hid (Below w2.heap.size w2 w3) := hidden (((Below.refl _ _).drew).trans b3); have e3 := MO.out w3 (B2.out.trans (B3.out.mono hbl2)); clear b3)
    all_goals
      have B4 := hidden (HB.out.later (B2.out.trans (B3.out.mono hbl2)))
      have c3 := B4.out.cell 0
      have f3 := B4.out.frozen 0
      simp at c3
      go_wp2_with fail
      first | go_region | skip
      go_wp2
      go_ret
      have B5 := B4.out.set 0 (.slice (some ⟨g2, 0, none⟩) (n + 1) cc2)
      have C5 := chg_set w3 x 0 (.slice (some ⟨g2, 0, none⟩) (n + 1) cc2)
      have hgx : w.heap.size ≤ g2 := (O2.out.lt g2 rfl).1
      have hX : XC (w3.setCell ⟨x, 0, none⟩ (.slice (some ⟨g2, 0, none⟩) (n + 1) cc2)) x (some g2) most (l ++ [s]) := by
        have hlen : (l ++ [s]).length = n + 1 := by rw [List.length_append, HLN.out]; rfl
        refine ⟨⟨some ⟨g2, 0, none⟩, cc2, by rw [hlen]; simpa using B5, ?_, rfl⟩, HOK.out, HX.out.most⟩
        rw [hlen]
        exact C5.owns (owns_base (owl O2.out B3.out) (fun _ _ => Nat.zero_le _)) (fun g hg e => by simp [Value.ownBlock] at hg; omega)
      have hC : Chg (fun i => i = x) w (w3.setCell ⟨x, 0, none⟩ (.slice (some ⟨g2, 0, none⟩) (n + 1) cc2)) := (Chg.of_below (F := fun i => i = x) (B2.out.trans (B3.out.mono hbl2))).trans C5 (fun _ _ e => e)
      refine ⟨by first | rfl | simp | (simp; omega), some g2, ?_, hC, .inr ⟨g2, rfl, hgx⟩⟩
      first | exact hX | (rw [if_pos (by omega)]; exact hX)
  · have hnf : most < (N : Int) := by omega
    have HFF := hidden hf
    clear hf
    go_region_with (refine (HEN.out _ ((Below.refl _ _).drew)).mono ?_; rintro e w3 ⟨ad3, c3, rfl, _, b3⟩; have B3 : Hid (Below w2.heap.size w2 w3) := hidden (((Below.refl _ _).drew).trans b3); have e3 := MO.out w3 (B2.out.trans (B3.out.mono hbl2)); clear b3)
    all_goals
      go_wp2
      go_ret
      have hX := HX.out.later (B2.out.trans (B3.out.mono hbl2))
      refine ⟨by first | rfl | simp | (simp; omega), rb, ?_, Chg.of_below (B2.out.trans (B3.out.mono hbl2)), .inl rfl⟩
      first | exact hX | (rw [if_neg (by omega)]; exact hX)

end Go.Proofs.YtcgjmioncbihhaaDoor
