import Derived.Test.YtlppibigceeimaaDoorChU
import Derived.Test.YtlppibigceeimaaDoorNumE
/-
  Package chunk: Read.
-/
namespace Go.Proofs.YtlppibigceeimaaDoor
open Go.RowKit
set_option linter.unusedVariables false
set_option linter.unusedSimpArgs false

theorem built77 (p : Nat) : Tryd.prog.built 123 [(0, .pointer (some ⟨p, 0, none⟩))] = some #[.pointer (some ⟨p, 0, none⟩), .bool false] := by kernel_rfl
/-- What Read leaves. -/
def RdP (w : World) (b : List Int) (e : Ending) (w' : World) : Prop :=
  ∃ ad c l ec, e = .returned (.tuple #[.slice ad l.length c, .int .i64 ec]) ∧ w'.ownsRow w.heap.size 35 2 (.slice ad l.length c) l.length (cS l) ∧ (∀ x ∈ l, OkS x) ∧ Below w.heap.size w w' ∧ ((rdR b = some l ∧ ec = 0) ∨ (rdR b = none ∧ l = [] ∧ ec = 100))
theorem rdR_go {b : List Int} (h : b ≠ []) (h1 : (Q.dec b).1 ≠ 0) {l : List Sm} {B' : List Bool} {wg : Bool} (hE : RdE (rdF (Q.dec b).1 (ub (b.drop (Q.dec b).2))) l B' wg) :
    ((wg || !decide (B'.length < 8 ∧ vl B' = 0)) = false → rdR b = some l) ∧ ((wg || !decide (B'.length < 8 ∧ vl B' = 0)) = true → rdR b = none) := by
  have hr : rdR b = rdB (Q.dec b).1 (ub (b.drop (Q.dec b).2)) := by unfold rdR; rw [if_neg h, if_neg h1]
  rw [hr, rdB_rdF]
  cases hf : rdF (Q.dec b).1 (ub (b.drop (Q.dec b).2)) with
  | none =>
    have := hE.1 hf
    subst this
    simp
  | some q =>
    obtain ⟨l0, c0⟩ := q
    obtain ⟨rfl, rfl, rfl⟩ := hE.2 _ _ hf
    simp only [Bool.false_or]
    by_cases hh : B'.length < 8 ∧ vl B' = 0
    · simp [hh]
    · simp [hh]

theorem sl_tail {w : World} {b off len K : Nat} {l : List Int} (h : Sl w (some ⟨b, off, none⟩) len l) (hk : K ≤ len) {ad : Option Addr} (hd : 0 < len - K → ad = some ⟨b, off + K, none⟩) : Sl w ad (len - K) (l.drop K) := by
  have h2 := h.cut (K := K) (N := len - K) (by omega) (ad := ad) hd
  rwa [List.take_of_length_le (by rw [List.length_drop, h.len]; exact Nat.le_refl _)] at h2
set_option maxRecDepth 100000 in
set_option maxHeartbeats 8000000 in
theorem readP (w : World) (ad : Option Addr) (len cap : Nat) (b : List Int) (h : Sl w ad len b) (hG : Gv w) (hl : len ≤ 100000000) (hlc : len ≤ cap) (hcm : cap ≤ 9223372036854775807) (hno : ad = none → len = 0 ∧ cap = 0) (hlo : 2 ≤ w.heap.size) :
    Calls Tryd.prog 49 #[.slice ad len cap] w (RdP w b) := by
  have HS := hidden h
  have HG := hidden hG
  have hlen := h.len
  have HU := hidden (Q.uint_any ad len cap b w h (by omega))
  have hdl := Q.dec_le b
  have HN := hidden hno
  by_cases h0 : len = 0
  · subst h0
    have HR : Hid (rdR b = some []) := hidden (by rw [List.eq_nil_of_length_eq_zero hlen]; rfl)
    clear h hG hno hlen hdl
    go_enter Tryd.func49, Tryd.ntmps49
    go_wp2
    go_ret2
    exact ⟨none, 0, [], 0, rfl, World.ownsRow_nil _ _ _ _, by simp, Below.refl _ _, .inl ⟨HR.out, rfl⟩⟩
  · have hbn : b ≠ [] := fun e => h0 (by rw [← hlen, e]; rfl)
    have h0z : ¬ (len : Int) = 0 := by omega
    by_cases h1 : (Q.dec b).1 = 0
    · have HR : Hid (rdR b = none) := hidden (by unfold rdR; rw [if_neg hbn, if_pos h1])
      rw [h1] at HU
      generalize (Q.dec b).2 = k at *
      clear h hG hno hlen hdl h1
      go_enter Tryd.func49, Tryd.ntmps49
      go_wp2_with fail
      refine HU.out.mono ?_
      rintro e w1 ⟨rfl, rfl⟩
      go_wp2
      go_ret2
      exact ⟨none, 0, [], 100, rfl, World.ownsRow_nil _ _ _ _, by simp, Below.refl _ _, .inr ⟨HR.out, rfl, rfl⟩⟩
    · obtain ⟨bb, off, rfl, hbl, _⟩ := h.at (by omega)
      have HGO := hidden (fun (l : List Sm) (B' : List Bool) (wg : Bool) => rdR_go (l := l) (B' := B') (wg := wg) hbn h1)
      have hd64 : (Q.dec b).1 < 18446744073709551616 := by have := (Q.dec_bound b h.byte).1; omega
      generalize (Q.dec b).1 = n at *
      generalize (Q.dec b).2 = k at *
      have hk : k ≤ len := by omega
      have h1z : ¬ (n : Int) = 0 := by omega
      clear h hG hno hbn
      have CUT := hidden (fun (ad : Option Addr) (hh : 0 < len - k → ad = some ⟨bb, off + k, none⟩) => sl_tail HS.out hk hh)
      go_enter Tryd.func49, Tryd.ntmps49
      go_wp2_with fail
      refine HU.out.mono ?_
      rintro e w1 ⟨rfl, rfl⟩
      go_wp2_with fail
      all_goals
        refine (newReader_any _ _ _ (b.drop k) w1 (CUT.out _ (by first | (intro _; rfl) | (intro hh; omega))) (by omega) (by intro e; cases e)).mono ?_
        rintro e w2 ⟨p, rfl, hp, hR, bl2⟩
        have HR := hidden hR
        have BL2 := hidden bl2
        have hpl : p < w2.heap.size := by obtain ⟨_, _, _, hB, _⟩ := hR; exact hB.lt
        clear hR bl2
        go_wp2_with (first
          | (refine wpList_build_to rfl 123 #[(0, .tmp 21)] rfl [(0, .pointer (some ⟨p, 0, none⟩))] #[.pointer (some ⟨p, 0, none⟩), .bool false] rfl (built77 p) ?_)
          | (refine wpList_box_blk rfl 123 (.tmp 22) rfl [.pointer (some ⟨p, 0, none⟩), .bool false] rfl ?_
             intro w3 B3 bl3 hz3
             have X3 : Hid (XS w3 w2.heap.size p (ub (b.drop k)) false) := hidden ⟨B3, ⟨b.drop k, 0, HR.out.same (Chg.of_below bl3), by rw [List.length_drop]; omega, by rw [List.drop_zero]⟩, hpl⟩
             have BL3 := hidden (BL2.out.trans (bl3.mono BL2.out.size))
             have G3 := hidden ((HG.out.later BL2.out).later bl3)
             have hz3' := hz3
             clear B3 bl3 hz3))
        refine (samplesP w3 w2.heap.size p n (ub (b.drop k)) X3.out G3.out (by omega) (by omega) hd64).mono ?_
        rintro e w4 ⟨ad4, c4, l, B4, wg4, rfl, o4, k4, x4, e4, ch4⟩
        have O4 := hidden o4
        have K4 := hidden k4
        have X4 := hidden x4
        have E4 := hidden e4
        have C4 := hidden ch4
        clear o4 k4 x4 e4 ch4
        go_wp2_with fail
        refine (endP w4 w2.heap.size p B4 wg4 X4.out).mono ?_
        rintro e w5 ⟨rfl, ⟨B5, x5⟩, ch5⟩
        have hbl3 := BL3.out.size
        have hle3 := X3.out.blk.lt
        have BL5 : Hid (Below w1.heap.size w1 w5) := hidden (BL3.out.trans ((C4.out.trans ch5 (fun i _ hi => hi)).below hbl3 (fun i hi => by unfold F2 at hi; have := BL2.out.size; omega)))
        have O5 := hidden (ch5.owns O4.out (own_far O4.out hle3 hpl))
        have GO := hidden (HGO.out l B4 wg4 E4.out)
        obtain ⟨wg, hwg⟩ : ∃ wg, (wg4 || !decide (B4.length < 8 ∧ vl B4 = 0)) = wg := ⟨_, rfl⟩
        rw [hwg] at GO x5
        have c1 := x5.blk.cell 1
        simp at c1
        have hol : w1.heap.size ≤ w3.heap.size := hbl3
        have O6 := hidden (show w5.ownsRow w1.heap.size 35 2 (.slice ad4 l.length c4) l.length (cS l) from owns_base O5.out (fun g hg => Nat.le_trans hol (O5.out.lt g hg).1))
        clear x5 ch5 hwg
        cases wg with
        | true =>
          go_wp2
          go_ret2
          exact ⟨none, 0, [], 100, rfl, World.ownsRow_nil _ _ _ _, by simp, BL5.out, .inr ⟨GO.out.2 (by first | rfl | trivial), rfl, rfl⟩⟩
        | false =>
          go_wp2
          go_ret2
          exact ⟨ad4, c4, l, 0, rfl, O6.out, K4.out, BL5.out, .inl ⟨GO.out.1 (by first | rfl | trivial), rfl⟩⟩

end Go.Proofs.YtlppibigceeimaaDoor

/-
  Package chunk: New, Len, Bytes; a chunk as a whole.
-/
namespace Go.Proofs.YtlppibigceeimaaDoor
open Go.RowKit
set_option linter.unusedVariables false
set_option linter.unusedSimpArgs false

/-- A chunk in memory: its samples. -/
structure CS (w : World) (c p : Nat) (rb : Option Nat) (most : Int) (l : List Sm) : Prop where
  blk : Blk w c 114 (chC most l.length (tl l) p)
  ws : WS w p rb (rowB l)
  ok : ∀ x ∈ l, OkS x
  most : I64 most
  lo : 1 < p ∧ ∀ i, rb = some i → 1 < i
/-- Where it lies. -/
def FC (c p : Nat) (rb : Option Nat) : Nat → Prop := fun i => fpt p rb i ∨ i = c
theorem CS.later {w w' : World} {c p : Nat} {rb : Option Nat} {most : Int} {l : List Sm} (h : CS w c p rb most l) (hb : Below w.heap.size w w') : CS w' c p rb most l :=
  ⟨h.blk.later hb, h.ws.later hb, h.ok, h.most, h.lo⟩
theorem CS.chg {F : Nat → Prop} {w w' : World} {c p : Nat} {rb : Option Nat} {most : Int} {l : List Sm} (h : CS w c p rb most l) (hc : Chg F w w') (hF : ∀ i, FC c p rb i → ¬ F i) : CS w' c p rb most l :=
  ⟨hc.blk h.blk (hF c (.inr rfl)), h.ws.chg hc (fun i hi => hF i (.inl hi)), h.ok, h.most, h.lo⟩
theorem built56 (p : Nat) : Tryd.prog.built 110 [(0, .pointer (some ⟨p, 0, none⟩))] = some #[.pointer (some ⟨p, 0, none⟩)] := by kernel_rfl
theorem built58 (most : Int) (p : Nat) : Tryd.prog.built 114 [(0, .int .i64 most), (3, .agg #[.pointer (some ⟨p, 0, none⟩)])] = some (chC most 0 ⟨0, 0, 0⟩ p).toArray := by kernel_rfl

set_option maxRecDepth 100000 in
set_option maxHeartbeats 8000000 in
theorem newP (w : World) (most : Int) (hm : I64 most) (hlo : 2 ≤ w.heap.size) :
    Calls Tryd.prog 43 #[.int .i64 most] w fun e w' => ∃ c p, e = .returned (.pointer (some ⟨c, 0, none⟩)) ∧ w.heap.size ≤ c ∧ w.heap.size ≤ p ∧ CS w' c p none most [] ∧ Below w.heap.size w w' := by
  have hmb := hm
  unfold I64 at hmb
  go_enter Tryd.func43, Tryd.ntmps43
  go_wp2_with fail
  refine (newWriter_any w).mono ?_
  rintro e w1 ⟨rfl, hW, bl1⟩
  have HW := hidden hW
  have BL1 := hidden bl1
  clear hW bl1
  go_wp2_with (first
    | (refine wpList_build_to rfl 110 #[(0, .tmp 4)] rfl [(0, .pointer (some ⟨w.heap.size, 0, none⟩))] #[.pointer (some ⟨w.heap.size, 0, none⟩)] rfl (built56 _) ?_)
    | (refine wpList_build_to rfl 114 #[(0, .tmp 3), (3, .tmp 5)] rfl [(0, .int .i64 most), (3, .agg #[.pointer (some ⟨w.heap.size, 0, none⟩)])] (chC most 0 ⟨0, 0, 0⟩ w.heap.size).toArray rfl (built58 _ _) ?_)
    | (refine wpList_box_blk rfl 114 (.tmp 6) rfl (chC most 0 ⟨0, 0, 0⟩ w.heap.size) rfl ?_; intro w2 B2 bl2 hz2))
  go_ret
  refine ⟨w1.heap.size, w.heap.size, rfl, BL1.out.size, Nat.le_refl _, ⟨B2, HW.out.later bl2, by simp, hm, by omega, by simp⟩, BL1.out.trans (bl2.mono BL1.out.size)⟩

set_option maxRecDepth 100000 in
theorem clenP (w : World) (c p : Nat) (rb : Option Nat) (most : Int) (l : List Sm) (h : CS w c p rb most l) :
    Calls Tryd.prog 46 #[.pointer (some ⟨c, 0, none⟩)] w fun e w' => e = .returned (.int .i64 (l.length : Int)) ∧ w' = w := by
  have c1 := h.blk.cell 1
  simp [chC] at c1
  clear h
  go_enter Tryd.func46, Tryd.ntmps46
  go_wp2
  go_ret
  exact ⟨rfl, rfl⟩

/-- What Append leaves. -/
theorem cappendP (w : World) (c p : Nat) (rb : Option Nat) (most : Int) (l : List Sm) (s : Sm) (h : CS w c p rb most l) (hG : Gv w) (hs : OkS s) (hl : l.length ≤ 1000000) :
    Calls Tryd.prog 44 #[.pointer (some ⟨c, 0, none⟩), .int .i64 s.t, .int .u64 (s.v : Int)] w fun e w' => e = .returned (.bool (decide (((encC (l ++ [s])).length : Int) ≤ most))) ∧ ∃ rb', CS w' c p rb' most (if ((encC (l ++ [s])).length : Int) ≤ most then l ++ [s] else l) ∧ Chg (FC c p rb) w w' ∧ Moved w rb rb' := by
  have hr := room_on l s most
  refine (appendP w c p rb most l.length (tl l) (rowB l) s h.blk h.ws hG (tl_ok h.ok) hs hl (by have := rowB_le h.ok; omega) h.lo h.most).mono ?_
  rintro e w' ⟨rfl, hA⟩
  refine ⟨by rw [decide_eq_decide.2 hr], ?_⟩
  by_cases hh : ((encC (l ++ [s])).length : Int) ≤ most
  · rw [if_pos (hr.2 hh)] at hA
    rw [if_pos hh]
    obtain ⟨k1, rb', k2, k3, k4⟩ := hA
    refine ⟨rb', ⟨?_, ?_, ?_, h.most, h.lo.1, ?_⟩, k3, k4⟩
    · rw [tl_on, List.length_append]; exact k1
    · rw [rowB_on]; exact k2
    · intro x hx
      rcases List.mem_append.1 hx with hx | hx
      · exact h.ok x hx
      · rw [List.mem_singleton.1 hx]; exact hs
    · rcases k4 with rfl | ⟨g, rfl, hg⟩
      · exact h.lo.2
      · intro i hi
        injection hi with hi
        have := h.blk.lt
        have h0 := World.block_lt_of_cell? w _ (hG.wid 0 (by omega))
        simp at h0
        omega
  · rw [if_neg (fun e => hh (hr.1 e))] at hA
    rw [if_neg hh]
    obtain ⟨k1, rb', k2, k3, k4⟩ := hA
    refine ⟨rb', ⟨k1, k2, h.ok, h.most, h.lo.1, ?_⟩, k3, k4⟩
    rcases k4 with rfl | ⟨g, rfl, hg⟩
    · exact h.lo.2
    · intro i hi
      injection hi with hi
      have h0 := World.block_lt_of_cell? w _ (hG.wid 0 (by omega))
      simp at h0
      omega

end Go.Proofs.YtlppibigceeimaaDoor

/-
  Package chunk: Bytes.
-/
namespace Go.Proofs.YtlppibigceeimaaDoor
open Go.RowKit
set_option linter.unusedVariables false
set_option linter.unusedSimpArgs false

theorem step_append_sl {P : Program} (w : World) {ops : Array Oper} {o : Oper} {a : Act} {K : Act → World → Prop} {Q : Exit → Act → World → Prop} {E : Prop} (hgd : o.guard = none) (s x : Operand) (t : TypeId)
    (ho : o.op = .call { callee := .builtin .append, args := #[s, x], argTypes := #[t, t] })
    (base : Nat) (e : TypeId) (i : TypeInfo) (z : Value) (ht : P.underlying t = some (.slice e)) (hi : P.info? e = some i) (hz : i.zero = some z)
    (hsize : i.size = 1) (hby : i.bytes = 1) (hzs : z.cells.size = 1)
    (v : Value) (n : Nat) (xs : List Int) (hs : a.eval s = v) (hown : w.ownsRow base e 1 v n (cells8 xs))
    (ad : Addr) (m c : Nat) (l : List Int) (hx : a.eval x = .slice (some ad) m c) (hsl : Sl w (some ad) m l)
    (hbytes : n + m ≤ 140737488355328) (hbase : base ≤ w.heap.size)
    (h : ∀ ad' c' w', w'.ownsRow base e 1 (.slice ad' (n + m) c') (n + m) (cells8 (xs ++ l)) → w.grownBy w' v.ownBlock → K (a.put o.dst (.slice ad' (n + m) c')) w') :
    if Region.wanted o (yielded ops a.tmps) = true then Oper.wp P o a w K Q else E := by
  have hw : Region.wanted o (yielded ops a.tmps) = true := by simp [Region.wanted, hgd]
  rw [if_pos hw]
  obtain ⟨v', w', hr, h1, h2, _⟩ := run_append_own (P := P) w base t o.type e i z 1 1 ht hi hz hsize hby hzs (by omega) v n (cells8 xs) hown ad m c (cells8 l) (by rw [cells8_length, hsl.len]; omega) hsl.cells (cells8_one l) (by unfold maxLen; omega) (by omega) hbase
  obtain ⟨ad', c', rfl⟩ := owns_form h1
  rw [← cells8_append] at h1
  unfold Oper.wp
  simp [execOp, ho, resolve, invoke, builtin, hs, hx, hr, Result.andThen]
  exact h ad' c' w' h1 h2
theorem step_go {ops : Array Oper} {o : Oper} {a : Act} {w : World} {K : Act → World → Prop} {Q : Exit → Act → World → Prop} {E : Prop} (hgd : o.guard = none) (f : FuncId) (args : Array Value) (h : (execOp a.eval o).run Tryd.prog w = .ok (.enter f args) w) (R : Value → World → Prop) (hc : Calls Tryd.prog f args w fun e w' => ∃ v, e = .returned v ∧ R v w')
    (hK : ∀ v w', R v w' → K (a.put o.dst v) w') : if Region.wanted o (yielded ops a.tmps) = true then Oper.wp Tryd.prog o a w K Q else E := by
  have hw : Region.wanted o (yielded ops a.tmps) = true := by simp [Region.wanted, hgd]
  rw [if_pos hw]
  unfold Oper.wp
  rw [h]
  refine Calls.mono hc ?_
  rintro e w' ⟨v, rfl, h1⟩
  exact hK v w' h1
/-- What Bytes leaves. -/
def BtP (w : World) (b : List Int) (e : Ending) (w' : World) : Prop := ∃ ad c, e = .returned (.slice ad b.length c) ∧ w'.ownsRow w.heap.size 5 1 (.slice ad b.length c) b.length (cells8 b) ∧ Below w.heap.size w w'
theorem btp_of {w w' : World} {l : List Sm} (hl : l ≠ []) {ad : Option Addr} {n c : Nat} {b : List Int} (hb : b = encC l) (hn : b.length = n) (h : w'.ownsRow w.heap.size 5 1 (.slice ad n c) n (cells8 b)) (hbl : Below w.heap.size w w') : BtP w (encC l) (.returned (.slice ad n c)) w' := by
  subst hb hn
  exact ⟨ad, c, rfl, h, hbl⟩
theorem pk_of {R : List Int} {L : List Bool} (h : Rep R L) (hb : Byte R) (hl : R.length = (L.length + 7) / 8) : R = pk L := Rep.unique h (pk_rep L) (by rw [pk_len]; exact hl) hb (pk_byte L)

set_option maxRecDepth 100000 in
set_option maxHeartbeats 8000000 in
theorem cbytesP (w : World) (c p : Nat) (rb : Option Nat) (most : Int) (l : List Sm) (h : CS w c p rb most l) (hl : l.length ≤ 1000000) :
    Calls Tryd.prog 45 #[.pointer (some ⟨c, 0, none⟩)] w (BtP w (encC l)) := by
  have c1 := h.blk.cell 1
  have c5 := h.blk.cell 5
  simp [chC] at c1 c5
  by_cases h0 : l = []
  · subst h0
    clear h
    simp only [List.length_nil] at c1
    go_enter Tryd.func45, Tryd.ntmps45
    go_wp2
    go_ret
    exact ⟨none, 0, rfl, World.ownsRow_nil _ _ _ _, Below.refl _ _⟩
  · have hn : 1 ≤ l.length := by cases l; exact absurd rfl h0; simp
    have HCS := hidden h
    have HE : Hid (encC l = Q.enc l.length ++ pk (rowB l)) := hidden (by unfold encC; rw [if_neg h0])
    have hrl := rowB_le h.ok
    have hgr := Q.grp_le l.length
    obtain ⟨gk, hgk⟩ : ∃ gk, Q.grp l.length + 1 = gk := ⟨_, rfl⟩
    obtain ⟨k, hk⟩ : ∃ k, ((rowB l).length + 7) / 8 = k := ⟨_, rfl⟩
    have hk0 : 0 < k := by
      have h2 : 128 ≤ (rowB l).length := by
        cases l with
        | nil => exact absurd rfl h0
        | cons s t => simp [rowB, fiB, low_len]; omega
      omega
    have HCO : Hid (∀ wx, Calls Tryd.prog 53 #[.int .i64 (l.length : Int)] wx fun e w' => ∃ v, e = .returned v ∧ ((∃ ad c', v = .slice ad gk c') ∧ w'.ownsRow wx.heap.size 5 1 v gk (cells8 (Q.enc l.length)) ∧ Below wx.heap.size wx w')) := hidden (fun wx => by
      refine (countP wx l.length (by omega)).mono ?_
      rintro e w' ⟨rfl, h1, h2⟩
      refine ⟨_, rfl, ⟨some ⟨wx.heap.size, 0, none⟩, 0 + (Q.grp l.length + 1), by rw [← hgk, Nat.zero_add]⟩, ?_, h2⟩
      rw [List.nil_append] at h1
      rw [← hgk]
      simpa using h1)
    have HBY : Hid (∀ wx, Below w.heap.size w wx → Calls Tryd.prog 56 #[.pointer (some ⟨p, 0, none⟩)] wx fun e w' => ∃ v, e = .returned v ∧ ((∃ g c', v = .slice (some ⟨g, 0, none⟩) k c' ∧ Sl w' (some ⟨g, 0, none⟩) k (pk (rowB l))) ∧ Below wx.heap.size wx w')) := hidden (fun wx hb => by
      refine (bytes_any p rb (rowB l) wx (h.ws.later hb) (by omega)).mono ?_
      rintro e w' ⟨ad', c', R, rfl, r1, r2, r3, r4, r5⟩
      have hR : R = pk (rowB l) := pk_of r4 r3 r1
      rw [hk] at r2
      rcases r2.2 with ⟨_, e0⟩ | ⟨g, cap, cur, e0, _⟩
      · omega
      · injection e0 with e1 e2 e3
        subst e1
        refine ⟨_, rfl, ⟨g, c', by rw [hk], ?_⟩, r5⟩
        rw [← hR]
        exact sl_of_owns r2 r3)
    have hne : ¬ (l.length : Int) = 0 := by omega
    have C5 := hidden (fun wx (hb : Below w.heap.size w wx) => by have := (h.later hb).blk.cell 5; simpa [chC] using this)
    have HFI : Hid (∀ (w' : World) ad c', w'.ownsRow w.heap.size 5 1 (.slice ad (gk + k) c') (gk + k) (cells8 (Q.enc l.length ++ pk (rowB l))) → Below w.heap.size w w' → BtP w (encC l) (.returned (.slice ad (gk + k) c')) w') := hidden (fun w' ad c' h1 h2 => btp_of h0 HE.out.symm (by rw [List.length_append, Q.enc_length, pk_len, hgk, hk]) h1 h2)
    obtain ⟨i0, hi, hz0, hz1, hz2⟩ := info_parts info5
    have hgk2 : gk ≤ 100 := by omega
    have hk2 : k ≤ 1000000000 := by omega
    clear h h0 hgk hk HE HCS
    generalize l.length = n at *
    go_enter Tryd.func45, Tryd.ntmps45
    go_wp2_with fail
    go_region_law (first
      | (refine step_go (by rfl) 53 #[.int .i64 (n : Int)] (by simp [execOp, resolve, Act.eval, go_sem]) _ (HCO.out _) ?_
         rintro v1 w1 ⟨⟨ad1, cp1, rfl⟩, o1, b1⟩
         have O1 := hidden o1
         have B1 : Hid (Below w.heap.size w w1) := hidden (((Below.refl _ _).drew).trans b1)
         have d5 := C5.out _ B1.out
         clear o1 b1)
      | (refine step_go (by rfl) 56 #[.pointer (some ⟨p, 0, none⟩)] (by simp [execOp, resolve, Act.eval, go_sem]) _ (HBY.out _ B1.out) ?_
         rintro v2 w2 ⟨⟨g2, cp2, rfl, s2⟩, b2⟩
         have O2 := hidden (owl O1.out b2)
         have S2 := hidden s2
         have B2 : Hid (Below w.heap.size w w2) := hidden (B1.out.trans (b2.mono B1.out.size))
         clear s2 b2)
      | (refine step_append_sl _ (by rfl) (.tmp 12) (.tmp 18) 70 (by rfl) w.heap.size 5 i0 (.int .u8 0) Tryd.underlying70 hi hz0 hz1 hz2 (by rfl) (.slice ad1 gk cp1) gk (Q.enc n) (by rfl) O2.out ⟨g2, 0, none⟩ k cp2 (pk (rowB l)) (by rfl) S2.out (by omega) B2.out.size ?_
         intro ad3 cp3 w3 o3 g3
         have F3 := hidden (HFI.out w3 ad3 cp3 o3 (B2.out.trans (grown_below g3 O2.out B2.out.size)))
         clear o3 g3))
    all_goals
      go_wp2
      go_ret
      exact F3.out

end Go.Proofs.YtlppibigceeimaaDoor
