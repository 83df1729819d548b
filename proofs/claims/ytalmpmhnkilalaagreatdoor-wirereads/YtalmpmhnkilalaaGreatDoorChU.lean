import Derived.Test.YtalmpmhnkilalaaGreatDoorChN
/-
  Package chunk: the reader's samples.
-/
namespace Go.Proofs.YtalmpmhnkilalaaGreatDoor
open Go.RowKit
set_option linter.unusedVariables false
set_option linter.unusedSimpArgs false

def tC (a : Tr) : List Value := [.int .i64 a.t, .int .u64 (a.v : Int), .int .i64 a.st]
theorem built53a (a b : Value) (s : Sm) : Tryz.prog.built 196 [(0, .agg #[.int .i64 s.t, .int .u64 (s.v : Int)])] = some #[.int .i64 s.t, .int .u64 (s.v : Int), .int .i64 0] := by kernel_rfl
theorem Blk.ownsM {w : World} {g : Nat} {l : List Sm} (h : Blk w g 50 (cS l)) (hn : l.length ≤ 1000000000) (b : Nat) (hb : b ≤ g) : w.ownsRow b 50 2 (.slice (some ⟨g, 0, none⟩) l.length l.length) l.length (cS l) :=
  ⟨cS_length l, .inr ⟨g, l.length, (cS l).toArray, rfl, hb, h, Nat.le_refl _, by unfold maxLen; omega, by simp [cS_length], by simp [List.take_of_length_le, cS_length]⟩⟩
theorem own_far {w wx : World} {v : Value} {n r p : Nat} {xs : List Value} (h : wx.ownsRow w.heap.size 50 2 v n xs) (hr : r < w.heap.size) (hp : p < r) : ∀ i, v.ownBlock = some i → ¬ F2 r p i := by
  intro i hi
  have := (h.lt i hi).1
  unfold F2
  omega
theorem own_apart {wx : World} {v : Value} {n g b : Nat} {xs : List Value} {vs : List Value} (h : wx.ownsRow b 50 2 v n xs) (hB : Blk wx g 196 vs) : ∀ i, v.ownBlock = some i → ¬ i = g := by
  rintro i hi rfl
  rcases h.2 with ⟨rfl, _⟩ | ⟨g', cap, cur, rfl, _, hg, _⟩
  · exact absurd hi (by simp [Value.ownBlock])
  · simp [Value.ownBlock] at hi
    subst hi
    have := hB.symm.trans hg
    injection this with this
    injection this with _ h2 _
    exact absurd h2 (by decide)
theorem chg_far {b : Nat} {w w' : World} (hb : Below b w w') : Chg (fun i => b ≤ i) w w' := ⟨hb.os, hb.tape, hb.output, hb.size, fun i hi hn => hb.block i (by omega)⟩
theorem b8_blk {w w' : World} {v : Value} {n g b : Nat} {xs vs : List Value} (h : w.ownsRow b 50 2 v n xs) (hB : Blk w g 196 vs) (hc : Chg (fun i => v.ownBlock = some i) w w') : Blk w' g 196 vs := hc.blk hB (fun e => own_apart h hB g e rfl)
/-- What samples leaves. -/
def SaP (w : World) (r p n : Nat) (B : List Bool) (e : Ending) (w' : World) : Prop :=
  ∃ ad c l B' wg', e = .returned (.slice ad l.length c) ∧ w'.ownsRow w.heap.size 50 2 (.slice ad l.length c) l.length (cS l) ∧ (∀ x ∈ l, OkS x) ∧ XS w' r p B' wg' ∧ RdE (rdF n B) l B' wg' ∧ Chg (F2 r p) w w'
/-- What a round of samples holds. -/
structure SL (w wx : World) (r p g n : Nat) (B : List Bool) (i : Nat) (v : Value) (out : List Sm) (a : Tr) (Bi : List Bool) (wg : Bool) : Prop where
  xs : XS wx r p Bi wg
  blk : Blk wx g 196 (tC a)
  own : wx.ownsRow w.heap.size 50 2 v out.length (cS out)
  ok : ∀ x ∈ out, OkS x
  oka : Ok a
  si : SI n B i out a Bi wg
  len : out.length = i + 1
  chg : Chg (F2 r p) w wx

set_option maxRecDepth 100000 in
set_option maxHeartbeats 8000000 in
theorem samplesP (w : World) (r p n : Nat) (B : List Bool) (h : XS w r p B false) (hG : Gv w) (hlo : 1 < r ∧ 1 < p) (hn : 1 ≤ n) (hn2 : n < 18446744073709551616) :
    Calls Tryz.prog 205 #[.pointer (some ⟨r, 0, none⟩), .int .u64 (n : Int)] w (SaP w r p n B) := by
  have HX := hidden h
  have HG := hidden hG
  have hrl := h.blk.lt
  have hBl := h.len
  have hpr := h.lt
  clear h hG
  have HF := hidden (firstP w r p B false HX.out)
  unfold smV at HF
  have HO := hidden (f1_ok B)
  obtain ⟨s, hs⟩ : ∃ s, f1 B = s := ⟨_, rfl⟩
  have HS0 := hidden (SI.start n B)
  rw [hs] at HF HO HS0
  clear hs
  go_enter Tryz.func205, Tryz.ntmps205
  go_wp2_with fail
  refine HF.out.mono ?_
  rintro e w1 ⟨rfl, h1, hc1⟩
  have X1 := hidden h1
  have C1 := hidden hc1
  clear h1 hc1
  go_wp2_with (first
    | (refine wpList_build_to rfl 196 #[(0, .tmp 10)] rfl [(0, .agg #[.int .i64 s.t, .int .u64 (s.v : Int)])] #[.int .i64 s.t, .int .u64 (s.v : Int), .int .i64 0] rfl (built53a undef undef s) ?_)
    | (refine wpList_alloc_blk rfl 196 rfl 5 rfl tz3 info53 ?_; intro w2 B2 bl2 hz2; have HB2 := hidden B2; have X2 := hidden (X1.out.later bl2); have C2 := hidden (C1.out.trans (Chg.of_below (F := F2 r p) bl2) (fun i _ hi => hi)); clear B2 bl2 hz2)
    | (refine wpList_store_blk rfl 196 (.tmp 5) (.tmp 11) rfl rfl w1.heap.size (l := [.int .i64 s.t, .int .u64 (s.v : Int), .int .i64 0]) HB2.out rfl rfl rfl size53 (by intro v hv; simp at hv; rcases hv with rfl | rfl | rfl <;> rfl) ?_
       have BN := blk_stored (l := [.int .i64 s.t, .int .u64 (s.v : Int), .int .i64 0]) HB2.out rfl
       have CN := Chg.sets w1.heap.size [.int .i64 s.t, .int .u64 (s.v : Int), .int .i64 0] 0 w2
       generalize w2.setCells w1.heap.size 0 [.int .i64 s.t, .int .u64 (s.v : Int), .int .i64 0] = w3 at BN CN ⊢
       have e0 := BN.cell 0
       have e1 := BN.cell 1
       simp at e0 e1
       have HBN := hidden BN
       have HCN := hidden CN
       clear BN CN))
  have hsz1 := C1.out.size
  have hsz3 := HCN.out.size
  have hb2 := HB2.out.lt
  have SL0 : Hid (SL w (w3.alloc (.cells #[.int .i64 s.t, .int .u64 (s.v : Int)] 50)) r p w1.heap.size n B 0 (.slice (some ⟨w3.heap.size, 0, none⟩) 1 1) [s] (tr0 s) (g1 B) (h1 B false)) := hidden (by
    have X3 : XS w3 r p (g1 B) (h1 B false) := X2.out.bel (b := w1.heap.size) (by omega) (HCN.out.below (by omega) (fun i hi => by omega))
    have bl : Below w3.heap.size w3 (w3.alloc (.cells #[.int .i64 s.t, .int .u64 (s.v : Int)] 50)) := (Below.refl _ _).alloc (Nat.le_refl _) _
    refine ⟨X3.later bl, HBN.out.later bl, (Blk.new w3 50 (cS [s])).ownsM (by simp) _ (by omega), ?_, tr0_ok HO.out, HS0.out, rfl, ?_⟩
    · intro x hx; rw [List.mem_singleton.1 hx]; exact HO.out
    · exact (C2.out.trans HCN.out (fun i hi e => by omega)).trans (Chg.of_below (F := F2 r p) bl) (fun i _ hi => hi))
  have hgw : w.heap.size ≤ w1.heap.size := hsz1
  clear HBN HCN e0 e1 X1 X2 C1 C2 HB2 HF HS0 hsz1 hsz3 hb2
  generalize w1.heap.size = g at *
  go_loopw [6, 17] (fun v6 v17 wx => ∃ (i : Nat) (out : List Sm) (a : Tr) (Bi : List Bool) (wg : Bool), v17 = .int .u64 (i : Int) ∧ i ≤ n - 1 ∧ (∃ ad c, v6 = .slice ad out.length c) ∧ Hid (SL w wx r p g n B i v6 out a Bi wg)) (fun _ v17 _ => (n - 1) - (intOf v17).toNat)
  case atStart => exact ⟨0, [s], tr0 s, _, _, rfl, by omega, ⟨_, _, rfl⟩, SL0⟩
  case round =>
    rename World => wx
    obtain ⟨i, out, a, Bi, wg, rfl, hi, ⟨ad, c, rfl⟩, hS⟩ := hrel
    clear SL0 HX HO
    have c0 := hS.out.xs.blk.cell 1
    simp at c0
    have HLEN := hidden hS.out.len
    by_cases hlt : i < n - 1
    · have hltz : (i : Int) < (n : Int) - 1 := by omega
      cases wg with
      | true =>
        go_wp2
        go_ret
        exact ⟨none, 0, [], Bi, true, rfl, World.ownsRow_nil _ _ _ _, by simp, hS.out.xs, hS.out.si.bad [] Bi, hS.out.chg⟩
      | false =>
        have HG1 := hidden (gv_chg HG.out hS.out.chg (by unfold F2; omega))
        have hil : i ≤ 400000000 := by
          rcases hS.out.si with ⟨h, _⟩ | ⟨_, h, _⟩
          · exact absurd h (by simp)
          · omega
        go_wp2_with fail
        refine (driftP wx r p Bi false hS.out.xs HG1.out).mono ?_
        rintro e w4 ⟨dd, B1, wg1, rfl, hd, hR1, hX1, hc1⟩
        have HR1 := hidden hR1
        have HX1 := hidden hX1
        have HC1 := hidden hc1
        have HG2 := hidden (gv_chg HG1.out hc1 (by unfold F2; omega))
        have hdb := hd
        unfold I64 at hdb
        have HD := hidden hd
        clear hR1 hX1 hc1 hd
        go_wp2_with fail
        refine (flipsP w4 r p B1 wg1 HX1.out HG2.out hlo).mono ?_
        rintro e w5 ⟨x, B2, wg2, rfl, hx, hR2, hX2, hc2⟩
        have HC2 := hidden (HC1.out.trans hc2 (fun i _ hi => hi))
        have HX2 := hidden hX2
        have hgF : ¬ F2 r p g := by unfold F2; omega
        have HB5 := hidden (HC2.out.blk hS.out.blk hgF)
        have HSN := hidden (hS.out.si.next hlt HR1.out hR2)
        have HOA := hidden (by_ok (d := dd) hS.out.oka hx)
        have HBY := hidden (byP w5 a dd x HD.out hx hS.out.oka.t hS.out.oka.s hS.out.oka.v)
        unfold trV at HBY
        have e0 := HB5.out.cell 0
        have e1 := HB5.out.cell 1
        have e2 := HB5.out.cell 2
        simp [tC] at e0 e1 e2
        clear hX2 hc2 hR2 HX1 HR1
        generalize hab : a.by' dd x = b at *
        go_wp2_with fail
        refine HBY.out.mono ?_
        rintro e w6 ⟨rfl, bl6⟩
        have HB6 := hidden (HB5.out.later bl6)
        have X6 := hidden (HX2.out.later bl6)
        have C6 := hidden (HC2.out.trans (Chg.of_below (F := F2 r p) bl6) (fun i _ hi => hi))
        clear bl6 HBY HX2 HC2 HB5 e0 e1 e2
        have hgl := hS.out.blk.lt
        go_wp2_with (first
          | (refine wpList_store_blk rfl 196 (.tmp 5) (.tmp 30) rfl rfl g (l := [.int .i64 b.t, .int .u64 (b.v : Int), .int .i64 b.st]) HB6.out rfl rfl rfl size53 (by intro v hv; simp at hv; rcases hv with rfl | rfl | rfl <;> rfl) ?_
             have BN := blk_stored (l := [.int .i64 b.t, .int .u64 (b.v : Int), .int .i64 b.st]) HB6.out rfl
             have CN := Chg.sets g [.int .i64 b.t, .int .u64 (b.v : Int), .int .i64 b.st] 0 w6
             generalize w6.setCells g 0 [.int .i64 b.t, .int .u64 (b.v : Int), .int .i64 b.st] = w7 at BN CN ⊢
             have e0 := BN.cell 0
             have e1 := BN.cell 1
             simp at e0 e1
             have HBN := hidden BN
             have X7 := hidden (X6.out.bel (b := w.heap.size) hrl (CN.below (by have := C6.out.size; have := hS.out.chg.size; omega) (fun i hi => by omega)))
             have C7 := hidden (((hS.out.chg.trans C6.out (fun i _ hi => hi))).trans CN (fun i hi e => by omega))
             have O7 := hidden (CN.owns (C6.out.owns hS.out.own (own_far hS.out.own hrl hpr)) (own_apart hS.out.own hS.out.blk))
             clear BN CN)
          | (refine wpList_pushM _ rfl (.tmp 31) (.tmp 34) rfl w.heap.size (.slice ad out.length c) out.length out rfl w7 O7.out ⟨b.t, b.v⟩ rfl rfl (by have := HLEN.out; omega) (by have := C7.out.size; omega) ?_
             intro g' c' w8 o8 b8 p8
             have P8 := hidden p8
             have O8 := hidden o8
             have B8 := hidden b8
             clear o8 b8 p8))
        have hwb : (i : Int) + 1 = ((i + 1 : Nat) : Int) := by omega
        have X8 := hidden (X7.out.bel hrl B8.out)
        have BK8 := hidden (b8_blk O7.out HBN.out P8.out)
        refine ⟨⟨i + 1, out ++ [⟨b.t, b.v⟩], b, B2, wg2, by first | rfl | (rw [← hwb]; rfl), by omega, ⟨some ⟨g', 0, none⟩, c', by simp⟩, hidden ⟨X8.out, BK8.out, by simpa using O8.out, ?_, HOA.out, HSN.out, by simp [HLEN.out], C7.out.trans (chg_far B8.out) (fun i hi e => by omega)⟩⟩, ?_⟩
        · intro y hy
          rcases List.mem_append.1 hy with hy | hy
          · exact hS.out.ok y hy
          · rw [List.mem_singleton.1 hy]; exact ⟨HOA.out.t, HOA.out.v⟩
        · simp [intOf]
          omega
    · have hge : ¬ (i : Int) < (n : Int) - 1 := by omega
      go_wp2
      go_ret
      exact ⟨ad, c, out, Bi, wg, rfl, hS.out.own, hS.out.ok, hS.out.xs, hS.out.si.done (by omega), hS.out.chg⟩

end Go.Proofs.YtalmpmhnkilalaaGreatDoor

/-
  Package chunk: New, Len, Bytes; a chunk as a whole.
-/
namespace Go.Proofs.YtalmpmhnkilalaaGreatDoor
open Go.RowKit
set_option linter.unusedVariables false
set_option linter.unusedSimpArgs false

/-- A chunk in memory: its samples. -/
structure CS (w : World) (c p : Nat) (rb : Option Nat) (most : Int) (l : List Sm) : Prop where
  blk : Blk w c 198 (chC most l.length (tl l) p)
  ws : WS w p rb (rowB l)
  ok : ∀ x ∈ l, OkS x
  most : I64 most
  lo : 1 < p ∧ ∀ i, rb = some i → 1 < i
/-- Where it lies. -/
def FC (c p : Nat) (rb : Option Nat) : Nat → Prop := fun i => fpt p rb i ∨ i = c
theorem CS.later {w w' : World} {c p : Nat} {rb : Option Nat} {most : Int} {l : List Sm} (h : CS w c p rb most l) (hb : Below w.heap.size w w') : CS w' c p rb most l :=
  ⟨h.blk.later hb, h.ws.later hb, h.ok, h.most, h.lo⟩
theorem CS.chg {F : Nat → Prop} {w w' : World} {c p : Nat} {rb : Option Nat} {most : Int} {l : List Sm} (h : CS w c p rb most l) (hc : Chg F w w') (hF : ∀ i, FC c p rb i → ¬ F i) : CS w' c p rb most l :=
  ⟨hc.blk h.blk (hF c (.inr rfl)), h.ws.chg hc (fun i hi => hF i (.inl hi)), h.ok, h.most, h.lo⟩
theorem built56 (p : Nat) : Tryz.prog.built 194 [(0, .pointer (some ⟨p, 0, none⟩))] = some #[.pointer (some ⟨p, 0, none⟩)] := by kernel_rfl
theorem built58 (most : Int) (p : Nat) : Tryz.prog.built 198 [(0, .int .i64 most), (3, .agg #[.pointer (some ⟨p, 0, none⟩)])] = some (chC most 0 ⟨0, 0, 0⟩ p).toArray := by kernel_rfl

set_option maxRecDepth 100000 in
set_option maxHeartbeats 8000000 in
theorem newP (w : World) (most : Int) (hm : I64 most) (hlo : 2 ≤ w.heap.size) :
    Calls Tryz.prog 191 #[.int .i64 most] w fun e w' => ∃ c p, e = .returned (.pointer (some ⟨c, 0, none⟩)) ∧ w.heap.size ≤ c ∧ w.heap.size ≤ p ∧ CS w' c p none most [] ∧ Below w.heap.size w w' := by
  have hmb := hm
  unfold I64 at hmb
  go_enter Tryz.func191, Tryz.ntmps191
  go_wp2_with fail
  refine (newWriter_any w).mono ?_
  rintro e w1 ⟨rfl, hW, bl1⟩
  have HW := hidden hW
  have BL1 := hidden bl1
  clear hW bl1
  go_wp2_with (first
    | (refine wpList_build_to rfl 194 #[(0, .tmp 4)] rfl [(0, .pointer (some ⟨w.heap.size, 0, none⟩))] #[.pointer (some ⟨w.heap.size, 0, none⟩)] rfl (built56 _) ?_)
    | (refine wpList_build_to rfl 198 #[(0, .tmp 3), (3, .tmp 5)] rfl [(0, .int .i64 most), (3, .agg #[.pointer (some ⟨w.heap.size, 0, none⟩)])] (chC most 0 ⟨0, 0, 0⟩ w.heap.size).toArray rfl (built58 _ _) ?_)
    | (refine wpList_box_blk rfl 198 (.tmp 6) rfl (chC most 0 ⟨0, 0, 0⟩ w.heap.size) rfl ?_; intro w2 B2 bl2 hz2))
  go_ret
  refine ⟨w1.heap.size, w.heap.size, rfl, BL1.out.size, Nat.le_refl _, ⟨B2, HW.out.later bl2, by simp, hm, by omega, by simp⟩, BL1.out.trans (bl2.mono BL1.out.size)⟩

/-- What Append leaves. -/
theorem cappendP (w : World) (c p : Nat) (rb : Option Nat) (most : Int) (l : List Sm) (s : Sm) (h : CS w c p rb most l) (hG : Gv w) (hs : OkS s) (hl : l.length ≤ 20000000) (hL : (rowB l).length ≤ 900000000) :
    Calls Tryz.prog 192 #[.pointer (some ⟨c, 0, none⟩), .int .i64 s.t, .int .u64 (s.v : Int)] w fun e w' => e = .returned (.bool (decide (((encC (l ++ [s])).length : Int) ≤ most))) ∧ ∃ rb', CS w' c p rb' most (if ((encC (l ++ [s])).length : Int) ≤ most then l ++ [s] else l) ∧ Chg (FC c p rb) w w' ∧ Moved w rb rb' := by
  have hr := room_on l s most
  refine (appendP w c p rb most l.length (tl l) (rowB l) s h.blk h.ws hG (tl_ok h.ok) hs hl hL h.lo h.most).mono ?_
  rintro e w' ⟨rfl, hA⟩
  refine ⟨by rw [decide_eq_decide.2 hr], ?_⟩
  by_cases hh : ((encC (l ++ [s])).length : Int) ≤ most
  · rw [if_pos (hr.2 hh)] at hA
    rw [if_pos hh]
    obtain ⟨k1, rb', k2, k3, k4⟩ := hA
    refine ⟨rb', ⟨?_, ?_, ?_, h.most, h.lo.1, ?_⟩, k3, k4⟩
    · rw [tl_on, List.length_append]; exact k1
    · rw [rowB_on]; exact k2
    · intro x hx
      rcases List.mem_append.1 hx with hx | hx
      · exact h.ok x hx
      · rw [List.mem_singleton.1 hx]; exact hs
    · rcases k4 with rfl | ⟨g, rfl, hg⟩
      · exact h.lo.2
      · intro i hi
        injection hi with hi
        have := h.blk.lt
        have h0 := World.block_lt_of_cell? w _ (hG.tab 0 (by omega))
        simp at h0
        omega
  · rw [if_neg (fun e => hh (hr.1 e))] at hA
    rw [if_neg hh]
    obtain ⟨k1, rb', k2, k3, k4⟩ := hA
    refine ⟨rb', ⟨k1, k2, h.ok, h.most, h.lo.1, ?_⟩, k3, k4⟩
    rcases k4 with rfl | ⟨g, rfl, hg⟩
    · exact h.lo.2
    · intro i hi
      injection hi with hi
      have h0 := World.block_lt_of_cell? w _ (hG.tab 0 (by omega))
      simp at h0
      omega

end Go.Proofs.YtalmpmhnkilalaaGreatDoor

/-
  Package chunk: Bytes.
-/
namespace Go.Proofs.YtalmpmhnkilalaaGreatDoor
open Go.RowKit
set_option linter.unusedVariables false
set_option linter.unusedSimpArgs false

theorem step_append_sl {P : Program} (w : World) {ops : Array Oper} {o : Oper} {a : Act} {K : Act → World → Prop} {Q : Exit → Act → World → Prop} {E : Prop} (hgd : o.guard = none) (s x : Operand) (t : TypeId)
    (ho : o.op = .call { callee := .builtin .append, args := #[s, x], argTypes := #[t, t] })
    (base : Nat) (e : TypeId) (i : TypeInfo) (z : Value) (ht : P.underlying t = some (.slice e)) (hi : P.info? e = some i) (hz : i.zero = some z)
    (hsize : i.size = 1) (hby : i.bytes = 1) (hzs : z.cells.size = 1)
    (v : Value) (n : Nat) (xs : List Int) (hs : a.eval s = v) (hown : w.ownsRow base e 1 v n (cells8 xs))
    (ad : Addr) (m c : Nat) (l : List Int) (hx : a.eval x = .slice (some ad) m c) (hsl : Sl w (some ad) m l)
    (hbytes : n + m ≤ 140737488355328) (hbase : base ≤ w.heap.size)
    (h : ∀ ad' c' w', w'.ownsRow base e 1 (.slice ad' (n + m) c') (n + m) (cells8 (xs ++ l)) → w.grownBy w' v.ownBlock → K (a.put o.dst (.slice ad' (n + m) c')) w') :
    if Region.wanted o (yielded ops a.tmps) = true then Oper.wp P o a w K Q else E := by
  have hw : Region.wanted o (yielded ops a.tmps) = true := by simp [Region.wanted, hgd]
  rw [if_pos hw]
  obtain ⟨v', w', hr, h1, h2, _⟩ := run_append_own (P := P) w base t o.type e i z 1 1 ht hi hz hsize hby hzs (by omega) v n (cells8 xs) hown ad m c (cells8 l) (by rw [cells8_length, hsl.len]; omega) hsl.cells (cells8_one l) (by unfold maxLen; omega) (by omega) hbase
  obtain ⟨ad', c', rfl⟩ := owns_form h1
  rw [← cells8_append] at h1
  unfold Oper.wp
  simp [execOp, ho, resolve, invoke, builtin, hs, hx, hr, Result.andThen]
  exact h ad' c' w' h1 h2
theorem step_go {ops : Array Oper} {o : Oper} {a : Act} {w : World} {K : Act → World → Prop} {Q : Exit → Act → World → Prop} {E : Prop} (hgd : o.guard = none) (f : FuncId) (args : Array Value) (h : (execOp a.eval o).run Tryz.prog w = .ok (.enter f args) w) (R : Value → World → Prop) (hc : Calls Tryz.prog f args w fun e w' => ∃ v, e = .returned v ∧ R v w')
    (hK : ∀ v w', R v w' → K (a.put o.dst v) w') : if Region.wanted o (yielded ops a.tmps) = true then Oper.wp Tryz.prog o a w K Q else E := by
  have hw : Region.wanted o (yielded ops a.tmps) = true := by simp [Region.wanted, hgd]
  rw [if_pos hw]
  unfold Oper.wp
  rw [h]
  refine Calls.mono hc ?_
  rintro e w' ⟨v, rfl, h1⟩
  exact hK v w' h1
/-- What Bytes leaves. -/
def BtP (w : World) (b : List Int) (e : Ending) (w' : World) : Prop := ∃ ad c, e = .returned (.slice ad b.length c) ∧ w'.ownsRow w.heap.size 5 1 (.slice ad b.length c) b.length (cells8 b) ∧ Below w.heap.size w w'
theorem btp_of {w w' : World} {l : List Sm} (hl : l ≠ []) {ad : Option Addr} {n c : Nat} {b : List Int} (hb : b = encC l) (hn : b.length = n) (h : w'.ownsRow w.heap.size 5 1 (.slice ad n c) n (cells8 b)) (hbl : Below w.heap.size w w') : BtP w (encC l) (.returned (.slice ad n c)) w' := by
  subst hb hn
  exact ⟨ad, c, rfl, h, hbl⟩
theorem pk_of {R : List Int} {L : List Bool} (h : Rep R L) (hb : Byte R) (hl : R.length = (L.length + 7) / 8) : R = pk L := Rep.unique h (pk_rep L) (by rw [pk_len]; exact hl) hb (pk_byte L)

set_option maxRecDepth 100000 in
set_option maxHeartbeats 8000000 in
theorem cbytesP (w : World) (c p : Nat) (rb : Option Nat) (most : Int) (l : List Sm) (h : CS w c p rb most l) (hl : l.length ≤ 20000000) :
    Calls Tryz.prog 193 #[.pointer (some ⟨c, 0, none⟩)] w (BtP w (encC l)) := by
  have c1 := h.blk.cell 1
  have c5 := h.blk.cell 5
  simp [chC] at c1 c5
  by_cases h0 : l = []
  · subst h0
    clear h
    simp only [List.length_nil] at c1
    go_enter Tryz.func193, Tryz.ntmps193
    go_wp2
    go_ret
    exact ⟨none, 0, rfl, World.ownsRow_nil _ _ _ _, Below.refl _ _⟩
  · have hn : 1 ≤ l.length := by cases l; exact absurd rfl h0; simp
    have HCS := hidden h
    have HE : Hid (encC l = Q.enc l.length ++ pk (rowB l)) := hidden (by unfold encC; rw [if_neg h0])
    have hrl := rowB_le h.ok
    have hgr := Q.grp_le l.length
    obtain ⟨gk, hgk⟩ : ∃ gk, Q.grp l.length + 1 = gk := ⟨_, rfl⟩
    obtain ⟨k, hk⟩ : ∃ k, ((rowB l).length + 7) / 8 = k := ⟨_, rfl⟩
    have hk0 : 0 < k := by
      have h2 : 128 ≤ (rowB l).length := by
        cases l with
        | nil => exact absurd rfl h0
        | cons s t => simp [rowB, fiB, low_len]; omega
      omega
    have HCO : Hid (∀ wx, Calls Tryz.prog 200 #[.int .i64 (l.length : Int)] wx fun e w' => ∃ v, e = .returned v ∧ ((∃ ad c', v = .slice ad gk c') ∧ w'.ownsRow wx.heap.size 5 1 v gk (cells8 (Q.enc l.length)) ∧ Below wx.heap.size wx w')) := hidden (fun wx => by
      refine (countP wx l.length (by omega)).mono ?_
      rintro e w' ⟨rfl, h1, h2⟩
      refine ⟨_, rfl, ⟨some ⟨wx.heap.size, 0, none⟩, 0 + (Q.grp l.length + 1), by rw [← hgk, Nat.zero_add]⟩, ?_, h2⟩
      rw [List.nil_append] at h1
      rw [← hgk]
      simpa using h1)
    have HBY : Hid (∀ wx, Below w.heap.size w wx → Calls Tryz.prog 203 #[.pointer (some ⟨p, 0, none⟩)] wx fun e w' => ∃ v, e = .returned v ∧ ((∃ g c', v = .slice (some ⟨g, 0, none⟩) k c' ∧ Sl w' (some ⟨g, 0, none⟩) k (pk (rowB l))) ∧ Below wx.heap.size wx w')) := hidden (fun wx hb => by
      refine (bytes_any p rb (rowB l) wx (h.ws.later hb) (by omega)).mono ?_
      rintro e w' ⟨ad', c', R, rfl, r1, r2, r3, r4, r5⟩
      have hR : R = pk (rowB l) := pk_of r4 r3 r1
      rw [hk] at r2
      rcases r2.2 with ⟨_, e0⟩ | ⟨g, cap, cur, e0, _⟩
      · omega
      · injection e0 with e1 e2 e3
        subst e1
        refine ⟨_, rfl, ⟨g, c', by rw [hk], ?_⟩, r5⟩
        rw [← hR]
        exact sl_of_owns r2 r3)
    have hne : ¬ (l.length : Int) = 0 := by omega
    have C5 := hidden (fun wx (hb : Below w.heap.size w wx) => by have := (h.later hb).blk.cell 5; simpa [chC] using this)
    have HFI : Hid (∀ (w' : World) ad c', w'.ownsRow w.heap.size 5 1 (.slice ad (gk + k) c') (gk + k) (cells8 (Q.enc l.length ++ pk (rowB l))) → Below w.heap.size w w' → BtP w (encC l) (.returned (.slice ad (gk + k) c')) w') := hidden (fun w' ad c' h1 h2 => btp_of h0 HE.out.symm (by rw [List.length_append, Q.enc_length, pk_len, hgk, hk]) h1 h2)
    obtain ⟨i0, hi, hz0, hz1, hz2⟩ := info_parts info5
    have hgk2 : gk ≤ 100 := by omega
    have hk2 : k ≤ 1000000000 := by omega
    clear h h0 hgk hk HE HCS
    generalize l.length = n at *
    go_enter Tryz.func193, Tryz.ntmps193
    go_wp2_with fail
    go_region_law (first
      | (refine step_go (by rfl) 200 #[.int .i64 (n : Int)] (by simp [execOp, resolve, Act.eval, go_sem]) _ (HCO.out _) ?_
         rintro v1 w1 ⟨⟨ad1, cp1, rfl⟩, o1, b1⟩
         have O1 := hidden o1
         have B1 : Hid (Below w.heap.size w w1) := hidden (((Below.refl _ _).drew).trans b1)
         have d5 := C5.out _ B1.out
         clear o1 b1)
      | (refine step_go (by rfl) 203 #[.pointer (some ⟨p, 0, none⟩)] (by simp [execOp, resolve, Act.eval, go_sem]) _ (HBY.out _ B1.out) ?_
         rintro v2 w2 ⟨⟨g2, cp2, rfl, s2⟩, b2⟩
         have O2 := hidden (owl O1.out b2)
         have S2 := hidden s2
         have B2 : Hid (Below w.heap.size w w2) := hidden (B1.out.trans (b2.mono B1.out.size))
         clear s2 b2)
      | (refine step_append_sl _ (by rfl) (.tmp 12) (.tmp 18) 22 (by rfl) w.heap.size 5 i0 (.int .u8 0) Tryz.underlying22 hi hz0 hz1 hz2 (by rfl) (.slice ad1 gk cp1) gk (Q.enc n) (by rfl) O2.out ⟨g2, 0, none⟩ k cp2 (pk (rowB l)) (by rfl) S2.out (by omega) B2.out.size ?_
         intro ad3 cp3 w3 o3 g3
         have F3 := hidden (HFI.out w3 ad3 cp3 o3 (B2.out.trans (grown_below g3 O2.out B2.out.size)))
         clear o3 g3))
    all_goals
      go_wp2
      go_ret
      exact F3.out

end Go.Proofs.YtalmpmhnkilalaaGreatDoor
