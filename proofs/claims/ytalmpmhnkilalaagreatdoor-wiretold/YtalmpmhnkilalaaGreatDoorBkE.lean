import Derived.Test.YtalmpmhnkilalaaGreatDoorBkB
import Derived.Test.YtalmpmhnkilalaaGreatDoorBkD
import Derived.Deep.CutRange
import Derived.Test.YtalmpmhnkilalaaGreatDoorRows
import Derived.Lib.LaidU8
import Derived.OpenShut
import Derived.ChangeOld
import Derived.Deep.Slices
import Derived.ProofKit
import Derived.SizedLaws
import Derived.Carry
import Derived.Lay
import Derived.LaidOnce
import Derived.SevenTiedAt
/-
  WireBack: the walk.
-/
namespace Go.Proofs.YtalmpmhnkilalaaGreatDoor
open Go Go.RowKit
set_option linter.unusedVariables false
set_option linter.unusedSimpArgs false

/-- A request that came in. -/
structure RqM (w : World) (k : Int) (fm : Nat → FM) : Prop where
  kd : ∀ i, i < 12 → (fm i).fv.kd = kdQ i
  mem : ∀ i, i < 12 → (fm i).mem w
  k64 : I64n k
  tail : ∀ i, 12 ≤ i → fm i = zM (kdQ i)
/-- A response that came in. -/
structure RsM (w : World) (e k : Int) (fm : Nat → FM) : Prop where
  kd : ∀ i, i < 4 → (fm i).fv.kd = kdA i
  mem : ∀ i, i < 4 → (fm i).mem w
  e64 : I64n e
  k64 : I64n k
  tail : ∀ i, 4 ≤ i → fm i = zM (kdA i)
theorem RqM.later {w w' : World} {k : Int} {fm : Nat → FM} (h : RqM w k fm) (hb : Below w.heap.size w w') : RqM w' k fm := ⟨h.kd, fun i hi => (h.mem i hi).later hb, h.k64, h.tail⟩
theorem RsM.later {w w' : World} {e k : Int} {fm : Nat → FM} (h : RsM w e k fm) (hb : Below w.heap.size w w') : RsM w' e k fm := ⟨h.kd, fun i hi => (h.mem i hi).later hb, h.e64, h.k64, h.tail⟩
theorem zM_good (w : World) (k : Kd) : (zM k).mem w := (zM_fo 0 0 w k).mem
theorem RqM.sh {w : World} {k : Int} {fm : Nat → FM} (h : RqM w k fm) : ShQ (fun i => (fm i).fv) := by
  refine ⟨fun i => ?_, fun i => ?_, fun i hi => ?_⟩
  · by_cases hi : i < 12
    · exact h.kd i hi
    · show (fm i).fv.kd = _; rw [h.tail i (by omega), zM_fv]; exact zeroV_kd _
  · by_cases hi : i < 12
    · exact (h.mem i hi).good
    · show Good (fm i).fv; rw [h.tail i (by omega), zM_fv]; exact good_zero _
  · show (fm i).fv = _; rw [h.tail i hi, zM_fv]
theorem RsM.sh {w : World} {e k : Int} {fm : Nat → FM} (h : RsM w e k fm) : ShA (fun i => (fm i).fv) := by
  refine ⟨fun i => ?_, fun i => ?_, fun i hi => ?_⟩
  · by_cases hi : i < 4
    · exact h.kd i hi
    · show (fm i).fv.kd = _; rw [h.tail i (by omega), zM_fv]; exact zeroV_kd _
  · by_cases hi : i < 4
    · exact (h.mem i hi).good
    · show Good (fm i).fv; rw [h.tail i (by omega), zM_fv]; exact good_zero _
  · show (fm i).fv = _; rw [h.tail i hi, zM_fv]
/-- A request that was read, as one that came in. -/
def ext12 (fm : Nat → FM) : Nat → FM := fun i => if i < 12 then fm i else zM (kdQ i)
def ext4 (fm : Nat → FM) : Nat → FM := fun i => if i < 4 then fm i else zM (kdA i)
theorem cQ_ext (k : Int) (fm : Nat → FM) : cQ k (ext12 fm) = cQ k fm := by
  unfold cQ
  rfl
theorem cA_ext (e k : Int) (fm : Nat → FM) : cA e k (ext4 fm) = cA e k fm := by
  unfold cA
  rfl
theorem dec_rqm {w w' : World} {k : Int} {f : Nat → FV} {fm : Nat → FM} {B K : Nat} {b : List Int} (hb : Byte b) (hd : decQ b = some (k, f)) (h : ∀ j, j < 12 → (fm j).fv = f j ∧ FO B K w (fm j)) : RqM w k (ext12 fm) ∧ (fun i => (ext12 fm i).fv) = f ∧ encE2 k (fun i => (ext12 fm i).fv) = (0, b) := by
  obtain ⟨hs, he⟩ := enc_decQ hb hd
  have hk := (encQ_iff hs b).1 he
  have hkk : I64n k := by
    obtain ⟨used, hu, _⟩ := hk.1
    have := fieldsK_some hu
    unfold I64n
    omega
  have hf : (fun i => (ext12 fm i).fv) = f := by
    funext i
    unfold ext12
    by_cases hi : i < 12
    · rw [if_pos hi]; exact (h i hi).1
    · rw [if_neg hi, zM_fv, hs.tail i (by omega)]
  refine ⟨⟨fun i hi => ?_, fun i hi => ?_, hkk, fun i hi => by unfold ext12; rw [if_neg (by omega)]⟩, hf, ?_⟩
  · have := congrFun hf i
    rw [this]; exact hs.kd i
  · unfold ext12
    rw [if_pos hi]
    exact (h i hi).2.mem
  · unfold encE2
    rw [hf, he]
theorem read_rsm {w : World} {e k : Int} {f : Nat → FV} {fm : Nat → FM} {B K : Nat} {b : List Int} (hb : Byte b) (hd : readQ b = some (e, k, f)) (h : ∀ j, j < 4 → (fm j).fv = f j ∧ FO B K w (fm j)) : RsM w e k (ext4 fm) ∧ (fun i => (ext4 fm i).fv) = f ∧ ansQ e k (fun i => (ext4 fm i).fv) = (0, b) := by
  obtain ⟨hs, he9, he⟩ := ans_readQ hb hd
  have hk := (ansQ_iff hs (by omega) (by omega) b).1 he
  have hkk : I64n k := by
    unfold I64n
    by_cases h0 : e = 0
    · obtain ⟨used, hu, _⟩ := hk.1.2.2 h0
      have := fieldsA_some hu
      omega
    · have := (hk.1.2.1 h0).1
      omega
  have hf : (fun i => (ext4 fm i).fv) = f := by
    funext i
    unfold ext4
    by_cases hi : i < 4
    · rw [if_pos hi]; exact (h i hi).1
    · rw [if_neg hi, zM_fv, hs.tail i (by omega)]
  refine ⟨⟨fun i hi => ?_, fun i hi => ?_, ⟨by omega, by omega⟩, hkk, fun i hi => by unfold ext4; rw [if_neg (by omega)]⟩, hf, ?_⟩
  · have := congrFun hf i
    rw [this]; exact hs.kd i
  · unfold ext4
    rw [if_pos hi]
    exact (h i hi).2.mem
  · rw [hf]; exact he
/-- Of what is written: it is read as it was; a byte more, or less, is none. -/
theorem encE2_ok {k : Int} {f : Nat → FV} {c : List Int} (h : ShQ f) (hb : Byte c) (he : encE2 k f = (0, c)) : decQ c = some (k, f) ∧ decQ (c ++ [0]) = none ∧ decQ (c.take (c.length - 1)) = none ∧ 0 < c.length := by
  unfold encE2 at he
  cases hq : encQ k f with
  | none => rw [hq] at he; simp at he
  | some c' =>
    rw [hq] at he
    simp at he
    subst he
    refine ⟨dec_encQ h hq, dec_longer h hq 0, dec_shorter h hb hq, ?_⟩
    obtain ⟨_, _, rfl⟩ := (encQ_iff h c').1 hq
    unfold enRq
    simp
theorem encE2_no {k : Int} {f : Nat → FV} : (encE2 k f).1 = 0 ∨ encE2 k f = (180, []) := by
  unfold encE2
  cases encQ k f with
  | none => exact .inr rfl
  | some c => exact .inl rfl

theorem eq180nil (w : World) : (binOp .eql 36 (.iface 30 (.int .i64 180)) .nilIface).run Tryz.prog w = .ok (.bool false) w := by kernel_rfl
theorem eqnilnil (w : World) : (binOp .eql 36 .nilIface .nilIface).run Tryz.prog w = .ok (.bool true) w := by kernel_rfl
theorem wpList_eqv {w : World} {ops : Array Oper} {rest : List Oper} {o : Oper} {a : Act} {Q : Exit → Act → World → Prop} (t : TypeId) (x : Operand) (hg : o.guard = none) (ho : o.op = .binOp .eql t x (.const .nilIface) t) (ev : Value) (hx : a.eval x = ev) (bo : Bool) (h : (binOp .eql t ev .nilIface).run Tryz.prog w = .ok (.bool bo) w)
    (hk : wpList Tryz.prog ops Q rest (a.put o.dst (.bool bo)) w) : wpList Tryz.prog ops Q (o :: rest) a w := by
  refine wpList_plain hg fun K hK => wp_valP (.bool bo) ?_ (hK _ _ hk)
  unfold execOp
  simp only [ho]
  have hc : a.eval (.const .nilIface) = .nilIface := rfl
  simp only [hx, hc, Sem.run_bind, Sem.run_pure]
  have hq : (eqGuard BinOp.eql t x (Operand.const Value.nilIface) ev Value.nilIface).run Tryz.prog w = .ok () w := by
    cases ev <;> simp [eqGuard, go_sem]
  rw [hq]
  simp only [Result.andThen_ok, h]
/-- What Decode leaves, whichever way it goes. -/
theorem dec_any {w w' : World} {b : List Int} {e : Ending} (h : DecR w b e w') (hb : Byte b) : Below w.heap.size w w' ∧ ∃ (l : List Value) (ev : Value) (bo : Bool), e = .returned (.tuple #[.agg l.toArray, ev]) ∧ l.length = 13 ∧ (∀ u ∈ l, u.oneCell' = true) ∧ (∀ wx, (binOp .eql 36 ev .nilIface).run Tryz.prog wx = .ok (.bool bo) wx) ∧ (bo = true → ∃ (k : Int) (fm : Nat → FM), l = cQ k fm ∧ RqM w' k fm ∧ encE2 k (fun i => (fm i).fv) = (0, b)) := by
  unfold DecR at h
  cases hd : decQ b with
  | none =>
    rw [hd] at h
    obtain ⟨h1, rfl⟩ := h
    exact ⟨h1, _, _, false, rfl, rfl, cQ_one _ _, eq180nil, fun h => (by cases h)⟩
  | some q =>
    obtain ⟨k, f⟩ := q
    rw [hd] at h
    obtain ⟨h1, K, fm, rfl, _, hf⟩ := h
    obtain ⟨r1, r2, r3⟩ := dec_rqm (w' := w') hb hd hf
    exact ⟨h1, _, _, true, rfl, rfl, cQ_one _ _, eqnilnil, fun _ => ⟨k, ext12 fm, (cQ_ext k fm).symm, r1, r3⟩⟩
/-- What Read leaves, whichever way it goes. -/
theorem read_any {w w' : World} {K : Nat} {b : List Int} {e : Ending} (h : ReadR w K b e w') (hb : Byte b) : Below w.heap.size w w' ∧ ∃ (l : List Value) (E : Int), e = .returned (.tuple #[.agg l.toArray, .int .i64 E]) ∧ l.length = 6 ∧ (∀ u ∈ l, u.oneCell' = true) ∧ (E = 0 → ∃ (er k : Int) (fm : Nat → FM), l = cA er k fm ∧ RsM w' er k fm ∧ ansQ er k (fun i => (fm i).fv) = (0, b)) := by
  unfold ReadR at h
  cases hd : readQ b with
  | none =>
    rw [hd] at h
    obtain ⟨h1, rfl⟩ := h
    exact ⟨h1, _, _, rfl, rfl, cA_one _ _ _, fun h => (by cases h)⟩
  | some q =>
    obtain ⟨er, k, f⟩ := q
    rw [hd] at h
    obtain ⟨h1, fm, rfl, hf⟩ := h
    obtain ⟨r1, r2, r3⟩ := read_rsm hb hd hf
    exact ⟨h1, _, _, rfl, rfl, cA_one _ _ _, fun _ => ⟨er, k, ext4 fm, (cA_ext er k fm).symm, r1, r3⟩⟩

set_option maxHeartbeats 16000000 in
set_option maxRecDepth 100000 in
theorem back_any (k : Int) (fm : Nat → FM) (er ka : Int) (fa : Nat → FM) (bad : Option Addr) (bn bc : Nat) (b : List Int) (w : World) (hr : RqM w k fm) (hp : RsM w er ka fa) (hs : Sl w bad bn b) (hno : bad = none → bn = 0 ∧ bc = 0) (hcap : bn ≤ bc ∧ bc ≤ 9223372036854775807) (hG : Gv w) :
    Calls Tryz.prog 7 #[.agg (cQ k fm).toArray, .slice bad bn bc, .agg (cA er ka fa).toArray] w fun e w' => e = .returned (.bool true) ∧ Below w.heap.size w w' := by
  obtain ⟨K, hKw, hK⟩ : ∃ K, K < w.heap.size ∧ ∀ x, bad = some x → 0 < bn → x.block = K ∧ x.spot = none := by
    by_cases h0 : 0 < bn
    · obtain ⟨bb, off, rfl, hlt, _⟩ := hs.at h0
      exact ⟨bb, hlt, fun x hx _ => (by cases hx; exact ⟨rfl, rfl⟩)⟩
    · have h2w : 2 ≤ w.heap.size := World.block_lt_of_cell? w _ (hG.tab 0 (by omega))
      exact ⟨0, by omega, fun x hx h => absurd h h0⟩
  obtain ⟨a2, c2, l2, q2⟩ : ∃ a c l, fm 2 = .ws a c l := by have := hr.kd 2 (by omega); cases h : fm 2 <;> rw [h] at this <;> first | (cases this; done) | exact ⟨_, _, _, rfl⟩
  obtain ⟨a3, c3, l3, q3⟩ : ∃ a c l, fm 3 = .ms a c l := by have := hr.kd 3 (by omega); cases h : fm 3 <;> rw [h] at this <;> first | (cases this; done) | exact ⟨_, _, _, rfl⟩
  obtain ⟨a4, c4, l4, q4⟩ : ∃ a c l, fa 0 = .se a c l := by have := hp.kd 0 (by omega); cases h : fa 0 <;> rw [h] at this <;> first | (cases this; done) | exact ⟨_, _, _, rfl⟩
  obtain ⟨a5, c5, l5, q5⟩ : ∃ a c l, fa 1 = .ro a c l := by have := hp.kd 1 (by omega); cases h : fa 1 <;> rw [h] at this <;> first | (cases this; done) | exact ⟨_, _, _, rfl⟩
  obtain ⟨a6, c6, l6, q6⟩ : ∃ a c l, fa 3 = .ts a c l := by have := hp.kd 3 (by omega); cases h : fa 3 <;> rw [h] at this <;> first | (cases this; done) | exact ⟨_, _, _, rfl⟩
  have HR := hidden hr
  have HP := hidden hp
  have HS := hidden hs
  have HNO := hidden hno
  have HG := hidden hG
  have HK := hidden hK
  have HQQ := hidden (And.intro q2 (And.intro q3 (And.intro q4 (And.intro q5 q6))))
  have HM2 : Hid (l2.length ≤ 9223372036854775807 ∧ Es w a2 2 (l2.map Ser.cells)) := hidden (by have := hr.mem 2 (by omega); rw [q2] at this; exact ⟨this.1, this.2.1⟩)
  have HM4 : Hid (l4.length ≤ 9223372036854775807 ∧ Es w a4 2 (l4.map Ser.cells)) := hidden (by have := hp.mem 0 (by omega); rw [q4] at this; exact ⟨this.1, this.2.1⟩)
  have HM5 : Hid (l5.length ≤ 9223372036854775807 ∧ Es w a5 2 (l5.map Ror.cells)) := hidden (by have := hp.mem 1 (by omega); rw [q5] at this; exact ⟨this.1, this.2.1⟩)
  clear hr hp hs hno hG hK
  obtain ⟨w2, hw2, B1, B2, bl2, hz2⟩ := two_new w 26 57 (cQ k fm) (cA er ka fa)
  obtain ⟨n2, hn2⟩ : ∃ n, l2.length = n := ⟨_, rfl⟩
  obtain ⟨n3, hn3⟩ : ∃ n, l3.length = n := ⟨_, rfl⟩
  obtain ⟨n4, hn4⟩ : ∃ n, l4.length = n := ⟨_, rfl⟩
  obtain ⟨n5, hn5⟩ : ∃ n, l5.length = n := ⟨_, rfl⟩
  obtain ⟨n6, hn6⟩ : ∃ n, l6.length = n := ⟨_, rfl⟩
  have HB1 := hidden B1
  have HB2 := hidden B2
  have HLAY : Hid (∀ wx, Lat w2 wx → wx.cell? ⟨w.heap.size, 3, none⟩ = some (.slice a2 n2 c2) ∧ wx.cell? ⟨w.heap.size, 4, none⟩ = some (.slice a3 n3 c3) ∧ wx.cell? ⟨w.heap.size + 1, 2, none⟩ = some (.slice a4 n4 c4) ∧ wx.cell? ⟨w.heap.size + 1, 3, none⟩ = some (.slice a5 n5 c5) ∧ wx.cell? ⟨w.heap.size + 1, 5, none⟩ = some (.slice a6 n6 c6)) := hidden (fun wx hx => by
    have A := HB1.out.later hx
    have B := HB2.out.later hx
    rw [A.cell, A.cell, B.cell, B.cell, B.cell]
    refine ⟨?_, ?_, ?_, ?_, ?_⟩
    · rw [show (3 : Nat) = 2 + 1 from rfl, cQ_at k fm 2 (by omega), q2, ← hn2]; rfl
    · rw [show (4 : Nat) = 3 + 1 from rfl, cQ_at k fm 3 (by omega), q3, ← hn3]; rfl
    · rw [show (2 : Nat) = 0 + 2 from rfl, cA_at er ka fa 0 (by omega), q4, ← hn4]; rfl
    · rw [show (3 : Nat) = 1 + 2 from rfl, cA_at er ka fa 1 (by omega), q5, ← hn5]; rfl
    · rw [show (5 : Nat) = 3 + 2 from rfl, cA_at er ka fa 3 (by omega), q6, ← hn6]; rfl)
  have HL2 := hidden bl2
  have HNN := hidden (And.intro hn2 (And.intro hn3 (And.intro hn4 (And.intro hn5 hn6))))
  rw [hn2] at HM2
  rw [hn4] at HM4
  rw [hn5] at HM5
  clear B1 B2 bl2 q2 q3 q4 q5 q6 hn2 hn3 hn4 hn5 hn6
  go_enter Tryz.func7, Tryz.ntmps7
  go_wp2_with fail
  try rw [hw2]
  refine (shownP w2 (HG.out.later HL2.out)).mono ?_
  rintro e w3 ⟨rfl, b3⟩
  have HX3 : Hid (Lat w2 w3) := hidden b3
  obtain ⟨y1, y2, y3, y4, y5⟩ := HLAY.out w3 b3
  clear b3
  go_wp2_with fail
  refine (heavyP a2 n2 c2 100 l2 w3 (HM2.out.2.later (HL2.out.trans (Below.mono HX3.out HL2.out.size))) HNN.out.1 HM2.out.1).mono ?_
  rintro e w4 ⟨z8, rfl, b4⟩
  have HX4 : Hid (Lat w2 w4) := hidden (Lat.trans _ _ _ HX3.out b4)
  clear b4 y1 y2 y3 y4 y5
  obtain ⟨y1, y2, y3, y4, y5⟩ := HLAY.out w4 HX4.out
  go_wp2_with fail
  refine (heavyP a4 n4 c4 2000 l4 w4 (HM4.out.2.later (HL2.out.trans (Below.mono HX4.out HL2.out.size))) HNN.out.2.2.1 HM4.out.1).mono ?_
  rintro e w5 ⟨z9, rfl, b5⟩
  have HX5 : Hid (Lat w2 w5) := hidden (Lat.trans _ _ _ HX4.out b5)
  clear b5 y1 y2 y3 y4 y5
  obtain ⟨y1, y2, y3, y4, y5⟩ := HLAY.out w5 HX5.out
  have hN5 := HM5.out.1
  go_wp2_with fail
  go_loopw [10, 11] (fun v10 v11 wx => ∃ i : Nat, ∃ z : Int, v11 = .int .i64 (i : Int) ∧ v10 = .int .i64 z ∧ i ≤ n5 ∧ wx = w5) (fun _ v11 _ => n5 - (intOf v11).toNat)
  case atStart => exact ⟨0, 0, rfl, rfl, by omega, rfl⟩
  case round =>
    obtain ⟨i, z, rfl, rfl, hi, rfl⟩ := hrel
    by_cases hin : i < n5
    · have hin' : (i : Int) < (n5 : Int) := by omega
      obtain ⟨x, hx⟩ : ∃ x, l5[i]? = some x := ⟨l5[i]'(by have := HNN.out.2.2.2.1; omega), by simp⟩
      have hxm : (l5.map Ror.cells)[i]? = some [.slice x.la x.ln x.lc, .int .u64 (x.n : Int)] := by rw [List.getElem?_map, hx]; rfl
      obtain ⟨b5, o5, rfl, hb5, hcell5⟩ := (HM5.out.2.later (HL2.out.trans (Below.mono HX5.out HL2.out.size))) (by intro h0; rw [h0] at hxm; simp at hxm)
      have c0 := hcell5 i _ hxm 0 _ rfl
      rw [Nat.add_zero] at c0
      generalize x.ln = xln at *
      clear hcell5 hx hb5 hxm
      by_cases hz : z < 100000
      · go_wp2_with fail
        refine ⟨⟨i + 1, _, by first | rfl | simp, rfl, by omega, by first | trivial | rfl⟩, ?_⟩
        show n5 - ((i : Int) + 1).toNat < n5 - (i : Int).toNat
        omega
      · have hz' : z ≥ 100000 := by omega
        cases z8 with
        | true =>
          go_wp2_with fail
          go_ret
          exact ⟨rfl, HL2.out.trans (Below.mono HX5.out HL2.out.size)⟩
        | false =>
          cases z9 with
          | true =>
            go_wp2_with fail
            go_ret
            exact ⟨rfl, HL2.out.trans (Below.mono HX5.out HL2.out.size)⟩
          | false =>
            go_wp2_with fail
            go_ret
            exact ⟨rfl, HL2.out.trans (Below.mono HX5.out HL2.out.size)⟩
    · obtain rfl : i = n5 := by omega
      cases z8 with
      | true =>
        go_wp2_with fail
        go_ret
        exact ⟨rfl, HL2.out.trans (Below.mono HX5.out HL2.out.size)⟩
      | false =>
        cases z9 with
        | true =>
          go_wp2_with fail
          go_ret
          exact ⟨rfl, HL2.out.trans (Below.mono HX5.out HL2.out.size)⟩
        | false =>
          by_cases hz : z ≥ 100000
          · go_wp2_with fail
            go_ret
            exact ⟨rfl, HL2.out.trans (Below.mono HX5.out HL2.out.size)⟩
          · by_cases h6 : (n6 : Int) > 100000
            · go_wp2_with fail
              go_ret
              exact ⟨rfl, HL2.out.trans (Below.mono HX5.out HL2.out.size)⟩
            · by_cases h3 : (n3 : Int) > 100
              · go_wp2_with fail
                go_ret
                exact ⟨rfl, HL2.out.trans (Below.mono HX5.out HL2.out.size)⟩
              · by_cases hb : (bn : Int) > 70000
                · go_wp2_with fail
                  go_ret
                  exact ⟨rfl, HL2.out.trans (Below.mono HX5.out HL2.out.size)⟩
                · have HQ5 := hidden (HB1.out.later HX5.out)
                  have HP5 := hidden (HB2.out.later HX5.out)
                  have HL5 : Hid (Below w.heap.size w wr) := hidden (HL2.out.trans (Below.mono HX5.out HL2.out.size))
                  go_wp2_with (first
                    | (refine wpList_load_blk rfl 26 (.tmp 3) rfl w.heap.size HQ5.out rfl rfl rfl rfl ?_))
                  clear y1 y2 y3 y4 y5
                  refine (encodeP k fm wr HR.out.kd ⟨fun i hi => (HR.out.mem i hi).later HL5.out, HG.out.later HL5.out⟩ HR.out.k64 (by have := HL5.out.size; have h2w : 2 ≤ w.heap.size := World.block_lt_of_cell? w _ (HG.out.tab 0 (by omega)); omega)).mono ?_
                  rintro e w6 ⟨ad6, n7, cp6, rfl, o6, hl6, by6, hle6, b6⟩
                  obtain ⟨E1, C1, hE1⟩ : ∃ E C, encE2 k (fun i => (fm i).fv) = (E, C) := ⟨_, _, rfl⟩
                  rw [hE1] at o6 hl6 by6 ⊢
                  simp only at o6 hl6 by6 ⊢
                  have HE1 := hidden hE1
                  have HX6 : Hid (Lat w2 w6) := hidden (Lat.trans _ _ _ HX5.out b6)
                  have HO6 := hidden o6
                  have HY6 := hidden (And.intro hl6 by6)
                  have hnc6 := owns_cap o6
                  clear o6 hl6 by6 b6 hE1 HQ5 HP5
                  go_upto_if 96 with fail
                  obtain ⟨bo, hbo⟩ : ∃ bo, (E1 == 0) = bo := ⟨_, rfl⟩
                  rw [hbo]
                  have HBO := hidden hbo
                  clear hbo
                  go_cut [14, 15, 16, 17, 18, 19, 20] from 97 to 136 (fun v14 v15 v16 v17 v18 v19 v20 wx => Hid (Lat w2 wx))
                  case first =>
                    cases bo with
                    | true =>
                      have HE0 : Hid (E1 = 0) := hidden (by have := HBO.out; simpa using this)
                      have HE1z : Hid (encE2 k (fun i => (fm i).fv) = (0, C1)) := hidden (by rw [HE1.out, HE0.out])
                      have HSL6 := hidden (sl_of_owns HO6.out HY6.out.2)
                      have HOK := hidden (encE2_ok HR.out.sh HY6.out.2 HE1z.out)
                      have HL6 : Hid (Below w.heap.size w w6) := hidden (HL2.out.trans (Below.mono HX6.out HL2.out.size))
                      have hno6 := hnc6.2.2.2
                      have hn7 : n7 ≤ 1048576 := hle6
                      have hn70 : 0 < n7 := by rw [← HY6.out.1]; exact HOK.out.2.2.2
                      obtain ⟨x6, hx6⟩ : ∃ x, ad6 = some x := by
                        cases ad6 with
                        | none => have := (hno6 rfl).1; omega
                        | some x => exact ⟨x, rfl⟩
                      subst hx6
                      obtain ⟨i0, hi0, hz0, hz1, hz2x⟩ := info_parts info5
                      go_wp2_with fail
                      refine (decodeP (some x6) n7 cp6 C1 w6 HSL6.out (fun h => by cases h) (HG.out.later HL6.out)).mono ?_
                      rintro e w7 hD
                      unfold DecR at hD
                      rw [HOK.out.1] at hD
                      obtain ⟨b7, K7, fm7, rfl, _, hfo7⟩ := hD
                      have HX7 : Hid (Lat w2 w7) := hidden (Lat.trans _ _ _ HX6.out b7)
                      have H67 := hidden b7
                      have HF7 := hidden hfo7
                      clear b7 hfo7
                      have HQ7 := hidden (HB1.out.later HX7.out)
                      go_wp2_with (first
                        | (refine wpList_new_var rfl rfl 26 14 (.tmp 100) rfl rfl rfl rfl 13 (by kernel_rfl) (cQ k fm7) rfl (cQ_one _ _) (by simp) rfl ?_; intro w8 B8 bl8 hz8; have HV8 := hidden B8; have HQ8 := hidden (HQ7.out.later bl8); have H78 := hidden bl8; clear B8 bl8 hz8)
                        | (refine wpList_load_blk rfl 26 (.tmp 14) rfl w7.heap.size HV8.out rfl rfl rfl rfl ?_)
                        | (refine wpList_load_blk rfl 26 (.tmp 3) rfl w.heap.size HQ8.out rfl rfl rfl rfl ?_))
                      have HX8 : Hid (Lat w2 w8) := hidden (Lat.trans _ _ _ HX7.out H78.out)
                      have HL8 : Hid (Below w.heap.size w w8) := hidden (HL2.out.trans (Below.mono HX8.out HL2.out.size))
                      refine (sameReqY k fm7 fm w8 (fun i hi => by rw [(HF7.out i hi).1]; exact HR.out.kd i hi) (fun i hi => (HF7.out i hi).1) (fun i hi => ((HF7.out i hi).2.mem).later H78.out) (fun i hi => (HR.out.mem i hi).later HL8.out)).mono ?_
                      rintro e w9 ⟨rfl, b9⟩
                      have H69 : Hid (Lat w6 w9) := hidden (Lat.trans _ _ _ H67.out (Lat.trans _ _ _ H78.out b9))
                      have HX9 : Hid (Lat w2 w9) := hidden (Lat.trans _ _ _ HX8.out b9)
                      have HSL9 := hidden ((Chg.of_below (F := fun _ => False) H69.out).sl HSL6.out (fun _ _ _ e => e))
                      clear b9
                      have hcl : C1.length = n7 := HY6.out.1
                      go_wp2_with (first
                        | (at_builtin; refine wpList_append_sl _ rfl (.tmp 106) (.tmp 107) 22 rfl w9.heap.size 5 i0 (.int .u8 0) Tryz.underlying22 hi0 hz0 hz1 hz2x rfl (.slice (some ⟨w9.heap.size, 0, none⟩) 0 0) 0 [] rfl ⟨rfl, .inr ⟨w9.heap.size, 0, #[], rfl, Nat.le_refl _, heap_alloc_new w9 _, Nat.le_refl _, by unfold maxLen; omega, rfl, rfl⟩⟩ (some x6) n7 cp6 C1 rfl ((Chg.alloc (fun _ => False) w9 _).sl HSL9.out (fun _ _ _ h => h)) (fun h => by cases h) (by omega) (by simp) ?_
                           intro aa ca wa o1 g1
                           have ba : Below w9.heap.size w9 wa := ((Below.refl _ _).alloc (Nat.le_refl _) (Obj.cells #[] 5)).grown g1 (by simp) (fun k hk => by simp [Value.ownBlock] at hk; omega)
                           rw [List.nil_append, Nat.zero_add] at o1
                           rw [Nat.zero_add]
                           have HOA := hidden o1
                           have HBA := hidden ba
                           clear o1 g1 ba)
                        | (at_builtin; refine wpList_append_sl _ rfl (.tmp 108) (.tmp 109) 22 rfl w9.heap.size 5 i0 (.int .u8 0) Tryz.underlying22 hi0 hz0 hz1 hz2x rfl (.slice aa n7 ca) n7 C1 rfl (HOA.out.alloc _) (some ⟨wa.heap.size, 0, none⟩) 1 1 [0] rfl (sl_lit wa [0] (byte_of rfl) 5 (0, 0) 1 rfl _ rfl _ rfl) (fun h => by cases h) (by omega) (by simp; have := HBA.out.size; omega) ?_
                           intro ab cb wb o2 g2
                           have bb : Below w9.heap.size w9 wb := (HBA.out.trans (((Below.refl _ _).alloc (Nat.le_refl _) _).mono HBA.out.size)).trans (grown_below g2 (HOA.out.alloc _) (by simp; have := HBA.out.size; omega))
                           have HOB := hidden o2
                           have HBB := hidden bb
                           clear o2 g2 bb))
                      have HGB : Hid (Gv wb) := hidden ((HG.out.later (HL2.out.trans (Below.mono HX9.out HL2.out.size))).later HBB.out)
                      refine (decodeP ab (n7 + 1) cb (C1 ++ [0]) wb (sl_of_owns HOB.out (HY6.out.2.append (byte_of rfl))) (owns_cap HOB.out).2.2.2 HGB.out).mono ?_
                      rintro e w10 hD
                      have hno10 : decQ (C1 ++ [0]) = none := HOK.out.2.1
                      unfold DecR at hD
                      rw [hno10] at hD
                      obtain ⟨b10, rfl⟩ := hD
                      have HY10 : Hid (Lat w9 w10) := hidden (Lat.trans _ _ _ HBB.out b10)
                      clear b10 hno10
                      go_wp2_with (first
                        | (refine wpList_new_var rfl rfl 26 17 (.tmp 112) rfl rfl rfl rfl 13 (by kernel_rfl) (cQ 0 (fun i => zM (kdQ i))) rfl (cQ_one _ _) (by simp) rfl ?_; intro w11 B11 bl11 hz11; have HY11 : Hid (Lat w9 w11) := hidden (Lat.trans _ _ _ HY10.out bl11); clear B11 bl11 hz11))
                      have HSL11 := hidden ((Chg.of_below (F := fun _ => False) HY11.out).sl HSL9.out (fun _ _ _ e => e))
                      have HX11 : Hid (Lat w2 w11) := hidden (Lat.trans _ _ _ HX9.out HY11.out)
                      have hs11 := HSL11.out.take (N := n7 - 1) (by omega)
                      rw [← hcl] at hs11
                      have HS11 : Hid (Sl w11 (some x6) (C1.length - 1) (C1.take (C1.length - 1))) := hidden hs11
                      have hcv : IntKind.i64.wrap ((n7 : Int) - 1) = ((n7 - 1 : Nat) : Int) := by rw [i64_id (by omega) (by omega)]; omega
                      have HNO11 : Hid (decQ (C1.take (n7 - 1)) = none) := hidden (by have := HOK.out.2.2.1; rw [hcl] at this; exact this)
                      rw [hcl] at HS11
                      refine (decodeP (some x6) (n7 - 1) cp6 (C1.take (n7 - 1)) w11 HS11.out (fun h => by cases h) (HG.out.later (HL2.out.trans (Below.mono HX11.out HL2.out.size)))).mono ?_
                      rintro e w12 hD
                      unfold DecR at hD
                      rw [HNO11.out] at hD
                      obtain ⟨b12, rfl⟩ := hD
                      have HX12 : Hid (Lat w2 w12) := hidden (Lat.trans _ _ _ HX11.out b12)
                      have q1 := eq180nil
                      simp only [errW]
                      clear b12
                      go_wp2_with (first
                        | (refine wpList_new_var rfl rfl 26 19 (.tmp 121) rfl rfl rfl rfl 13 (by kernel_rfl) (cQ 0 (fun i => zM (kdQ i))) rfl (cQ_one _ _) (by simp) rfl ?_; intro w13 B13 bl13 hz13; have HX13 : Hid (Lat w2 w13) := hidden (Lat.trans _ _ _ HX12.out bl13); clear B13 bl13 hz13))
                      go_meet
                      exact HX13
                    | false =>
                      go_wp2_with fail
                      go_meet
                      exact HX6
                  case rest =>
                    have HXC : Hid (Lat w2 wc) := hidden hcut.out
                    have HLC : Hid (Below w.heap.size w wc) := hidden (HL2.out.trans (Below.mono HXC.out HL2.out.size))
                    clear hcut
                    go_wp2_with fail
                    refine (decodeP bad bn bc b wc ((Chg.of_below (F := fun _ => False) HLC.out).sl HS.out (fun _ _ _ e => e)) HNO.out (HG.out.later HLC.out)).mono ?_
                    rintro e v1 hD
                    obtain ⟨c1, l14, ev, bo2, rfl, hl14, ho14, heq, hyes⟩ := dec_any hD HS.out.byte
                    have HXD : Hid (Lat w2 v1) := hidden (Lat.trans _ _ _ HXC.out c1)
                    have H14 := hidden (And.intro hl14 ho14)
                    have HYS := hidden hyes
                    have heq1 := heq
                    clear hD c1 hl14 ho14 hyes heq
                    go_upto_if 143 with (first
                      | (refine wpList_new_var rfl rfl 26 21 (.tmp 140) rfl rfl rfl rfl 13 (by kernel_rfl) l14 H14.out.1 H14.out.2 (by simp) rfl ?_; intro v2 B2v bl2v hz2v; have HV2 := hidden B2v; have HXE : Hid (Lat w2 v2) := hidden (Lat.trans _ _ _ HXD.out bl2v); have HLV := hidden bl2v; clear B2v bl2v hz2v)
                      | (refine wpList_eqv 36 (.tmp 142) rfl rfl ev rfl bo2 (heq1 _) ?_))
                    simp only [Act.put, List.setIfInBounds_toArray, List.set_cons_succ, List.set_cons_zero]
                    go_cut [23, 24] from 144 to 157 (fun v23 v24 wx => Hid (Lat w2 wx))
                    case first =>
                      cases bo2 with
                      | false =>
                        go_wp2_with fail
                        go_meet
                        exact HXE
                      | true =>
                        obtain ⟨kk, fk, hl, hrk, hek⟩ := HYS.out rfl
                        have HRK := hidden (hrk.later HLV.out)
                        have HEK := hidden hek
                        have HL14 := hidden hl
                        have HLE : Hid (Below w.heap.size w v2) := hidden (HL2.out.trans (Below.mono HXE.out HL2.out.size))
                        have HV2' : Hid (Blk v2 v1.heap.size 26 (cQ kk fk)) := hidden (by rw [← hl]; exact HV2.out)
                        clear hl hrk hek
                        go_wp2_with (first
                          | (refine wpList_load_blk rfl 26 (.tmp 21) rfl v1.heap.size HV2'.out rfl rfl rfl rfl ?_))
                        refine (encodeP kk fk v2 HRK.out.kd ⟨fun i hi => HRK.out.mem i hi, HG.out.later HLE.out⟩ HRK.out.k64 (by have := HLE.out.size; have h2w : 2 ≤ w.heap.size := World.block_lt_of_cell? w _ (HG.out.tab 0 (by omega)); omega)).mono ?_
                        rintro e v3 ⟨adv, nv, cpv, rfl, ov, hlv, byv, hlev, bv⟩
                        rw [HEK.out] at ov hlv byv ⊢
                        simp only at ov hlv byv ⊢
                        have s1 := run_string_of (P := Tryz.prog) 22 5 9 Tryz.underlying22 Tryz.underlying5 Tryz.underlying9 (cap := cpv) (sl_of_owns ov byv)
                        have s2 := run_string_of (P := Tryz.prog) 22 5 9 Tryz.underlying22 Tryz.underlying5 Tryz.underlying9 (cap := bc) ((Chg.of_below (F := fun _ => False) (HLE.out.trans (bv.mono HLE.out.size))).sl HS.out (fun _ _ _ e => e))
                        have HXF : Hid (Lat w2 v3) := hidden (Lat.trans _ _ _ HXE.out bv)
                        clear ov hlv byv hlev bv
                        go_wp2_with fail
                        go_meet
                        exact HXF
                    case rest =>
                      have HXG : Hid (Lat w2 wc) := hidden hcut.out
                      have HLG : Hid (Below w.heap.size w wc) := hidden (HL2.out.trans (Below.mono HXG.out HL2.out.size))
                      have h2w : 2 ≤ w.heap.size := World.block_lt_of_cell? w _ (HG.out.tab 0 (by omega))
                      have HPG := hidden (HB2.out.later HXG.out)
                      clear hcut heq1
                      go_wp2_with (first
                        | (refine wpList_load_blk rfl 57 (.tmp 5) rfl (w.heap.size + 1) HPG.out rfl rfl rfl rfl ?_))
                      refine (answerP er ka fa wc HP.out.kd ⟨fun i hi => (HP.out.mem i hi).later HLG.out, HG.out.later HLG.out⟩ HP.out.e64 HP.out.k64 (by have := HLG.out.size; omega)).mono ?_
                      rintro e x1 ⟨ada, na, cpa, rfl, oa, hla, bya, hlea, ba⟩
                      obtain ⟨E2, C2, hE2⟩ : ∃ E C, ansQ er ka (fun i => (fa i).fv) = (E, C) := ⟨_, _, rfl⟩
                      rw [hE2] at oa hla bya ⊢
                      simp only at oa hla bya ⊢
                      have HE2 := hidden hE2
                      have HXH : Hid (Lat w2 x1) := hidden (Lat.trans _ _ _ HXG.out ba)
                      have HOA2 := hidden oa
                      have HYA2 := hidden (And.intro hla bya)
                      have hnca := owns_cap oa
                      clear oa hla bya ba hE2
                      go_upto_if 164 with fail
                      obtain ⟨bo3, hbo3⟩ : ∃ bo, (E2 == 0) = bo := ⟨_, rfl⟩
                      rw [hbo3]
                      have HBO3 := hidden hbo3
                      clear hbo3
                      go_cut [25, 26, 27] from 165 to 183 (fun v25 v26 v27 wx => Hid (Lat w2 wx))
                      case first =>
                        cases bo3 with
                        | false =>
                          go_wp2_with fail
                          go_meet
                          exact HXH
                        | true =>
                          have HE2z : Hid (ansQ er ka (fun i => (fa i).fv) = (0, C2)) := hidden (by rw [HE2.out]; have := HBO3.out; simp at this; rw [this])
                          have HRD := hidden (read_ansQ HP.out.sh HP.out.e64.1 HP.out.e64.2 HE2z.out)
                          have HLH : Hid (Below w.heap.size w x1) := hidden (HL2.out.trans (Below.mono HXH.out HL2.out.size))
                          have hna : na ≤ 1048576 := hlea
                          have hna' : ¬ (na : Int) > 1048576 := by omega
                          obtain ⟨Ka, hKa1, hKa2⟩ : ∃ Ka, (∀ x, ada = some x → 0 < na → x.block = Ka ∧ x.spot = none) ∧ Ka < x1.heap.size := by
                            rcases HOA2.out.2 with ⟨e, h0⟩ | ⟨g, cap, cur, e, hg, hh, _⟩
                            · exact ⟨0, fun x h h9 => by omega, by have := HLH.out.size; omega⟩
                            · injection e with e1 e2 e3
                              subst e1
                              exact ⟨g, fun x h _ => (by cases h; exact ⟨rfl, rfl⟩), (Array.getElem?_eq_some_iff.1 hh).1⟩
                          go_wp2_with fail
                          refine (readW ada na cpa C2 Ka x1 (sl_of_owns HOA2.out HYA2.out.2) hKa1 hKa2 hnca.2.2.2 ⟨hnca.2.1, by have := hnca.2.2.1; unfold maxLen at this; omega⟩ (HG.out.later HLH.out)).mono ?_
                          rintro e x2 hD
                          unfold ReadR at hD
                          rw [HRD.out.1] at hD
                          obtain ⟨b2x, fmx, rfl, hfx⟩ := hD
                          have HXI : Hid (Lat w2 x2) := hidden (Lat.trans _ _ _ HXH.out b2x)
                          have HFX := hidden hfx
                          have HPI := hidden (HB2.out.later HXI.out)
                          clear b2x hfx
                          go_wp2_with (first
                            | (refine wpList_new_var rfl rfl 57 25 (.tmp 168) rfl rfl rfl rfl 6 (by kernel_rfl) (cA er ka fmx) rfl (cA_one _ _ _) (by simp) rfl ?_; intro x3 B3x bl3x hz3x; have HV3x := hidden B3x; have HPJ := hidden (HPI.out.later bl3x); have H23x := hidden bl3x; clear B3x bl3x hz3x)
                            | (refine wpList_load_blk rfl 57 (.tmp 25) rfl x2.heap.size HV3x.out rfl rfl rfl rfl ?_)
                            | (refine wpList_load_blk rfl 57 (.tmp 5) rfl (w.heap.size + 1) HPJ.out rfl rfl rfl rfl ?_))
                          have HXJ : Hid (Lat w2 x3) := hidden (Lat.trans _ _ _ HXI.out H23x.out)
                          have HLJ : Hid (Below w.heap.size w x3) := hidden (HL2.out.trans (Below.mono HXJ.out HL2.out.size))
                          refine (sameRspY er ka fmx fa x3 (fun i hi => by rw [(HFX.out i hi).1]; exact HP.out.kd i hi) (fun i hi => (HFX.out i hi).1) (fun i hi => ((HFX.out i hi).2.mem).later H23x.out) (fun i hi => (HP.out.mem i hi).later HLJ.out)).mono ?_
                          rintro e x4 ⟨rfl, b4x⟩
                          have HXK : Hid (Lat w2 x4) := hidden (Lat.trans _ _ _ HXJ.out b4x)
                          clear b4x
                          go_wp2_with fail
                          go_meet
                          exact HXK
                      case rest =>
                        have HXL : Hid (Lat w2 wc) := hidden hcut.out
                        have HLL : Hid (Below w.heap.size w wc) := hidden (HL2.out.trans (Below.mono HXL.out HL2.out.size))
                        clear hcut
                        go_wp2_with fail
                        refine (readW bad bn bc b K wc ((Chg.of_below (F := fun _ => False) HLL.out).sl HS.out (fun _ _ _ e => e)) HK.out (by have := HLL.out.size; omega) HNO.out hcap (HG.out.later HLL.out)).mono ?_
                        rintro e z1 hD
                        obtain ⟨cz, lz, E3, rfl, hlz, hoz, hyz⟩ := read_any hD HS.out.byte
                        have HXM : Hid (Lat w2 z1) := hidden (Lat.trans _ _ _ HXL.out cz)
                        have HZ := hidden (And.intro hlz hoz)
                        have HYZ := hidden hyz
                        clear hD cz hlz hoz hyz
                        by_cases hE3 : E3 = 0
                        · obtain ⟨ez, kz, fz, hl, hrz, hez⟩ := HYZ.out hE3
                          subst hE3
                          have HRZ := hidden hrz
                          have HEZ := hidden hez
                          have HZ' : Hid (lz = cA ez kz fz) := hidden hl
                          clear hl hrz hez
                          go_wp2_with (first
                            | (refine wpList_new_var rfl rfl 57 28 (.tmp 187) rfl rfl rfl rfl 6 (by kernel_rfl) lz HZ.out.1 HZ.out.2 (by simp) rfl ?_; intro z2 B2z bl2z hz2z; have HV2z : Hid (Blk z2 z1.heap.size 57 (cA ez kz fz)) := hidden (by rw [← HZ'.out]; exact B2z); have H12z := hidden bl2z; clear B2z bl2z hz2z)
                            | (refine wpList_load_blk rfl 57 (.tmp 28) rfl z1.heap.size HV2z.out rfl rfl rfl rfl ?_))
                          have HXN : Hid (Lat w2 z2) := hidden (Lat.trans _ _ _ HXM.out H12z.out)
                          have HLN : Hid (Below w.heap.size w z2) := hidden (HL2.out.trans (Below.mono HXN.out HL2.out.size))
                          have HRZ2 := hidden (HRZ.out.later H12z.out)
                          refine (answerP ez kz fz z2 HRZ2.out.kd ⟨HRZ2.out.mem, HG.out.later HLN.out⟩ HRZ2.out.e64 HRZ2.out.k64 (by have := HLN.out.size; omega)).mono ?_
                          rintro e z3 ⟨adz, nz, cpz, rfl, oz, hlz, byz, hlez, bz⟩
                          rw [HEZ.out] at oz hlz byz ⊢
                          simp only at oz hlz byz ⊢
                          have HLO : Hid (Below w.heap.size w z3) := hidden (HLN.out.trans (bz.mono HLN.out.size))
                          have s1 := run_string_of (P := Tryz.prog) 22 5 9 Tryz.underlying22 Tryz.underlying5 Tryz.underlying9 (cap := cpz) (sl_of_owns oz byz)
                          have s2 := run_string_of (P := Tryz.prog) 22 5 9 Tryz.underlying22 Tryz.underlying5 Tryz.underlying9 (cap := bc) ((Chg.of_below (F := fun _ => False) HLO.out).sl HS.out (fun _ _ _ e => e))
                          clear oz hlz byz hlez bz
                          go_wp2_with fail
                          go_ret
                          exact ⟨by first | rfl | simp, HLO.out⟩
                        · have hE3' : (E3 == 0) = false := by simpa using hE3
                          go_wp2_with (first
                            | (refine wpList_new_var rfl rfl 57 28 (.tmp 187) rfl rfl rfl rfl 6 (by kernel_rfl) lz HZ.out.1 HZ.out.2 (by simp) rfl ?_; intro z2 B2z bl2z hz2z; have H12z := hidden bl2z; clear B2z bl2z hz2z))
                          go_ret
                          exact ⟨rfl, HL2.out.trans (Below.mono (Lat.trans _ _ _ HXM.out H12z.out) HL2.out.size)⟩

end Go.Proofs.YtalmpmhnkilalaaGreatDoor

/-
  The rows' arguments and variables: requests, responses, bytes as they come in; what is laid.
-/
namespace Go.Proofs.YtalmpmhnkilalaaGreatDoor
open Go.ChangeShapes Go.WideShapes Go.ChangeAt Go.RowKit
open Go.ChangeMaps (open_string shut_string)
set_option linter.unusedVariables false
set_option linter.unusedSimpArgs false

theorem rw_own : ownKnob Tryz.prog.godebug = none := by kernel_rfl
theorem rw_laidOut : laidOutB Tryz.prog = true := by kernel_rfl

theorem tab_of_reads {P : Program} {W : World} {name : String} {k : IntKind} {zs : List Int} {g : Nat} {t e : TypeId} {n : Nat}
    (hg : P.globalNamed name = some g) (hty : (P.globals[g]?).map (·.type) = some t) (ht : P.underlying t = some (.array n e)) (he : P.underlying e = some (.int k)) (hce : P.cellsOf e = 1) (hct : P.cellsOf t = n)
    (h : Lib.VarReads P W name (Lib.tabData k zs)) : Lib.TabIs P W name k zs := by
  obtain ⟨g', t', cs, fuel, p, hg', ht', hvar, hd⟩ := h
  obtain rfl := Option.some.inj (hg.symm.trans hg')
  obtain rfl := Option.some.inj (hty.symm.trans ht')
  unfold Lib.TabIs
  rw [hvar, ← Lib.cells_of_tab ht he hce hct hd]

def dbI : List Int := Lib.deBruijn64tab.map (fun (n : Nat) => (n : Int))
def wdI : List Int := [0, 7, 9, 12]
theorem gv_laid {W : World} (hL : laidMetH Tryz.prog [("math/bits.deBruijn64tab", Rows.laid_math_bits_deBruijn64tab), ("turnkey/chunk.shortWidths", Rows.laid_turnkey_chunk_shortWidths)] W) : Gv W := by
  rw [MakeChecks.laidMetH_plain _ _ _ (by kernel_rfl)] at hL
  have h1 := Lib.laidMet.reads hL (.head _)
  have h2 := Lib.laidMet.reads hL (.tail _ (.head _))
  have t1 : Lib.TabIs Tryz.prog W "math/bits.deBruijn64tab" .u8 dbI := tab_of_reads (g := 1) (by kernel_rfl) (t := 225) (by kernel_rfl) Tryz.underlying225 Tryz.underlying5 (by kernel_rfl) (by kernel_rfl) ((show (Rows.laid_math_bits_deBruijn64tab : DataW Unit) = Lib.tabData .u8 dbI by kernel_rfl) ▸ h1)
  have t2 : Lib.TabIs Tryz.prog W "turnkey/chunk.shortWidths" .i64 wdI := tab_of_reads (g := 0) (by kernel_rfl) (t := 218) (by kernel_rfl) Tryz.underlying218 Tryz.underlying3 (by kernel_rfl) (by kernel_rfl) ((show (Rows.laid_turnkey_chunk_shortWidths : DataW Unit) = Lib.tabData .i64 wdI by kernel_rfl) ▸ h2)
  refine ⟨fun j hj => ?_, fun j hj => ?_⟩
  · have := t2.cell (g := 0) (by kernel_rfl) j (by simpa [wdI] using hj)
    rw [this]
    rcases (show j = 0 ∨ j = 1 ∨ j = 2 ∨ j = 3 by omega) with rfl | rfl | rfl | rfl <;> rfl
  · have hl : dbI.length = 64 := by decide +kernel
    have := t1.cell (g := 1) (by kernel_rfl) j (by omega)
    rw [this]
    congr 2
    have hl2 : Lib.deBruijn64tab.length = 64 := by decide +kernel
    simp [dbI, List.getD, hl2, hj]

theorem rw_weights_mem_all {H : Type} {P : Program} {e : TypeId} : ∀ {ds : List (DataW H)} {d : DataW H}, d ∈ ds → ∀ n ∈ d.weights P e, n ∈ DataW.weightsAll P e ds
  | y :: t, d, hd, n, hn => by
    simp only [DataW.weightsAll, List.mem_append]
    rcases List.mem_cons.1 hd with rfl | hd
    · exact .inl hn
    · exact .inr (rw_weights_mem_all hd n hn)
theorem bnds_u8 {n : Int} (h : (Lit.int .u8 n).wf = true) : 0 ≤ n ∧ n ≤ 255 := by
  simp [Lit.wf, IntKind.min, IntKind.max, IntKind.signed, IntKind.bits] at h
  omega
theorem bnds_i64 {n : Int} (h : (Lit.int .i64 n).wf = true) : I64n n := by
  simp [Lit.wf, IntKind.min, IntKind.max, IntKind.signed, IntKind.bits] at h
  unfold I64n
  omega
theorem bnds_u64 {n : Int} (h : (Lit.int .u64 n).wf = true) : 0 ≤ n ∧ n < 18446744073709551616 := by
  simp [Lit.wf, IntKind.min, IntKind.max, IntKind.signed, IntKind.bits] at h
  omega

section
variable {H : Type} {enc : TypeId × Value → H} {w : World} {base : Nat}
/-- What is read so, with its weights in reach. -/
def Rd (enc : TypeId × Value → H) (w : World) (base n : Nat) (t : TypeId) (cs : List Value) : Prop :=
  ∃ x, DataW.trod enc Tryz.prog w base (fun _ => true) true n t cs = some x ∧ ∀ k ∈ x.1.weights Tryz.prog t, k ≤ reachBytes
/-- A struct of fields of one cell each. -/
theorem Rd.one {t : TypeId} {n : Nat} {fs : Array Field} {cs : List Value} (h : Rd enc w base n t cs) (ht : Tryz.prog.underlying t = some (.struct fs)) (hc : Tryz.prog.cellsOf t = fs.size)
    (hone : ((List.range fs.size).all fun i => match fs[i]? with | some f => f.offset == i && Tryz.prog.cellsOf f.type == 1 | none => false) = true) :
    cs.length = fs.size ∧ ∃ m, ∀ (i : Nat) (f : Field), fs[i]? = some f → ∃ v, cs[i]? = some v ∧ Rd enc w base m f.type [v] := by
  obtain ⟨x, h, hwt⟩ := h
  obtain ⟨xs, m, _, rfl, hl, hxl, hf⟩ := DataW.trod_struct ht h
  refine ⟨by omega, m, fun i f hi => ?_⟩
  have hi' : i < fs.size := (Array.getElem?_eq_some_iff.1 hi).1
  have h1 := List.all_eq_true.1 hone i (List.mem_range.2 hi')
  simp only [hi, Bool.and_eq_true, beq_iff_eq] at h1
  have h2 := hf i f hi
  rw [h1.1, h1.2] at h2
  have hic : i < cs.length := by omega
  have hix : i < xs.length := by omega
  have e : (cs.drop i).take 1 = [cs[i]] := by
    rw [List.drop_eq_getElem_cons hic]
    rfl
  rw [e, List.getElem?_eq_getElem hix] at h2
  refine ⟨cs[i], List.getElem?_eq_getElem hic, xs[i], h2, fun k hk => hwt k ?_⟩
  simp only [DataW.weights, ht]
  refine DataW.weights_mem_each (j := i) (t := f.type) (d := xs[i].1) ?_ ?_ k hk
  · simp [hi]
  · simp [hix]
/-- A list. -/
theorem Rd.list {α : Type} [Inhabited α] {t e : TypeId} {k n : Nat} {v : Value} (f : α → List Value) (Q : α → Prop) (h : Rd enc w base n t [v]) (ht : Tryz.prog.underlying t = some (.slice e)) (hc : Tryz.prog.cellsOf e = k) (hk : 0 < k) (hfl : ∀ s, (f s).length = k)
    (each : ∀ m cs, cs.length = k → Rd enc w base m e cs → ∃ s, cs = f s ∧ Q s) :
    ∃ (a : Option Addr) (cap : Nat) (l : List α), v = .slice a l.length cap ∧ l.length ≤ cap ∧ cap ≤ 9223372036854775807 ∧ (a = none → l.length = 0 ∧ cap = 0) ∧ Es w a k (l.map f) ∧ (∀ x ∈ l, Q x) ∧ l.length * Tryz.prog.bytesOf e ≤ reachBytes := by
  obtain ⟨x, h, hwt⟩ := h
  rcases Go.Deep.open_slice ht h with ⟨hcs, _⟩ | ⟨a, len, cap, m, n, D, Pl, hcs, _, hl, hm, hmm, hxd, hx⟩
  · simp at hcs
    exact ⟨none, 0, [], hcs, by simp, by omega, fun _ => ⟨rfl, rfl⟩, fun h => absurd rfl h, by simp, by simp⟩
  · simp at hcs
    subst hcs hxd
    have hlm : len ≤ m := by
      rw [hmm]
      split <;> omega
    have each' : ∀ i, i < len → ∃ s : α, (∀ j u, (f s)[j]? = some u → w.cell? ((a.add (i * k)).add j) = some u) ∧ Q s := by
      intro i hi
      obtain ⟨cs', h1, h2⟩ := hx i (by omega)
      rw [hc] at h1
      obtain ⟨_, hlen, hcell⟩ := World.cells?_some h1
      obtain ⟨s, rfl, hq⟩ := each _ cs' hlen ⟨_, h2, fun k hk => hwt k (by
        simp only [DataW.weights, ht, List.mem_cons, List.mem_append]
        exact .inr (.inl (rw_weights_mem_all (List.mem_map.2 ⟨i, List.mem_range.2 hi, rfl⟩) k hk)))⟩
      refine ⟨s, fun j u hu => ?_, hq⟩
      rw [hcell j (by have := (List.getElem?_eq_some_iff.1 hu).1; omega), hu]
    obtain ⟨y, hy⟩ := Go.Deep.choose_lt each'
    unfold maxLen at hm
    refine ⟨some a, cap, (List.range len).map y, by simp, by simpa using hl, by omega, fun e => (by cases e), fun h0 => ?_, fun z hz => ?_, ?_⟩
    · have h0' : 0 < len := by
        rcases Nat.eq_zero_or_pos len with e | e
        · rw [e] at h0; simp at h0
        · exact e
      obtain ⟨b, off, sp⟩ := a
      have hu : (f (y 0))[0]? = some ((f (y 0))[0]'(by rw [hfl]; exact hk)) := List.getElem?_eq_getElem _
      have c := (hy 0 h0').1 0 _ hu
      have hs : sp = none := by simpa [Addr.add] using World.cell?_spot c
      subst hs
      refine ⟨b, off, rfl, ?_, fun i z hz j u hu => ?_⟩
      · have := World.block_lt_of_cell? w _ c
        simpa [Addr.add] using this
      · have hi : i < len := by have := (List.getElem?_eq_some_iff.1 hz).1; simpa using this
        have hz' : z = f (y i) := by simp [List.getElem?_map, hi] at hz; exact hz.symm
        subst hz'
        have k := (hy i hi).1 j u hu
        simpa only [Addr.add_lit] using k
    · obtain ⟨i, hi, rfl⟩ := List.mem_map.1 hz
      exact (hy i (List.mem_range.1 hi)).2
    · have := hwt ((len + (m - len)) * Tryz.prog.bytesOf e) (by simp [DataW.weights, ht])
      refine Nat.le_trans ?_ this
      simp only [List.length_map, List.length_range]
      exact Nat.mul_le_mul_right _ (by omega)
theorem Rd.int {t : TypeId} {n : Nat} {k : IntKind} {v : Value} (h : Rd enc w base n t [v]) (ht : Tryz.prog.underlying t = some (.int k)) : ∃ z, v = .int k z ∧ (Lit.int k z).wf = true := by
  obtain ⟨x, h, _⟩ := h
  obtain ⟨z, e, _, b⟩ := DataW.trod_int ht h
  exact ⟨z, by simpa using e, b⟩
theorem Rd.str {t : TypeId} {n : Nat} {v : Value} (h : Rd enc w base n t [v]) (ht : Tryz.prog.underlying t = some .string) : ∃ s, v = .string s := by
  obtain ⟨x, h, _⟩ := h
  obtain ⟨z, e, _, b⟩ := DataW.trod_string ht h
  exact ⟨z, by simpa using e⟩
theorem two {cs : List Value} {u v : Value} (h : cs.length = 2) (h0 : cs[0]? = some u) (h1 : cs[1]? = some v) : cs = [u, v] := by
  match cs, h with
  | [a, b], _ => simp at h0 h1; subst h0 h1; rfl
theorem three {cs : List Value} {u v x : Value} (h : cs.length = 3) (h0 : cs[0]? = some u) (h1 : cs[1]? = some v) (h2 : cs[2]? = some x) : cs = [u, v, x] := by
  match cs, h with
  | [a, b, c], _ => simp at h0 h1 h2; subst h0 h1 h2; rfl
theorem rd_label {n : Nat} {cs : List Value} (hl : cs.length = 2) (h : Rd enc w base n 47 cs) : ∃ s : La, cs = s.cells ∧ True := by
  obtain ⟨_, m, hf⟩ := h.one Tryz.underlying47 (by kernel_rfl) (by kernel_rfl)
  obtain ⟨v0, c0, g0⟩ := hf 0 _ rfl
  obtain ⟨v1, c1, g1⟩ := hf 1 _ rfl
  obtain ⟨s0, rfl⟩ := g0.str Tryz.underlying9
  obtain ⟨s1, rfl⟩ := g1.str Tryz.underlying9
  exact ⟨⟨s0, s1⟩, two hl c0 c1, trivial⟩
theorem rd_match {n : Nat} {cs : List Value} (hl : cs.length = 3) (h : Rd enc w base n 52 cs) : ∃ s : Ma, cs = s.cells ∧ I64n s.op := by
  obtain ⟨_, m, hf⟩ := h.one Tryz.underlying52 (by kernel_rfl) (by kernel_rfl)
  obtain ⟨v0, c0, g0⟩ := hf 0 _ rfl
  obtain ⟨v1, c1, g1⟩ := hf 1 _ rfl
  obtain ⟨v2, c2, g2⟩ := hf 2 _ rfl
  obtain ⟨s0, rfl⟩ := g0.str Tryz.underlying9
  obtain ⟨s1, rfl, b1⟩ := g1.int Tryz.underlying3
  obtain ⟨s2, rfl⟩ := g2.str Tryz.underlying9
  exact ⟨⟨s0, s1, s2⟩, three hl c0 c1 c2, bnds_i64 b1⟩
def smC (s : Sm) : List Value := [.int .i64 s.t, .int .u64 (s.v : Int)]
theorem rd_sample {n : Nat} {cs : List Value} (hl : cs.length = 2) (h : Rd enc w base n 50 cs) : ∃ s : Sm, cs = smC s ∧ OkS s := by
  obtain ⟨_, m, hf⟩ := h.one Tryz.underlying50 (by kernel_rfl) (by kernel_rfl)
  obtain ⟨v0, c0, g0⟩ := hf 0 _ rfl
  obtain ⟨v1, c1, g1⟩ := hf 1 _ rfl
  obtain ⟨s0, rfl, b0⟩ := g0.int Tryz.underlying2
  obtain ⟨s1, rfl, b1⟩ := g1.int Tryz.underlying48
  have b := bnds_u64 b1
  refine ⟨⟨s0, s1.toNat⟩, ?_, ⟨?_, (by omega : s1.toNat < 18446744073709551616)⟩⟩
  · rw [two hl c0 c1]
    unfold smC
    show [Value.int .i64 s0, Value.int .u64 s1] = [Value.int .i64 s0, Value.int .u64 ((s1.toNat : Nat) : Int)]
    rw [show ((s1.toNat : Nat) : Int) = s1 by omega]
  · have := bnds_i64 b0
    unfold I64n at this
    unfold I64
    show _ ≤ s0 ∧ s0 ≤ _
    omega
instance : Inhabited La := ⟨⟨⟨#[]⟩, ⟨#[]⟩⟩⟩
instance : Inhabited Ma := ⟨⟨⟨#[]⟩, 0, ⟨#[]⟩⟩⟩
instance : Inhabited Sm := ⟨⟨0, 0⟩⟩
instance : Inhabited Ser := ⟨⟨none, 0, 0, [], none, 0, 0, []⟩⟩
instance : Inhabited Ror := ⟨⟨none, 0, 0, [], 0⟩⟩
theorem rd_labels {n : Nat} {v : Value} (h : Rd enc w base n 42 [v]) : ∃ (a : Option Addr) (cap : Nat) (l : List La), v = .slice a l.length cap ∧ l.length ≤ 9223372036854775807 ∧ Es w a 2 (l.map La.cells) := by
  obtain ⟨a, cap, l, e, h1, h2, h3, h4, h5, h6⟩ := h.list La.cells (fun _ => True) Tryz.underlying42 (by kernel_rfl) (by omega) (fun _ => rfl) (fun m cs hl hr => rd_label hl hr)
  exact ⟨a, cap, l, e, by omega, h4⟩
theorem rd_samples {n : Nat} {v : Value} (h : Rd enc w base n 43 [v]) : ∃ (a : Option Addr) (cap : Nat) (l : List Sm), v = .slice a l.length cap ∧ l.length ≤ 281474976710656 ∧ Ss w a l := by
  obtain ⟨a, cap, l, e, h1, h2, h3, h4, h5, h6⟩ := h.list smC OkS Tryz.underlying43 (by kernel_rfl) (by omega) (fun _ => rfl) (fun m cs hl hr => rd_sample hl hr)
  refine ⟨a, cap, l, e, ?_, ⟨h5, fun h0 => ?_⟩⟩
  · rw [show Tryz.prog.bytesOf 50 = 16 by kernel_rfl] at h6
    simp only [reachBytes] at h6
    omega
  · obtain ⟨b, off, ea, hlt, hc⟩ := h4 (by simpa using h0)
    refine ⟨b, off, ea, hlt, fun i x hx => ⟨?_, ?_⟩⟩
    · have := hc i (smC x) (by simp [List.getElem?_map, hx]) 0 _ rfl
      simpa using this
    · exact hc i (smC x) (by simp [List.getElem?_map, hx]) 1 _ rfl
theorem rd_ser {n : Nat} {cs : List Value} (hl : cs.length = 2) (h : Rd enc w base n 45 cs) : ∃ s : Ser, cs = s.cells ∧ SerN w s := by
  obtain ⟨_, m, hf⟩ := h.one Tryz.underlying45 (by kernel_rfl) (by kernel_rfl)
  obtain ⟨v0, c0, g0⟩ := hf 0 _ rfl
  obtain ⟨v1, c1, g1⟩ := hf 1 _ rfl
  obtain ⟨a0, k0, l0, rfl, b0, e0⟩ := rd_labels g0
  obtain ⟨a1, k1, l1, rfl, b1, e1⟩ := rd_samples g1
  exact ⟨⟨a0, l0.length, k0, l0, a1, l1.length, k1, l1⟩, two hl c0 c1, e0, rfl, b0, e1, rfl, b1⟩
theorem rd_row {n : Nat} {cs : List Value} (hl : cs.length = 2) (h : Rd enc w base n 59 cs) : ∃ s : Ror, cs = s.cells ∧ RorM w s := by
  obtain ⟨_, m, hf⟩ := h.one Tryz.underlying59 (by kernel_rfl) (by kernel_rfl)
  obtain ⟨v0, c0, g0⟩ := hf 0 _ rfl
  obtain ⟨v1, c1, g1⟩ := hf 1 _ rfl
  obtain ⟨a0, k0, l0, rfl, b0, e0⟩ := rd_labels g0
  obtain ⟨n1, rfl, b1⟩ := g1.int Tryz.underlying48
  have b := bnds_u64 b1
  refine ⟨⟨a0, l0.length, k0, l0, n1.toNat⟩, ?_, e0, rfl, b0, (by omega : n1.toNat ≤ 18446744073709551615)⟩
  rw [two hl c0 c1]
  unfold Ror.cells
  show [Value.slice a0 l0.length k0, Value.int .u64 n1] = [Value.slice a0 l0.length k0, Value.int .u64 ((n1.toNat : Nat) : Int)]
  rw [show ((n1.toNat : Nat) : Int) = n1 by omega]

/-- A field that came in. -/
def In1 (w : World) (v : Value) (k : Kd) : Prop := ∃ m : FM, v = m.val ∧ m.fv.kd = k ∧ m.mem w
theorem in_tx {n : Nat} {v : Value} (h : Rd enc w base n 9 [v]) : In1 w v .tx := by
  obtain ⟨s, rfl⟩ := h.str Tryz.underlying9
  exact ⟨.tx s, rfl, rfl, trivial⟩
theorem in_qu {n : Nat} {v : Value} (h : Rd enc w base n 9 [v]) : In1 w v .qu := by
  obtain ⟨s, rfl⟩ := h.str Tryz.underlying9
  exact ⟨.qu s, rfl, rfl, trivial⟩
theorem rd_bytes {n : Nat} {v : Value} (h : Rd enc w base n 22 [v]) : ∃ (a : Option Addr) (k c : Nat) (l : List Int), v = .slice a k c ∧ Sl w a k l ∧ k ≤ c ∧ c ≤ 9223372036854775807 ∧ (a = none → k = 0 ∧ c = 0) := by
  obtain ⟨a, cap, l, e, h1, h2, h3, h4, h5, h6⟩ := h.list (k := 1) (fun z : Int => [Value.int .u8 z]) (fun z => 0 ≤ z ∧ z ≤ 255) Tryz.underlying22 (by kernel_rfl) (by omega) (fun _ => rfl) (fun m cs hl hr => by
    match cs, hl with
    | [v], _ =>
      obtain ⟨z, rfl, b⟩ := hr.int Tryz.underlying5
      exact ⟨z, rfl, bnds_u8 b⟩)
  refine ⟨a, l.length, cap, l, e, ⟨rfl, fun z hz => h5 z hz, fun j hj => ?_⟩, h1, h2, h3⟩
  obtain ⟨b, off, ea, hlt, hc⟩ := h4 (by intro e0; simp at e0; subst e0; simp at hj)
  refine ⟨⟨b, off, none⟩, ea, ?_⟩
  have := hc j [Value.int .u8 l[j]] (by simp [List.getElem?_map, hj]) 0 _ rfl
  simp only [Addr.add_lit]
  simpa [List.getD, hj] using this
theorem in_tk {n : Nat} {v : Value} (h : Rd enc w base n 22 [v]) : In1 w v .tk := by
  obtain ⟨a, k, c, l, rfl, hs, h1, h2, h3⟩ := rd_bytes h
  exact ⟨.tk a k c l, rfl, rfl, hs, by omega⟩
theorem in_ws {n : Nat} {v : Value} (h : Rd enc w base n 23 [v]) : In1 w v .ws := by
  obtain ⟨a, cap, l, rfl, h1, h2, h3, h4, h5, h6⟩ := h.list Ser.cells (SerN w) Tryz.underlying23 (by kernel_rfl) (by omega) (fun _ => rfl) (fun m cs hl hr => rd_ser hl hr)
  exact ⟨.ws a cap l, rfl, rfl, by omega, h4, h5⟩
theorem in_se {n : Nat} {v : Value} (h : Rd enc w base n 23 [v]) : In1 w v .se := by
  obtain ⟨a, cap, l, rfl, h1, h2, h3, h4, h5, h6⟩ := h.list Ser.cells (SerN w) Tryz.underlying23 (by kernel_rfl) (by omega) (fun _ => rfl) (fun m cs hl hr => rd_ser hl hr)
  exact ⟨.se a cap l, rfl, rfl, by omega, h4, h5⟩
theorem in_ms {n : Nat} {v : Value} (h : Rd enc w base n 24 [v]) : In1 w v .ms := by
  obtain ⟨a, cap, l, rfl, h1, h2, h3, h4, h5, h6⟩ := h.list Ma.cells (fun x => I64n x.op) Tryz.underlying24 (by kernel_rfl) (by omega) (fun _ => rfl) (fun m cs hl hr => rd_match hl hr)
  exact ⟨.ms a cap l, rfl, rfl, by omega, h4, h5⟩
theorem in_ro {n : Nat} {v : Value} (h : Rd enc w base n 54 [v]) : In1 w v .ro := by
  obtain ⟨a, cap, l, rfl, h1, h2, h3, h4, h5, h6⟩ := h.list Ror.cells (RorM w) Tryz.underlying54 (by kernel_rfl) (by omega) (fun _ => rfl) (fun m cs hl hr => rd_row hl hr)
  exact ⟨.ro a cap l, rfl, rfl, by omega, h4, h5⟩
theorem in_ts {n : Nat} {v : Value} (h : Rd enc w base n 55 [v]) : In1 w v .ts := by
  obtain ⟨a, cap, l, rfl, h1, h2, h3, h4, h5, h6⟩ := h.list (k := 1) (fun d : ByteArray => [Value.string d]) (fun _ => True) Tryz.underlying55 (by kernel_rfl) (by omega) (fun _ => rfl) (fun m cs hl hr => by
    match cs, hl with
    | [v], _ =>
      obtain ⟨z, rfl⟩ := hr.str Tryz.underlying9
      exact ⟨z, rfl, trivial⟩)
  exact ⟨.ts a cap l, rfl, rfl, by omega, h4⟩
theorem in_tm {n : Nat} {v : Value} (h : Rd enc w base n 2 [v]) : In1 w v .tm := by
  obtain ⟨s, rfl, b⟩ := h.int Tryz.underlying2
  exact ⟨.tm s, rfl, rfl, bnds_i64 b⟩
theorem in_am {n : Nat} {v : Value} (h : Rd enc w base n 3 [v]) : In1 w v .am := by
  obtain ⟨s, rfl, b⟩ := h.int Tryz.underlying3
  exact ⟨.am s, rfl, rfl, bnds_i64 b⟩
theorem in_nu {n : Nat} {v : Value} (h : Rd enc w base n 3 [v]) : In1 w v .nu := by
  obtain ⟨s, rfl, b⟩ := h.int Tryz.underlying3
  exact ⟨.nu s, rfl, rfl, bnds_i64 b⟩

/-- A request that came in. -/
theorem open_request {n : Nat} {cs : List Value} (h : Rd enc w base n 26 cs) : ∃ k fm, cs = cQ k fm ∧ RqM w k fm := by
  obtain ⟨hl, m, hf⟩ := h.one Tryz.underlying26 (by kernel_rfl) (by kernel_rfl)
  obtain ⟨v0, c0, g0⟩ := hf 0 _ rfl
  obtain ⟨v1, c1, g1⟩ := hf 1 _ rfl
  obtain ⟨v2, c2, g2⟩ := hf 2 _ rfl
  obtain ⟨v3, c3, g3⟩ := hf 3 _ rfl
  obtain ⟨v4, c4, g4⟩ := hf 4 _ rfl
  obtain ⟨v5, c5, g5⟩ := hf 5 _ rfl
  obtain ⟨v6, c6, g6⟩ := hf 6 _ rfl
  obtain ⟨v7, c7, g7⟩ := hf 7 _ rfl
  obtain ⟨v8, c8, g8⟩ := hf 8 _ rfl
  obtain ⟨v9, c9, g9⟩ := hf 9 _ rfl
  obtain ⟨v10, c10, g10⟩ := hf 10 _ rfl
  obtain ⟨v11, c11, g11⟩ := hf 11 _ rfl
  obtain ⟨v12, c12, g12⟩ := hf 12 _ rfl
  obtain ⟨k, rfl, bk⟩ := g0.int Tryz.underlying3
  obtain ⟨m1, rfl, k1, e1⟩ := in_tx g1
  obtain ⟨m2, rfl, k2, e2⟩ := in_tk g2
  obtain ⟨m3, rfl, k3, e3⟩ := in_ws g3
  obtain ⟨m4, rfl, k4, e4⟩ := in_ms g4
  obtain ⟨m5, rfl, k5, e5⟩ := in_tm g5
  obtain ⟨m6, rfl, k6, e6⟩ := in_tm g6
  obtain ⟨m7, rfl, k7, e7⟩ := in_qu g7
  obtain ⟨m8, rfl, k8, e8⟩ := in_tx g8
  obtain ⟨m9, rfl, k9, e9⟩ := in_am g9
  obtain ⟨m10, rfl, k10, e10⟩ := in_am g10
  obtain ⟨m11, rfl, k11, e11⟩ := in_am g11
  obtain ⟨m12, rfl, k12, e12⟩ := in_tk g12
  let L := [m1, m2, m3, m4, m5, m6, m7, m8, m9, m10, m11, m12]
  refine ⟨k, fun i => if h : i < 12 then L[i]'h else zM (kdQ i), ?_, ⟨?_, ?_, bnds_i64 bk, fun i hi => by rw [dif_neg (by omega)]⟩⟩
  · match cs, hl with
    | [u0, u1, u2, u3, u4, u5, u6, u7, u8, u9, u10, u11, u12], _ =>
      simp only [List.getElem?_cons_zero, List.getElem?_cons_succ, Option.some.injEq] at c0 c1 c2 c3 c4 c5 c6 c7 c8 c9 c10 c11 c12
      subst c0 c1 c2 c3 c4 c5 c6 c7 c8 c9 c10 c11 c12
      rfl
  · intro i hi
    rcases (show i = 0 ∨ i = 1 ∨ i = 2 ∨ i = 3 ∨ i = 4 ∨ i = 5 ∨ i = 6 ∨ i = 7 ∨ i = 8 ∨ i = 9 ∨ i = 10 ∨ i = 11 by omega) with rfl | rfl | rfl | rfl | rfl | rfl | rfl | rfl | rfl | rfl | rfl | rfl
    all_goals first | exact k1 | exact k2 | exact k3 | exact k4 | exact k5 | exact k6 | exact k7 | exact k8 | exact k9 | exact k10 | exact k11 | exact k12
  · intro i hi
    rcases (show i = 0 ∨ i = 1 ∨ i = 2 ∨ i = 3 ∨ i = 4 ∨ i = 5 ∨ i = 6 ∨ i = 7 ∨ i = 8 ∨ i = 9 ∨ i = 10 ∨ i = 11 by omega) with rfl | rfl | rfl | rfl | rfl | rfl | rfl | rfl | rfl | rfl | rfl | rfl
    all_goals first | exact e1 | exact e2 | exact e3 | exact e4 | exact e5 | exact e6 | exact e7 | exact e8 | exact e9 | exact e10 | exact e11 | exact e12
/-- A response that came in. -/
theorem open_response {n : Nat} {cs : List Value} (h : Rd enc w base n 57 cs) : ∃ e k fm, cs = cA e k fm ∧ RsM w e k fm := by
  obtain ⟨hl, m, hf⟩ := h.one Tryz.underlying57 (by kernel_rfl) (by kernel_rfl)
  obtain ⟨v0, c0, g0⟩ := hf 0 _ rfl
  obtain ⟨v1, c1, g1⟩ := hf 1 _ rfl
  obtain ⟨v2, c2, g2⟩ := hf 2 _ rfl
  obtain ⟨v3, c3, g3⟩ := hf 3 _ rfl
  obtain ⟨v4, c4, g4⟩ := hf 4 _ rfl
  obtain ⟨v5, c5, g5⟩ := hf 5 _ rfl
  obtain ⟨e, rfl, be⟩ := g0.int Tryz.underlying30
  obtain ⟨k, rfl, bk⟩ := g1.int Tryz.underlying3
  obtain ⟨m1, rfl, k1, e1⟩ := in_se g2
  obtain ⟨m2, rfl, k2, e2⟩ := in_ro g3
  obtain ⟨m3, rfl, k3, e3⟩ := in_nu g4
  obtain ⟨m4, rfl, k4, e4⟩ := in_ts g5
  let L := [m1, m2, m3, m4]
  refine ⟨e, k, fun i => if h : i < 4 then L[i]'h else zM (kdA i), ?_, ⟨?_, ?_, bnds_i64 be, bnds_i64 bk, fun i hi => by rw [dif_neg (by omega)]⟩⟩
  · match cs, hl with
    | [u0, u1, u2, u3, u4, u5], _ =>
      simp only [List.getElem?_cons_zero, List.getElem?_cons_succ, Option.some.injEq] at c0 c1 c2 c3 c4 c5
      subst c0 c1 c2 c3 c4 c5
      rfl
  · intro i hi
    rcases (show i = 0 ∨ i = 1 ∨ i = 2 ∨ i = 3 by omega) with rfl | rfl | rfl | rfl
    all_goals first | exact k1 | exact k2 | exact k3 | exact k4
  · intro i hi
    rcases (show i = 0 ∨ i = 1 ∨ i = 2 ∨ i = 3 by omega) with rfl | rfl | rfl | rfl
    all_goals first | exact e1 | exact e2 | exact e3 | exact e4
end

end Go.Proofs.YtalmpmhnkilalaaGreatDoor
