import Derived.Test.YtgmdpbahcbhfjaaGreatDoorIxQ
import Derived.Test.YtgmdpbahcbhfjaaGreatDoorJUn
import Derived.Test.YtgmdpbahcbhfjaaGreatDoorIxN
set_option linter.unusedSimpArgs false
set_option linter.unusedVariables false
set_option maxHeartbeats 40000000
set_option maxRecDepth 100000
/-
  Package index: narrow.
-/
namespace Go.Proofs.YtgmdpbahcbhfjaaGreatDoor.X
open Go.RowKit

theorem hasX_wrd {S : List (List L.Lb)} (h : S.length ≤ 1000) (x : L.Lb) : J.Wrd (hasX S x) ∧ (hasX S x).length ≤ 1000 := by
  refine ⟨fun n hn => ?_, ?_⟩
  · have := (hasX_mem.1 hn).1
    omega
  · unfold hasX
    exact Nat.le_trans (List.length_filter_le _ _) (by simpa using h)
/-- The lists that are gathered. -/
def UnL (D : Nat) (w0 w : World) (au : Option Addr) (M cu : Nat) (ls : List (List Nat)) : Prop := ∃ xs : List J.Lst, w.ownsRow D 107 1 (.slice au M cu) M (xs.map J.Lst.v) ∧ (∀ x ∈ xs, J.Ar w x.1 x.2.1 x.2.2.1 x.2.2.2 ∧ x.2.1 ≤ 1000 ∧ ∀ a, x.1 = some a → a.block < w0.heap.size) ∧ J.lss xs = ls
theorem UnL.later {D : Nat} {w0 w w' : World} {au : Option Addr} {M cu : Nat} {ls : List (List Nat)} (h : UnL D w0 w au M cu ls) (hb : Below w.heap.size w w') : UnL D w0 w' au M cu ls := by
  obtain ⟨xs, h1, h2, h3⟩ := h
  exact ⟨xs, J.owns_later h1 hb, fun x hx => ⟨(h2 x hx).1.later hb, (h2 x hx).2⟩, h3⟩
theorem ar_chg {F : Nat → Prop} {w w' : World} {ad : Option Addr} {n c : Nat} {l : List Nat} (h : J.Ar w ad n c l) (hc : Chg F w w') (hF : ∀ x, ad = some x → 0 < n → ¬ F x.block) : J.Ar w' ad n c l := by
  refine ⟨⟨h.sw.len, h.sw.bd, fun j hj => ?_⟩, h.no, h.le, h.cm⟩
  obtain ⟨x, hx, hcell⟩ := h.sw.cell j hj
  refine ⟨x, hx, ?_⟩
  have hlt := h.sw.lt x hx (by omega)
  rw [← hcell]
  exact World.cell?_of_block (by rw [add_block]; exact hc.block _ hlt (hF x hx (by omega)))
theorem UnL.lsw {D : Nat} {w0 w : World} {au : Option Addr} {M cu : Nat} {ls : List (List Nat)} (h : UnL D w0 w au M cu ls) : ∃ xs, J.Lsw w au xs ∧ xs.length = M ∧ J.lensum xs ≤ M * 1000 ∧ J.lss xs = ls ∧ M ≤ cu ∧ cu ≤ maxLen := by
  obtain ⟨xs, h1, h2, h3⟩ := h
  have hl : xs.length = M := by have := h1.1; simpa using this
  obtain ⟨ad, c, e, _, _, h5, h6⟩ := owns_form2 h1
  simp only [Value.slice.injEq] at e
  obtain ⟨rfl, _, rfl⟩ := e
  refine ⟨xs, fun i x hx => ?_, hl, ?_, h3, h5, h6⟩
  · have hil := (List.getElem?_eq_some_iff.1 hx).1
    rcases h1.2 with ⟨_, h0⟩ | ⟨g, cap, cur, hv, _, hg, _⟩
    · omega
    · simp only [Value.slice.injEq] at hv
      obtain ⟨rfl, _, rfl⟩ := hv
      refine ⟨⟨g, 0, rfl, (Array.getElem?_eq_some_iff.1 hg).1, ?_⟩, (h2 x (List.mem_of_getElem? hx)).1⟩
      rw [Nat.zero_add, h1.cellAt i (by omega), List.getElem?_map, hx]
      rfl
  · rw [← hl]
    clear h1 h3 hl
    induction xs with
    | nil => simp [J.lensum]
    | cons y t ih =>
      have h7 := (h2 y (by simp)).2.1
      have h8 := ih (fun x hx => h2 x (by simp [hx]))
      simp only [J.lensum, List.map_cons, List.sum_cons, List.length_cons] at h8 ⊢
      omega
theorem info107s : (Tryz.prog.info? 107).map (fun i => (i.zero, i.size, i.bytes)) = some (some (.slice none 0 0), 1, 24) := by kernel_rfl
theorem built75f (n v : ByteArray) : Tryz.prog.built 75 [(0, .string n), (1, .string v)] = some #[.string n, .string v] := by kernel_rfl
/-- One more. -/
theorem UnL.push {D : Nat} {w0 w w' : World} {au : Option Addr} {M cu g c : Nat} {ls : List (List Nat)} (xs : List J.Lst) (hD : w0.heap.size ≤ D) (h1 : w.ownsRow D 107 1 (.slice au M cu) M (xs.map J.Lst.v)) (h2 : ∀ x ∈ xs, J.Ar w x.1 x.2.1 x.2.2.1 x.2.2.2 ∧ x.2.1 ≤ 1000 ∧ ∀ a, x.1 = some a → a.block < w0.heap.size) (h3 : J.lss xs = ls) (y : J.Lst) (hy : J.Ar w y.1 y.2.1 y.2.2.1 y.2.2.2) (hy2 : y.2.1 ≤ 1000) (hy3 : ∀ a, y.1 = some a → a.block < w0.heap.size)
    (o : w'.ownsRow D 107 1 (.slice (some ⟨g, 0, none⟩) (M + 1) c) (M + 1) (xs.map J.Lst.v ++ [y.v])) (k : Chg (fun i => (Value.slice au M cu).ownBlock = some i) w w') : UnL D w0 w' (some ⟨g, 0, none⟩) (M + 1) c (ls ++ [y.2.2.2]) := by
  have hF : ∀ (z : J.Lst), J.Ar w z.1 z.2.1 z.2.2.1 z.2.2.2 → (∀ a, z.1 = some a → a.block < w0.heap.size) → J.Ar w' z.1 z.2.1 z.2.2.1 z.2.2.2 := fun z hz hz2 => ar_chg hz k (fun a ha hp e => by
    have h9 := (h1.lt _ e).1
    have h10 := hz2 a ha
    omega)
  refine ⟨xs ++ [y], by rw [List.map_append]; exact o, fun x hx => ?_, by simp [J.lss, ← h3]⟩
  rcases List.mem_append.1 hx with hx | hx
  · exact ⟨hF x (h2 x hx).1 (h2 x hx).2.2, (h2 x hx).2⟩
  · rw [List.mem_singleton.1 hx]
    exact ⟨hF y hy hy3, hy2, hy3⟩
/-- The numbers under a key, as they are looked up. -/
theorem Ents.lookL {w : World} {c : Col} {j eb : Nat} {E : Kx → List Nat} (h : Ents w c j eb E) (k : Kx) : ∃ y : J.Lst, y.2.2.2 = E k ∧ y.2.1 = (E k).length ∧ (∀ a, y.1 = some a → a.block < w.heap.size) ∧ (∀ w', Below w.heap.size w w' → (Instr.lookup 81 (.map (some eb)) (.agg #[.string k.t, .string k.n, .string k.v]) false).run Tryz.prog w' = .ok y.v w') ∧ ∀ w', Below w.heap.size w w' → J.Ar w' y.1 y.2.1 y.2.2.1 y.2.2.2 := by
  obtain ⟨_, l, hl, hR⟩ := h
  obtain ⟨h1, h2, h3⟩ := (hR k).owns
  obtain ⟨ad, cp, e⟩ := J.owns_form h1
  have hA := J.ar_owns (by rw [← e]; exact h1) h2
  refine ⟨(ad, (E k).length, cp, E k), rfl, rfl, fun a ha => ?_, fun w' hb => ?_, fun w' hb => hA.later hb⟩
  · have ha' : ad = some a := ha
    subst ha'
    rcases h1.2 with ⟨h4, _⟩ | ⟨g, cap, cur, h4, _, hg, _⟩
    · rw [e] at h4; cases h4
    · rw [e] at h4
      simp only [Value.slice.injEq, Option.some.injEq] at h4
      rw [h4.1]
      exact (Array.getElem?_eq_some_iff.1 hg).1
  · have := (hl.later hb).look ky105 Tryz.underlying81 (zero107 w') k false
    rw [show (al l k).getD (.slice none 0 0) = .slice ad (E k).length cp from e] at this
    exact this
end Go.Proofs.YtgmdpbahcbhfjaaGreatDoor.X
/-
  Package index: narrow.
-/
namespace Go.Proofs.YtgmdpbahcbhfjaaGreatDoor.X
open Go.RowKit

theorem valsF_len {R : Rr} {V : ByteArray → ByteArray → List ByteArray} (hv : ValOk R V) (hr : ROk R) (t : ByteArray) (m : Mt) : (valsF (V t m.n) m).length ≤ 1000 := by
  unfold valsF
  split
  · simp
  · exact Nat.le_trans (val_len hv (fun t' l hl => right_oneN (hr.right t' l hl)) t m.n) (hr.len t)
theorem valsF_fit {R : Rr} {V : ByteArray → ByteArray → List ByteArray} (hv : ValOk R V) (hr : ROk R) (t : ByteArray) (m : Mt) (hm : m.may = true) : ∀ v ∈ valsF (V t m.n) m, v.size ≤ 64 := by
  intro v h
  unfold valsF at h
  split at h
  · rename_i hc
    rw [List.mem_singleton.1 h]
    unfold Mt.may at hm
    rw [Bool.and_eq_true] at hm
    have h1 := hm.1
    have h2 : (bts m.t).length = m.t.size := by simp [bts]
    have h3 : (decide (bts m.t = []) || L.isVal (bts m.t)) = true := by
      unfold txtOk at h1
      rcases hc.1 with e | e
      · rw [if_pos e] at h1; exact h1
      · rw [if_neg (by omega), if_pos e] at h1; exact h1
    rw [← h2]
    rw [Bool.or_eq_true] at h3
    rcases h3 with h3 | h3
    · rw [of_decide_eq_true h3]; simp
    · unfold L.isVal at h3
      simp only [Bool.and_eq_true, decide_eq_true_eq] at h3
      exact h3.1.2
  · obtain ⟨l, hl, hm⟩ := ((hv t m.n).2 v).1 h
    exact (fits_name ((right_fits (hr.right t l hl)).2.2 _ hm)).2.2.2
theorem may_name {m : Mt} (h : m.may = true) : m.n.size ≤ maxLen := by
  unfold Mt.may at h
  rw [Bool.and_eq_true] at h
  have h2 := h.2
  unfold L.isName at h2
  simp only [Bool.and_eq_true, decide_eq_true_eq] at h2
  have h3 := h2.1.1
  have h4 : (bts m.n).length = m.n.size := by simp [bts]
  rw [h4] at h3
  unfold maxLen
  omega
set_option maxRecDepth 100000 in
set_option maxHeartbeats 8000000 in
theorem narrowP {w : World} {c : Col} {j x eb rb B : Nat} {R : Rr} (h : Ix w c j x eb rb R) (hT : L.Tb B w) (t : ByteArray) (ht : t.size ≤ maxLen) (m : Mt) (hm : m.may = true) (hok : OkM m) (al : Option Addr) (nl cl : Nat) (A : List Nat) (hA : J.Ar w al nl cl A) (hr : J.Ris A) (hlt : ∀ i ∈ A, i < (R t).length) (hn : nl ≤ 1000000) :
    Calls Tryz.prog 54 #[.pointer (some ⟨x, 0, none⟩), .slice al nl cl, .string t, mtV m] w fun e w' => J.OutW w e w' (A.filter (fun i => m.hold (gotL ((R t).getD i []) m.n))) := by
  obtain ⟨V, hro, hv⟩ := h.rols
  have HDONE := hidden (nar_done hv h.ok t m A hr hlt)
  have HKL := hidden (valsF_len hv h.ok t m)
  have HKF := hidden (valsF_fit hv h.ok t m hm)
  have HLS := hidden (h.ok.len t)
  have HVP : Hid (∀ w1, Below w.heap.size w w1 → Calls Tryz.prog 72 #[.pointer (some ⟨x, 0, none⟩), .string t, mtV m] w1 (ValsV w1 (valsF (V t m.n) m))) := hidden (fun w1 hb => valuesForP (h.blk.later hb) (by
    obtain ⟨h1, l, h2, h3⟩ := hro
    exact ⟨h1, l, h2.later hb, fun t => ((h3 t).chg (Chg.of_below (F := fun _ => False) hb) (fun _ _ e => e.elim) (fun _ _ => rfl))⟩) t m)
  generalize valsF (V t m.n) m = K at *
  have HLK : Hid (∀ v, v ∈ K → ∃ y : J.Lst, y.2.2.2 = hasX (R t) ⟨m.n, v⟩ ∧ y.2.1 ≤ 1000 ∧ (∀ a, y.1 = some a → a.block < w.heap.size) ∧ (∀ w', Below w.heap.size w w' → (Instr.lookup 81 (.map (some eb)) (.agg #[.string t, .string m.n, .string v]) false).run Tryz.prog w' = .ok y.v w') ∧ ∀ w', Below w.heap.size w w' → J.Ar w' y.1 y.2.1 y.2.2.1 y.2.2.2) := hidden (fun v hvk => by
    obtain ⟨y, y1, y2, y3, y4, y5⟩ := h.ents.lookL ⟨t, m.n, v, ht, may_name hm, Nat.le_trans (HKF.out v hvk) (by unfold maxLen; omega)⟩
    have hne : ¬ m.n = em0 := fun e => by
      have h2 := hm
      unfold Mt.may at h2
      rw [Bool.and_eq_true] at h2
      have h3 := h2.2
      unfold L.isName at h3
      simp only [Bool.and_eq_true, decide_eq_true_eq] at h3
      exact h3.2 (by rw [e]; rfl)
    have hE : entF R ⟨t, m.n, v, ht, may_name hm, Nat.le_trans (HKF.out v hvk) (by unfold maxLen; omega)⟩ = hasX (R t) ⟨m.n, v⟩ := by unfold entF; rw [if_neg hne]
    rw [hE] at y1 y2
    exact ⟨y, y1, by rw [y2]; exact (hasX_wrd HLS.out _).2, y3, y4, y5⟩)
  have HBK := hidden h.blk
  have HMN : Hid (m.n.size ≤ 9223372036854775807) := hidden hok.1
  have HN : Hid (∀ w2, Below w.heap.size w w2 → Blk w2 (w.heap.size + 1) 78 [.string m.n, .int .i64 m.op, .string m.t] → Calls Tryz.prog 47 #[.slice (some ⟨w.heap.size + 1, 0, none⟩) 1 1] w2 fun e w' => ∃ s, e = .returned (.tuple #[.pointer (some ⟨s, 0, none⟩), .int .i64 0]) ∧ (∃ F, StR F w' s [m]) ∧ Below w2.heap.size w2 w') := hidden (fun w2 hb hbl => by
    refine (newP B (some ⟨w.heap.size + 1, 0, none⟩) 1 [m] w2 ⟨fun y hy => by rw [List.mem_singleton.1 hy]; exact hok, fun _ => ⟨w.heap.size + 1, 0, rfl, hbl.lt, fun i y hi => ?_⟩⟩ (by simp) (hT.later hb)).mono ?_
    · cases i with
      | zero =>
        simp at hi
        subst hi
        exact ⟨hbl.cell 0, hbl.cell 1, hbl.cell 2⟩
      | succ i => simp at hi
    · rintro e w' ⟨hb2, ⟨_, s, F, rfl, hs, _⟩ | ⟨hno, _⟩⟩
      · exact ⟨s, rfl, ⟨F, hs⟩, hb2⟩
      · unfold newOk at hno
        simp [hm] at hno)
  have HA := hidden hA
  have HRA := hidden hr
  clear h hT hro hv ht hm hok hA hr hlt
  unfold mtV
  cases hb0 : m.hold em0
  all_goals
    have HB0 := hidden hb0
    clear hb0
    go_enter Tryz.func54, Tryz.ntmps54
    have hbx : Below w.heap.size w (w.alloc (.cells #[.string m.n, .int .i64 m.op, .string m.t] 78)) := (Below.refl w.heap.size w).alloc (Nat.le_refl _) _
    have HBX := hidden hbx
    have HBB := hidden (hbx.alloc hbx.size (.cells #[.string m.n, .int .i64 m.op, .string m.t] 78))
    have HM0 := hidden (Blk.new w 78 [.string m.n, .int .i64 m.op, .string m.t])
    have hmb : Blk ((w.alloc (.cells #[.string m.n, .int .i64 m.op, .string m.t] 78)).alloc (.cells #[.string m.n, .int .i64 m.op, .string m.t] 78)) (w.heap.size + 1) 78 [.string m.n, .int .i64 m.op, .string m.t] := by
      have := Blk.new (w.alloc (.cells #[.string m.n, .int .i64 m.op, .string m.t] 78)) 78 [.string m.n, .int .i64 m.op, .string m.t]
      rw [World.size_alloc] at this
      exact this
    have HMB := hidden hmb
    clear hbx hmb
    go_wp2_with (first
      | (go_at_call 47
         refine (HN.out _ HBB.out HMB.out).mono ?_
         rintro e w3 ⟨s, rfl, hs, hb3⟩
         have HS := hidden hs
         have HB3 : Hid (Below w.heap.size w w3) := hidden (HBB.out.trans (hb3.mono HBB.out.size))
         have HM3 : Hid (Blk w3 w.heap.size 78 [.string m.n, .int .i64 m.op, .string m.t]) := hidden ((HM0.out.alloc _).later hb3)
         have m0 := HM3.out.cell 0
         have m1 := HM3.out.cell 1
         have m2 := HM3.out.cell 2
         simp only [List.getElem?_cons_zero, List.getElem?_cons_succ] at m0 m1 m2
         clear hs hb3 HN)
      | (go_at_call 27
         obtain ⟨F, hs⟩ := HS.out
         refine (holdsP F _ s [m] hs (by simp) none 0 [] (L.Ls.nil _ _) (by simp) (by simp)).mono ?_
         rintro e w4 ⟨rfl, hb4⟩
         rw [holds_nil, HB0.out]
         have HS4 : Hid (∃ F, StR F w4 s [m]) := hidden ⟨F, hs.later hb4⟩
         have HB4 : Hid (Below w.heap.size w w4) := hidden (HB3.out.trans (hb4.mono HB3.out.size))
         have HM4 : Hid (Blk w4 w.heap.size 78 [.string m.n, .int .i64 m.op, .string m.t]) := hidden (HM3.out.later hb4)
         have p0 := HM4.out.cell 0
         have p1 := HM4.out.cell 1
         have p2 := HM4.out.cell 2
         simp only [List.getElem?_cons_zero, List.getElem?_cons_succ] at p0 p1 p2
         clear hs hb4 HS HM3 m0 m1 m2)
      | (go_at_call 72
         refine (HVP.out _ HB4.out).mono ?_
         rintro e w5 ⟨av, cv, rfl, hv5, hb5⟩
         have HV5 := hidden hv5
         have HS5 : Hid (∃ F, StR F w5 s [m]) := hidden (by obtain ⟨F, hs⟩ := HS4.out; exact ⟨F, hs.later hb5⟩)
         have HB5 : Hid (Below w.heap.size w w5) := hidden (HB4.out.trans (hb5.mono HB4.out.size))
         have HM5 : Hid (Blk w5 w.heap.size 78 [.string m.n, .int .i64 m.op, .string m.t]) := hidden (HM4.out.later hb5)
         clear hv5 hb5 HS4 HM4 p0 p1 p2 HVP))
    obtain ⟨kn, hkn⟩ : ∃ kn, K.length = kn := ⟨_, rfl⟩
    have HKN := hidden hkn
    have hk9 : kn ≤ 1000 := by rw [← hkn]; exact HKL.out
    rw [hkn]
    clear hkn
    go_loopw [12, 28] (fun s12 s28 wx => ∃ (i M : Nat) (au : Option Addr) (cu : Nat), s12 = .slice au M cu ∧ s28 = .int .i64 (i : Int) ∧ i ≤ kn ∧ M ≤ i ∧ Hid (UnL w5.heap.size w wx au M cu (((K.take i).filter fun v => m.hold v != m.hold em0).map fun v => hasX (R t) ⟨m.n, v⟩)) ∧ Hid (Below w5.heap.size w5 wx)) (fun _ s28 _ => kn - (intOf s28).toNat)
    case atStart => exact ⟨0, 0, none, 0, rfl, rfl, by omega, by omega, hidden ⟨[], World.ownsRow_nil _ _ _ _, by simp, rfl⟩, hidden (Below.refl _ _)⟩
    case round =>
      rename World => wx
      obtain ⟨i, M, au, cu, rfl, rfl, hin, hMi, HU, HBX5⟩ := hrel
      have HBW : Hid (Below w.heap.size w wx) := hidden (HB5.out.trans (HBX5.out.mono HB5.out.size))
      by_cases hik : i < kn
      · have hikz : (i : Int) < (kn : Int) := by omega
        obtain ⟨v, hv⟩ : ∃ v, K[i]? = some v := ⟨K[i]'(by rw [HKN.out]; exact hik), List.getElem?_eq_getElem _⟩
        obtain ⟨vb, voff, rfl, hvl, hvc⟩ := (HV5.out.later HBX5.out) i v hv
        have hvm := List.mem_of_getElem? hv
        have HTK : Hid (K.take (i + 1) = K.take i ++ [v]) := hidden (by rw [List.take_add_one, hv]; rfl)
        obtain ⟨⟨ya, yn, yc, yl⟩, y1, y2, y3, y4, y5⟩ := HLK.out v hvm
        simp only at y1 y2 y3
        subst y1
        have HY : Hid _ := hidden (And.intro y2 (And.intro y3 (And.intro y4 y5)))
        have n0 := (HM5.out.later HBX5.out).cell 0
        simp only [List.getElem?_cons_zero, List.getElem?_cons_succ] at n0
        have HHO : Hid (∀ wy, Below wx.heap.size wx wy → Blk wy wx.heap.size 75 [.string m.n, .string v] → Calls Tryz.prog 27 #[.pointer (some ⟨s, 0, none⟩), .slice (some ⟨wx.heap.size, 0, none⟩) 1 1] wy fun e w' => e = .returned (.bool (m.hold v)) ∧ Below wy.heap.size wy w') := hidden (fun wy hb hbl => by
          obtain ⟨F, hs⟩ := HS5.out
          have hs2 := (hs.later HBX5.out).later hb
          have hvf := HKF.out v hvm
          have := holdsP F wy s [m] hs2 (by simp) (some ⟨wx.heap.size, 0, none⟩) 1 [⟨m.n, v⟩] ⟨fun y hy => by
              rw [List.mem_singleton.1 hy]
              exact ⟨HMN.out, by show v.size ≤ _; omega⟩, fun _ => ⟨wx.heap.size, 0, rfl, hbl.lt, fun k y hk => by
              cases k with
              | zero =>
                simp at hk
                subst hk
                exact ⟨hbl.cell 0, hbl.cell 1⟩
              | succ k => simp at hk⟩⟩ (by simp) (fun y hy => by rw [List.mem_singleton.1 hy]; show v.size ≤ _; omega)
          rw [holds_one] at this
          exact this)
        clear hv hvm y2 y3 y4 y5
        by_cases hq : m.hold v = m.hold em0
        · have hvb := hq.trans HB0.out
          rw [hvb] at HHO
          have HFL : Hid (((K.take (i + 1)).filter fun v => m.hold v != m.hold em0).map (fun v => hasX (R t) ⟨m.n, v⟩) = ((K.take i).filter fun v => m.hold v != m.hold em0).map fun v => hasX (R t) ⟨m.n, v⟩) := hidden (by
            rw [HTK.out, List.filter_append]
            have : [v].filter (fun v => m.hold v != m.hold em0) = [] := by rw [List.filter_cons_of_neg (by simp [hq])]; rfl
            rw [this, List.append_nil])
          clear hq hvb
          go_wp2_with (first
            | (refine wpList_build_to rfl 75 #[(0, .tmp 34), (1, .tmp 35)] rfl [(0, .string m.n), (1, .string v)] #[.string m.n, .string v] rfl (built75f m.n v) ?_)
            | (go_at_call 27
               refine (HHO.out _ ((Below.refl wx.heap.size wx).alloc (Nat.le_refl _) _) (Blk.new wx 75 [.string m.n, .string v])).mono ?_
               rintro e w7 ⟨rfl, hb7⟩
               have HB7 : Hid (Below wx.heap.size wx w7) := hidden (((Below.refl wx.heap.size wx).alloc (Nat.le_refl _) (.cells #[.string m.n, .string v] 75)).trans (hb7.mono (by simp)))
               clear hb7))
          refine ⟨⟨i + 1, M, au, cu, rfl, by first | rfl | simp, by omega, by omega, hidden ?_, hidden (HBX5.out.trans (HB7.out.mono HBX5.out.size))⟩, ?_⟩
          · rw [HFL.out]
            exact HU.out.later HB7.out
          · simp [intOf]
            omega
        · have hvb : m.hold v = (!m.hold em0) := by
            cases h1 : m.hold v <;> cases h2 : m.hold em0 <;> first | rfl | (exfalso; exact hq (by rw [h1, h2]))
          rw [HB0.out] at hvb
          simp only [Bool.not_true, Bool.not_false] at hvb
          rw [hvb] at HHO
          have HFL : Hid (((K.take (i + 1)).filter fun v => m.hold v != m.hold em0).map (fun v => hasX (R t) ⟨m.n, v⟩) = (((K.take i).filter fun v => m.hold v != m.hold em0).map fun v => hasX (R t) ⟨m.n, v⟩) ++ [hasX (R t) ⟨m.n, v⟩]) := hidden (by
            rw [HTK.out, List.filter_append]
            have : [v].filter (fun v => m.hold v != m.hold em0) = [v] := by rw [List.filter_cons_of_pos (by simpa using hq)]; rfl
            rw [this, List.map_append]
            rfl)
          clear hq hvb
          go_upto_region 8 with (first
            | (refine wpList_build_to rfl 75 #[(0, .tmp 34), (1, .tmp 35)] rfl [(0, .string m.n), (1, .string v)] #[.string m.n, .string v] rfl (built75f m.n v) ?_)
            | (go_at_call 27
               refine (HHO.out _ ((Below.refl wx.heap.size wx).alloc (Nat.le_refl _) _) (Blk.new wx 75 [.string m.n, .string v])).mono ?_
               rintro e w7 ⟨rfl, hb7⟩
               have HB7 : Hid (Below wx.heap.size wx w7) := hidden (((Below.refl wx.heap.size wx).alloc (Nat.le_refl _) (.cells #[.string m.n, .string v] 75)).trans (hb7.mono (by simp)))
               clear hb7))
          obtain ⟨xs, o1, o2, o3⟩ := HU.out.later HB7.out
          have hb57 : Below w5.heap.size w5 w7 := HBX5.out.trans (HB7.out.mono HBX5.out.size)
          have hbw7 : Below w.heap.size w w7 := HBW.out.trans (HB7.out.mono HBW.out.size)
          have x0 := (HBK.out.later hbw7).cell 0
          have n7 := (HM5.out.later hb57).cell 0
          simp only [List.getElem?_cons_zero, List.getElem?_cons_succ] at x0 n7
          have lk : (Instr.lookup 81 (.map (some eb)) (.agg #[.string t, .string m.n, .string v]) false).run Tryz.prog w7.drew = .ok (.slice ya yn yc) w7.drew := HY.out.2.2.1 _ hbw7.drew
          have HYA : Hid (J.Ar w7 ya yn yc (hasX (R t) ⟨m.n, v⟩)) := hidden (HY.out.2.2.2 _ hbw7)
          have HO1 := hidden o1
          have HO2 := hidden (And.intro o2 o3)
          have H57 := hidden hb57
          have HSZ := hidden HB5.out.size
          clear o1 o2 o3 hb57 hbw7 n0
          obtain ⟨i0, hi9, hz9, hs9, hb9⟩ := ix_info_parts info107s
          go_region_law (first
            | (refine step_push (w7.drew.alloc (.cells #[.slice ya yn yc] 107)) (by rfl) (.tmp 41) (.tmp 52) 140 (by rfl) 107 i0 (.slice none 0 0) 24 Tryz.underlying140 hi9 hz9 hs9 hb9 (by rfl) w5.heap.size (.slice au M cu) M (xs.map J.Lst.v) (by rfl) (World.ownsRow.alloc (w := w7.drew) HO1.out _) ⟨w7.heap.size, 0, none⟩ (.slice ya yn yc) (by rfl) ((Blk.new w7.drew 107 [.slice ya yn yc]).cell 0) (by rfl) (by unfold maxLen; omega) (by omega) (by have := H57.out.size; simp; omega) ?_
               intro g9 c9 w9 o9 p9
               have p9' : Pushed (w7.drew.alloc (.cells #[.slice ya yn yc] 107)) w9 (.slice au M cu) g9 := p9
               obtain ⟨k9, -⟩ := p9'.chg
               have P9 := hidden (And.intro o9 k9)
               clear o9 p9 p9' k9))
          all_goals
            go_wp2_with fail
            obtain ⟨o9, k9⟩ := P9.out
            have k9' : Chg (fun i => (Value.slice au M cu).ownBlock = some i) w7 w9 := (Chg.drew _ w7).trans k9 (fun _ _ e => e)
            refine ⟨⟨i + 1, M + 1, _, c9, by first | rfl | simp, by first | rfl | simp, by omega, by omega, hidden ?_, hidden (H57.out.trans (k9'.below H57.out.size (fun i hi => (HO1.out.lt i hi).1)))⟩, ?_⟩
            · rw [HFL.out]
              exact UnL.push xs HSZ.out HO1.out HO2.out.1 HO2.out.2 (ya, yn, yc, hasX (R t) ⟨m.n, v⟩) HYA.out HY.out.1 HY.out.2.1 o9 k9'
            · simp [intOf]
              omega
      · have hikz : ¬ (i : Int) < (kn : Int) := by omega
        have hik2 : K.take i = K := List.take_of_length_le (by rw [HKN.out]; omega)
        have hU := HU.out
        rw [hik2] at hU
        obtain ⟨xs, l1, l2, l3, l4, l5, l6⟩ := hU.lsw
        have HUN : Hid (∀ wy, Below wx.heap.size wx wy → Calls Tryz.prog 74 #[.slice au M cu] wy fun e w' => ∃ a2 n2 c2, e = .returned (.slice a2 n2 c2) ∧ n2 ≤ 1000000 ∧ J.Ar w' a2 n2 c2 (J.unionF ((K.filter fun v => m.hold v != m.hold em0).map fun v => hasX (R t) ⟨m.n, v⟩)) ∧ Below wy.heap.size wy w') := hidden (fun wy hb => by
          refine (J.unionP wy au M cu xs (l1.below hb) l2 (by omega) (by omega) l5 (by unfold maxLen at l6; omega)).mono ?_
          rintro e w' ⟨ad, c2, rfl, ho, hb2⟩
          have hrs : ∀ l ∈ (K.filter fun v => m.hold v != m.hold em0).map (fun v => hasX (R t) ⟨m.n, v⟩), J.Ris l := fun l hl => by
            obtain ⟨v, _, rfl⟩ := List.mem_map.1 hl
            exact hasX_ris _ _
          rw [l4, want_fst hrs] at ho ⊢
          refine ⟨ad, _, c2, rfl, ?_, J.ar_owns ho ?_, hb2⟩
          · have h1 := nodup_len (J.unionF ((K.filter fun v => m.hold v != m.hold em0).map fun v => hasX (R t) ⟨m.n, v⟩)) (List.range 1000) ((J.unionF_ris _ hrs).imp (fun h => Nat.ne_of_lt h)) (fun x hx => by
              obtain ⟨l, hl, hxl⟩ := (J.unionF_mem _ hrs x).1 hx
              obtain ⟨v, _, rfl⟩ := List.mem_map.1 hl
              have h2 := (hasX_mem.1 hxl).1
              have h3 := HLS.out
              rw [List.mem_range]
              omega)
            rw [List.length_range] at h1
            omega
          · exact J.unionF_wrd _ [] J.Wrd.nil (fun l hl => by
              obtain ⟨v, _, rfl⟩ := List.mem_map.1 hl
              exact (hasX_wrd HLS.out _).1))
        have HAX : Hid (J.Ar wx al nl cl A) := hidden (HA.out.later HBW.out)
        generalize J.unionF ((K.filter fun v => m.hold v != m.hold em0).map fun v => hasX (R t) ⟨m.n, v⟩) = U at *
        have hd := HDONE.out
        first
          | rw [if_pos HB0.out] at hd
          | rw [if_neg (by rw [HB0.out]; simp)] at hd
        have HD := hidden hd
        clear hik2 hU l1 l2 l3 l4 l5 l6 hd HDONE
        go_wp2_with (first
          | (go_at_call 74
             refine (HUN.out _ (Below.refl _ _)).mono ?_
             rintro e w7 ⟨a2, n2, c2, rfl, hn2, ha2, hb7⟩
             have HA2 := hidden ha2
             have HB7 := hidden hb7
             have HN2 := hidden hn2
             have HW7 : Hid (Below w.heap.size w w7) := hidden (HBW.out.trans (hb7.mono HBW.out.size))
             clear ha2 hb7 hn2 HUN)
          | (go_at_call 73
             refine (J.notP w7 al a2 nl cl n2 c2 A U (HAX.out.later HB7.out) HA2.out hn HN2.out).mono ?_
             rintro e w8 ⟨a8, c8, rfl, ho8, hb8⟩
             rw [HD.out] at ho8 ⊢
             have HO8 : Hid _ := hidden (And.intro ho8 hb8)
             clear ho8 hb8)
          | (go_at_call 75
             refine (J.andP w7 al a2 nl cl n2 c2 A U (HAX.out.later HB7.out) HA2.out hn HN2.out).mono ?_
             rintro e w8 ⟨a8, c8, rfl, ho8, hb8⟩
             rw [HD.out] at ho8 ⊢
             have HO8 : Hid _ := hidden (And.intro ho8 hb8)
             clear ho8 hb8))
        go_ret
        exact ⟨a8, c8, by rfl, J.owns_rebase HO8.out.1 HW7.out.size, HW7.out.trans (HO8.out.2.mono HW7.out.size)⟩
end Go.Proofs.YtgmdpbahcbhfjaaGreatDoor.X
/-
  Package index: Select.
-/
namespace Go.Proofs.YtgmdpbahcbhfjaaGreatDoor.X
open Go.RowKit

def zs (l : List Nat) : List Value := l.map fun n : Nat => Value.int .i64 (n : Int)
theorem zs_len (l : List Nat) : (zs l).length = l.length := by simp [zs]
theorem info3z : (Tryz.prog.info? 3).map (fun i => (i.zero, i.size, i.bytes)) = some (some (.int .i64 0), 1, 8) := by kernel_rfl
theorem owns_blk {w : World} {g n base : Nat} {ty : TypeId} {xs : List Value} (h : Blk w g ty xs) (hl : xs.length = n) (hb : base ≤ g) (hn : n ≤ 1000000) : w.ownsRow base ty 1 (.slice (some ⟨g, 0, none⟩) n n) n xs := by
  refine ⟨by omega, .inr ⟨g, n, xs.toArray, rfl, hb, h, Nat.le_refl _, by unfold maxLen; omega, by simp [hl], ?_⟩⟩
  rw [List.take_of_length_le (by simp [hl])]
theorem zs_next {l : List Nat} {i v : Nat} {cs : List Value} (h : cs.take i = zs (l.take i)) (hi : l[i]? = some v) (hc : i < cs.length) : (cs.set i (.int .i64 (v : Int))).take (i + 1) = zs (l.take (i + 1)) := by
  rw [List.take_add_one (l := l), hi, zs, List.map_append, ← zs, ← h, List.take_add_one, List.take_set_of_le (Nat.le_refl _), List.getElem?_set_self hc]
  rfl
/-- Who holds the matchers, as a list of numbers that is the caller's own. -/
def SelV (w : World) (L : List Nat) (e : Ending) (w' : World) : Prop := ∃ ad c, e = .returned (.slice ad L.length c) ∧ w'.ownsRow w.heap.size 3 1 (.slice ad L.length c) L.length (zs L) ∧ Below w.heap.size w w'
set_option maxRecDepth 100000 in
set_option maxHeartbeats 8000000 in
theorem selectP {w : World} {c : Col} {j x eb rb B : Nat} {R : Rr} (h : Ix w c j x eb rb R) (hT : L.Tb B w) (t : ByteArray) (ht : t.size ≤ maxLen) (s : Nat) (ms : List Mt) (hS : ∃ F, StR F w s ms) (hms : ∀ m ∈ ms, m.may = true ∧ OkM m) (hml : ms.length ≤ 1000) :
    Calls Tryz.prog 24 #[.pointer (some ⟨x, 0, none⟩), .string t, .pointer (some ⟨s, 0, none⟩)] w (SelV w (selF (R t) ms)) := by
  obtain ⟨F, hs⟩ := hS
  have HLI := hidden (listP F w s ms hs hml)
  obtain ⟨⟨ya, yn, yc, yl⟩, y1, y2, y3, y4, y5⟩ := h.ents.lookL (tenK t ht)
  have he : entF R (tenK t ht) = selF (R t) [] := by rw [selF_nil]; simp [entF, tenK]
  rw [he] at y1 y2
  simp only at y1 y2 y3
  subst y1
  have hlk : (Instr.lookup 81 (.map (some eb)) (.agg #[.string t, .string ⟨#[]⟩, .string ⟨#[]⟩]) false).run Tryz.prog w = .ok (.slice ya yn yc) w := y4 w (Below.refl _ _)
  have hy9 : yn ≤ 1000 := by rw [y2]; exact Nat.le_trans (selF_len _ _) (h.ok.len t)
  have HY5 := hidden y5
  have HNA : Hid (∀ w1 m al nl cl A, Below w.heap.size w w1 → m.may = true → OkM m → J.Ar w1 al nl cl A → J.Ris A → (∀ i ∈ A, i < (R t).length) → nl ≤ 1000000 → Calls Tryz.prog 54 #[.pointer (some ⟨x, 0, none⟩), .slice al nl cl, .string t, mtV m] w1 fun e w' => J.OutW w1 e w' (A.filter (fun i => m.hold (gotL ((R t).getD i []) m.n)))) := hidden (fun w1 m al nl cl A hb h1 h2 h3 h4 h5 h6 => narrowP (h.later hb) (hT.later hb) t ht m h1 h2 al nl cl A h3 h4 h5 h6)
  have HMS := hidden hms
  have HSL := hidden (h.ok.len t)
  have c0 := h.blk.cell 0
  simp only [List.getElem?_cons_zero, List.getElem?_cons_succ] at c0
  obtain ⟨n, hnn⟩ : ∃ n, ms.length = n := ⟨_, rfl⟩
  have HN := hidden hnn
  rw [hnn] at HLI hml
  clear h hT ht hs hms y2 y3 y4 y5 he hnn
  go_enter Tryz.func24, Tryz.ntmps24
  go_wp2_with (first
    | (refine wpList_build_to rfl 105 #[(0, .tmp 17)] rfl [(0, .string t)] #[.string t, .string ⟨#[]⟩, .string ⟨#[]⟩] rfl (built105t t) ?_)
    | (go_at_call 53
       refine HLI.out.mono ?_
       rintro e w1 ⟨rfl, ho1, hb1⟩
       have HO1 := hidden ho1
       have HB1 := hidden hb1
       clear ho1 hb1 HLI))
  go_loopw [7, 9, 23] (fun s7 s9 s23 wx => ∃ (i : Nat) (al : Option Addr) (nl cl : Nat), s7 = .slice al nl cl ∧ s23 = .int .i64 (i : Int) ∧ i ≤ n ∧ nl ≤ 1000 ∧ Hid (J.Ar wx al nl cl (selF (R t) (ms.take i))) ∧ Hid (Below w1.heap.size w1 wx)) (fun _ _ s23 _ => n - (intOf s23).toNat)
  case atStart => exact ⟨0, ya, yn, yc, rfl, rfl, by omega, hy9, hidden (HY5.out w1 HB1.out), hidden (Below.refl _ _)⟩
  case round =>
    rename World => wx
    obtain ⟨i, al, nl, cl, rfl, rfl, hin, hnl, HA, HBX⟩ := hrel
    by_cases hlt : i < n
    · have hltz : (i : Int) < (n : Int) := by omega
      obtain ⟨m, hm⟩ : ∃ m, ms[i]? = some m := ⟨ms[i]'(by rw [HN.out]; exact hlt), List.getElem?_eq_getElem _⟩
      have hO := owl HO1.out HBX.out
      obtain ⟨k0, k1, k2⟩ := cM_get ms i m hm
      have d0 := hO.cells (g := w.heap.size) rfl _ _ k0
      have d1 := hO.cells (g := w.heap.size) rfl _ _ k1
      have d2 := hO.cells (g := w.heap.size) rfl _ _ k2
      rw [Addr.add_lit, Nat.zero_add] at d0 d1 d2
      have HM := hidden (HMS.out m (List.mem_of_getElem? hm))
      have HTK : Hid (ms.take (i + 1) = ms.take i ++ [m]) := hidden (by rw [List.take_add_one, hm]; rfl)
      have hal : Below wx.heap.size wx (wx.alloc (.cells #[.string m.n, .int .i64 m.op, .string m.t] 78)) := (Below.refl wx.heap.size wx).alloc (Nat.le_refl _) _
      have HNC := hidden (HNA.out (wx.alloc (.cells #[.string m.n, .int .i64 m.op, .string m.t] 78)) m al nl cl (selF (R t) (ms.take i)) ((HB1.out.trans (HBX.out.mono HB1.out.size)).trans (hal.mono (Nat.le_trans HB1.out.size HBX.out.size))) HM.out.1 HM.out.2 (HA.out.later hal) (selF_ris _ _) (fun i hi => selF_lt hi) (by omega))
      have HBA : Hid (Below w1.heap.size w1 (wx.alloc (.cells #[.string m.n, .int .i64 m.op, .string m.t] 78))) := hidden (HBX.out.trans (hal.mono HBX.out.size))
      have HSTEP : Hid ((selF (R t) (ms.take i)).filter (fun i => m.hold (gotL ((R t).getD i []) m.n)) = selF (R t) (ms.take (i + 1))) := hidden (by rw [HTK.out, selF_step])
      rw [HSTEP.out] at HNC
      unfold mtV at HNC
      clear hO k0 k1 k2 hm hal
      go_wp2_with (first
        | (go_at_call 54
           refine HNC.out.mono ?_
           rintro e w4 ⟨a4, c4, rfl, ho4, hb4⟩
           have HO4 := hidden ho4
           have HB4 := hidden hb4
           clear ho4 hb4))
      have hl4 : (selF (R t) (ms.take (i + 1))).length ≤ 1000 := Nat.le_trans (selF_len _ _) HSL.out
      refine ⟨⟨i + 1, a4, _, c4, rfl, by first | rfl | simp, by omega, hl4, hidden (J.ar_owns HO4.out (fun x hx => by have h1 := selF_lt hx; have h2 := HSL.out; omega)), hidden (HBA.out.trans (HB4.out.mono HBA.out.size))⟩, ?_⟩
      simp [intOf]
      omega
    · have hltz : ¬ (i : Int) < (n : Int) := by omega
      have hA := HA.out
      rw [show ms.take i = ms from List.take_of_length_le (by rw [HN.out]; omega)] at hA
      have hnl2 : nl = (selF (R t) ms).length := hA.sw.len.symm
      have HAR := hidden hA
      have HNL := hidden hnl2
      have HBW : Hid (Below w.heap.size w wx) := hidden (HB1.out.trans (HBX.out.mono HB1.out.size))
      clear hA hnl2 HA HBX HO1 HB1 HNA c0
      go_upto_region 8 with (refine wpList_make_any _ rfl (.tmp 34) (.tmp 34) 67 rfl 3 _ 1 8 Tryz.underlying67 info3z nl rfl rfl (by omega) (by omega) ?_; intro w5 hB hz bl; have HB := hidden hB; have BL := hidden bl; clear hB hz bl)
      have HFILL : Hid (∃ cs, Blk w5 wx.heap.size 3 cs ∧ cs.length = nl ∧ cs.take 0 = zs ((selF (R t) ms).take 0)) := hidden ⟨_, HB.out, by rw [made_len]; omega, by simp [zs]⟩
      go_wp2_with fail
      go_loopw [11, 12, 38] (fun s11 s12 s38 wy => ∃ i : Nat, s38 = .int .i64 (i : Int) ∧ i ≤ nl ∧ Hid (∃ cs, Blk wy wx.heap.size 3 cs ∧ cs.length = nl ∧ cs.take i = zs ((selF (R t) ms).take i)) ∧ Hid (Below wx.heap.size wx wy)) (fun _ _ s38 _ => nl - (intOf s38).toNat)
      case atStart => exact ⟨0, rfl, by omega, HFILL, BL⟩
      case round =>
        rename World => wy
        obtain ⟨i, rfl, hil, HC, HBY⟩ := hrel
        by_cases hlt2 : i < nl
        · have hltz2 : (i : Int) < (nl : Int) := by omega
          obtain ⟨v, hv⟩ : ∃ v, (selF (R t) ms)[i]? = some v := ⟨(selF (R t) ms)[i]'(by rw [← HNL.out]; exact hlt2), List.getElem?_eq_getElem _⟩
          have hv9 : v ≤ 1000 := by
            have h1 := selF_lt (List.mem_of_getElem? hv)
            have h2 := HSL.out
            omega
          obtain ⟨ab, ao, rfl, hab, hac⟩ := (HAR.out.later HBY.out).sw.at (by omega)
          have e0 := hac i hlt2
          rw [show (selF (R t) ms).getD i 0 = v by simp [List.getD, hv]] at e0
          obtain ⟨cs, q1, q2, q3⟩ := HC.out
          obtain ⟨u, hu⟩ : ∃ u, cs[i]? = some u := ⟨cs[i]'(by omega), List.getElem?_eq_getElem _⟩
          have e1 := q1.cell i
          rw [hu] at e1
          have e2 := q1.frozen i
          have hwr : IntKind.i64.wrap (v : Int) = (v : Int) := by simp [IntKind.wrap, IntKind.signed, IntKind.bits]; omega
          have HQ := hidden (And.intro q1 (And.intro q2 q3))
          have HV := hidden hv
          clear hac q1 q2 q3 hu hv
          go_wp2_with fail
          refine ⟨⟨i + 1, by first | rfl | simp, by omega, hidden ⟨_, HQ.out.1.set i (.int .i64 (v : Int)), by rw [List.length_set]; exact HQ.out.2.1, zs_next HQ.out.2.2 HV.out (by rw [HQ.out.2.1]; exact hlt2)⟩, hidden (HBY.out.trans ((Chg.set ⟨wx.heap.size, i, none⟩ (.int .i64 (v : Int)) wy).below HBY.out.size (fun k e => by have e' : k = wx.heap.size := e; omega)))⟩, ?_⟩
          simp [intOf]
          omega
        · have hltz2 : ¬ (i : Int) < (nl : Int) := by omega
          go_wp2_with fail
          go_ret
          obtain ⟨cs, q1, q2, q3⟩ := HC.out
          have hi : i = nl := by omega
          rw [hi, List.take_of_length_le (by omega), List.take_of_length_le (by rw [← HNL.out]; omega)] at q3
          subst q3
          exact ⟨some ⟨wx.heap.size, 0, none⟩, nl, by rw [← HNL.out]; rfl, by rw [← HNL.out]; exact owns_blk q1 q2 HBW.out.size (by omega), HBW.out.trans (HBY.out.mono HBW.out.size)⟩
end Go.Proofs.YtgmdpbahcbhfjaaGreatDoor.X
