import Derived.Test.YtalmpmhnkilalaaGreatDoorDyF
import Derived.Test.YtalmpmhnkilalaaGreatDoorRqM
import Derived.Deep.CutRange
/-
  The document's reader in memory: a response's kinds. By gendyh21.py.
-/
namespace Go.Proofs.YtalmpmhnkilalaaGreatDoor
open Go.RowKit
set_option linter.unusedVariables false
set_option linter.unusedSimpArgs false

/-- What a call of it leaves. -/
def AnP (w : World) (p K g : Nat) (er k : Int) (f : Nat → FV) (s' : Ri) : Ending → World → Prop := fun e w' => e = .returned (.tuple #[]) ∧ ∃ fm : Nat → FM, It w' p K s' ∧ Blk w' g 57 (cA er k fm) ∧ (∀ j, j < 4 → (fm j).fv = f j ∧ FO w.heap.size 0 w' (fm j)) ∧ Chg (fun i => i = p ∨ i = g) w w'
def Ri.row (s : Ri) : Rx := (s.labs.1, (Q.dec s.labs.2.b).1)
def Ri.rowN (s : Ri) : Ri := s.labs.2.num
def Ri.tx (s : Ri) : ByteArray := strOfNums (txL s.b 64)
def Ri.txN (s : Ri) : Ri := s.txt 64
def Ri.sers (s : Ri) : List Se × Ri := Ri.rep Ri.ser Ri.serN (s.many s.b.length) (s.cnt s.b.length) []
def Ri.rws (s : Ri) : List Rx × Ri := Ri.rep Ri.row Ri.rowN (s.many s.b.length) (s.cnt s.b.length) []
def Ri.txs (s : Ri) : List ByteArray × Ri := Ri.rep Ri.tx Ri.txN (s.many s.b.length) (s.cnt s.b.length) []
def SrV (B : Nat) (x : Ser) (w : World) : Prop := SrO B x w ∧ x.sn ≤ 281474976710656
theorem SrV.chg {B : Nat} {x : Ser} {wa wb : World} {F : Nat → Prop} (h : SrV B x wa) (hc : Chg F wa wb) (hF : ∀ i, F i → ¬ Ty wa i 47 ∧ ¬ Ty wa i 50) : SrV B x wb := ⟨h.1.chg hc hF, h.2⟩
theorem RwO.chg {B : Nat} {x : Ror} {wa wb : World} {F : Nat → Prop} (h : RwO B x wa) (hc : Chg F wa wb) (hF : ∀ i, F i → ¬ Ty wa i 47 ∧ ¬ Ty wa i 50) : RwO B x wb := ⟨h.1, h.2.1, hc.owns h.2.2 (fun g hg hf => (hF g hf).1 (ty_owns h.2.2 hg))⟩
def TeV (B : Nat) (x : ByteArray) (w : World) : Prop := True
theorem TeV.chg {B : Nat} {x : ByteArray} {wa wb : World} {F : Nat → Prop} (h : TeV B x wa) (hc : Chg F wa wb) (hF : ∀ i, F i → ¬ Ty wa i 47 ∧ ¬ Ty wa i 50) : TeV B x wb := trivial
def teC (d : ByteArray) : List Value := [.string d]
theorem notty {w : World} {i : Nat} {t : TypeId} (h : Ty w i t) (h1 : t ≠ 47) (h2 : t ≠ 50) : ¬ Ty w i 47 ∧ ¬ Ty w i 50 := ⟨fun k => h1 (h.ne k), fun k => h2 (h.ne k)⟩
theorem fpr_ty {w : World} {p K : Nat} {s : Ri} (h : It w p K s) : ∀ i, fpr p i → ¬ Ty w i 47 ∧ ¬ Ty w i 50 := fun i hi => by
  have e : i = p := hi
  subst e
  exact notty (ty_it h) (by decide) (by decide)

/-- What a round of it holds. -/
def AnIS (w : World) (p K g N : Nat) (er : Int) (R : List Se × Ri) (n : Nat) (wx : World) : Prop :=
  ∃ (xs : List Ser) (t : Ri) (ad : Option Addr) (c : Nat), xs.length + n = N ∧ Blk wx g 57 [.int .i64 er, .int .i64 1, .slice ad xs.length c, .slice none 0 0, .int .i64 0, .slice none 0 0] ∧ wx.ownsRow w.heap.size 45 2 (.slice ad xs.length c) xs.length (xs.flatMap Ser.cells) ∧ (∀ x ∈ xs, SrV w.heap.size x wx) ∧ It wx p K t ∧ Chg (fun i => i = p ∨ i = g) w wx ∧ R = Ri.rep Ri.ser Ri.serN n t (xs.map prS)
theorem AnIS.done {w wx : World} {p K g : Nat} {er : Int} {xs : List Ser} {t : Ri} {ad : Option Addr} {c : Nat} {R : List Se × Ri} (hB : Blk wx g 57 [.int .i64 er, .int .i64 1, .slice ad xs.length c, .slice none 0 0, .int .i64 0, .slice none 0 0]) (ho : wx.ownsRow w.heap.size 45 2 (.slice ad xs.length c) xs.length (xs.flatMap Ser.cells)) (hv : ∀ x ∈ xs, SrV w.heap.size x wx) (hi : It wx p K t) (hc : Chg (fun i => i = p ∨ i = g) w wx) (hR : R = (xs.map prS, t)) :
    AnP w p K g er 1 (fun j => if j = 0 then .se R.1 else zA j) R.2 (.returned (.tuple #[])) wx := by
  subst hR
  refine ⟨rfl, fun j => if j = 0 then .se ad c xs else zM (kdA j), hi, hB, fun j hj => ?_, hc⟩
  by_cases h0 : j = 0
  · subst h0
    exact ⟨rfl, ⟨ho, hv⟩⟩
  · simp only [if_neg h0]
    exact ⟨zM_fv _, zM_fo _ _ _ _⟩
set_option maxRecDepth 8000 in
set_option maxHeartbeats 4000000 in
theorem answerS (p K g : Nat) (s : Ri) (er : Int) (w : World) (h : It w p K s) (hg : Blk w g 57 [.int .i64 er, .int .i64 1, .slice none 0 0, .slice none 0 0, .int .i64 0, .slice none 0 0]) (hgp : g ≠ p) (hgK : g ≠ K) :
    Calls Tryz.prog 49 #[.pointer (some ⟨p, 0, none⟩), .pointer (some ⟨g, 0, none⟩)] w (AnP w p K g er 1 (fun j => if j = 0 then .se s.sers.1 else zA j) s.sers.2) := by
  obtain ⟨i0, z0, hi0, hz0, hz1, hz2, hz3⟩ := info_z infoE
  have hlen := h.byte.2
  have HN := hidden (countI p K s s.b.length w h (by omega))
  have hNm := many_le s.b.length s
  have hN : (if (s.cnt s.b.length).ok then ((Q.dec s.b).1 : Int) else 0) = (s.many s.b.length : Nat) := by unfold Ri.many; split <;> rfl
  rw [hN] at HN
  clear hN
  have c0 : ∃ ad c, w.cell? ⟨p, 0, none⟩ = some (.slice ad s.b.length c) := by
    obtain ⟨_, _, ad, n, c, hB⟩ := h
    refine ⟨ad, c, ?_⟩
    have := hB.blk.cell 0
    rw [hB.sl.len]
    simpa using this
  obtain ⟨ad0, cc0, c0⟩ := c0
  have hpw := h.lt
  have hkw := h.klt
  have hgw := hg.lt
  have ck := hg.cell 1
  simp at ck
  have HG := hidden hg
  clear h hg
  obtain ⟨R, hR⟩ : ∃ R, R = s.sers := ⟨_, rfl⟩
  rw [← hR]
  unfold Ri.sers at hR
  generalize s.many s.b.length = N at *
  generalize s.cnt s.b.length = s0 at *
  generalize s.b.length = kl at *
  have HRR := hidden hR
  clear hR
  go_enter Tryz.func49, Tryz.ntmps49
  go_wp2_with fail
  refine HN.out.mono ?_
  rintro e w1 ⟨v, rfl, hQ, rfl⟩
  have H1 : Hid (AnIS w p K g N er R N w1) :=
    hidden ⟨[], s0, none, 0, by simp, hQ.chg.blk HG.out (fun e => hgp e), World.ownsRow_nil _ _ _ _, fun x hx => (by cases hx), hQ.it, hQ.chg.mono (fun i _ hi => .inl hi), HRR.out⟩
  clear hQ
  go_wp2_with fail
  go_loopw [4, 5, 6] (fun vn _ _ wx => ∃ n : Nat, vn = .int .i64 (n : Int) ∧ n ≤ N ∧ Hid (AnIS w p K g N er R n wx)) (fun vn _ _ _ => (intOf vn).toNat)
  case atStart => exact ⟨N, rfl, by omega, H1⟩
  case round =>
    obtain ⟨n, rfl, hn, hI⟩ := hrel
    obtain ⟨xs, t, ad, c, hxn, hBg, hown, hSr, hIt, hC, hT⟩ := hI.out
    have cf := hIt.flag
    have HBG := hidden hBg
    have HOW := hidden hown
    have HSR := hidden hSr
    have HIT := hidden hIt
    have HCC := hidden hC
    have HT := hidden hT
    have hsw := hC.size
    clear hI H1 hown hSr hIt hC hT hBg
    cases n with
    | zero =>
      go_wp2_with fail
      go_end0
      exact AnIS.done HBG.out HOW.out HSR.out HIT.out HCC.out HT.out
    | succ n =>
      have hn0 : ((n + 1 : Nat) : Int) > 0 := by omega
      obtain ⟨y, hy⟩ : ∃ y, t.ok = y := ⟨_, rfl⟩
      rw [hy] at cf
      cases y with
      | false =>
        go_wp2_with fail
        go_end0
        exact AnIS.done HBG.out HOW.out HSR.out HIT.out HCC.out (HT.out.trans (Ri.rep_no _ hy _))
      | true =>
        have HT2 := hidden (HT.out.trans (Ri.rep_yes _ hy _))
        clear HT hy
        go_wp2_with fail
        refine (labelsI p K t _ HIT.out).mono ?_
        rintro e w2 ⟨v, rfl, hQ2, a2, c2, hv2, ho2⟩
        subst hv2
        have hs2 := hQ2.chg.size
        have HQ2 := hidden hQ2
        have HO2 := hidden ho2
        clear hQ2 ho2 cf
        go_wp2_with fail
        refine (samplesI p K t.labs.2 _ HQ2.out.it).mono ?_
        rintro e w3 ⟨v, rfl, hQ3, a3, c3, hv3, ho3, hok3⟩
        subst hv3
        have hS := smpV_len HQ2.out.it.byte.1 HQ2.out.it.byte.2
        have hs3 := hQ3.chg.size
        have hCZ := HQ2.out.chg.trans hQ3.chg (fun i _ hi => hi)
        have HIZ : Hid (It w3 p K (Ri.serN t)) := hidden hQ3.it
        have HBZ : Hid (Blk w3 g 57 [.int .i64 er, .int .i64 1, .slice ad xs.length c, .slice none 0 0, .int .i64 0, .slice none 0 0]) := hidden (hCZ.blk HBG.out (fun e => hgp e))
        have HOWZ := hidden (hCZ.owns HOW.out (fun j hj e => by have h1 := (HOW.out.lt j hj).1; unfold fpr at e; omega))
        have HSRZ : Hid (∀ x ∈ xs, SrV w.heap.size x w3) := hidden (fun x hx => (HSR.out x hx).chg hCZ (fpr_ty HIT.out))
        have HCZ : Hid (Chg (fun i => i = p ∨ i = g) w w3) := hidden (HCC.out.trans hCZ (fun j hj e => .inl e))
        have hsz := hCZ.size
        have cg := HBZ.out.cell 2
        simp at cg
        have fg := HBZ.out.frozen 2
        have HSXZ : Hid (SrV w.heap.size ⟨a2, t.labs.1.length, c2, t.labs.1, a3, t.labs.2.smpV.length, c3, t.labs.2.smpV⟩ w3) := hidden (by
          refine ⟨⟨rfl, rfl, ?_, owns_base ho3 (fun g hg => by have := (ho3.lt g hg).1; omega), hok3⟩, by show t.labs.2.smpV.length ≤ _; omega⟩
          have hh := hQ3.chg.owns HO2.out (fun g hg e => by have h1 := (HO2.out.lt g hg).1; unfold fpr at e; omega)
          exact owns_base hh (fun g hg => by have := (hh.lt g hg).1; omega))
        have HX : Hid (Ri.ser t = prS ⟨a2, t.labs.1.length, c2, t.labs.1, a3, t.labs.2.smpV.length, c3, t.labs.2.smpV⟩) := hidden rfl
        rw [HX.out] at HT2
        clear hQ3 hCZ ho3 hok3 HO2 HQ2 HX
        generalize t.labs.1 = L1 at *
        generalize t.labs.2.smpV = L2 at *
        go_wp2_with (first
          | (at_builtin; refine wpList_pushN _ rfl _ _ 23 rfl 45 i0 z0 2 48 Tryz.underlying23 hi0 hz0 hz1 hz2 hz3 (by decide) w.heap.size (.slice ad xs.length c) xs.length (xs.flatMap Ser.cells) rfl (by exact (HOWZ.out.alloc _)) ⟨w3.heap.size, 0, none⟩ [.slice a2 L1.length c2, .slice a3 L2.length c3] rfl rfl (by intro j u hu; have h9 := (Blk.new w3 45 [.slice a2 L1.length c2, .slice a3 L2.length c3]).cell (0 + j); rw [Addr.add_lit, h9, Nat.zero_add]; exact hu) (by intro u hu; simp at hu; rcases hu with rfl | rfl <;> rfl) (by unfold maxLen; omega) (by omega) (by simp; omega) ?_; intro g' c' w' ho' hp'; have HO' := hidden ho'; have HP' := hidden hp'; clear ho' hp'; have hw2 : Chg (fun i_1 => Value.ownBlock (.slice ad xs.length c) = some i_1) w3 w' := HP'.out.chg.1; have hfp : ∀ j, Value.ownBlock (.slice ad xs.length c) = some j → w.heap.size ≤ j := fun j hj => (HOWZ.out.lt j hj).1; have HW2 := hidden hw2; have hBg5 : Blk w' g 57 [.int .i64 er, .int .i64 1, .slice ad xs.length c, .slice none 0 0, .int .i64 0, .slice none 0 0] := hw2.blk HBZ.out (fun e => by have := hfp g e; omega); have d2 := hBg5.cell 2; simp at d2; have e2 := hBg5.frozen 2; have HB5 := hidden (hBg5.set 2 (.slice (some ⟨g', 0, none⟩) (xs.length + 1) c')); clear hBg5; have HTY5 : Hid (¬ Ty w' g 47 ∧ ¬ Ty w' g 50) := hidden (notty (ty_blk (HW2.out.blk HBZ.out (fun e => by have := hfp g e; omega))) (by decide) (by decide)); clear hw2 hfp))
        have hI2 : Hid (AnIS w p K g N er R n (w'.setCell ⟨g, 2, none⟩ (.slice (some ⟨g', 0, none⟩) (xs.length + 1) c'))) := by
          have hS5 : Chg (fun i => i = g) w' (w'.setCell ⟨g, 2, none⟩ (.slice (some ⟨g', 0, none⟩) (xs.length + 1) c')) := (Chg.set ⟨g, 2, none⟩ _ w').mono (fun i _ hi => hi)
          have hfp : ∀ j, Value.ownBlock (.slice ad xs.length c) = some j → w.heap.size ≤ j := fun j hj => (HOWZ.out.lt j hj).1
          have hty : ∀ j, Value.ownBlock (.slice ad xs.length c) = some j → ¬ Ty w3 j 47 ∧ ¬ Ty w3 j 50 := fun j hj => notty (ty_owns HOWZ.out hj) (by decide) (by decide)
          have hty5 : ∀ j, j = g → ¬ Ty w' j 47 ∧ ¬ Ty w' j 50 := fun j hj => by subst hj; exact HTY5.out
          have hg' : w.heap.size ≤ g' := (HO'.out.lt g' rfl).1
          refine hidden ⟨xs ++ [⟨a2, L1.length, c2, L1, a3, L2.length, c3, L2⟩], Ri.serN t, some ⟨g', 0, none⟩, c', by rw [List.length_append]; simp; omega, ?_, ?_, fun x hx => ?_, (HIZ.out.chg HW2.out (fun e => by have := hfp p e; omega) (fun e => by have := hfp K e; omega)).chg hS5 (fun e => hgp e.symm) (fun e => hgK e.symm), (HCZ.out.trans HW2.out (fun j hj e => absurd (hfp j e) (by omega))).trans hS5 (fun j hj e => .inr e), ?_⟩
          · rw [List.length_append]
            exact HB5.out
          · rw [List.length_append, List.flatMap_append]
            exact hS5.owns (by simpa [Ser.cells] using HO'.out) (fun j hj e => by
              have hj2 : g' = j := by simpa [Value.ownBlock] using hj
              omega)
          · rcases List.mem_append.1 hx with hx | hx
            · exact ((HSRZ.out x hx).chg HW2.out hty).chg hS5 hty5
            · rw [List.mem_singleton] at hx
              subst hx
              exact (HSXZ.out.chg HW2.out hty).chg hS5 hty5
          · rw [HT2.out, List.map_append]
            try rfl
        clear HO' HP'
        go_wp2_with fail
        refine ⟨⟨n, by first | rfl | simp, by omega, hI2⟩, ?_⟩
        simp [intOf]
end Go.Proofs.YtalmpmhnkilalaaGreatDoor

/-
  The document's reader in memory: a response's kinds. By gendyh21.py.
-/
namespace Go.Proofs.YtalmpmhnkilalaaGreatDoor
open Go.RowKit
set_option linter.unusedVariables false
set_option linter.unusedSimpArgs false


/-- What a round of it holds. -/
def AnIR (w : World) (p K g N : Nat) (er : Int) (R : List Rx × Ri) (n : Nat) (wx : World) : Prop :=
  ∃ (xs : List Ror) (t : Ri) (ad : Option Addr) (c : Nat), xs.length + n = N ∧ Blk wx g 57 [.int .i64 er, .int .i64 2, .slice none 0 0, .slice ad xs.length c, .int .i64 0, .slice none 0 0] ∧ wx.ownsRow w.heap.size 59 2 (.slice ad xs.length c) xs.length (xs.flatMap Ror.cells) ∧ (∀ x ∈ xs, RwO w.heap.size x wx) ∧ It wx p K t ∧ Chg (fun i => i = p ∨ i = g) w wx ∧ R = Ri.rep Ri.row Ri.rowN n t (xs.map prR)
theorem AnIR.done {w wx : World} {p K g : Nat} {er : Int} {xs : List Ror} {t : Ri} {ad : Option Addr} {c : Nat} {R : List Rx × Ri} (hB : Blk wx g 57 [.int .i64 er, .int .i64 2, .slice none 0 0, .slice ad xs.length c, .int .i64 0, .slice none 0 0]) (ho : wx.ownsRow w.heap.size 59 2 (.slice ad xs.length c) xs.length (xs.flatMap Ror.cells)) (hv : ∀ x ∈ xs, RwO w.heap.size x wx) (hi : It wx p K t) (hc : Chg (fun i => i = p ∨ i = g) w wx) (hR : R = (xs.map prR, t)) :
    AnP w p K g er 2 (fun j => if j = 1 then .ro R.1 else zA j) R.2 (.returned (.tuple #[])) wx := by
  subst hR
  refine ⟨rfl, fun j => if j = 1 then .ro ad c xs else zM (kdA j), hi, hB, fun j hj => ?_, hc⟩
  by_cases h0 : j = 1
  · subst h0
    exact ⟨rfl, ⟨ho, hv⟩⟩
  · simp only [if_neg h0]
    exact ⟨zM_fv _, zM_fo _ _ _ _⟩
set_option maxRecDepth 8000 in
set_option maxHeartbeats 4000000 in
theorem answerR (p K g : Nat) (s : Ri) (er : Int) (w : World) (h : It w p K s) (hg : Blk w g 57 [.int .i64 er, .int .i64 2, .slice none 0 0, .slice none 0 0, .int .i64 0, .slice none 0 0]) (hgp : g ≠ p) (hgK : g ≠ K) :
    Calls Tryz.prog 49 #[.pointer (some ⟨p, 0, none⟩), .pointer (some ⟨g, 0, none⟩)] w (AnP w p K g er 2 (fun j => if j = 1 then .ro s.rws.1 else zA j) s.rws.2) := by
  obtain ⟨i0, z0, hi0, hz0, hz1, hz2, hz3⟩ := info_z infoR
  have hlen := h.byte.2
  have HN := hidden (countI p K s s.b.length w h (by omega))
  have hNm := many_le s.b.length s
  have hN : (if (s.cnt s.b.length).ok then ((Q.dec s.b).1 : Int) else 0) = (s.many s.b.length : Nat) := by unfold Ri.many; split <;> rfl
  rw [hN] at HN
  clear hN
  have c0 : ∃ ad c, w.cell? ⟨p, 0, none⟩ = some (.slice ad s.b.length c) := by
    obtain ⟨_, _, ad, n, c, hB⟩ := h
    refine ⟨ad, c, ?_⟩
    have := hB.blk.cell 0
    rw [hB.sl.len]
    simpa using this
  obtain ⟨ad0, cc0, c0⟩ := c0
  have hpw := h.lt
  have hkw := h.klt
  have hgw := hg.lt
  have ck := hg.cell 1
  simp at ck
  have HG := hidden hg
  clear h hg
  obtain ⟨R, hR⟩ : ∃ R, R = s.rws := ⟨_, rfl⟩
  rw [← hR]
  unfold Ri.rws at hR
  generalize s.many s.b.length = N at *
  generalize s.cnt s.b.length = s0 at *
  generalize s.b.length = kl at *
  have HRR := hidden hR
  clear hR
  go_enter Tryz.func49, Tryz.ntmps49
  go_wp2_with fail
  refine HN.out.mono ?_
  rintro e w1 ⟨v, rfl, hQ, rfl⟩
  have H1 : Hid (AnIR w p K g N er R N w1) :=
    hidden ⟨[], s0, none, 0, by simp, hQ.chg.blk HG.out (fun e => hgp e), World.ownsRow_nil _ _ _ _, fun x hx => (by cases hx), hQ.it, hQ.chg.mono (fun i _ hi => .inl hi), HRR.out⟩
  clear hQ
  go_wp2_with fail
  go_loopw [7, 8] (fun vn _ wx => ∃ n : Nat, vn = .int .i64 (n : Int) ∧ n ≤ N ∧ Hid (AnIR w p K g N er R n wx)) (fun vn _ _ => (intOf vn).toNat)
  case atStart => exact ⟨N, rfl, by omega, H1⟩
  case round =>
    obtain ⟨n, rfl, hn, hI⟩ := hrel
    obtain ⟨xs, t, ad, c, hxn, hBg, hown, hSr, hIt, hC, hT⟩ := hI.out
    have cf := hIt.flag
    have HBG := hidden hBg
    have HOW := hidden hown
    have HSR := hidden hSr
    have HIT := hidden hIt
    have HCC := hidden hC
    have HT := hidden hT
    have hsw := hC.size
    clear hI H1 hown hSr hIt hC hT hBg
    cases n with
    | zero =>
      go_wp2_with fail
      go_end0
      exact AnIR.done HBG.out HOW.out HSR.out HIT.out HCC.out HT.out
    | succ n =>
      have hn0 : ((n + 1 : Nat) : Int) > 0 := by omega
      obtain ⟨y, hy⟩ : ∃ y, t.ok = y := ⟨_, rfl⟩
      rw [hy] at cf
      cases y with
      | false =>
        go_wp2_with fail
        go_end0
        exact AnIR.done HBG.out HOW.out HSR.out HIT.out HCC.out (HT.out.trans (Ri.rep_no _ hy _))
      | true =>
        have HT2 := hidden (HT.out.trans (Ri.rep_yes _ hy _))
        clear HT hy
        go_wp2_with fail
        refine (labelsI p K t _ HIT.out).mono ?_
        rintro e w2 ⟨v, rfl, hQ2, a2, c2, hv2, ho2⟩
        subst hv2
        have hs2 := hQ2.chg.size
        have HQ2 := hidden hQ2
        have HO2 := hidden ho2
        clear hQ2 ho2 cf
        have HD : Hid (It w2.drew p K t.labs.2) := hidden (HQ2.out.it.chg (Chg.drew (fun _ => False) w2) (fun e => e) (fun e => e))
        have cgA := ((Chg.drew (fun _ => False) w2).blk (HQ2.out.chg.blk HBG.out (fun e => hgp e)) (fun e => e)).cell 3
        simp only [List.getElem?_cons_succ, List.getElem?_cons_zero] at cgA
        go_wp2_with fail
        go_region_law (first
          | (refine step_go (by rfl) 79 #[.pointer (some ⟨p, 0, none⟩)] (by simp [execOp, resolve, Act.eval, go_sem]) _ (numberI p K t.labs.2 _ HD.out) ?_
             rintro v4 w4 ⟨hQ4, rfl⟩
             have hCZ := (HQ2.out.chg.trans (Chg.drew (fpr p) w2) (fun i _ hi => hi)).trans hQ4.chg (fun i _ hi => hi)
             have HIZ : Hid (It w4 p K (Ri.rowN t)) := hidden hQ4.it
             have HBZ : Hid (Blk w4 g 57 [.int .i64 er, .int .i64 2, .slice none 0 0, .slice ad xs.length c, .int .i64 0, .slice none 0 0]) := hidden (hCZ.blk HBG.out (fun e => hgp e))
             have HOWZ := hidden (hCZ.owns HOW.out (fun j hj e => by have h1 := (HOW.out.lt j hj).1; unfold fpr at e; omega))
             have HSRZ : Hid (∀ x ∈ xs, RwO w.heap.size x w4) := hidden (fun x hx => (HSR.out x hx).chg hCZ (fpr_ty HIT.out))
             have HCZ : Hid (Chg (fun i => i = p ∨ i = g) w w4) := hidden (HCC.out.trans hCZ (fun j hj e => .inl e))
             have hsz := hCZ.size
             have cg := HBZ.out.cell 3
             simp at cg
             have fg := HBZ.out.frozen 3
             have HSXZ : Hid (RwO w.heap.size ⟨a2, t.labs.1.length, c2, t.labs.1, (Q.dec t.labs.2.b).1⟩ w4) := hidden (by
               refine ⟨rfl, by have := (Q.dec_bound t.labs.2.b HQ2.out.it.byte.1).1; show (Q.dec t.labs.2.b).1 ≤ _; omega, ?_⟩
               have hh := ((Chg.drew (fpr p) w2).trans hQ4.chg (fun i _ hi => hi)).owns HO2.out (fun g hg e => by have h1 := (HO2.out.lt g hg).1; unfold fpr at e; omega)
               exact owns_base hh (fun g hg => by have := (hh.lt g hg).1; omega))
             have HX : Hid (Ri.row t = prR ⟨a2, t.labs.1.length, c2, t.labs.1, (Q.dec t.labs.2.b).1⟩) := hidden rfl
             rw [HX.out] at HT2
             clear hQ4 hCZ HX cgA
             generalize (Q.dec t.labs.2.b).1 = m4 at *
             generalize t.labs.1 = L1 at *
             have cgB := (HBZ.out.later ((Below.refl _ _).alloc (Nat.le_refl _) (.cells #[.slice a2 L1.length c2, .int .u64 (m4 : Int)] 59))).cell 3
             simp only [List.getElem?_cons_succ, List.getElem?_cons_zero] at cgB)
          | (refine step_pushN _ (by rfl) (.tmp 74) (.tmp 79) 54 (by rfl) 59 i0 z0 2 32 Tryz.underlying54 hi0 hz0 hz1 hz2 hz3 (by decide) w.heap.size (.slice ad xs.length c) xs.length (xs.flatMap Ror.cells) (by rfl) (by exact (HOWZ.out.alloc _)) ⟨w4.heap.size, 0, none⟩ [.slice a2 L1.length c2, .int .u64 (m4 : Int)] (by rfl) (by rfl) (by intro j u hu; have h9 := (Blk.new w4 59 [.slice a2 L1.length c2, .int .u64 (m4 : Int)]).cell (0 + j); rw [Addr.add_lit, h9, Nat.zero_add]; exact hu) (by intro u hu; simp at hu; rcases hu with rfl | rfl <;> rfl) (by unfold maxLen; omega) (by omega) (by simp; omega) ?_
             intro g' c' w' ho' hp'
             have HO' := hidden ho'
             have HP' := hidden hp'
             clear ho' hp'
             have hw2 : Chg (fun i_1 => Value.ownBlock (.slice ad xs.length c) = some i_1) w4 w' := HP'.out.chg.1
             have hfp : ∀ j, Value.ownBlock (.slice ad xs.length c) = some j → w.heap.size ≤ j := fun j hj => (HOWZ.out.lt j hj).1
             have HW2 := hidden hw2
             have hBg5 : Blk w' g 57 [.int .i64 er, .int .i64 2, .slice none 0 0, .slice ad xs.length c, .int .i64 0, .slice none 0 0] := hw2.blk HBZ.out (fun e => by have := hfp g e; omega)
             have d2 := hBg5.cell 3
             simp at d2
             have e2 := hBg5.frozen 3
             have HB5 := hidden (hBg5.set 3 (.slice (some ⟨g', 0, none⟩) (xs.length + 1) c'))
             clear hBg5
             have HTY5 : Hid (¬ Ty w' g 47 ∧ ¬ Ty w' g 50) := hidden (notty (ty_blk (HW2.out.blk HBZ.out (fun e => by have := hfp g e; omega))) (by decide) (by decide))
             clear hw2 hfp))
        all_goals
          have hI2 : Hid (AnIR w p K g N er R n (w'.setCell ⟨g, 3, none⟩ (.slice (some ⟨g', 0, none⟩) (xs.length + 1) c'))) := by
            have hS5 : Chg (fun i => i = g) w' (w'.setCell ⟨g, 3, none⟩ (.slice (some ⟨g', 0, none⟩) (xs.length + 1) c')) := (Chg.set ⟨g, 3, none⟩ _ w').mono (fun i _ hi => hi)
            have hfp : ∀ j, Value.ownBlock (.slice ad xs.length c) = some j → w.heap.size ≤ j := fun j hj => (HOWZ.out.lt j hj).1
            have hty : ∀ j, Value.ownBlock (.slice ad xs.length c) = some j → ¬ Ty w4 j 47 ∧ ¬ Ty w4 j 50 := fun j hj => notty (ty_owns HOWZ.out hj) (by decide) (by decide)
            have hty5 : ∀ j, j = g → ¬ Ty w' j 47 ∧ ¬ Ty w' j 50 := fun j hj => by subst hj; exact HTY5.out
            have hg' : w.heap.size ≤ g' := (HO'.out.lt g' rfl).1
            refine hidden ⟨xs ++ [⟨a2, L1.length, c2, L1, m4⟩], Ri.rowN t, some ⟨g', 0, none⟩, c', by rw [List.length_append]; simp; omega, ?_, ?_, fun x hx => ?_, (HIZ.out.chg HW2.out (fun e => by have := hfp p e; omega) (fun e => by have := hfp K e; omega)).chg hS5 (fun e => hgp e.symm) (fun e => hgK e.symm), (HCZ.out.trans HW2.out (fun j hj e => absurd (hfp j e) (by omega))).trans hS5 (fun j hj e => .inr e), ?_⟩
            · rw [List.length_append]
              exact HB5.out
            · rw [List.length_append, List.flatMap_append]
              exact hS5.owns (by simpa [Ror.cells] using HO'.out) (fun j hj e => by
                have hj2 : g' = j := by simpa [Value.ownBlock] using hj
                omega)
            · rcases List.mem_append.1 hx with hx | hx
              · exact ((HSRZ.out x hx).chg HW2.out hty).chg hS5 hty5
              · rw [List.mem_singleton] at hx
                subst hx
                exact (HSXZ.out.chg HW2.out hty).chg hS5 hty5
            · rw [HT2.out, List.map_append]
              try rfl
          clear HO' HP'
          go_wp2_with fail
          refine ⟨⟨n, by first | rfl | simp, by omega, hI2⟩, ?_⟩
          simp [intOf]
end Go.Proofs.YtalmpmhnkilalaaGreatDoor

/-
  The document's reader in memory: a response's kinds. By gendyh21.py.
-/
namespace Go.Proofs.YtalmpmhnkilalaaGreatDoor
open Go.RowKit
set_option linter.unusedVariables false
set_option linter.unusedSimpArgs false


/-- What a round of it holds. -/
def AnIT (w : World) (p K g N : Nat) (er : Int) (R : List ByteArray × Ri) (n : Nat) (wx : World) : Prop :=
  ∃ (xs : List ByteArray) (t : Ri) (ad : Option Addr) (c : Nat), xs.length + n = N ∧ Blk wx g 57 [.int .i64 er, .int .i64 4, .slice none 0 0, .slice none 0 0, .int .i64 0, .slice ad xs.length c] ∧ wx.ownsRow w.heap.size 9 1 (.slice ad xs.length c) xs.length (xs.flatMap teC) ∧ (∀ x ∈ xs, TeV w.heap.size x wx) ∧ It wx p K t ∧ Chg (fun i => i = p ∨ i = g) w wx ∧ R = Ri.rep Ri.tx Ri.txN n t (xs)
theorem AnIT.done {w wx : World} {p K g : Nat} {er : Int} {xs : List ByteArray} {t : Ri} {ad : Option Addr} {c : Nat} {R : List ByteArray × Ri} (hB : Blk wx g 57 [.int .i64 er, .int .i64 4, .slice none 0 0, .slice none 0 0, .int .i64 0, .slice ad xs.length c]) (ho : wx.ownsRow w.heap.size 9 1 (.slice ad xs.length c) xs.length (xs.flatMap teC)) (hv : ∀ x ∈ xs, TeV w.heap.size x wx) (hi : It wx p K t) (hc : Chg (fun i => i = p ∨ i = g) w wx) (hR : R = (xs, t)) :
    AnP w p K g er 4 (fun j => if j = 3 then .ts R.1 else zA j) R.2 (.returned (.tuple #[])) wx := by
  subst hR
  refine ⟨rfl, fun j => if j = 3 then .ts ad c xs else zM (kdA j), hi, hB, fun j hj => ?_, hc⟩
  by_cases h0 : j = 3
  · subst h0
    exact ⟨rfl, ho⟩
  · simp only [if_neg h0]
    exact ⟨zM_fv _, zM_fo _ _ _ _⟩
set_option maxRecDepth 8000 in
set_option maxHeartbeats 4000000 in
theorem answerT (p K g : Nat) (s : Ri) (er : Int) (w : World) (h : It w p K s) (hg : Blk w g 57 [.int .i64 er, .int .i64 4, .slice none 0 0, .slice none 0 0, .int .i64 0, .slice none 0 0]) (hgp : g ≠ p) (hgK : g ≠ K) :
    Calls Tryz.prog 49 #[.pointer (some ⟨p, 0, none⟩), .pointer (some ⟨g, 0, none⟩)] w (AnP w p K g er 4 (fun j => if j = 3 then .ts s.txs.1 else zA j) s.txs.2) := by
  obtain ⟨i0, z0, hi0, hz0, hz1, hz2, hz3⟩ := info_z infoT
  have hlen := h.byte.2
  have HN := hidden (countI p K s s.b.length w h (by omega))
  have hNm := many_le s.b.length s
  have hN : (if (s.cnt s.b.length).ok then ((Q.dec s.b).1 : Int) else 0) = (s.many s.b.length : Nat) := by unfold Ri.many; split <;> rfl
  rw [hN] at HN
  clear hN
  have c0 : ∃ ad c, w.cell? ⟨p, 0, none⟩ = some (.slice ad s.b.length c) := by
    obtain ⟨_, _, ad, n, c, hB⟩ := h
    refine ⟨ad, c, ?_⟩
    have := hB.blk.cell 0
    rw [hB.sl.len]
    simpa using this
  obtain ⟨ad0, cc0, c0⟩ := c0
  have hpw := h.lt
  have hkw := h.klt
  have hgw := hg.lt
  have ck := hg.cell 1
  simp at ck
  have HG := hidden hg
  clear h hg
  obtain ⟨R, hR⟩ : ∃ R, R = s.txs := ⟨_, rfl⟩
  rw [← hR]
  unfold Ri.txs at hR
  generalize s.many s.b.length = N at *
  generalize s.cnt s.b.length = s0 at *
  generalize s.b.length = kl at *
  have HRR := hidden hR
  clear hR
  go_enter Tryz.func49, Tryz.ntmps49
  go_wp2_with fail
  refine HN.out.mono ?_
  rintro e w1 ⟨v, rfl, hQ, rfl⟩
  have H1 : Hid (AnIT w p K g N er R N w1) :=
    hidden ⟨[], s0, none, 0, by simp, hQ.chg.blk HG.out (fun e => hgp e), World.ownsRow_nil _ _ _ _, fun x hx => (by cases hx), hQ.it, hQ.chg.mono (fun i _ hi => .inl hi), HRR.out⟩
  clear hQ
  go_wp2_with fail
  go_loopw [9] (fun vn wx => ∃ n : Nat, vn = .int .i64 (n : Int) ∧ n ≤ N ∧ Hid (AnIT w p K g N er R n wx)) (fun vn _ => (intOf vn).toNat)
  case atStart => exact ⟨N, rfl, by omega, H1⟩
  case round =>
    obtain ⟨n, rfl, hn, hI⟩ := hrel
    obtain ⟨xs, t, ad, c, hxn, hBg, hown, hSr, hIt, hC, hT⟩ := hI.out
    have cf := hIt.flag
    have HBG := hidden hBg
    have HOW := hidden hown
    have HSR := hidden hSr
    have HIT := hidden hIt
    have HCC := hidden hC
    have HT := hidden hT
    have hsw := hC.size
    clear hI H1 hown hSr hIt hC hT hBg
    cases n with
    | zero =>
      go_wp2_with fail
      go_end0
      exact AnIT.done HBG.out HOW.out HSR.out HIT.out HCC.out HT.out
    | succ n =>
      have hn0 : ((n + 1 : Nat) : Int) > 0 := by omega
      obtain ⟨y, hy⟩ : ∃ y, t.ok = y := ⟨_, rfl⟩
      rw [hy] at cf
      cases y with
      | false =>
        go_wp2_with fail
        go_end0
        exact AnIT.done HBG.out HOW.out HSR.out HIT.out HCC.out (HT.out.trans (Ri.rep_no _ hy _))
      | true =>
        have HT2 := hidden (HT.out.trans (Ri.rep_yes _ hy _))
        clear HT hy
        have HD : Hid (It wr.drew p K t) := hidden (HIT.out.chg (Chg.drew (fun _ => False) wr) (fun e => e) (fun e => e))
        have cgA := ((Chg.drew (fun _ => False) wr).blk HBG.out (fun e => e)).cell 5
        simp only [List.getElem?_cons_succ, List.getElem?_cons_zero] at cgA
        go_wp2_with fail
        go_region_law (first
          | (refine step_go (by rfl) 37 #[.pointer (some ⟨p, 0, none⟩), .int .i64 64] (by simp [execOp, resolve, Act.eval, go_sem]) _ (textI p K t 64 _ HD.out (by omega)) ?_
             rintro v4 w4 ⟨hQ4, rfl⟩
             have hCZ := (Chg.drew (fpr p) wr).trans hQ4.chg (fun i _ hi => hi)
             have HIZ : Hid (It w4 p K (Ri.txN t)) := hidden hQ4.it
             have HBZ : Hid (Blk w4 g 57 [.int .i64 er, .int .i64 4, .slice none 0 0, .slice none 0 0, .int .i64 0, .slice ad xs.length c]) := hidden (hCZ.blk HBG.out (fun e => hgp e))
             have HOWZ := hidden (hCZ.owns HOW.out (fun j hj e => by have h1 := (HOW.out.lt j hj).1; unfold fpr at e; omega))
             have HSRZ : Hid (∀ x ∈ xs, TeV w.heap.size x w4) := hidden (fun x hx => (HSR.out x hx).chg hCZ (fpr_ty HIT.out))
             have HCZ : Hid (Chg (fun i => i = p ∨ i = g) w w4) := hidden (HCC.out.trans hCZ (fun j hj e => .inl e))
             have hsz := hCZ.size
             have cg := HBZ.out.cell 5
             simp at cg
             have fg := HBZ.out.frozen 5
             have HX : Hid (Ri.tx t = strOfNums (txL t.b 64)) := hidden rfl
             rw [HX.out] at HT2
             clear hQ4 hCZ HX cgA
             generalize strOfNums (txL t.b 64) = d4 at *
             have HSXZ : Hid (TeV w.heap.size d4 w4) := hidden trivial
             have cgB := (HBZ.out.later ((Below.refl _ _).alloc (Nat.le_refl _) (.cells #[.string d4] 9))).cell 5
             simp only [List.getElem?_cons_succ, List.getElem?_cons_zero] at cgB)
          | (refine step_pushN _ (by rfl) (.tmp 113) (.tmp 116) 55 (by rfl) 9 i0 z0 1 16 Tryz.underlying55 hi0 hz0 hz1 hz2 hz3 (by decide) w.heap.size (.slice ad xs.length c) xs.length (xs.flatMap teC) (by rfl) (by exact (HOWZ.out.alloc _)) ⟨w4.heap.size, 0, none⟩ [.string d4] (by rfl) (by rfl) (by intro j u hu; have h9 := (Blk.new w4 9 [.string d4]).cell (0 + j); rw [Addr.add_lit, h9, Nat.zero_add]; exact hu) (by intro u hu; simp at hu; subst hu; rfl) (by unfold maxLen; omega) (by omega) (by simp; omega) ?_
             intro g' c' w' ho' hp'
             have HO' := hidden ho'
             have HP' := hidden hp'
             clear ho' hp'
             have hw2 : Chg (fun i_1 => Value.ownBlock (.slice ad xs.length c) = some i_1) w4 w' := HP'.out.chg.1
             have hfp : ∀ j, Value.ownBlock (.slice ad xs.length c) = some j → w.heap.size ≤ j := fun j hj => (HOWZ.out.lt j hj).1
             have HW2 := hidden hw2
             have hBg5 : Blk w' g 57 [.int .i64 er, .int .i64 4, .slice none 0 0, .slice none 0 0, .int .i64 0, .slice ad xs.length c] := hw2.blk HBZ.out (fun e => by have := hfp g e; omega)
             have d2 := hBg5.cell 5
             simp at d2
             have e2 := hBg5.frozen 5
             have HB5 := hidden (hBg5.set 5 (.slice (some ⟨g', 0, none⟩) (xs.length + 1) c'))
             clear hBg5
             have HTY5 : Hid (¬ Ty w' g 47 ∧ ¬ Ty w' g 50) := hidden (notty (ty_blk (HW2.out.blk HBZ.out (fun e => by have := hfp g e; omega))) (by decide) (by decide))
             clear hw2 hfp))
        all_goals
          have hI2 : Hid (AnIT w p K g N er R n (w'.setCell ⟨g, 5, none⟩ (.slice (some ⟨g', 0, none⟩) (xs.length + 1) c'))) := by
            have hS5 : Chg (fun i => i = g) w' (w'.setCell ⟨g, 5, none⟩ (.slice (some ⟨g', 0, none⟩) (xs.length + 1) c')) := (Chg.set ⟨g, 5, none⟩ _ w').mono (fun i _ hi => hi)
            have hfp : ∀ j, Value.ownBlock (.slice ad xs.length c) = some j → w.heap.size ≤ j := fun j hj => (HOWZ.out.lt j hj).1
            have hty : ∀ j, Value.ownBlock (.slice ad xs.length c) = some j → ¬ Ty w4 j 47 ∧ ¬ Ty w4 j 50 := fun j hj => notty (ty_owns HOWZ.out hj) (by decide) (by decide)
            have hty5 : ∀ j, j = g → ¬ Ty w' j 47 ∧ ¬ Ty w' j 50 := fun j hj => by subst hj; exact HTY5.out
            have hg' : w.heap.size ≤ g' := (HO'.out.lt g' rfl).1
            refine hidden ⟨xs ++ [d4], Ri.txN t, some ⟨g', 0, none⟩, c', by rw [List.length_append]; simp; omega, ?_, ?_, fun x hx => ?_, (HIZ.out.chg HW2.out (fun e => by have := hfp p e; omega) (fun e => by have := hfp K e; omega)).chg hS5 (fun e => hgp e.symm) (fun e => hgK e.symm), (HCZ.out.trans HW2.out (fun j hj e => absurd (hfp j e) (by omega))).trans hS5 (fun j hj e => .inr e), ?_⟩
            · rw [List.length_append]
              exact HB5.out
            · rw [List.length_append, List.flatMap_append]
              exact hS5.owns (by simpa [teC] using HO'.out) (fun j hj e => by
                have hj2 : g' = j := by simpa [Value.ownBlock] using hj
                omega)
            · rcases List.mem_append.1 hx with hx | hx
              · exact ((HSRZ.out x hx).chg HW2.out hty).chg hS5 hty5
              · rw [List.mem_singleton] at hx
                subst hx
                exact (HSXZ.out.chg HW2.out hty).chg hS5 hty5
            · rw [HT2.out]
              try rfl
          clear HO' HP'
          go_wp2_with fail
          refine ⟨⟨n, by first | rfl | simp, by omega, hI2⟩, ?_⟩
          simp [intOf]
end Go.Proofs.YtalmpmhnkilalaaGreatDoor

/-
  The document's reader in memory: answer, whichever kind it is.
-/
namespace Go.Proofs.YtalmpmhnkilalaaGreatDoor
open Go.RowKit
set_option linter.unusedVariables false
set_option linter.unusedSimpArgs false

def Ri.nuV (s : Ri) : Int := if (s.cnt 9223372036854775807).ok then ((Q.dec s.b).1 : Int) else 0
/-- What a response's fields hold, and what is left. -/
def Ri.ans (k : Int) (s : Ri) : (Nat → FV) × Ri :=
  if k = 1 then (fun j => if j = 0 then .se s.sers.1 else zA j, s.sers.2)
  else if k = 2 then (fun j => if j = 1 then .ro s.rws.1 else zA j, s.rws.2)
  else if k = 3 then (fun j => if j = 2 then .nu s.nuV else zA j, s.cnt 9223372036854775807)
  else if k = 4 then (fun j => if j = 3 then .ts s.txs.1 else zA j, s.txs.2)
  else (zA, s)
set_option maxRecDepth 8000 in
set_option maxHeartbeats 4000000 in
theorem answerN (p K g : Nat) (s : Ri) (er : Int) (w : World) (h : It w p K s) (hg : Blk w g 57 [.int .i64 er, .int .i64 3, .slice none 0 0, .slice none 0 0, .int .i64 0, .slice none 0 0]) (hgp : g ≠ p) (hgK : g ≠ K) :
    Calls Tryz.prog 49 #[.pointer (some ⟨p, 0, none⟩), .pointer (some ⟨g, 0, none⟩)] w (AnP w p K g er 3 (fun j => if j = 2 then .nu s.nuV else zA j) (s.cnt 9223372036854775807)) := by
  have HN := hidden (countI p K s 9223372036854775807 w h (by omega))
  have hbd := (Q.dec_bound s.b h.byte.1).1
  have hnu : (if (s.cnt 9223372036854775807).ok then ((Q.dec s.b).1 : Int) else 0) = s.nuV := rfl
  have h64 : I64n s.nuV := by
    unfold Ri.nuV Ri.cnt I64n
    split
    · rename_i hh
      simp at hh
      omega
    · omega
  rw [hnu] at HN
  have ck := hg.cell 1
  simp at ck
  have hgw := hg.lt
  have HG := hidden hg
  clear h hg hbd hnu
  generalize s.cnt 9223372036854775807 = s0 at *
  generalize s.nuV = v0 at *
  go_enter Tryz.func49, Tryz.ntmps49
  go_wp2_with fail
  refine HN.out.mono ?_
  rintro e w1 ⟨v, rfl, hQ, rfl⟩
  have hB1 := hQ.chg.blk HG.out (fun e => hgp e)
  have c4 := hB1.cell 4
  simp at c4
  have f4 := hB1.frozen 4
  have HB2 := hidden (hB1.set 4 (.int .i64 v0))
  have HQ := hidden hQ
  clear hQ hB1
  go_wp2_with fail
  go_end0
  have hS5 : Chg (fun i => i = g) w1 (w1.setCell ⟨g, 4, none⟩ (.int .i64 v0)) := (Chg.set ⟨g, 4, none⟩ _ w1).mono (fun i _ hi => hi)
  refine ⟨rfl, fun j => if j = 2 then .nu v0 else zM (kdA j), HQ.out.it.chg hS5 (fun e => hgp e.symm) (fun e => hgK e.symm), HB2.out, fun j hj => ?_, (HQ.out.chg.mono (fun i _ hi => .inl hi)).trans hS5 (fun i _ hi => .inr hi)⟩
  by_cases h0 : j = 2
  · subst h0
    exact ⟨rfl, h64⟩
  · simp only [if_neg h0]
    exact ⟨zM_fv _, zM_fo _ _ _ _⟩
set_option maxRecDepth 8000 in
set_option maxHeartbeats 4000000 in
theorem answerO (p K g : Nat) (s : Ri) (er k : Int) (w : World) (h : It w p K s) (hg : Blk w g 57 [.int .i64 er, .int .i64 k, .slice none 0 0, .slice none 0 0, .int .i64 0, .slice none 0 0]) (h1 : ¬ k = 1) (h2 : ¬ k = 2) (h3 : ¬ k = 3) (h4 : ¬ k = 4) :
    Calls Tryz.prog 49 #[.pointer (some ⟨p, 0, none⟩), .pointer (some ⟨g, 0, none⟩)] w (AnP w p K g er k zA s) := by
  have ck := hg.cell 1
  simp at ck
  have HG := hidden hg
  have HI := hidden h
  clear h hg
  go_enter Tryz.func49, Tryz.ntmps49
  go_wp2_with fail
  go_end0
  exact ⟨rfl, fun j => zM (kdA j), HI.out, HG.out, fun j hj => ⟨zM_fv _, zM_fo _ _ _ _⟩, Chg.refl _ _⟩
theorem answerI (p K g : Nat) (s : Ri) (er k : Int) (w : World) (h : It w p K s) (hg : Blk w g 57 [.int .i64 er, .int .i64 k, .slice none 0 0, .slice none 0 0, .int .i64 0, .slice none 0 0]) (hgp : g ≠ p) (hgK : g ≠ K) :
    Calls Tryz.prog 49 #[.pointer (some ⟨p, 0, none⟩), .pointer (some ⟨g, 0, none⟩)] w (AnP w p K g er k (s.ans k).1 (s.ans k).2) := by
  by_cases h1 : k = 1
  · subst h1
    exact answerS p K g s er w h hg hgp hgK
  by_cases h2 : k = 2
  · subst h2
    exact answerR p K g s er w h hg hgp hgK
  by_cases h3 : k = 3
  · subst h3
    exact answerN p K g s er w h hg hgp hgK
  by_cases h4 : k = 4
  · subst h4
    exact answerT p K g s er w h hg hgp hgK
  have e : s.ans k = (zA, s) := by
    unfold Ri.ans
    rw [if_neg h1, if_neg h2, if_neg h3, if_neg h4]
  rw [e]
  exact answerO p K g s er k w h hg h1 h2 h3 h4
end Go.Proofs.YtalmpmhnkilalaaGreatDoor
