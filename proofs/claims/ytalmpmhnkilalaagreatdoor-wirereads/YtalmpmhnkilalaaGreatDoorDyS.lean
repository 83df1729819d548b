/-
  The document's Decode, purely, against the code's.
-/
import Derived.Test.YtalmpmhnkilalaaGreatDoorDyO
namespace Go.Proofs.YtalmpmhnkilalaaGreatDoor
open Go.RowKit
set_option linter.unusedVariables false
set_option linter.unusedSimpArgs false

theorem P_one {s : Ri} (h : s.P) : s.one.2.P := by
  obtain ⟨b, ok⟩ := s
  cases ok with
  | false => rw [one_no]; exact h
  | true =>
    cases b with
    | nil => exact h
    | cons x t => exact ⟨fun y hy => h.1 y (by simp; exact .inr hy), by have := h.2; simp at this; show t.length ≤ _; omega⟩
theorem P_opN {s : Ri} (h : s.P) : s.opN.P := ⟨(P_one h).1, (P_one h).2⟩
theorem P_matN {s : Ri} (h : s.P) : s.matN.P := P_txt (P_opN (P_txt h 64)) 64
theorem opN_no {s : Ri} (h : s.ok = false) : s.opN.ok = false := by
  obtain ⟨b, ok⟩ := s
  have h : ok = false := h
  subst h
  unfold Ri.opN
  rw [one_no]
  rfl
theorem rIf_at {α : Type} (P : α → Bool) (r : Rdr α) (b : List Int) : rIf P r b = (r b).bind (fun q => if P q.1 then some q else none) := rfl
theorem agr_op {s : Ri} (h : s.P) (ho : s.ok = true) : Agr (rIf isOpB rOct) s.b s.one.1 s.opN := by
  obtain ⟨b, ok⟩ := s
  have ho : ok = true := ho
  subst ho
  unfold Agr
  rw [rIf_at]
  cases b with
  | nil => exact ⟨fun e => (by cases e), fun _ => rfl⟩
  | cons x t =>
    show ((true && decide (1 ≤ x) && decide (x ≤ 4)) = true → (if isOpB x then some (x, t) else none) = some (x, t)) ∧ ((true && decide (1 ≤ x) && decide (x ≤ 4)) = false → (if isOpB x then some (x, t) else none) = none)
    have e : isOpB x = (decide (1 ≤ x) && decide (x ≤ 4)) := by unfold isOpB; first | rfl | simp | (by_cases h1 : 1 ≤ x <;> by_cases h2 : x ≤ 4 <;> simp [h1, h2] <;> omega)
    rw [e, Bool.true_and]
    constructor
    · intro h1
      rw [if_pos h1]
    · intro h1
      rw [if_neg (by rw [h1]; simp)]
theorem agr_mat {s : Ri} (h : s.P) (ho : s.ok = true) : Agr rMat s.b s.mat s.matN :=
  agr_map (fun p : (ByteArray × Int) × ByteArray => Ma.mk p.1.1 p.1.2 p.2) (agr_pair (agr_pair (agr_txt h ho 64) (fun h2 => agr_op (P_txt h 64) h2) (fun h2 => opN_no h2)) (fun h2 => agr_txt (P_opN (P_txt h 64)) h2 64) (fun h2 => txt_no 64 h2))
theorem agr_mats {s : Ri} (h : s.P) (ho : s.ok = true) : Agr rMats s.b s.mats.1 s.mats.2 :=
  agr_each (fun s h => P_matN h) (fun s h ho => agr_mat h ho) 8 8 h ho (.inl rfl)
theorem agr_time {s : Ri} (h : s.P) (ho : s.ok = true) : Agr rTime s.b (Q.unfold' (Q.dec s.b).1) s.num := by
  unfold Agr Ri.num rTime
  simp only [ho, Bool.true_and, decide_eq_true_eq, decide_eq_false_iff_not]
  constructor
  · intro h0
    rw [if_pos (by omega)]
  · intro h0
    rw [if_neg (by omega)]
def sumS (l : List Se) : Nat := (l.map (fun x => x.2.length)).sum
def fineS (all : Nat) (l : List Se) : Prop := (∀ x ∈ l, x.2.length ≠ 0) ∧ all + sumS l ≤ 256
theorem fine_cons {all : Nat} {x : Se} {l : List Se} : fineS all (x :: l) ↔ x.2.length ≠ 0 ∧ fineS (all + x.2.length) l := by
  unfold fineS sumS
  simp only [List.mem_cons, forall_eq_or_imp, List.map_cons, List.sum_cons]
  constructor
  · rintro ⟨⟨h1, h2⟩, h3⟩
    exact ⟨h1, h2, by omega⟩
  · rintro ⟨h1, h2, h3⟩
    exact ⟨⟨h1, h2⟩, by omega⟩
theorem rRep_at {α : Type} (r : Rdr α) (n : Nat) (b : List Int) : rRep r (n + 1) b = (r b).bind (fun q => (rRep r n q.2).map (fun p => (q.1 :: p.1, p.2))) := rfl
theorem agr_wrep : ∀ (n all : Nat) (s : Ri) (acc : List Se), s.P → s.ok = true → all ≤ 256 →
    ((Ri.wrep n all s acc).2.ok = true → ∃ l, (Ri.wrep n all s acc).1 = acc ++ l ∧ rRep rSer n s.b = some (l, (Ri.wrep n all s acc).2.b) ∧ fineS all l) ∧
    ((Ri.wrep n all s acc).2.ok = false → ∀ l r, rRep rSer n s.b = some (l, r) → ¬ fineS all l)
  | 0, all, s, acc, h, ho, ha => by
    refine ⟨fun _ => ⟨[], by simp [Ri.wrep], rfl, by simp, by simp [sumS]; exact ha⟩, fun e => ?_⟩
    have e : s.ok = false := e
    rw [ho] at e
    cases e
  | n + 1, all, s, acc, h, ho, ha => by
    rw [Ri.wrep_yes n all ho acc]
    have hs := agr_ser h ho
    rw [rRep_at]
    cases hn : s.serN.ok with
    | false =>
      have e0 : (false && decide (0 < s.ser.2.length) && decide (all + s.ser.2.length ≤ 256)) = false := by simp
      rw [e0, Ri.wrep_no _ _ rfl]
      refine ⟨fun e => (by cases e), fun _ l r hr => ?_⟩
      rw [hs.2 hn] at hr
      cases hr
    | true =>
      rw [hs.1 hn]
      show (_ → ∃ l, _ ∧ (rRep rSer n s.serN.b).map _ = _ ∧ _) ∧ (_ → ∀ l r, (rRep rSer n s.serN.b).map _ = _ → _)
      by_cases hg : 0 < s.ser.2.length ∧ all + s.ser.2.length ≤ 256
      · have e0 : (true && decide (0 < s.ser.2.length) && decide (all + s.ser.2.length ≤ 256)) = true := by simp [hg.1, hg.2]
        rw [e0]
        obtain ⟨i1, i2⟩ := agr_wrep n (all + s.ser.2.length) ⟨s.serN.b, true⟩ (acc ++ [s.ser]) ⟨(P_serN h).1, (P_serN h).2⟩ rfl hg.2
        refine ⟨fun e => ?_, fun e l r hr => ?_⟩
        · obtain ⟨l, h1, h2, h3⟩ := i1 e
          refine ⟨s.ser :: l, by rw [h1]; simp, ?_, fine_cons.2 ⟨by omega, h3⟩⟩
          have h2 : rRep rSer n s.serN.b = _ := h2
          rw [h2]
          rfl
        · cases hq : rRep rSer n s.serN.b with
          | none => rw [hq] at hr; cases hr
          | some q =>
            obtain ⟨l2, r2⟩ := q
            rw [hq] at hr
            simp at hr
            obtain ⟨rfl, rfl⟩ := hr
            intro hf
            exact i2 e l2 r2 hq (fine_cons.1 hf).2
      · have e0 : (true && decide (0 < s.ser.2.length) && decide (all + s.ser.2.length ≤ 256)) = false := by
          by_cases h1 : 0 < s.ser.2.length
          · have h2 : ¬ all + s.ser.2.length ≤ 256 := fun h2 => hg ⟨h1, h2⟩
            simp [h2]
          · have h1 : s.ser.2.length = 0 := by omega
            simp [h1]
        rw [e0, Ri.wrep_no _ _ rfl]
        refine ⟨fun e => (by cases e), fun _ l r hr => ?_⟩
        cases hq : rRep rSer n s.serN.b with
        | none => rw [hq] at hr; cases hr
        | some q =>
          obtain ⟨l2, r2⟩ := q
          rw [hq] at hr
          simp at hr
          obtain ⟨rfl, rfl⟩ := hr
          intro hf
          have h1 := fine_cons.1 hf
          have h2 := h1.2.2
          exact hg ⟨by have := h1.1; omega, by omega⟩
theorem rRep_len {α : Type} {r : Rdr α} : ∀ (n : Nat) (b : List Int) (l : List α) (t : List Int), rRep r n b = some (l, t) → l.length = n
  | 0, b, l, t, h => by
    simp [rRep] at h
    obtain ⟨h1, _⟩ := h
    subst h1
    rfl
  | n + 1, b, l, t, h => by
    rw [rRep_at] at h
    cases ho : r b with
    | none => rw [ho] at h; cases h
    | some q =>
      rw [ho] at h
      have h : (rRep r n q.2).map (fun p => (q.1 :: p.1, p.2)) = some (l, t) := h
      cases hq : rRep r n q.2 with
      | none => rw [hq] at h; cases h
      | some z =>
        rw [hq] at h
        simp at h
        rw [← h.1]
        simp [rRep_len n q.2 z.1 z.2 (by rw [hq])]
theorem areS_iff (l : List Se) : areS l = true ↔ fineS 0 l ∧ 1 ≤ l.length ∧ l.length ≤ 64 := by
  unfold areS fineS sumS
  simp only [Bool.and_eq_true, List.all_eq_true, decide_eq_true_eq]
  constructor
  · rintro ⟨h1, h2, h3, h4⟩
    exact ⟨⟨h1, by omega⟩, h2, h3⟩
  · rintro ⟨⟨h1, h4⟩, h2, h3⟩
    exact ⟨h1, h2, h3, by omega⟩
theorem agr_wrs {s : Ri} (h : s.P) (ho : s.ok = true) : Agr rWrs s.b s.wrs.1 s.wrs.2 := by
  have hd := Q.dec_bound s.b h.1
  have hc := agr_cnt h ho 64
  have e1 : rWrs s.b = (rNum U64 s.b).bind (fun q => (rRep rSer q.1 q.2).bind (fun p => if areS p.1 then some p else none)) := by
    show ((rNum U64 s.b).bind _).bind _ = _
    cases rNum U64 s.b <;> rfl
  unfold Agr
  rw [e1]
  have bad : ∀ (n : Nat) (b : List Int), (∀ l r, rRep rSer n b = some (l, r) → ¬ areS l = true) → (rRep rSer n b).bind (fun p => if areS p.1 then some p else none) = none := by
    intro n b hh
    cases hq : rRep rSer n b with
    | none => rfl
    | some q =>
      show (if areS q.1 then _ else _) = _
      rw [if_neg (hh q.1 q.2 hq)]
  unfold Ri.wrs
  cases hk : (s.cnt 64).ok with
  | false =>
    have hm0 : s.many 64 = 0 := by unfold Ri.many; rw [hk]; rfl
    rw [hm0]
    refine ⟨fun e => (by cases e), fun _ => ?_⟩
    have hk2 : ¬ ((Q.dec s.b).2 ≠ 0 ∧ (Q.dec s.b).1 ≤ 64) := by
      have := hc.2 hk
      unfold rNum at this
      split at this
      · cases this
      · assumption
    unfold rNum
    by_cases h5 : (Q.dec s.b).2 ≠ 0 ∧ (Q.dec s.b).1 ≤ U64
    · rw [if_pos h5]
      refine bad _ _ (fun l r hr hA => ?_)
      have h6 := rRep_len _ _ _ _ hr
      have h7 := (areS_iff l).1 hA
      exact hk2 ⟨h5.1, by omega⟩
    · rw [if_neg h5]
      rfl
  | true =>
    have hmany : s.many 64 = (Q.dec s.b).1 := by unfold Ri.many; rw [hk]; rfl
    have hc1 := hc.1 hk
    have hle : (Q.dec s.b).1 ≤ 64 := by
      unfold rNum at hc1
      split at hc1
      · rename_i h6; exact h6.2
      · cases hc1
    have hc2 : rNum U64 s.b = some ((Q.dec s.b).1, (s.cnt 64).b) := by
      unfold rNum at hc1 ⊢
      split at hc1
      · rename_i h6
        rw [if_pos ⟨h6.1, by unfold U64; omega⟩]
        exact hc1
      · cases hc1
    rw [hc2, hmany]
    show (_ → (rRep rSer (Q.dec s.b).1 (s.cnt 64).b).bind _ = _) ∧ (_ → (rRep rSer (Q.dec s.b).1 (s.cnt 64).b).bind _ = _)
    by_cases hn0 : 0 < (Q.dec s.b).1
    · have e0 : (true && decide (0 < (Q.dec s.b).1)) = true := by simp [hn0]
      rw [e0]
      obtain ⟨i1, i2⟩ := agr_wrep (Q.dec s.b).1 0 ⟨(s.cnt 64).b, true⟩ [] ⟨(P_cnt h 64).1, (P_cnt h 64).2⟩ rfl (by omega)
      refine ⟨fun e => ?_, fun e => ?_⟩
      · obtain ⟨l, h1, h2, h3⟩ := i1 e
        have h2 : rRep rSer (Q.dec s.b).1 (s.cnt 64).b = _ := h2
        have h6 := rRep_len _ _ _ _ h2
        rw [h2, h1]
        show (if areS l then _ else _) = _
        rw [if_pos ((areS_iff l).2 ⟨h3, by omega, by omega⟩)]
        rfl
      · exact bad _ _ (fun l r hr hA => i2 e l r hr ((areS_iff l).1 hA).1)
    · have e0 : (true && decide (0 < (Q.dec s.b).1)) = false := by simp; omega
      rw [e0, Ri.wrep_no _ _ rfl]
      refine ⟨fun e => (by cases e), fun _ => ?_⟩
      refine bad _ _ (fun l r hr hA => ?_)
      have h6 := rRep_len _ _ _ _ hr
      have h7 := ((areS_iff l).1 hA).2.1
      omega
theorem agr_am {s : Ri} (h : s.P) (ho : s.ok = true) : Agr (rdV .am) s.b (.am s.amV) (s.cnt 1099511627775) := by
  have ha := agr_cnt h ho 1099511627775
  rw [show rdV .am = rMap (fun (n : Nat) => FV.am (n : Int)) (rNum 1099511627775) from rfl]
  refine ⟨fun e => ?_, fun e => ?_⟩
  · unfold rMap Ri.amV
    rw [ha.1 e, e]
    rfl
  · unfold rMap
    rw [ha.2 e]
    rfl
theorem agr_fld {s : Ri} (h : s.P) (ho : s.ok = true) (i : Nat) (hi : i < 10) : Agr (rdV (kdQ (i + 2))) s.b (s.fld i).1 (s.fld i).2 := by
  rcases (by omega : i = 0 ∨ i = 1 ∨ i = 2 ∨ i = 3 ∨ i = 4 ∨ i = 5 ∨ i = 6 ∨ i = 7 ∨ i = 8 ∨ i = 9) with rfl | rfl | rfl | rfl | rfl | rfl | rfl | rfl | rfl | rfl
  · have ha := agr_map FV.ws (agr_wrs h ho); exact ha
  · have ha := agr_map FV.ms (agr_mats h ho); exact ha
  · have ha := agr_map FV.tm (agr_time h ho); exact ha
  · have ha := agr_map FV.tm (agr_time h ho); exact ha
  · have ha := agr_map FV.qu (agr_txt h ho 4096); exact ha
  · have ha := agr_map FV.tx (agr_txt h ho 64); exact ha
  · exact agr_am h ho
  · exact agr_am h ho
  · exact agr_am h ho
  · have ha := agr_map FV.tk (agr_lim h ho 64 64 (.inl rfl)); exact ha
theorem P_fld {s : Ri} (h : s.P) (i : Nat) : (s.fld i).2.P := by
  unfold Ri.fld
  split
  · exact (P_wrep (s.many 64) 0 ⟨(s.cnt 64).b, (s.cnt 64).ok && decide (0 < s.many 64)⟩ [] ⟨(P_cnt h 64).1, (P_cnt h 64).2⟩ (by simp)).1
  · exact P_rep (fun s h => P_matN h) _ _ _ (P_cnt h 8)
  · exact P_num h
  · exact P_num h
  · exact P_txt h _
  · exact P_txt h _
  · exact P_cnt h _
  · exact P_cnt h _
  · exact P_cnt h _
  · exact P_txt h _
theorem rFields_at (kd : Nat → Kd) (i : Nat) (r : List Nat) (f : Nat → FV) (b : List Int) : rFields kd (i :: r) f b = (rdV (kd i) b).bind (fun q => rFields kd r (fun j => if j = i then q.1 else f j) q.2) := rfl
theorem agr_flds : ∀ (L : List Nat) (f : Nat → FV) (s : Ri), s.P → s.ok = true → (∀ i ∈ L, i < 10) → Agr (rFields kdQ (L.map (· + 2)) f) s.b (Ri.flds L f s).1 (Ri.flds L f s).2
  | [], f, s, h, ho, _ => ⟨fun _ => rfl, fun e => by have e : s.ok = false := e; rw [ho] at e; cases e⟩
  | i :: r, f, s, h, ho, hL => by
    have ha := agr_fld h ho i (hL i (by simp))
    have e1 : Ri.flds (i :: r) f s = Ri.flds r (updV f (i + 2) (s.fld i).1) (s.fld i).2 := by rw [Ri.flds, if_pos ho]
    rw [e1]
    unfold Agr
    rw [List.map_cons, rFields_at]
    cases hn : (s.fld i).2.ok with
    | false =>
      rw [flds_no _ _ hn, ha.2 hn]
      refine ⟨fun e => ?_, fun _ => rfl⟩
      have e : (s.fld i).2.ok = true := e
      rw [hn] at e
      cases e
    | true =>
      rw [ha.1 hn]
      exact agr_flds r (updV f (i + 2) (s.fld i).1) (s.fld i).2 (P_fld h i) hn (fun j hj => hL j (by simp [hj]))
theorem agr_dec {b : List Int} (h : (Ri.mk b true).P) : Agr rRq b (dqK b, (dqD b).1) (dqD b).2 := by
  unfold dqD dqF dqS2 dqS0 dqK dqL
  cases b with
  | nil => exact ⟨fun e => (by cases e), fun _ => rfl⟩
  | cons x t =>
    have hPt : (Ri.mk t true).P := ⟨fun y hy => h.1 y (by simp; exact .inr hy), by have := h.2; simp at this; show t.length ≤ _; omega⟩
    have e1 : rRq (x :: t) = (match fieldsK x with | some used => (rFields kdQ used zQ t).map (fun (p : (Nat → FV) × List Int) => ((x, p.1), p.2)) | none => none) := rfl
    show Agr rRq (x :: t) (x, (Ri.flds ((docL x).getD []) (updV (updV zQ 0 (.tx (strOfNums (txL t 64)))) 1 (.tk (txL ((Ri.mk t (true && (docL x).isSome)).txt 64).b 64))) (((Ri.mk t (true && (docL x).isSome)).txt 64).txt 64)).1) (Ri.flds ((docL x).getD []) (updV (updV zQ 0 (.tx (strOfNums (txL t 64)))) 1 (.tk (txL ((Ri.mk t (true && (docL x).isSome)).txt 64).b 64))) (((Ri.mk t (true && (docL x).isSome)).txt 64).txt 64)).2
    unfold Agr
    rw [e1, docL_fields]
    cases hd : docL x with
    | none =>
      refine ⟨fun e => ?_, fun _ => rfl⟩
      have e : (((Ri.mk t false).txt 64).txt 64).ok = true := e
      rw [txt_no 64 (txt_no 64 rfl)] at e
      cases e
    | some L =>
      have hL := (docL_lt hd).1
      show (_ → (rFields kdQ (0 :: 1 :: L.map (· + 2)) zQ t).map _ = _) ∧ (_ → (rFields kdQ (0 :: 1 :: L.map (· + 2)) zQ t).map _ = _)
      have a1 : Agr (rdV .tx) t (.tx (strOfNums (txL t 64))) ((Ri.mk t true).txt 64) := agr_map FV.tx (agr_txt hPt rfl 64)
      rw [rFields_at]
      show ((Ri.flds L (updV (updV zQ 0 (.tx (strOfNums (txL t 64)))) 1 (.tk (txL ((Ri.mk t true).txt 64).b 64))) (((Ri.mk t true).txt 64).txt 64)).2.ok = true → ((rdV .tx t).bind _).map _ = _) ∧ ((Ri.flds L (updV (updV zQ 0 (.tx (strOfNums (txL t 64)))) 1 (.tk (txL ((Ri.mk t true).txt 64).b 64))) (((Ri.mk t true).txt 64).txt 64)).2.ok = false → ((rdV .tx t).bind _).map _ = _)
      have hP1 : ((Ri.mk t true).txt 64).P := P_txt hPt 64
      show ((Ri.flds L (updV (updV zQ 0 (.tx (strOfNums (txL t 64)))) 1 (.tk (txL ((Ri.mk t true).txt 64).b 64))) (((Ri.mk t true).txt 64).txt 64)).2.ok = true → ((rdV .tx t).bind _).map _ = some ((x, (Ri.flds L (updV (updV zQ 0 (.tx (strOfNums (txL t 64)))) 1 (.tk (txL ((Ri.mk t true).txt 64).b 64))) (((Ri.mk t true).txt 64).txt 64)).1), (Ri.flds L (updV (updV zQ 0 (.tx (strOfNums (txL t 64)))) 1 (.tk (txL ((Ri.mk t true).txt 64).b 64))) (((Ri.mk t true).txt 64).txt 64)).2.b)) ∧ ((Ri.flds L (updV (updV zQ 0 (.tx (strOfNums (txL t 64)))) 1 (.tk (txL ((Ri.mk t true).txt 64).b 64))) (((Ri.mk t true).txt 64).txt 64)).2.ok = false → ((rdV .tx t).bind _).map _ = _)
      generalize (Ri.mk t true).txt 64 = s1 at *
      generalize FV.tx (strOfNums (txL t 64)) = v1 at *
      cases h1 : s1.ok with
      | false =>
        rw [flds_no _ _ (txt_no 64 h1), a1.2 h1]
        refine ⟨fun e => ?_, fun _ => rfl⟩
        have e : (s1.txt 64).ok = true := e
        rw [txt_no 64 h1] at e
        cases e
      | true =>
        rw [a1.1 h1]
        have a2 : Agr (rdV .tk) s1.b (.tk (txL s1.b 64)) (s1.txt 64) := agr_map FV.tk (agr_lim hP1 h1 64 64 (.inl rfl))
        have hP2 : (s1.txt 64).P := P_txt hP1 64
        show (_ → ((rdV .tk s1.b).bind _).map _ = _) ∧ (_ → ((rdV .tk s1.b).bind _).map _ = _)
        generalize FV.tk (txL s1.b 64) = v2 at *
        generalize s1.txt 64 = s2 at *
        cases h2 : s2.ok with
        | false =>
          rw [flds_no _ _ h2, a2.2 h2]
          refine ⟨fun e => ?_, fun _ => rfl⟩
          have e : s2.ok = true := e
          rw [h2] at e
          cases e
        | true =>
          rw [a2.1 h2]
          have a3 := agr_flds L (updV (updV zQ 0 v1) 1 v2) s2 hP2 h2 hL
          refine ⟨fun e => ?_, fun e => ?_⟩
          · show (rFields kdQ (L.map (· + 2)) (updV (updV zQ 0 v1) 1 v2) s2.b).map _ = _
            rw [a3.1 e]
            rfl
          · show (rFields kdQ (L.map (· + 2)) (updV (updV zQ 0 v1) 1 v2) s2.b).map _ = _
            rw [a3.2 e]
            rfl
/-- The document's Decode answers as the code's. -/
theorem docD_eq {b : List Int} (hb : Byte b) : docD b = decQ b := by
  unfold docD decQ
  split
  · rfl
  · rename_i hl
    have ha := agr_dec (b := b) ⟨hb, by show b.length ≤ _; omega⟩
    generalize dqK b = k at *
    generalize dqD b = d at *
    obtain ⟨f, ⟨sb, ok⟩⟩ := d
    cases ok with
    | false =>
      rw [ha.2 rfl, if_neg (by rintro ⟨h, _⟩; cases h)]
    | true =>
      rw [ha.1 rfl]
      cases sb with
      | nil => rw [if_pos ⟨rfl, rfl⟩]
      | cons x t => rw [if_neg (by rintro ⟨_, h⟩; cases h)]
end Go.Proofs.YtalmpmhnkilalaaGreatDoor
