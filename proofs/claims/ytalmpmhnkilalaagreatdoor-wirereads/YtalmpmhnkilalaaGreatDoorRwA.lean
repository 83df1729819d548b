import Derived.Test.YtalmpmhnkilalaaGreatDoorWwI
import Derived.Test.YtalmpmhnkilalaaGreatDoorChI
import Derived.Test.YtalmpmhnkilalaaGreatDoorNumE
import Derived.Test.YtalmpmhnkilalaaGreatDoorChU
/-
  Package wire, purely: what is read off bytes, and what is written, as codes.
-/
namespace Go.Proofs.YtalmpmhnkilalaaGreatDoor
open Go.RowKit
set_option linter.unusedVariables false

/-! ### reading -/
/-- What is read off bytes: a value, and what is left. -/
abbrev Rdr (α : Type) := List Int → Option (α × List Int)
def rMap {α β : Type} (f : α → β) (r : Rdr α) : Rdr β := fun b => (r b).map (fun q => (f q.1, q.2))
def rPair {α β : Type} (r : Rdr α) (r2 : Rdr β) : Rdr (α × β) := fun b => (r b).bind (fun q => (r2 q.2).map (fun p => ((q.1, p.1), p.2)))
def rIf {α : Type} (P : α → Bool) (r : Rdr α) : Rdr α := fun b => (r b).bind (fun q => if P q.1 then some q else none)
def rNum (most : Nat) : Rdr Nat := fun b => if (Q.dec b).2 ≠ 0 ∧ (Q.dec b).1 ≤ most then some ((Q.dec b).1, b.drop (Q.dec b).2) else none
def rTime : Rdr Int := fun b => if (Q.dec b).2 ≠ 0 then some (Q.unfold' (Q.dec b).1, b.drop (Q.dec b).2) else none
def rCut (n : Nat) : Rdr (List Int) := fun b => if n ≤ b.length then some (b.take n, b.drop n) else none
def rOct : Rdr Int := fun b => match b with | [] => none | c :: t => some (c, t)
def rLim (most : Nat) : Rdr (List Int) := fun b => (rNum most b).bind (fun q => rCut q.1 q.2)
def rTxt (most : Nat) : Rdr ByteArray := rMap strOfNums (rLim most)
def rSmp : Rdr (List Sm) := fun b => (rLim 18446744073709551615 b).bind (fun q => (rdR q.1).map (fun l => (l, q.2)))
def rRep {α : Type} (r : Rdr α) : Nat → Rdr (List α)
  | 0 => fun b => some ([], b)
  | n + 1 => fun b => (r b).bind (fun q => (rRep r n q.2).map (fun p => (q.1 :: p.1, p.2)))
def rEach {α : Type} (most : Nat) (r : Rdr α) : Rdr (List α) := fun b => (rNum most b).bind (fun q => rRep r q.1 q.2)

/-- A code: what is written is read, and what is read is just what is written of it. -/
structure Cod {α : Type} (r : Rdr α) (ok : α → Prop) (en : α → List Int) : Prop where
  back : ∀ x t, ok x → r (en x ++ t) = some (x, t)
  forth : ∀ b x t, Byte b → b.length ≤ 1048576 → r b = some (x, t) → ok x ∧ b = en x ++ t

theorem Byte.right {a b : List Int} (h : Byte (a ++ b)) : Byte b := fun n hn => h n (List.mem_append_right _ hn)
theorem Byte.left {a b : List Int} (h : Byte (a ++ b)) : Byte a := fun n hn => h n (List.mem_append_left _ hn)

theorem Cod.map {α β : Type} {r : Rdr α} {ok : α → Prop} {en : α → List Int} (h : Cod r ok en) (f : α → β) (ok' : β → Prop) (en' : β → List Int) (h1 : ∀ y, ok' y → ∃ x, ok x ∧ f x = y ∧ en x = en' y) (h2 : ∀ x, ok x → ok' (f x) ∧ en' (f x) = en x) : Cod (rMap f r) ok' en' := by
  constructor
  · intro y t hy
    obtain ⟨x, hx, rfl, he⟩ := h1 y hy
    unfold rMap
    rw [← he, h.back x t hx]
    rfl
  · intro b y t hb hl hr
    unfold rMap at hr
    cases hq : r b with
    | none => rw [hq] at hr; cases hr
    | some q =>
      obtain ⟨x, u⟩ := q
      rw [hq] at hr
      simp at hr
      obtain ⟨rfl, rfl⟩ := hr
      obtain ⟨k1, k2⟩ := h.forth b x u hb hl hq
      obtain ⟨k3, k4⟩ := h2 x k1
      exact ⟨k3, by rw [k4]; exact k2⟩
theorem Cod.pair {α β : Type} {r : Rdr α} {ok : α → Prop} {en : α → List Int} {r2 : Rdr β} {ok2 : β → Prop} {en2 : β → List Int} (h : Cod r ok en) (h2 : Cod r2 ok2 en2) : Cod (rPair r r2) (fun p => ok p.1 ∧ ok2 p.2) (fun p => en p.1 ++ en2 p.2) := by
  constructor
  · rintro ⟨x, y⟩ t ⟨hx, hy⟩
    unfold rPair
    rw [List.append_assoc, h.back x _ hx]
    show (r2 (en2 y ++ t)).map _ = _
    rw [h2.back y t hy]
    rfl
  · rintro b ⟨x, y⟩ t hb hl hr
    unfold rPair at hr
    cases hq : r b with
    | none => rw [hq] at hr; cases hr
    | some q =>
      obtain ⟨x', u⟩ := q
      rw [hq] at hr
      obtain ⟨k1, k2⟩ := h.forth b x' u hb hl hq
      have hr2 : (r2 u).map (fun p => ((x', p.1), p.2)) = some ((x, y), t) := hr
      cases hq2 : r2 u with
      | none => rw [hq2] at hr2; cases hr2
      | some q2 =>
        obtain ⟨y', u2⟩ := q2
        rw [hq2] at hr2
        simp at hr2
        obtain ⟨⟨rfl, rfl⟩, rfl⟩ := hr2
        rw [k2] at hb hl
        simp only [List.length_append] at hl
        obtain ⟨k3, k4⟩ := h2.forth u y' u2 hb.right (by omega) hq2
        refine ⟨⟨k1, k3⟩, ?_⟩
        rw [k2, k4, List.append_assoc]
theorem Cod.if {α : Type} {r : Rdr α} {ok : α → Prop} {en : α → List Int} (h : Cod r ok en) (P : α → Bool) : Cod (rIf P r) (fun x => ok x ∧ P x = true) en := by
  constructor
  · rintro x t ⟨hx, hp⟩
    unfold rIf
    rw [h.back x t hx]
    show (if P x then _ else _) = _
    rw [if_pos hp]
  · intro b x t hb hl hr
    unfold rIf at hr
    cases hq : r b with
    | none => rw [hq] at hr; cases hr
    | some q =>
      obtain ⟨x', u⟩ := q
      rw [hq] at hr
      have hr2 : (if P x' then some (x', u) else none) = some (x, t) := hr
      split at hr2
      · rename_i hp
        simp at hr2
        obtain ⟨rfl, rfl⟩ := hr2
        obtain ⟨k1, k2⟩ := h.forth b x' u hb hl hq
        exact ⟨⟨k1, hp⟩, k2⟩
      · cases hr2

theorem cod_num (most : Nat) (hm : most ≤ 18446744073709551615) : Cod (rNum most) (fun n => n ≤ most) Q.enc := by
  constructor
  · intro n t hn
    unfold rNum
    rw [Q.dec_enc n (by omega)]
    simp only
    rw [if_pos ⟨by omega, hn⟩]
    congr 2
    have := Q.enc_length n
    rw [← this]
    simp
  · intro b n t hb hl hr
    unfold rNum at hr
    split at hr
    · rename_i h
      simp at hr
      obtain ⟨rfl, rfl⟩ := hr
      obtain ⟨k1, k2⟩ := Q.enc_dec b hb h.1
      exact ⟨h.2, by rw [k1, List.take_append_drop]⟩
    · cases hr
theorem cod_time : Cod rTime (fun t => -9223372036854775808 ≤ t ∧ t ≤ 9223372036854775807) (fun t => Q.enc (Q.fold t)) := by
  constructor
  · intro m t hm
    have hf := Q.fold_le m hm.1 hm.2
    unfold rTime
    rw [Q.dec_enc _ (by omega)]
    simp only
    rw [if_pos (by omega), Q.unfold_fold]
    congr 2
    rw [← Q.enc_length]
    simp
  · intro b n t hb hl hr
    unfold rTime at hr
    split at hr
    · rename_i h
      simp at hr
      obtain ⟨rfl, rfl⟩ := hr
      obtain ⟨k1, k2⟩ := Q.enc_dec b hb h
      have hd := (Q.dec_bound b hb).1
      refine ⟨?_, by rw [Q.fold_unfold, k1, List.take_append_drop]⟩
      unfold Q.unfold'
      split <;> omega
    · cases hr
theorem cod_oct : Cod rOct (fun c => 0 ≤ c ∧ c ≤ 255) (fun c => [c]) := by
  constructor
  · intro c t hc
    rfl
  · intro b c t hb hl hr
    cases b with
    | nil => cases hr
    | cons x r =>
      simp [rOct] at hr
      obtain ⟨rfl, rfl⟩ := hr
      have := hb x (by simp)
      exact ⟨by omega, rfl⟩
theorem cod_lim (most : Nat) (hm : most ≤ 18446744073709551615) : Cod (rLim most) (fun l => Byte l ∧ l.length ≤ most) (fun l => Q.enc l.length ++ l) := by
  have hn := cod_num most hm
  constructor
  · rintro l t ⟨h1, h2⟩
    unfold rLim
    rw [List.append_assoc, hn.back _ _ h2]
    show rCut l.length (l ++ t) = _
    unfold rCut
    rw [if_pos (by simp)]
    simp
  · intro b l t hb hl hr
    unfold rLim at hr
    cases hq : rNum most b with
    | none => rw [hq] at hr; cases hr
    | some q =>
      obtain ⟨n, u⟩ := q
      rw [hq] at hr
      obtain ⟨k1, k2⟩ := hn.forth b n u hb hl hq
      have hr2 : rCut n u = some (l, t) := hr
      unfold rCut at hr2
      split at hr2
      · rename_i hle
        simp at hr2
        obtain ⟨rfl, rfl⟩ := hr2
        rw [k2] at hb
        refine ⟨⟨hb.right.take n, by simp; omega⟩, ?_⟩
        rw [k2, List.length_take, Nat.min_eq_left hle, List.append_assoc, List.take_append_drop]
      · cases hr2

theorem strOf_size (l : List Int) : (strOfNums l).size = l.length := by simp [strOfNums, ByteArray.size]
theorem bts_strOf (l : List Int) (h : Byte l) : bts (strOfNums l) = l := by
  unfold bts strOfNums
  simp only [List.map_map]
  conv => rhs; rw [← List.map_id l]
  refine List.map_congr_left (fun n hn => ?_)
  have := h n hn
  simp
  omega
theorem strOf_bts (d : ByteArray) : strOfNums (bts d) = d := by
  unfold bts strOfNums
  rw [List.map_map]
  have : ((fun (n : Int) => UInt8.ofNat n.toNat) ∘ fun (x : UInt8) => (x.toNat : Int)) = id := by
    funext x
    simp
  rw [this, List.map_id]
def encT (d : ByteArray) : List Int := Q.enc d.size ++ bts d
theorem cod_txt (most : Nat) (hm : most ≤ 18446744073709551615) : Cod (rTxt most) (fun d => d.size ≤ most) encT := by
  refine (cod_lim most hm).map strOfNums _ _ (fun d hd => ⟨bts d, ⟨bts_byte d, by rw [bts_length]; exact hd⟩, strOf_bts d, by unfold encT; rw [bts_length]⟩) (fun l hl => ⟨by rw [strOf_size]; exact hl.2, ?_⟩)
  unfold encT
  rw [strOf_size, bts_strOf l hl.1]
def encSs (l : List Sm) : List Int := Q.enc (encC l).length ++ encC l
def OkSs (l : List Sm) : Prop := (∀ x ∈ l, OkS x) ∧ l.length ≤ 16777216 ∧ (encC l).length ≤ 18446744073709551615
theorem cod_smp : Cod rSmp OkSs encSs := by
  have hn := cod_lim 18446744073709551615 (Nat.le_refl _)
  constructor
  · rintro l t ⟨h1, h2, h3⟩
    unfold rSmp encSs
    rw [hn.back (encC l) t ⟨encC_byte l (by omega), h3⟩]
    show (rdR (encC l)).map _ = _
    rw [rd_enc h1 (by omega)]
    rfl
  · intro b l t hb hl hr
    unfold rSmp at hr
    cases hq : rLim 18446744073709551615 b with
    | none => rw [hq] at hr; cases hr
    | some q =>
      obtain ⟨p, u⟩ := q
      rw [hq] at hr
      obtain ⟨⟨k0, k1⟩, k2⟩ := hn.forth b p u hb hl hq
      have hr2 : (rdR p).map (fun l => (l, u)) = some (l, t) := hr
      cases hq2 : rdR p with
      | none => rw [hq2] at hr2; cases hr2
      | some l2 =>
        rw [hq2] at hr2
        simp at hr2
        obtain ⟨rfl, rfl⟩ := hr2
        obtain ⟨e1, e2, e3⟩ := enc_rd k0 hq2
        have hpl : p.length ≤ 1048576 := by
          have := congrArg List.length k2
          simp only [List.length_append] at this
          omega
        have h8 := fits_small (l := l2) (m := 1048576) (by rw [e1]; exact hpl)
        have hge := rowB_ge l2
        refine ⟨⟨e2, by omega, by rw [e1]; omega⟩, ?_⟩
        unfold encSs
        rw [e1]
        exact k2
theorem cod_rep {α : Type} {r : Rdr α} {ok : α → Prop} {en : α → List Int} (h : Cod r ok en) : ∀ n, Cod (rRep r n) (fun l => l.length = n ∧ ∀ x ∈ l, ok x) (fun l => l.flatMap en)
  | 0 => by
    constructor
    · rintro l t ⟨h1, _⟩
      rw [List.eq_nil_of_length_eq_zero h1]
      rfl
    · intro b l t hb hl hr
      simp [rRep] at hr
      obtain ⟨rfl, rfl⟩ := hr
      exact ⟨⟨rfl, by simp⟩, by simp⟩
  | n + 1 => by
    have ih := cod_rep h n
    constructor
    · rintro l t ⟨h1, h2⟩
      cases l with
      | nil => cases h1
      | cons x l =>
        simp only [List.length_cons, Nat.add_right_cancel_iff] at h1
        unfold rRep
        rw [List.flatMap_cons, List.append_assoc, h.back x _ (h2 x (by simp))]
        show (rRep r n (l.flatMap en ++ t)).map _ = _
        rw [ih.back l t ⟨h1, fun y hy => h2 y (by simp [hy])⟩]
        rfl
    · intro b l t hb hl hr
      unfold rRep at hr
      cases hq : r b with
      | none => rw [hq] at hr; cases hr
      | some q =>
        obtain ⟨x, u⟩ := q
        rw [hq] at hr
        obtain ⟨k1, k2⟩ := h.forth b x u hb hl hq
        have hr2 : (rRep r n u).map (fun p => (x :: p.1, p.2)) = some (l, t) := hr
        cases hq2 : rRep r n u with
        | none => rw [hq2] at hr2; cases hr2
        | some q2 =>
          obtain ⟨l2, u2⟩ := q2
          rw [hq2] at hr2
          simp at hr2
          obtain ⟨rfl, rfl⟩ := hr2
          rw [k2] at hb hl
          simp only [List.length_append] at hl
          obtain ⟨⟨k3, k5⟩, k4⟩ := ih.forth u l2 u2 hb.right (by omega) hq2
          refine ⟨⟨by simp [k3], fun y hy => ?_⟩, ?_⟩
          · rcases List.mem_cons.1 hy with rfl | hy
            · exact k1
            · exact k5 y hy
          · rw [k2, k4, List.flatMap_cons, List.append_assoc]
def encE {α : Type} (en : α → List Int) (l : List α) : List Int := Q.enc l.length ++ l.flatMap en
theorem cod_each {α : Type} {r : Rdr α} {ok : α → Prop} {en : α → List Int} (h : Cod r ok en) (most : Nat) (hm : most ≤ 18446744073709551615) : Cod (rEach most r) (fun l => l.length ≤ most ∧ ∀ x ∈ l, ok x) (encE en) := by
  have hn := cod_num most hm
  constructor
  · rintro l t ⟨h1, h2⟩
    unfold rEach encE
    rw [List.append_assoc, hn.back _ _ h1]
    exact (cod_rep h l.length).back l t ⟨rfl, h2⟩
  · intro b l t hb hl hr
    unfold rEach at hr
    cases hq : rNum most b with
    | none => rw [hq] at hr; cases hr
    | some q =>
      obtain ⟨n, u⟩ := q
      rw [hq] at hr
      obtain ⟨k1, k2⟩ := hn.forth b n u hb hl hq
      have hr2 : rRep r n u = some (l, t) := hr
      rw [k2] at hb hl
      simp only [List.length_append] at hl
      obtain ⟨⟨k3, k5⟩, k4⟩ := (cod_rep h n).forth u l t hb.right (by omega) hr2
      subst k3
      refine ⟨⟨k1, k5⟩, ?_⟩
      unfold encE
      rw [k2, k4, List.append_assoc]

end Go.Proofs.YtalmpmhnkilalaaGreatDoor

/-
  Package chunk: Read.
-/
namespace Go.Proofs.YtalmpmhnkilalaaGreatDoor
open Go.RowKit
set_option linter.unusedVariables false
set_option linter.unusedSimpArgs false

theorem built77 (p : Nat) : Tryz.prog.built 205 [(0, .pointer (some ⟨p, 0, none⟩))] = some #[.pointer (some ⟨p, 0, none⟩), .bool false] := by kernel_rfl
/-- What Read leaves. -/
def RdP (w : World) (b : List Int) (e : Ending) (w' : World) : Prop :=
  ∃ ad c l ec, e = .returned (.tuple #[.slice ad l.length c, .int .i64 ec]) ∧ w'.ownsRow w.heap.size 50 2 (.slice ad l.length c) l.length (cS l) ∧ (∀ x ∈ l, OkS x) ∧ Below w.heap.size w w' ∧ ((rdR b = some l ∧ ec = 0) ∨ (rdR b = none ∧ l = [] ∧ ec = 100))
theorem rdR_go {b : List Int} (h : b ≠ []) (h1 : (Q.dec b).1 ≠ 0) {l : List Sm} {B' : List Bool} {wg : Bool} (hE : RdE (rdF (Q.dec b).1 (ub (b.drop (Q.dec b).2))) l B' wg) :
    ((wg || !decide (B'.length < 8 ∧ vl B' = 0)) = false → rdR b = some l) ∧ ((wg || !decide (B'.length < 8 ∧ vl B' = 0)) = true → rdR b = none) := by
  have hr : rdR b = rdB (Q.dec b).1 (ub (b.drop (Q.dec b).2)) := by unfold rdR; rw [if_neg h, if_neg h1]
  rw [hr, rdB_rdF]
  cases hf : rdF (Q.dec b).1 (ub (b.drop (Q.dec b).2)) with
  | none =>
    have := hE.1 hf
    subst this
    simp
  | some q =>
    obtain ⟨l0, c0⟩ := q
    obtain ⟨rfl, rfl, rfl⟩ := hE.2 _ _ hf
    simp only [Bool.false_or]
    by_cases hh : B'.length < 8 ∧ vl B' = 0
    · simp [hh]
    · simp [hh]

theorem sl_tail {w : World} {b off len K : Nat} {l : List Int} (h : Sl w (some ⟨b, off, none⟩) len l) (hk : K ≤ len) {ad : Option Addr} (hd : 0 < len - K → ad = some ⟨b, off + K, none⟩) : Sl w ad (len - K) (l.drop K) := by
  have h2 := h.cut (K := K) (N := len - K) (by omega) (ad := ad) hd
  rwa [List.take_of_length_le (by rw [List.length_drop, h.len]; exact Nat.le_refl _)] at h2
set_option maxRecDepth 100000 in
set_option maxHeartbeats 8000000 in
theorem readP (w : World) (ad : Option Addr) (len cap : Nat) (b : List Int) (h : Sl w ad len b) (hG : Gv w) (hl : len ≤ 100000000) (hlc : len ≤ cap) (hcm : cap ≤ 9223372036854775807) (hno : ad = none → len = 0 ∧ cap = 0) (hlo : 2 ≤ w.heap.size) :
    Calls Tryz.prog 196 #[.slice ad len cap] w (RdP w b) := by
  have HS := hidden h
  have HG := hidden hG
  have hlen := h.len
  have HU := hidden (Q.uint_any ad len cap b w h (by omega))
  have hdl := Q.dec_le b
  have HN := hidden hno
  by_cases h0 : len = 0
  · subst h0
    have HR : Hid (rdR b = some []) := hidden (by rw [List.eq_nil_of_length_eq_zero hlen]; rfl)
    clear h hG hno hlen hdl
    go_enter Tryz.func196, Tryz.ntmps196
    go_wp2
    go_ret2
    exact ⟨none, 0, [], 0, rfl, World.ownsRow_nil _ _ _ _, by simp, Below.refl _ _, .inl ⟨HR.out, rfl⟩⟩
  · have hbn : b ≠ [] := fun e => h0 (by rw [← hlen, e]; rfl)
    have h0z : ¬ (len : Int) = 0 := by omega
    by_cases h1 : (Q.dec b).1 = 0
    · have HR : Hid (rdR b = none) := hidden (by unfold rdR; rw [if_neg hbn, if_pos h1])
      rw [h1] at HU
      generalize (Q.dec b).2 = k at *
      clear h hG hno hlen hdl h1
      go_enter Tryz.func196, Tryz.ntmps196
      go_wp2_with fail
      refine HU.out.mono ?_
      rintro e w1 ⟨rfl, rfl⟩
      go_wp2
      go_ret2
      exact ⟨none, 0, [], 100, rfl, World.ownsRow_nil _ _ _ _, by simp, Below.refl _ _, .inr ⟨HR.out, rfl, rfl⟩⟩
    · obtain ⟨bb, off, rfl, hbl, _⟩ := h.at (by omega)
      have HGO := hidden (fun (l : List Sm) (B' : List Bool) (wg : Bool) => rdR_go (l := l) (B' := B') (wg := wg) hbn h1)
      have hd64 : (Q.dec b).1 < 18446744073709551616 := by have := (Q.dec_bound b h.byte).1; omega
      generalize (Q.dec b).1 = n at *
      generalize (Q.dec b).2 = k at *
      have hk : k ≤ len := by omega
      have h1z : ¬ (n : Int) = 0 := by omega
      clear h hG hno hbn
      have CUT := hidden (fun (ad : Option Addr) (hh : 0 < len - k → ad = some ⟨bb, off + k, none⟩) => sl_tail HS.out hk hh)
      go_enter Tryz.func196, Tryz.ntmps196
      go_wp2_with fail
      refine HU.out.mono ?_
      rintro e w1 ⟨rfl, rfl⟩
      go_wp2_with fail
      all_goals
        refine (newReader_any _ _ _ (b.drop k) w1 (CUT.out _ (by first | (intro _; rfl) | (intro hh; omega))) (by omega) (by intro e; cases e)).mono ?_
        rintro e w2 ⟨p, rfl, hp, hR, bl2⟩
        have HR := hidden hR
        have BL2 := hidden bl2
        have hpl : p < w2.heap.size := by obtain ⟨_, _, _, hB, _⟩ := hR; exact hB.lt
        clear hR bl2
        go_wp2_with (first
          | (refine wpList_build_to rfl 205 #[(0, .tmp 21)] rfl [(0, .pointer (some ⟨p, 0, none⟩))] #[.pointer (some ⟨p, 0, none⟩), .bool false] rfl (built77 p) ?_)
          | (refine wpList_box_blk rfl 205 (.tmp 22) rfl [.pointer (some ⟨p, 0, none⟩), .bool false] rfl ?_
             intro w3 B3 bl3 hz3
             have X3 : Hid (XS w3 w2.heap.size p (ub (b.drop k)) false) := hidden ⟨B3, ⟨b.drop k, 0, HR.out.same (Chg.of_below bl3), by rw [List.length_drop]; omega, by rw [List.drop_zero]⟩, hpl⟩
             have BL3 := hidden (BL2.out.trans (bl3.mono BL2.out.size))
             have G3 := hidden ((HG.out.later BL2.out).later bl3)
             have hz3' := hz3
             clear B3 bl3 hz3))
        refine (samplesP w3 w2.heap.size p n (ub (b.drop k)) X3.out G3.out (by omega) (by omega) hd64).mono ?_
        rintro e w4 ⟨ad4, c4, l, B4, wg4, rfl, o4, k4, x4, e4, ch4⟩
        have O4 := hidden o4
        have K4 := hidden k4
        have X4 := hidden x4
        have E4 := hidden e4
        have C4 := hidden ch4
        clear o4 k4 x4 e4 ch4
        go_wp2_with fail
        refine (endP w4 w2.heap.size p B4 wg4 X4.out).mono ?_
        rintro e w5 ⟨rfl, ⟨B5, x5⟩, ch5⟩
        have hbl3 := BL3.out.size
        have hle3 := X3.out.blk.lt
        have BL5 : Hid (Below w1.heap.size w1 w5) := hidden (BL3.out.trans ((C4.out.trans ch5 (fun i _ hi => hi)).below hbl3 (fun i hi => by unfold F2 at hi; have := BL2.out.size; omega)))
        have O5 := hidden (ch5.owns O4.out (own_far O4.out hle3 hpl))
        have GO := hidden (HGO.out l B4 wg4 E4.out)
        obtain ⟨wg, hwg⟩ : ∃ wg, (wg4 || !decide (B4.length < 8 ∧ vl B4 = 0)) = wg := ⟨_, rfl⟩
        rw [hwg] at GO x5
        have c1 := x5.blk.cell 1
        simp at c1
        have hol : w1.heap.size ≤ w3.heap.size := hbl3
        have O6 := hidden (show w5.ownsRow w1.heap.size 50 2 (.slice ad4 l.length c4) l.length (cS l) from owns_base O5.out (fun g hg => Nat.le_trans hol (O5.out.lt g hg).1))
        clear x5 ch5 hwg
        cases wg with
        | true =>
          go_wp2
          go_ret2
          exact ⟨none, 0, [], 100, rfl, World.ownsRow_nil _ _ _ _, by simp, BL5.out, .inr ⟨GO.out.2 (by first | rfl | trivial), rfl, rfl⟩⟩
        | false =>
          go_wp2
          go_ret2
          exact ⟨ad4, c4, l, 0, rfl, O6.out, K4.out, BL5.out, .inl ⟨GO.out.1 (by first | rfl | trivial), rfl⟩⟩

end Go.Proofs.YtalmpmhnkilalaaGreatDoor
