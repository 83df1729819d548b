import Derived.Test.YtalmpmhnkilalaaGreatDoorChS
import Derived.Test.YtalmpmhnkilalaaGreatDoorGetM
/-
  Runs of samples, purely: one sample more.
-/
namespace Go.Proofs.YtalmpmhnkilalaaGreatDoor
open Go.RowKit
set_option linter.unusedVariables false
set_option linter.unusedSimpArgs false

/-- What the next one is told by. -/
def tl : List Sm → Tr
  | [] => ⟨0, 0, 0⟩
  | s :: t => trE (tr0 s) t
theorem rowB_on (l : List Sm) (s : Sm) : rowB (l ++ [s]) = rowB l ++ onB l.length (tl l) s := by
  cases l with
  | nil => simp [rowB, onB, moB]
  | cons x t => rw [rowB_more]; unfold onB tl; rw [if_neg (by simp)]
theorem tl_on (l : List Sm) (s : Sm) : tl (l ++ [s]) = onT l.length (tl l) s := by
  cases l with
  | nil => simp [tl, onT, trE]
  | cons x t =>
    unfold onT
    rw [if_neg (by simp)]
    show trE (tr0 x) (t ++ [s]) = _
    rw [trE_append]
    rfl
theorem trE_ok : ∀ (l : List Sm) (a : Tr), Ok a → (∀ x ∈ l, OkS x) → Ok (trE a l)
  | [], a, ha, _ => ha
  | s :: t, a, ha, h => trE_ok t _ (next_ok (h s (by simp))) (fun x hx => h x (by simp [hx]))
theorem tl_ok {l : List Sm} (h : ∀ x ∈ l, OkS x) : Ok (tl l) := by
  cases l with
  | nil => exact ⟨by show I64 0; unfold I64; omega, by show (0 : Nat) < _; omega, by show I64 0; unfold I64; omega⟩
  | cons s t => exact trE_ok t _ (tr0_ok (h s (by simp))) (fun x hx => h x (by simp [hx]))
theorem encC_len {l : List Sm} (h : l ≠ []) : (encC l).length = Q.grp l.length + 1 + ((rowB l).length + 7) / 8 := by
  unfold encC
  rw [if_neg h, List.length_append, Q.enc_length, pk_len]
theorem room_enc {l : List Sm} (h : l ≠ []) (most : Int) : room most l.length (rowB l) ↔ ((encC l).length : Int) ≤ most := by
  unfold room
  rw [encC_len h]
theorem room_on (l : List Sm) (s : Sm) (most : Int) : room most (l.length + 1) (rowB l ++ onB l.length (tl l) s) ↔ ((encC (l ++ [s])).length : Int) ≤ most := by
  rw [← room_enc (by simp), rowB_on]
  simp
theorem grpF_mono : ∀ f m n, m ≤ n → Q.grpF f m ≤ Q.grpF f n
  | 0, m, n, h => Nat.le_refl _
  | f + 1, m, n, h => by
    rw [Q.grpF, Q.grpF]
    have := grpF_mono f (m / 128) (n / 128) (by omega)
    split <;> split <;> omega
theorem grpF_one : ∀ f n, n < 128 → Q.grpF f n = 0
  | 0, _, _ => rfl
  | f + 1, n, h => by rw [Q.grpF, if_pos h]
theorem grpF_next : ∀ f n, Q.grpF f (n + 1) ≤ Q.grpF f n + 1
  | 0, n => by simp [Q.grpF]
  | f + 1, n => by
    rw [Q.grpF, Q.grpF]
    have h1 := grpF_next f (n / 128)
    have h2 := grpF_mono f ((n + 1) / 128) (n / 128 + 1) (by omega)
    have h3 := grpF_one f ((n + 1) / 128)
    split <;> split
    · omega
    · omega
    · have := h3 (by omega); omega
    · omega
theorem encC_mono {l : List Sm} {s : Sm} (hl : ∀ x ∈ l, OkS x) (hs : OkS s) : (encC l).length ≤ (encC (l ++ [s])).length ∧ (encC (l ++ [s])).length ≤ (encC l).length + 20 := by
  have h2 := onB_len (n := l.length) (tl_ok hl) hs
  rw [encC_len (l := l ++ [s]) (by simp), rowB_on]
  simp only [List.length_append, List.length_cons, List.length_nil, Nat.zero_add]
  by_cases h : l = []
  · subst h
    have : (onB 0 (tl []) s).length = 128 := by simp [onB, fiB, low_len]
    simp only [rowB, List.length_nil, this, encC, if_pos]
    rw [Q.grp_small _ (by omega)]
    omega
  · rw [encC_len h]
    have h3 := grpF_next 9 l.length
    have h4 := grpF_mono 9 l.length (l.length + 1) (by omega)
    unfold Q.grp
    omega
theorem encC_one (s : Sm) : (encC [s]).length = 17 := by
  rw [encC_len (by simp)]
  have : (rowB [s]).length = 128 := by simp [rowB, moB, fiB, low_len]
  rw [this, List.length_singleton, Q.grp_small _ (by omega)]
theorem encC_pre {l m : List Sm} (h : ∀ x ∈ l ++ m, OkS x) : (encC l).length ≤ (encC (l ++ m)).length := by
  induction m generalizing l with
  | nil => simp
  | cons s t ih =>
    have h1 := encC_mono (l := l) (s := s) (fun x hx => h x (by simp [hx])) (h s (by simp))
    have h2 := ih (l := l ++ [s]) (fun x hx => h x (by simpa using hx))
    simp only [List.append_assoc, List.singleton_append] at h2
    omega
theorem rev_ind {P : List Sm → Prop} (h0 : P []) (h1 : ∀ l s, P l → P (l ++ [s])) (l : List Sm) : P l := by
  have h : ∀ l : List Sm, P l.reverse := by
    intro l
    induction l with
    | nil => exact h0
    | cons x t ih => rw [List.reverse_cons]; exact h1 _ _ ih
  have := h l.reverse
  rwa [List.reverse_reverse] at this
theorem encC_le : ∀ {l : List Sm}, (∀ x ∈ l, OkS x) → (encC l).length ≤ 20 * l.length := by
  intro l
  refine rev_ind (P := fun l => (∀ x ∈ l, OkS x) → (encC l).length ≤ 20 * l.length) ?_ ?_ l
  · intro _; simp [encC]
  · intro l s ih h
    have h1 := encC_mono (l := l) (s := s) (fun x hx => h x (by simp [hx])) (h s (by simp))
    have h2 := ih (fun x hx => h x (by simp [hx]))
    simp only [List.length_append, List.length_singleton]
    omega
theorem rowB_le : ∀ {l : List Sm}, (∀ x ∈ l, OkS x) → (rowB l).length ≤ 145 * l.length := by
  intro l
  refine rev_ind (P := fun l => (∀ x ∈ l, OkS x) → (rowB l).length ≤ 145 * l.length) ?_ ?_ l
  · intro _; simp [rowB]
  · intro l s ih h
    have h1 := onB_len (n := l.length) (tl_ok (l := l) (fun x hx => h x (by simp [hx]))) (h s (by simp))
    have h2 := ih (fun x hx => h x (by simp [hx]))
    rw [rowB_on]
    simp only [List.length_append, List.length_singleton]
    omega
theorem drB_ge (d : Int) : 1 ≤ (drB d).length := by
  unfold drB
  repeat' split
  all_goals simp
theorem flB_ge (x : Nat) : 1 ≤ (flB x).length := by
  unfold flB
  split <;> simp
theorem moB_ge : ∀ (l : List Sm) (a : Tr), 2 * l.length ≤ (moB a l).length
  | [], a => by simp
  | s :: t, a => by
    have h1 := moB_ge t (a.next s)
    have h2 := drB_ge (a.drift s)
    have h3 := flB_ge (a.flips s)
    rw [moB]
    simp only [List.length_append, List.length_cons]
    omega
theorem pow_lit : (2 : Nat) ^ 64 = 18446744073709551616 := by decide

end Go.Proofs.YtalmpmhnkilalaaGreatDoor

/-
  Package chunk: the reader's take, driftOf.
-/
namespace Go.Proofs.YtalmpmhnkilalaaGreatDoor
open Go.RowKit
set_option linter.unusedVariables false
set_option linter.unusedSimpArgs false

/-- A reader in memory: the bits that are left, whether something was wrong. -/
structure XS (w : World) (r p : Nat) (B : List Bool) (wg : Bool) : Prop where
  blk : Blk w r 205 [.pointer (some ⟨p, 0, none⟩), .bool wg]
  rs : ∃ l t, RS w p l t ∧ l.length ≤ 100000000 ∧ B = (ub l).drop t
  lt : p < r
def F2 (r p : Nat) : Nat → Prop := fun i => i = r ∨ i = p
theorem XS.later {w w' : World} {r p : Nat} {B : List Bool} {wg : Bool} (h : XS w r p B wg) (hb : Below w.heap.size w w') : XS w' r p B wg := by
  obtain ⟨l, t, h1, h2, h3⟩ := h.rs
  exact ⟨h.blk.later hb, ⟨l, t, h1.same (Chg.of_below hb), h2, h3⟩, h.lt⟩
theorem XS.len {w : World} {r p : Nat} {B : List Bool} {wg : Bool} (h : XS w r p B wg) : B.length ≤ 800000000 := by
  obtain ⟨l, t, h1, h2, h3⟩ := h.rs
  rw [h3, List.length_drop, ub_len]
  omega
theorem rs_ne {w : World} {p t g : Nat} {l : List Int} {ty : TypeId} {vs : List Value} (h : RS w p l t) (hB : Blk w g ty vs) (ht : ty ≠ 215) : g ≠ p := by
  obtain ⟨_, ad, c, h1, _⟩ := h
  rintro rfl
  have := h1.symm.trans hB
  injection this with this
  injection this with _ h2 _
  exact ht h2.symm
theorem sl_ne {w : World} {ad : Option Addr} {l : List Int} {n g : Nat} {ty : TypeId} {vs : List Value} {x : Addr} (h : Sl w ad n l) (hB : Blk w g ty vs) (hu : ∀ v ∈ vs, ∀ y, v ≠ .int .u8 y) (hx : ad = some x) (h0 : 0 < n) : x.block ≠ g := by
  obtain ⟨b, off, e, hlt, hc⟩ := h.at h0
  rw [e] at hx
  injection hx with hx
  subst hx
  rintro rfl
  have h1 := hc 0 h0
  have h2 := hB.cell (off + 0)
  rw [h1] at h2
  exact hu _ (List.mem_of_getElem? h2.symm) _ rfl
/-- A reader's memory lies below what is new since. -/
theorem XS.bel {w w' : World} {r p b : Nat} {B : List Bool} {wg : Bool} (h : XS w r p B wg) (hr : r < b) (hb : Below b w w') : XS w' r p B wg := by
  obtain ⟨l, t, ⟨k1, ad, c, k2, k3, k4⟩, h2, h3⟩ := h.rs
  have hp := h.lt
  have hc : Chg (fun i => b ≤ i) w w' := ⟨hb.os, hb.tape, hb.output, hb.size, fun i hi hn => hb.block i (by omega)⟩
  exact ⟨hc.blk h.blk (by omega), ⟨l, t, ⟨k1, ad, c, hc.blk k2 (by omega), hc.sl k3 (fun x hx h0 e => by have := k4 x hx h0; omega), k4⟩, h2, h3⟩, h.lt⟩
theorem XS.wrong {w : World} {r p : Nat} {B : List Bool} {wg : Bool} (h : XS w r p B wg) : XS (w.setCell ⟨r, 1, none⟩ (.bool true)) r p B true := by
  obtain ⟨l, t, h1, h2, h3⟩ := h.rs
  have hne := rs_ne h1 h.blk (by decide)
  refine ⟨by simpa using h.blk.set 1 (.bool true), ⟨l, t, ?_, h2, h3⟩, h.lt⟩
  obtain ⟨k1, ad, c, k2, k3, k4⟩ := h1
  have hc := chg_set w r 1 (.bool true)
  exact ⟨k1, ad, c, hc.blk k2 (fun e => hne e.symm), hc.sl k3 (fun x hx h0 e => sl_ne k3 h.blk (by intro v hv y; simp at hv; rcases hv with rfl | rfl <;> simp) hx h0 e), k4⟩

def tkV (n : Nat) (B : List Bool) : Nat := if n ≤ B.length then vl (B.take n) else 0
def tkB (n : Nat) (B : List Bool) : List Bool := if n ≤ B.length then B.drop n else B
def tkW (n : Nat) (B : List Bool) (wg : Bool) : Bool := if n ≤ B.length then wg else true
theorem tkV_lt {n : Nat} {B : List Bool} (h : n ≤ 64) : tkV n B < 18446744073709551616 := by
  unfold tkV
  split
  · have := take_lt (B := B) (k := n)
    have h2 : 2 ^ n ≤ 2 ^ 64 := Nat.pow_le_pow_right (by omega) h
    omega
  · omega

set_option maxRecDepth 100000 in
set_option maxHeartbeats 4000000 in
theorem takeP (w : World) (r p : Nat) (B : List Bool) (wg : Bool) (n : Nat) (h : XS w r p B wg) (hn : n ≤ 64) :
    Calls Tryz.prog 217 #[.pointer (some ⟨r, 0, none⟩), .int .i64 (n : Int)] w fun e w' => e = .returned (.int .u64 (tkV n B : Int)) ∧ XS w' r p (tkB n B) (tkW n B wg) ∧ Chg (F2 r p) w w' := by
  obtain ⟨l, t, h1, h2, h3⟩ := h.rs
  have ht := h1.1
  have hlen : B.length = 8 * l.length - t := by rw [h3, List.length_drop, ub_len]
  have c0 := h.blk.cell 0
  simp at c0
  have hne := rs_ne h1 h.blk (by decide)
  have HX := hidden h
  have HR := hidden h1
  have H3 := hidden h3
  have HLEN := hidden hlen
  clear h h1 h3 hlen
  go_enter Tryz.func217, Tryz.ntmps217
  go_wp2_with fail
  by_cases hb : n ≤ B.length
  · refine (get_any p t l (n : Int) w HR.out (by omega) (by omega) (by omega) (by have := HLEN.out; omega)).mono ?_
    rintro e w1 ⟨V, rfl, hV, hR, hC⟩
    rw [Int.toNat_natCast] at hV hR
    have hVe := nm_ub hV (by have := HLEN.out; omega)
    have HXX := hidden (show XS w1 r p (tkB n B) (tkW n B wg) from ⟨by unfold tkW; rw [if_pos hb]; exact hC.blk HX.out.blk hne, ⟨l, t + n, hR, h2, by unfold tkB; rw [if_pos hb, H3.out, List.drop_drop]⟩, HX.out.lt⟩)
    have HV := hidden (show V = tkV n B by unfold tkV; rw [if_pos hb, hVe, H3.out])
    have HC := hidden (hC.mono (G := F2 r p) (fun i _ hi => .inr hi))
    clear hV hR hVe hC
    go_wp2
    go_ret
    exact ⟨by rw [HV.out]; rfl, HXX.out, HC.out⟩
  · refine (get_bad p t l (n : Int) w HR.out (by omega) (by have := HLEN.out; omega)).mono ?_
    rintro e w1 ⟨rfl, hR, hC⟩
    have X1 : XS w1 r p B wg := ⟨hC.blk HX.out.blk (fun e => e), ⟨l, t, hR, h2, H3.out⟩, HX.out.lt⟩
    have f1 := X1.blk.frozen 1
    have d1 := X1.blk.cell 1
    simp at d1
    have HX1 := hidden X1
    have HC := hidden (hC.mono (G := F2 r p) (fun i _ hi => hi.elim))
    clear X1 hR hC
    go_wp2_with fail
    first | go_region | skip
    go_wp2
    go_ret
    refine ⟨by unfold tkV; rw [if_neg hb]; rfl, ?_, ?_⟩
    · unfold tkB tkW
      rw [if_neg hb, if_neg hb]
      exact HX1.out.wrong
    · exact HC.out.trans ((chg_set w1 r 1 (.bool true)).mono (G := F2 r p) (fun i _ hi => .inl hi)) (fun i _ hi => hi)

theorem sg_i64 {V w : Nat} (hw : w = 0 ∧ V = 0 ∨ (w = 7 ∨ w = 9 ∨ w = 12 ∨ w = 64) ∧ V < 2 ^ w) : I64 (sg V w) := by
  rcases hw with ⟨rfl, rfl⟩ | ⟨h1, h2⟩
  · unfold I64 sg wr; simp
  · exact (un_sg h2 h1).2.1
theorem tkV_pow {n : Nat} {B : List Bool} : tkV n B < 2 ^ n := by
  unfold tkV
  split
  · exact take_lt
  · exact Nat.two_pow_pos _
theorem XS.or {w w' : World} {r p : Nat} {B : List Bool} {wg b : Bool} (h : XS w r p B wg) (hb : b = true → w' = w.setCell ⟨r, 1, none⟩ (.bool true)) (hf : b = false → w' = w) : XS w' r p B (wg || b) := by
  cases b with
  | true => rw [hb rfl, Bool.or_true]; exact h.wrong
  | false => rw [hf rfl, Bool.or_false]; exact h
/-- What is wrong with a drift of so many bits. -/
def bdD (w : Nat) (short : Int) (B : List Bool) : Bool := decide (0 ≤ short) && decide (fit (sg (tkV w B) w) short.toNat)

set_option maxRecDepth 100000 in
set_option maxHeartbeats 4000000 in
theorem driftOfP (w : World) (r p : Nat) (B : List Bool) (wg : Bool) (n : Nat) (short : Int) (h : XS w r p B wg) (hn : n = 0 ∨ n = 7 ∨ n = 9 ∨ n = 12 ∨ n = 64) (hs : short = -1 ∨ short = 0 ∨ short = 7 ∨ short = 9 ∨ short = 12) :
    Calls Tryz.prog 221 #[.pointer (some ⟨r, 0, none⟩), .int .i64 (n : Int), .int .i64 short] w fun e w' => e = .returned (.int .i64 (sg (tkV n B) n)) ∧ XS w' r p (tkB n B) (tkW n B wg || bdD n short B) ∧ Chg (F2 r p) w w' := by
  have HT := hidden (takeP w r p B wg n h (by omega))
  have hV := tkV_lt (n := n) (B := B) (by omega)
  have hi : I64 (sg (tkV n B) n) := sg_i64 (by
    rcases hn with rfl | hn
    · exact .inl ⟨rfl, by have := tkV_pow (n := 0) (B := B); omega⟩
    · exact .inr ⟨hn, tkV_pow⟩)
  have HS := hidden (fun w1 => signedP (tkV n B) n w1 hV hn)
  have HF := hidden (fun w1 (k : Nat) (hk : k = 0 ∨ k = 7 ∨ k = 9 ∨ k = 12) => fitsP (sg (tkV n B) n) k w1 hi hk)
  obtain ⟨b, hb⟩ : ∃ b, bdD n short B = b := ⟨_, rfl⟩
  rw [hb]
  have HB := hidden hb
  unfold bdD at HB
  have hi' := hi
  unfold I64 at hi'
  generalize sg (tkV n B) n = d at *
  generalize tkV n B = V at *
  generalize tkB n B = B' at *
  generalize tkW n B wg = wg' at *
  clear h hb hi
  go_enter Tryz.func221, Tryz.ntmps221
  go_wp2_with fail
  refine HT.out.mono ?_
  rintro e w1 ⟨rfl, h1, hc1⟩
  have H1 := hidden h1
  have HC1 := hidden hc1
  clear h1 hc1
  go_wp2_with fail
  refine (HS.out w1).mono ?_
  rintro e w2 ⟨rfl, rfl⟩
  have f1 := H1.out.blk.frozen 1
  have d1 := H1.out.blk.cell 1
  simp at d1
  by_cases hs0 : short = -1
  · subst hs0
    have hb0 : b = false := by rw [← HB.out]; rfl
    subst hb0
    go_wp2
    go_ret
    exact ⟨rfl, by rw [Bool.or_false]; exact H1.out, HC1.out⟩
  · obtain ⟨k, hk⟩ : ∃ k : Nat, short = (k : Int) := ⟨short.toNat, by omega⟩
    subst hk
    have hk4 : k = 0 ∨ k = 7 ∨ k = 9 ∨ k = 12 := by omega
    have hbf : b = decide (fit d k) := by rw [← HB.out]; simp
    go_wp2_with fail
    refine (HF.out w2 k hk4).mono ?_
    rintro e w3 ⟨rfl, rfl⟩
    rw [← hbf]
    clear hbf HB
    cases b with
    | false =>
      go_wp2
      go_ret
      exact ⟨rfl, by rw [Bool.or_false]; exact H1.out, HC1.out⟩
    | true =>
      go_wp2_with fail
      first | go_region | skip
      go_wp2
      go_ret
      refine ⟨rfl, by rw [Bool.or_true]; exact H1.out.wrong, ?_⟩
      exact HC1.out.trans ((chg_set _ r 1 (.bool true)).mono (G := F2 r p) (fun i _ hi => .inl hi)) (fun i _ hi => hi)

end Go.Proofs.YtalmpmhnkilalaaGreatDoor
