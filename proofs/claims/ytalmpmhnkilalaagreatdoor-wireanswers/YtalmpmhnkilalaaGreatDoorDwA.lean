import Derived.Test.YtalmpmhnkilalaaGreatDoorRwC
/-
  The document's writer, purely.
-/
namespace Go.Proofs.YtalmpmhnkilalaaGreatDoor
open Go.RowKit
set_option linter.unusedVariables false

/-- What the document's writer holds. -/
structure Od where
  b : List Int
  ok : Bool
/-- What a call of it does: it writes e, if that may be; it grows by B at most. -/
structure Dwt (f : Od → Od) (ok : Prop) (e : List Int) (B : Nat) : Prop where
  no : ∀ s, s.ok = false → (f s).ok = false
  bad : ∀ s, s.ok = true → ¬ ok → (f s).ok = false
  yes : ∀ s, s.ok = true → ok → f s = ⟨s.b ++ e, true⟩
  len : ∀ s, (f s).b.length ≤ s.b.length + B
  byte : ∀ s, Byte s.b → Byte (f s).b

theorem Dwt.comp {f g : Od → Od} {ok ok' : Prop} {e e' : List Int} {B B' : Nat} (h : Dwt f ok e B) (k : Dwt g ok' e' B') : Dwt (fun s => g (f s)) (ok ∧ ok') (e ++ e') (B + B') := by
  refine ⟨fun s hs => k.no _ (h.no s hs), fun s hs hn => ?_, fun s hs ho => ?_, fun s => ?_, fun s hs => k.byte _ (h.byte s hs)⟩
  · by_cases h1 : ok
    · have h2 : ¬ ok' := fun h2 => hn ⟨h1, h2⟩
      refine k.bad _ ?_ h2
      rw [h.yes s hs h1]
    · exact k.no _ (h.bad s hs h1)
  · show g (f s) = _
    rw [h.yes s hs ho.1, k.yes ⟨s.b ++ e, true⟩ rfl ho.2]
    simp
  · have h1 := h.len s
    have h2 := k.len (f s)
    show (g (f s)).b.length ≤ _
    omega
theorem Dwt.congr {f g : Od → Od} {ok ok' : Prop} {e e' : List Int} {B B' : Nat} (h : Dwt f ok e B) (hf : f = g) (ho : ok ↔ ok') (he : ok → e = e') (hB : B ≤ B') : Dwt g ok' e' B' := by
  subst hf
  have hok : ok = ok' := propext ho
  subst hok
  exact ⟨h.no, h.bad, fun s h1 h2 => by rw [h.yes s h1 h2, he h2], fun s => by have := h.len s; omega, h.byte⟩
theorem dwt_id : Dwt id True [] 0 := by
  refine ⟨fun s h => h, fun s _ h => absurd trivial h, fun s h _ => ?_, fun s => Nat.le_refl _, fun s h => h⟩
  obtain ⟨b, o⟩ := s
  have h : o = true := h
  subst h
  simp
def Od.must (s : Od) (x : Bool) : Od := { s with ok := s.ok && x }
def Od.put (s : Od) (e : List Int) : Od := if s.ok then { s with b := s.b ++ e } else s
def Od.add (s : Od) (e : List Int) : Od := { s with b := s.b ++ e }
theorem dwt_must (x : Bool) : Dwt (fun s => s.must x) (x = true) [] 0 := by
  refine ⟨fun s h => by simp [Od.must, h], fun s h hn => by simpa [Od.must, h] using hn, fun s h hx => by simp [Od.must, h, hx], fun s => Nat.le_refl _, fun s h => h⟩
theorem dwt_put (e : List Int) (B : Nat) (hB : e.length ≤ B) (hb : Byte e) : Dwt (fun s => s.put e) True e B := by
  refine ⟨fun s h => by simp [Od.put, h], fun s _ h => absurd trivial h, fun s h _ => by simp [Od.put, h], fun s => ?_, fun s h => ?_⟩
  · show (s.put e).b.length ≤ _
    unfold Od.put
    split
    · simp; omega
    · omega
  · show Byte (s.put e).b
    unfold Od.put
    split
    · exact h.append hb
    · exact h
theorem dwt_add (e : List Int) (B : Nat) (hB : e.length ≤ B) (hb : Byte e) : Dwt (fun s => s.add e) True e B := by
  refine ⟨fun s h => h, fun s _ h => absurd trivial h, fun s h _ => by simp [Od.add, h], fun s => ?_, fun s h => h.append hb⟩
  show (s.b ++ e).length ≤ _
  simp; omega
theorem enc_len10 (n : Nat) : (Q.enc n).length ≤ 10 := by
  rw [Q.enc_length]
  have := Q.grp_le n
  omega
theorem must_put_no (s : Od) (e : List Int) : (s.must false).put e = ⟨s.b, false⟩ := by simp [Od.must, Od.put]
theorem dwt_guard (c : Bool) (e : List Int) (B : Nat) (h : c = true → e.length ≤ B ∧ Byte e) : Dwt (fun s => (s.must c).put e) (c = true) e B := by
  cases c with
  | true => exact ((dwt_must true).comp (dwt_put e B (h rfl).1 (h rfl).2)).congr rfl (by simp) (fun _ => by simp) (by omega)
  | false =>
    have e0 : (fun s : Od => (s.must false).put e) = fun s => ⟨s.b, false⟩ := by funext s; exact must_put_no s e
    rw [e0]
    exact ⟨fun s _ => rfl, fun s _ _ => rfl, fun s _ h => (by cases h), fun s => Nat.le_add_right _ _, fun s h => h⟩
def Od.count (s : Od) (n : Int) (most : Int) : Od := (s.must (decide (0 ≤ n) && decide (n ≤ most))).put (Q.enc n.toNat)
theorem dwt_count (n most : Int) (hm : most ≤ 9223372036854775807) : Dwt (fun s => s.count n most) (0 ≤ n ∧ n ≤ most) (Q.enc n.toNat) 10 :=
  (dwt_guard (decide (0 ≤ n) && decide (n ≤ most)) (Q.enc n.toNat) 10 (fun h => ⟨enc_len10 _, Q.enc_byte _ (by simp at h; omega)⟩)).congr rfl (by simp) (fun _ => rfl) (Nat.le_refl _)
def Od.text (s : Od) (d : ByteArray) (most : Nat) : Od := (s.must (decide (d.size ≤ most))).put (encT d)
theorem encT_len (d : ByteArray) : (encT d).length ≤ d.size + 10 := by
  unfold encT
  rw [List.length_append, bts_length]
  have := enc_len10 d.size
  omega
theorem encT_byte (d : ByteArray) (h : d.size ≤ 9223372036854775807) : Byte (encT d) := (Q.enc_byte _ (by omega)).append (bts_byte d)
theorem dwt_text (d : ByteArray) (most : Nat) (hm : most ≤ 9223372036854775807) : Dwt (fun s => s.text d most) (d.size ≤ most) (encT d) (most + 10) :=
  (dwt_guard (decide (d.size ≤ most)) (encT d) (most + 10) (fun h => by simp at h; exact ⟨by have := encT_len d; omega, encT_byte d (by omega)⟩)).congr rfl (by simp) (fun _ => rfl) (Nat.le_refl _)

/-! ### lists -/
def eachO {α : Type} (step : Od → α → Od) (l : List α) (s : Od) : Od := l.foldl (fun s x => if s.ok then step s x else s) s
theorem eachO_no {α : Type} (step : Od → α → Od) : ∀ (l : List α) (s : Od), s.ok = false → eachO step l s = s
  | [], s, h => rfl
  | x :: r, s, h => by
    show eachO step r (if s.ok then step s x else s) = s
    rw [if_neg (by simp [h])]
    exact eachO_no step r s h
theorem dwt_each {α : Type} {step : Od → α → Od} {ok : α → Prop} {en : α → List Int} {B : Nat} : ∀ (l : List α), (∀ x ∈ l, Dwt (fun s => step s x) (ok x) (en x) B) → Dwt (eachO step l) (∀ x ∈ l, ok x) (l.flatMap en) (l.length * B)
  | [], h => dwt_id.congr (by funext s; rfl) (by simp) (fun _ => rfl) (by omega)
  | x :: r, h => by
    have ih := dwt_each r (fun y hy => h y (by simp [hy]))
    have hx := h x (by simp)
    have h1 : Dwt (fun s => if s.ok then step s x else s) (ok x) (en x) B := by
      refine ⟨fun s hs => ?_, fun s hs => ?_, fun s hs => ?_, fun s => ?_, fun s hs => ?_⟩
      · show (if s.ok then step s x else s).ok = false
        rw [if_neg (by simp [hs])]
        exact hs
      · show _ → (if s.ok then step s x else s).ok = false
        rw [if_pos hs]
        exact hx.bad s hs
      · show _ → (if s.ok then step s x else s) = _
        rw [if_pos hs]
        exact hx.yes s hs
      · show (if s.ok then step s x else s).b.length ≤ _
        split
        · exact hx.len s
        · omega
      · show Byte (if s.ok then step s x else s).b
        split
        · exact hx.byte s hs
        · exact hs
    refine (h1.comp ih).congr (by funext s; rfl) (by simp) (fun _ => by rw [List.flatMap_cons]) ?_
    rw [List.length_cons, Nat.succ_mul]
    omega
def Od.list {α : Type} (s : Od) (most : Nat) (step : Od → α → Od) (l : List α) : Od := eachO step l (s.count (l.length : Int) (most : Int))
theorem dwt_list {α : Type} {step : Od → α → Od} {ok : α → Prop} {en : α → List Int} {B : Nat} (most : Nat) (hm : most ≤ 9223372036854775807) (l : List α) (h : ∀ x ∈ l, Dwt (fun s => step s x) (ok x) (en x) B) : Dwt (fun s => s.list most step l) (l.length ≤ most ∧ ∀ x ∈ l, ok x) (encE en l) (10 + most * B) := by
  by_cases hl : l.length ≤ most
  · refine ((dwt_count (l.length : Int) (most : Int) (by omega)).comp (dwt_each l h)).congr (by funext s; rfl) ?_ (fun _ => by unfold encE; simp) ?_
    · constructor
      · rintro ⟨_, h2⟩; exact ⟨hl, h2⟩
      · rintro ⟨_, h2⟩; exact ⟨by omega, h2⟩
    · have := Nat.mul_le_mul_right B hl
      omega
  · have e0 : (fun s : Od => s.list most step l) = fun s => ⟨s.b, false⟩ := by
      funext s
      have hc : s.count (l.length : Int) (most : Int) = ⟨s.b, false⟩ := by
        unfold Od.count
        have : (decide ((0 : Int) ≤ (l.length : Int)) && decide ((l.length : Int) ≤ (most : Int))) = false := by simp; omega
        rw [this, must_put_no]
      unfold Od.list
      rw [hc]
      exact eachO_no step l _ rfl
    rw [e0]
    exact ⟨fun s _ => rfl, fun s _ _ => rfl, fun s _ h => absurd h.1 hl, fun s => Nat.le_add_right _ _, fun s h => h⟩
def oLabel (s : Od) (x : La) : Od := (s.text x.n 64).text x.v 64
theorem dwt_label (x : La) : Dwt (fun s => oLabel s x) (okL x) (enL x) 148 := ((dwt_text x.n 64 (by omega)).comp (dwt_text x.v 64 (by omega))).congr rfl Iff.rfl (fun _ => rfl) (by omega)
def Od.labels (s : Od) (l : List La) : Od := s.list 16 oLabel l
theorem dwt_labels (l : List La) : Dwt (fun s => s.labels l) (okLs l) (enLs l) 2378 := (dwt_list 16 (by omega) l (fun x _ => dwt_label x)).congr rfl Iff.rfl (fun _ => rfl) (by omega)
def oMatch (s : Od) (x : Ma) : Od := (((s.text x.n 64).must (decide (1 ≤ x.op) && decide (x.op ≤ 4))).add [u8 x.op]).text x.t 64
theorem u8_byte (n : Int) : Byte [u8 n] := by
  intro x hx
  simp at hx
  subst hx
  unfold u8
  omega
theorem dwt_match (x : Ma) : Dwt (fun s => oMatch s x) (okM x) (enM x) 149 := by
  refine ((((dwt_text x.n 64 (by omega)).comp (dwt_must (decide (1 ≤ x.op) && decide (x.op ≤ 4)))).comp (dwt_add [u8 x.op] 1 (by simp) (u8_byte _))).comp (dwt_text x.t 64 (by omega))).congr rfl ?_ ?_ (by omega)
  · unfold okM
    simp
  · rintro ⟨⟨⟨_, h⟩, _⟩, _⟩
    simp at h
    unfold enM u8
    rw [Int.emod_eq_of_lt (by omega) (by omega)]
    simp
def Od.matchers (s : Od) (l : List Ma) : Od := s.list 8 oMatch l
theorem dwt_matchers (l : List Ma) : Dwt (fun s => s.matchers l) (okMs l) (enMs l) 1202 := (dwt_list 8 (by omega) l (fun x _ => dwt_match x)).congr rfl Iff.rfl (fun _ => rfl) (by omega)
def Od.samples (s : Od) (l : List Sm) : Od := s.put (encSs l)
theorem encC_le19 (l : List Sm) (h : ∀ x ∈ l, OkS x) : (encC l).length ≤ 19 * l.length + 11 := by
  have h1 := rowB_le h
  have h2 := enc_len10 l.length
  unfold encC
  split
  · simp
  · rw [List.length_append, pk_len]
    omega
theorem encSs_len (l : List Sm) (h : ∀ x ∈ l, OkS x) : (encSs l).length ≤ 19 * l.length + 21 := by
  have h1 := encC_le19 l h
  have h2 := enc_len10 (encC l).length
  unfold encSs
  rw [List.length_append]
  omega
theorem encSs_byte (l : List Sm) (h : ∀ x ∈ l, OkS x) (hl : l.length ≤ 1000000000000000) : Byte (encSs l) := by
  have h1 := encC_le19 l h
  exact (Q.enc_byte _ (by omega)).append (encC_byte l (by omega))
theorem dwt_samples (l : List Sm) (h : ∀ x ∈ l, OkS x) (B : Nat) (hl : l.length ≤ B) (hB : B ≤ 1000000000000000) : Dwt (fun s => s.samples l) True (encSs l) (19 * B + 21) :=
  dwt_put _ _ (by have := encSs_len l h; omega) (encSs_byte l h (by omega))
/-! ### writes -/
def oWrite (q : Od × Nat) (x : Se) : Od × Nat := if q.1.ok then (((⟨q.1.b, decide (0 < x.2.length) && decide (x.2.length + q.2 ≤ 256)⟩ : Od).labels x.1).samples x.2, q.2 + x.2.length) else q
def oWrites (l : List Se) (q : Od × Nat) : Od × Nat := l.foldl oWrite q
def okWr (l : List Se) (all : Nat) : Prop := (∀ x ∈ l, x.2.length ≠ 0 ∧ okLs x.1) ∧ (l ≠ [] → all + (l.map (fun x => x.2.length)).sum ≤ 256)
theorem oWrites_no : ∀ (l : List Se) (q : Od × Nat), q.1.ok = false → oWrites l q = q
  | [], q, h => rfl
  | x :: r, q, h => by
    show oWrites r (oWrite q x) = q
    have e : oWrite q x = q := by unfold oWrite; rw [if_neg (by simp [h])]
    rw [e]
    exact oWrites_no r q h
theorem oWrite_ok {s : Od} {all : Nat} {x : Se} (hs : s.ok = true) (hx : ∀ y ∈ x.2, OkS y) (h1 : x.2.length ≠ 0) (h2 : x.2.length + all ≤ 256) (h3 : okLs x.1) : oWrite (s, all) x = (⟨s.b ++ enE x, true⟩, all + x.2.length) := by
  unfold oWrite
  rw [if_pos hs]
  have e : (decide (0 < x.2.length) && decide (x.2.length + all ≤ 256)) = true := by simp; omega
  show (((⟨s.b, _⟩ : Od).labels x.1).samples x.2, _) = _
  rw [e]
  have := ((dwt_labels x.1).comp (dwt_samples x.2 hx x.2.length (Nat.le_refl _) (by omega))).yes ⟨s.b, true⟩ rfl ⟨h3, trivial⟩
  rw [this]
  rfl
theorem oWrite_len {s : Od} {all : Nat} {x : Se} (hx : ∀ y ∈ x.2, OkS y) : (oWrite (s, all) x).1.b.length ≤ s.b.length + 7263 := by
  unfold oWrite
  split
  · show (((⟨s.b, _⟩ : Od).labels x.1).samples x.2).b.length ≤ _
    by_cases h : x.2.length ≤ 256
    · have := ((dwt_labels x.1).comp (dwt_samples x.2 hx 256 h (by omega))).len ⟨s.b, decide (0 < x.2.length) && decide (x.2.length + all ≤ 256)⟩
      simp only at this ⊢
      omega
    · have e : (decide (0 < x.2.length) && decide (x.2.length + all ≤ 256)) = false := by simp; omega
      rw [e]
      have h1 := (dwt_labels x.1).no ⟨s.b, false⟩ rfl
      have h2 := (dwt_labels x.1).len ⟨s.b, false⟩
      unfold Od.samples Od.put
      rw [if_neg (by simp [h1])]
      simp only at h2 ⊢
      omega
  · simp only
    omega
theorem oWrite_byte {s : Od} {all : Nat} {x : Se} (hx : ∀ y ∈ x.2, OkS y) (hl : x.2.length ≤ 1000000000000000) (hs : Byte s.b) : Byte (oWrite (s, all) x).1.b := by
  unfold oWrite
  split
  · exact ((dwt_labels x.1).comp (dwt_samples x.2 hx x.2.length (Nat.le_refl _) hl)).byte ⟨s.b, _⟩ hs
  · exact hs
theorem oWrite_bad {s : Od} {all : Nat} {x : Se} (hs : s.ok = true) (hx : ∀ y ∈ x.2, OkS y) (h : ¬ (x.2.length ≠ 0 ∧ x.2.length + all ≤ 256 ∧ okLs x.1)) : (oWrite (s, all) x).1.ok = false := by
  unfold oWrite
  rw [if_pos hs]
  show (((⟨s.b, _⟩ : Od).labels x.1).samples x.2).ok = false
  have hno : ∀ t : Od, t.ok = false → (t.samples x.2).ok = false := fun t ht => by unfold Od.samples Od.put; rw [if_neg (by simp [ht])]; exact ht
  by_cases h1 : x.2.length ≠ 0 ∧ x.2.length + all ≤ 256
  · refine hno _ ((dwt_labels x.1).bad ⟨s.b, _⟩ ?_ (fun h3 => h ⟨h1.1, h1.2, h3⟩))
    simp
    omega
  · refine hno _ ((dwt_labels x.1).no ⟨s.b, _⟩ ?_)
    simp
    omega
theorem oWrites_yes : ∀ (l : List Se) (s : Od) (all : Nat), s.ok = true → (∀ x ∈ l, ∀ y ∈ x.2, OkS y) → okWr l all → oWrites l (s, all) = (⟨s.b ++ l.flatMap enE, true⟩, all + (l.map (fun x => x.2.length)).sum)
  | [], s, all, hs, hg, h => by
    obtain ⟨b, o⟩ := s
    have hs : o = true := hs
    subst hs
    simp [oWrites]
  | x :: r, s, all, hs, hg, h => by
    have hsum := h.2 (by simp)
    simp only [List.map_cons, List.sum_cons] at hsum
    have h1 := h.1 x (by simp)
    show oWrites r (oWrite (s, all) x) = _
    rw [oWrite_ok hs (hg x (by simp)) h1.1 (by omega) h1.2]
    rw [oWrites_yes r ⟨s.b ++ enE x, true⟩ _ rfl (fun y hy => hg y (by simp [hy])) ⟨fun y hy => h.1 y (by simp [hy]), fun _ => by omega⟩]
    simp [List.flatMap_cons]
    omega
theorem oWrites_bad : ∀ (l : List Se) (s : Od) (all : Nat), s.ok = true → (∀ x ∈ l, ∀ y ∈ x.2, OkS y) → ¬ okWr l all → (oWrites l (s, all)).1.ok = false
  | [], s, all, hs, hg, h => absurd ⟨by simp, by simp⟩ h
  | x :: r, s, all, hs, hg, h => by
    show (oWrites r (oWrite (s, all) x)).1.ok = false
    by_cases h1 : x.2.length ≠ 0 ∧ x.2.length + all ≤ 256 ∧ okLs x.1
    · rw [oWrite_ok hs (hg x (by simp)) h1.1 h1.2.1 h1.2.2]
      refine oWrites_bad r ⟨s.b ++ enE x, true⟩ _ rfl (fun y hy => hg y (by simp [hy])) (fun h2 => h ⟨fun y hy => ?_, fun _ => ?_⟩)
      · rcases List.mem_cons.1 hy with rfl | hy
        · exact ⟨h1.1, h1.2.2⟩
        · exact h2.1 y hy
      · simp only [List.map_cons, List.sum_cons]
        cases r with
        | nil => simp; omega
        | cons z r => have := h2.2 (by simp); omega
    · rw [oWrites_no r _ (oWrite_bad hs (hg x (by simp)) h1)]
      exact oWrite_bad hs (hg x (by simp)) h1
theorem oWrites_len : ∀ (l : List Se) (q : Od × Nat), (∀ x ∈ l, ∀ y ∈ x.2, OkS y) → (oWrites l q).1.b.length ≤ q.1.b.length + l.length * 7263
  | [], q, hg => by simp [oWrites]
  | x :: r, q, hg => by
    have h1 := oWrites_len r (oWrite q x) (fun y hy => hg y (by simp [hy]))
    have h2 := oWrite_len (s := q.1) (all := q.2) (hg x (by simp))
    show (oWrites r (oWrite q x)).1.b.length ≤ _
    rw [List.length_cons, Nat.succ_mul]
    have h3 : oWrite (q.1, q.2) x = oWrite q x := rfl
    rw [h3] at h2
    omega
theorem oWrites_byte : ∀ (l : List Se) (q : Od × Nat), (∀ x ∈ l, (∀ y ∈ x.2, OkS y) ∧ x.2.length ≤ 1000000000000000) → Byte q.1.b → Byte (oWrites l q).1.b
  | [], q, hg, h => h
  | x :: r, q, hg, h => oWrites_byte r (oWrite q x) (fun y hy => hg y (by simp [hy])) (oWrite_byte (s := q.1) (all := q.2) (hg x (by simp)).1 (hg x (by simp)).2 h)
def Od.writes (s : Od) (l : List Se) : Od := (oWrites l ((s.must (decide (0 < l.length))).count (l.length : Int) 64, 0)).1
theorem dwt_writes (l : List Se) (hg : ∀ x ∈ l, (∀ y ∈ x.2, OkS y) ∧ x.2.length ≤ 1000000000000000) : Dwt (fun s => s.writes l) ((l.length ≤ U64 ∧ ∀ x ∈ l, okLs x.1) ∧ areS l = true) (enEs l) 464842 := by
  have hg1 : ∀ x ∈ l, ∀ y ∈ x.2, OkS y := fun x hx => (hg x hx).1
  have hc := (dwt_must (decide (0 < l.length))).comp (dwt_count (l.length : Int) 64 (by omega))
  have hok : ((l.length ≤ U64 ∧ ∀ x ∈ l, okLs x.1) ∧ areS l = true) ↔ (decide (0 < l.length) = true ∧ (0 : Int) ≤ l.length ∧ (l.length : Int) ≤ 64) ∧ okWr l 0 := by
    unfold areS okWr
    simp only [Bool.and_eq_true, List.all_eq_true, decide_eq_true_eq]
    constructor
    · rintro ⟨⟨_, h2⟩, h3, h4, h5, h6⟩
      exact ⟨⟨by omega, by omega, by omega⟩, fun x hx => ⟨h3 x hx, h2 x hx⟩, fun _ => by omega⟩
    · rintro ⟨⟨h1, _, h3⟩, h4, h5⟩
      have := h5 (by intro h; rw [h] at h1; simp at h1)
      exact ⟨⟨by unfold U64; omega, fun x hx => (h4 x hx).2⟩, fun x hx => (h4 x hx).1, by omega, by omega, by omega⟩
  have hok2 := propext hok
  rw [hok2]
  refine ⟨fun s hs => ?_, fun s hs hn => ?_, fun s hs ho => ?_, fun s => ?_, fun s hs => oWrites_byte l _ hg (hc.byte s hs)⟩
  · have h1 := hc.no s hs
    show (oWrites l (_, 0)).1.ok = false
    rw [oWrites_no l _ h1]
    exact h1
  · show (oWrites l (_, 0)).1.ok = false
    by_cases h1 : decide (0 < l.length) = true ∧ (0 : Int) ≤ l.length ∧ (l.length : Int) ≤ 64
    · have e := hc.yes s hs h1
      try simp only at e
      rw [e]
      exact oWrites_bad l _ 0 rfl hg1 (fun h2 => hn ⟨h1, h2⟩)
    · have h2 := hc.bad s hs h1
      rw [oWrites_no l _ h2]
      exact h2
  · show (oWrites l (_, 0)).1 = _
    have e := hc.yes s hs ho.1
    try simp only at e
    rw [e, oWrites_yes l _ 0 rfl hg1 ho.2]
    unfold enEs encE
    simp
  · show (oWrites l (_, 0)).1.b.length ≤ _
    have h2 := hc.len s
    try simp only at h2
    by_cases h1 : l.length ≤ 64
    · have h3 := oWrites_len l ((s.must (decide (0 < l.length))).count (l.length : Int) 64, 0) hg1
      simp only at h3
      have := Nat.mul_le_mul_right 7263 h1
      omega
    · have e : (s.must (decide (0 < l.length))).count (l.length : Int) 64 = ⟨s.b, false⟩ := by
        unfold Od.count
        have : (decide ((0 : Int) ≤ (l.length : Int)) && decide ((l.length : Int) ≤ 64)) = false := by simp; omega
        rw [this, must_put_no]
        rfl
      rw [e, oWrites_no l _ rfl]
      simp
/-! ### a request -/
/-- What the document's writer does with a field of a request. -/
def fieldD : FV → Od → Od
  | .tx d, s => s.text d 64 | .qu d, s => s.text d 4096 | .tk l, s => s.text (strOfNums l) 64 | .ws l, s => s.writes l | .ms l, s => s.matchers l | .tm n, s => s.add (Q.enc (Q.fold n)) | .am n, s => s.count n 1099511627775
  | _, s => s
def Small : FV → Prop
  | .ws l => ∀ x ∈ l, x.2.length ≤ 1000000000000000
  | .se _ => False | .ro _ => False | .nu _ => False | .ts _ => False | _ => True
theorem dwt_V (v : FV) (h : Good v) (hs : Small v) : Dwt (fieldD v) (okW v) (encV v) 464842 := by
  cases v with
  | tx d => exact (dwt_text d 64 (by omega)).congr (by funext s; rfl) Iff.rfl (fun _ => rfl) (by omega)
  | qu d => exact (dwt_text d 4096 (by omega)).congr (by funext s; rfl) Iff.rfl (fun _ => rfl) (by omega)
  | tk l => exact (dwt_text (strOfNums l) 64 (by omega)).congr (by funext s; rfl) (by rw [strOf_size]; exact Iff.rfl) (fun _ => by unfold encT; rw [strOf_size, bts_strOf l h]; rfl) (by omega)
  | ws l => exact (dwt_writes l (fun x hx => ⟨h x hx, hs x hx⟩)).congr (by funext s; rfl) Iff.rfl (fun _ => rfl) (by omega)
  | ms l => exact (dwt_matchers l).congr (by funext s; rfl) Iff.rfl (fun _ => rfl) (by omega)
  | tm n =>
    have hn : -9223372036854775808 ≤ n ∧ n ≤ 9223372036854775807 := h
    have := Q.fold_le n hn.1 hn.2
    exact (dwt_add (Q.enc (Q.fold n)) 10 (enc_len10 _) (Q.enc_byte _ (by omega))).congr (by funext s; rfl) Iff.rfl (fun _ => rfl) (by omega)
  | am n => exact (dwt_count n 1099511627775 (by omega)).congr (by funext s; rfl) Iff.rfl (fun _ => rfl) (by omega)
  | se l => exact hs.elim
  | ro l => exact hs.elim
  | nu n => exact hs.elim
  | ts l => exact hs.elim
def fieldsD (f : Nat → FV) (used : List Nat) (s : Od) : Od := used.foldl (fun s i => fieldD (f i) s) s
theorem dwt_fields (f : Nat → FV) : ∀ (used : List Nat), (∀ i ∈ used, Good (f i) ∧ Small (f i)) → Dwt (fieldsD f used) (∀ i ∈ used, okW (f i)) (enF f used) (used.length * 464842)
  | [], h => dwt_id.congr (by funext s; rfl) (by simp) (fun _ => rfl) (by omega)
  | i :: r, h => ((dwt_V (f i) (h i (by simp)).1 (h i (by simp)).2).comp (dwt_fields f r (fun j hj => h j (by simp [hj])))).congr (by funext s; rfl) (by simp) (fun _ => by unfold enF; rw [List.flatMap_cons]) (by rw [List.length_cons, Nat.succ_mul]; omega)
/-- Is all zero but what is used? -/
def bareB (f : Nat → FV) (used : List Nat) : Bool := (List.range 12).all (fun i => isZ (f i) || decide (i ∈ used))
/-- The document's Encode. -/
def docEnc (k : Int) (f : Nat → FV) : Int × List Int := match fieldsK k with
  | none => (180, [])
  | some used => if (fieldsD f used ⟨[u8 k], bareB f used⟩).ok = false ∨ 65536 < (fieldsD f used ⟨[u8 k], bareB f used⟩).b.length then (180, []) else (0, (fieldsD f used ⟨[u8 k], bareB f used⟩).b)
theorem docEnc_eq {k : Int} {f : Nat → FV} (h : ShQ f) (hs : ∀ i, Small (f i)) : docEnc k f = (match encQ k f with | some c => (0, c) | none => (180, [])) := by
  unfold docEnc
  cases hu : fieldsK k with
  | none =>
    simp only
    have : encQ k f = none := by
      cases he : encQ k f with
      | none => rfl
      | some c => obtain ⟨⟨used, h1, _⟩, _⟩ := (encQ_iff h c).1 he; rw [hu] at h1; cases h1
    rw [this]
  | some used =>
    simp only
    have e : usedQ k = used := by unfold usedQ; rw [hu]; rfl
    obtain ⟨_, _, n3, n4⟩ := fieldsK_some hu
    have hk8 : u8 k = k := by unfold u8; omega
    have hd := dwt_fields f used (fun i _ => ⟨h.good i, hs i⟩)
    have hz : bareB f used = true ↔ ∀ i ∈ List.range 12, isZ (f i) = true ∨ i ∈ usedQ k := by
      unfold bareB
      rw [List.all_eq_true, e]
      simp
    have hen : enRq k f = [u8 k] ++ enF f used := by unfold enRq; rw [e, hk8]; rfl
    have hno : ((fieldsK k).isSome = true ∧ (∀ i ∈ List.range 12, isZ (f i) = true ∨ i ∈ usedQ k) ∧ ∀ i ∈ usedQ k, okW (f i)) ↔ (bareB f used = true ∧ ∀ i ∈ used, okW (f i)) := by
      rw [hz, hu, e]
      simp
    by_cases hok : bareB f used = true ∧ ∀ i ∈ used, okW (f i)
    · rw [hok.1, hd.yes ⟨[u8 k], true⟩ rfl hok.2]
      simp only
      rw [← hen]
      by_cases hl : (enRq k f).length ≤ 65536
      · rw [if_neg (by simp; omega), (encQ_iff h _).2 ⟨(okW_rq h (by omega)).1 (hno.2 hok), hl, rfl⟩]
      · rw [if_pos (by right; omega)]
        have : encQ k f = none := by
          cases he : encQ k f with
          | none => rfl
          | some c => exact absurd ((encQ_iff h c).1 he).2.1 hl
        rw [this]
    · have hb : (fieldsD f used ⟨[u8 k], bareB f used⟩).ok = false := by
        cases hz2 : bareB f used with
        | false => exact hd.no _ rfl
        | true => exact hd.bad _ rfl (fun h2 => hok ⟨hz2, h2⟩)
      rw [if_pos (.inl hb)]
      have : encQ k f = none := by
        cases he : encQ k f with
        | none => rfl
        | some c =>
          obtain ⟨h1, h2, _⟩ := (encQ_iff h c).1 he
          exact absurd (hno.1 ((okW_rq h (by omega)).2 h1)) hok
      rw [this]

end Go.Proofs.YtalmpmhnkilalaaGreatDoor

/-
  The document's Answer, purely.
-/
namespace Go.Proofs.YtalmpmhnkilalaaGreatDoor
open Go.RowKit
set_option linter.unusedVariables false

/-- Once there are more bytes than may be, they are counted and let go. -/
def oLess (q : Od × Nat) : Od × Nat := if q.2 + q.1.b.length ≤ 1048576 then q else (⟨[], q.1.ok⟩, q.2 + q.1.b.length)
def eachL {α : Type} (step : Od → α → Od) (l : List α) (q : Od × Nat) : Od × Nat := l.foldl (fun q x => if q.1.ok then oLess (step q.1 x, q.2) else q) q
/-- All that was written so far. -/
def Wrn (q : Od × Nat) (t : List Int) : Prop := q.1.ok = true ∧ ((q.2 = 0 ∧ q.1.b = t) ∨ (1048576 < t.length ∧ q.2 + q.1.b.length = t.length))
theorem less_ok (q : Od × Nat) : (oLess q).1.ok = q.1.ok := by
  unfold oLess
  split <;> rfl
theorem less_len (q : Od × Nat) : (oLess q).1.b.length ≤ 1048576 := by
  unfold oLess
  split
  · omega
  · simp
theorem Wrn.less {q : Od × Nat} {t : List Int} (h : Wrn q t) : Wrn (oLess q) t := by
  refine ⟨by rw [less_ok]; exact h.1, ?_⟩
  unfold oLess
  split
  · exact h.2
  · rename_i hn
    right
    rcases h.2 with ⟨h1, h2⟩ | ⟨h1, h2⟩
    · rw [h2, h1] at hn ⊢
      simp at hn ⊢
      exact hn
    · simp
      omega
theorem Wrn.step {f : Od → Od} {ok : Prop} {e : List Int} {B : Nat} (hf : Dwt f ok e B) {q : Od × Nat} {t : List Int} (h : Wrn q t) (ho : ok) : Wrn (f q.1, q.2) (t ++ e) := by
  rw [hf.yes q.1 h.1 ho]
  refine ⟨rfl, ?_⟩
  rcases h.2 with ⟨h1, h2⟩ | ⟨h1, h2⟩
  · left
    exact ⟨h1, by rw [h2]⟩
  · right
    simp
    omega
theorem eachL_no {α : Type} (step : Od → α → Od) : ∀ (l : List α) (q : Od × Nat), q.1.ok = false → eachL step l q = q
  | [], q, h => rfl
  | x :: r, q, h => by
    show eachL step r (if q.1.ok then oLess (step q.1 x, q.2) else q) = q
    rw [if_neg (by simp [h])]
    exact eachL_no step r q h
theorem eachL_len {α : Type} (step : Od → α → Od) : ∀ (l : List α) (q : Od × Nat), q.1.b.length ≤ 1048576 → (eachL step l q).1.b.length ≤ 1048576
  | [], q, h => h
  | x :: r, q, h => by
    show (eachL step r (if q.1.ok then oLess (step q.1 x, q.2) else q)).1.b.length ≤ _
    refine eachL_len step r _ ?_
    split
    · exact less_len _
    · exact h
theorem eachL_rep {α : Type} {step : Od → α → Od} {ok : α → Prop} {en : α → List Int} {B : Nat} : ∀ (l : List α) (q : Od × Nat) (t : List Int), (∀ x ∈ l, Dwt (fun s => step s x) (ok x) (en x) B) → Wrn q t →
    ((∀ x ∈ l, ok x) → Wrn (eachL step l q) (t ++ l.flatMap en)) ∧ (¬ (∀ x ∈ l, ok x) → (eachL step l q).1.ok = false)
  | [], q, t, h, hr => ⟨fun _ => by rw [List.flatMap_nil, List.append_nil]; exact hr, fun hn => absurd (by simp) hn⟩
  | x :: r, q, t, h, hr => by
    have hx := h x (by simp)
    have e : eachL step (x :: r) q = eachL step r (oLess (step q.1 x, q.2)) := by
      show eachL step r (if q.1.ok then oLess (step q.1 x, q.2) else q) = _
      rw [if_pos hr.1]
    rw [e]
    by_cases ho : ok x
    · have h1 := (hr.step hx ho).less
      obtain ⟨i1, i2⟩ := eachL_rep r _ _ (fun y hy => h y (by simp [hy])) h1
      constructor
      · intro ha
        rw [List.flatMap_cons, ← List.append_assoc]
        exact i1 (fun y hy => ha y (by simp [hy]))
      · intro hn
        exact i2 (fun ha => hn (fun y hy => by
          rcases List.mem_cons.1 hy with rfl | hy
          · exact ho
          · exact ha y hy))
    · have h1 : (oLess (step q.1 x, q.2)).1.ok = false := by rw [less_ok]; exact hx.bad q.1 hr.1 ho
      constructor
      · intro ha
        exact absurd (ha x (by simp)) ho
      · intro _
        rw [eachL_no step r _ h1]
        exact h1
def oSer (s : Od) (x : Se) : Od := (s.labels x.1).samples x.2
theorem dwt_ser (x : Se) (h : ∀ y ∈ x.2, OkS y) (hl : x.2.length ≤ 1000000) : Dwt (fun s => oSer s x) (okLs x.1) (enE x) 19002399 := ((dwt_labels x.1).comp (dwt_samples x.2 h 1000000 hl (by omega))).congr (by funext s; rfl) (by simp) (fun _ => rfl) (by omega)
def oRow (s : Od) (x : Rx) : Od := (s.labels x.1).add (Q.enc x.2)
theorem dwt_row (x : Rx) (h : x.2 ≤ U64) : Dwt (fun s => oRow s x) (okR x) (enR x) 2388 := by
  have h' : x.2 ≤ 18446744073709551615 := h
  exact ((dwt_labels x.1).comp (dwt_add (Q.enc x.2) 10 (enc_len10 _) (Q.enc_byte _ (by omega)))).congr (by funext s; rfl) (by unfold okR; simp [h]) (fun _ => rfl) (by omega)
/-- What the document's writer does with a response's field. -/
def fieldB : FV → Od → Od × Nat
  | .se l, s => eachL oSer l (s.count (l.length : Int) 2147483647, 0)
  | .ro l, s => eachL oRow l (s.count (l.length : Int) 2147483647, 0)
  | .nu n, s => (s.count n 9223372036854775807, 0)
  | .ts l, s => eachL (fun s d => s.text d 64) l (s.count (l.length : Int) 2147483647, 0)
  | _, s => (s, 0)
/-- What the statements hand in. -/
def SmallA : FV → Prop
  | .se l => l.length ≤ 2147483647 ∧ ∀ x ∈ l, x.2.length ≤ 1000000
  | .ro l => l.length ≤ 2147483647 ∧ ∀ x ∈ l, x.2 ≤ U64
  | .ts l => l.length ≤ 2147483647
  | _ => True
theorem rep_count {t : List Int} (n : Nat) (h : n ≤ 2147483647) : Wrn ((⟨t, true⟩ : Od).count (n : Int) 2147483647, 0) (t ++ Q.enc n) := by
  have := (dwt_count (n : Int) 2147483647 (by omega)).yes ⟨t, true⟩ rfl ⟨by omega, by omega⟩
  simp only at this
  rw [this]
  exact ⟨rfl, .inl ⟨rfl, by simp⟩⟩
theorem rep_B (v : FV) (t : List Int) (hg : Good v) (hs : SmallA v) (hk : v.kd = .se ∨ v.kd = .ro ∨ v.kd = .nu ∨ v.kd = .ts) : (okW v → Wrn (fieldB v ⟨t, true⟩) (t ++ encV v)) ∧ (¬ okW v → (fieldB v ⟨t, true⟩).1.ok = false) := by
  cases v with
  | se l =>
    have hs : l.length ≤ 2147483647 ∧ ∀ x ∈ l, x.2.length ≤ 1000000 := hs
    obtain ⟨h1, h2⟩ := eachL_rep l _ _ (fun x hx => dwt_ser x (hg x hx) (hs.2 x hx)) (rep_count (t := t) l.length hs.1)
    refine ⟨fun h => ?_, fun h => h2 (fun ha => h ⟨by unfold U64; omega, ha⟩)⟩
    have := h1 h.2
    rw [List.append_assoc] at this
    exact this
  | ro l =>
    have hs : l.length ≤ 2147483647 ∧ ∀ x ∈ l, x.2 ≤ U64 := hs
    obtain ⟨h1, h2⟩ := eachL_rep l _ _ (fun x hx => dwt_row x (hs.2 x hx)) (rep_count (t := t) l.length hs.1)
    refine ⟨fun h => ?_, fun h => h2 (fun ha => h ⟨by unfold U64; omega, ha⟩)⟩
    have := h1 h.2
    rw [List.append_assoc] at this
    exact this
  | nu n =>
    have hd := dwt_count n 9223372036854775807 (by omega)
    refine ⟨fun h => ?_, fun h => hd.bad ⟨t, true⟩ rfl h⟩
    have := hd.yes ⟨t, true⟩ rfl h
    simp only at this
    show Wrn ((⟨t, true⟩ : Od).count n 9223372036854775807, 0) _
    rw [this]
    exact ⟨rfl, .inl ⟨rfl, rfl⟩⟩
  | ts l =>
    have hs : l.length ≤ 2147483647 := hs
    obtain ⟨h1, h2⟩ := eachL_rep (step := fun s d => s.text d 64) l _ _ (fun x hx => dwt_text x 64 (by omega)) (rep_count (t := t) l.length hs)
    refine ⟨fun h => ?_, fun h => h2 (fun ha => h ⟨by unfold U64; omega, ha⟩)⟩
    have := h1 h.2
    rw [List.append_assoc] at this
    exact this
  | _ => rcases hk with h | h | h | h <;> cases h
/-- Is a response's frame right? -/
def headB (e k : Int) (f : Nat → FV) : Bool := decide (0 ≤ e) && decide (e ≤ 999) && decide (0 ≤ k) && decide (k ≤ 4) && (decide (k = 1) || isZ (f 0)) && (decide (k = 2) || isZ (f 1)) && (decide (k = 3) || isZ (f 2)) && (decide (k = 4) || isZ (f 3)) && (decide (e = 0) || (decide (k = 0) && isZ (f 0) && isZ (f 1) && isZ (f 2) && isZ (f 3)))
def bodyB (k : Int) (f : Nat → FV) (s : Od) : Od × Nat := if k = 1 then fieldB (f 0) s else if k = 2 then fieldB (f 1) s else if k = 3 then fieldB (f 2) s else if k = 4 then fieldB (f 3) s else (s, 0)
/-- The document's Answer. -/
def docAns (e k : Int) (f : Nat → FV) : Int × List Int :=
  if headB e k f = false then (180, []) else if e ≠ 0 then (0, Q.enc e.toNat) else
  if (bodyB k f ⟨Q.enc e.toNat ++ [u8 k], true⟩).1.ok = false then (180, []) else
  if 1048576 < (bodyB k f ⟨Q.enc e.toNat ++ [u8 k], true⟩).2 + (bodyB k f ⟨Q.enc e.toNat ++ [u8 k], true⟩).1.b.length then (181, []) else (0, (bodyB k f ⟨Q.enc e.toNat ++ [u8 k], true⟩).1.b)
theorem rep_end {q : Od × Nat} {t : List Int} (h : Wrn q t) : (if 1048576 < q.2 + q.1.b.length then ((181 : Int), ([] : List Int)) else (0, q.1.b)) = if 1048576 < t.length then (181, []) else (0, t) := by
  rcases h.2 with ⟨h1, h2⟩ | ⟨h1, h2⟩
  · rw [h1, h2, Nat.zero_add]
  · rw [h2, if_pos h1, if_pos h1]
theorem ansQ_of {e k : Int} {f : Nat → FV} (h : ShA f) (h0 : -9223372036854775808 ≤ e) (h1 : e ≤ 9223372036854775807) : (¬ okAw e k f → ansQ e k f = (180, [])) ∧ (okAw e k f → ansQ e k f = if 1048576 < (enAn e k f).length then (181, []) else (0, enAn e k f)) := by
  obtain ⟨f1, f2, f3, f4⟩ := wrt_fin (wrt_ans (k := k) h h0 h1) 1048576
  unfold ansQ
  refine ⟨fun hn => by rw [f1 hn]; rfl, fun ho => ?_⟩
  by_cases hl : (enAn e k f).length ≤ 1048576
  · have hl2 : ¬ 1048576 < (enAn e k f).length := by omega
    rw [f3 ho hl]
    simp [hl2]
  · have hl2 : 1048576 < (enAn e k f).length := by omega
    rw [f2 ho, f4 ho hl2]
    simp [hl2]
theorem range4 {P : Nat → Prop} : (∀ i ∈ List.range 4, P i) ↔ P 0 ∧ P 1 ∧ P 2 ∧ P 3 := by
  simp [List.range_succ]
theorem docAns_eq {e k : Int} {f : Nat → FV} (h : ShA f) (h0 : -9223372036854775808 ≤ e) (h1 : e ≤ 9223372036854775807) (hs : ∀ i, SmallA (f i)) : docAns e k f = ansQ e k f := by
  obtain ⟨a1, a2⟩ := ansQ_of (k := k) h h0 h1
  unfold docAns
  by_cases hd : headB e k f = false
  · rw [if_pos hd, a1]
    rintro ⟨⟨b0, b1⟩, b2, b3⟩
    have ht : headB e k f = true := by
      unfold headB
      by_cases he : e = 0
      · obtain ⟨c1, c2, _⟩ := b3 he
        obtain ⟨used, hu⟩ := Option.isSome_iff_exists.1 c1
        have eu : usedA k = used := by unfold usedA; rw [hu]; rfl
        rw [eu, range4] at c2
        obtain ⟨_, _, n3, n4⟩ := fieldsA_some hu
        obtain ⟨c0, c1, c2, c3⟩ := c2
        rcases (show k = 0 ∨ k = 1 ∨ k = 2 ∨ k = 3 ∨ k = 4 by omega) with rfl | rfl | rfl | rfl | rfl <;> (simp [fieldsA] at hu; subst hu; simp at c0 c1 c2 c3; simp [he, c0, c1, c2, c3])
      · obtain ⟨c1, c2⟩ := b2 he
        rw [range4] at c2
        obtain ⟨d0, d1, d2, d3⟩ := c2
        simp [c1, d0, d1, d2, d3, b0, b1]
    rw [ht] at hd
    cases hd
  · have hd : headB e k f = true := by simpa using hd
    rw [if_neg (by simp [hd])]
    unfold headB at hd
    simp only [Bool.and_eq_true, Bool.or_eq_true, decide_eq_true_eq] at hd
    obtain ⟨⟨⟨⟨⟨⟨⟨⟨b0, b1⟩, b2⟩, b3⟩, z0⟩, z1⟩, z2⟩, z3⟩, b4⟩ := hd
    by_cases he : e = 0
    · subst he
      rw [if_neg (by simp)]
      have hu8 : u8 k = k := by unfold u8; omega
      have key : ∀ i, i < 4 → fieldsA k = some [i] → (∀ j, j < 4 → j ≠ i → isZ (f j) = true) → bodyB k f = fieldB (f i) → (if (bodyB k f ⟨Q.enc (0 : Int).toNat ++ [u8 k], true⟩).1.ok = false then ((180 : Int), ([] : List Int)) else
          if 1048576 < (bodyB k f ⟨Q.enc (0 : Int).toNat ++ [u8 k], true⟩).2 + (bodyB k f ⟨Q.enc (0 : Int).toNat ++ [u8 k], true⟩).1.b.length then (181, []) else (0, (bodyB k f ⟨Q.enc (0 : Int).toNat ++ [u8 k], true⟩).1.b)) = ansQ 0 k f := by
        intro i hi hf hz hb
        rw [hb]
        have hkd : (f i).kd = .se ∨ (f i).kd = .ro ∨ (f i).kd = .nu ∨ (f i).kd = .ts := by
          rw [h.kd i]
          rcases (show i = 0 ∨ i = 1 ∨ i = 2 ∨ i = 3 by omega) with rfl | rfl | rfl | rfl <;> simp [kdA]
        obtain ⟨r1, r2⟩ := rep_B (f i) (Q.enc (0 : Int).toNat ++ [u8 k]) (h.good i) (hs i) hkd
        have eu : usedA k = [i] := by unfold usedA; rw [hf]; rfl
        by_cases ho : okW (f i)
        · have hr := r1 ho
          have hoa : okAw 0 k f := ⟨by omega, fun hh => absurd rfl hh, fun _ => ⟨by rw [hf]; rfl, fun j hj => ?_, fun j hj => ?_⟩⟩
          · rw [a2 hoa, if_neg (by rw [hr.1]; simp), rep_end hr]
            have een : Q.enc (0 : Int).toNat ++ [u8 k] ++ encV (f i) = enAn 0 k f := by
              unfold enAn enF
              rw [if_neg (by simp), eu, hu8]
              simp
            rw [een]
          · rw [eu]
            by_cases hji : j = i
            · right; simp [hji]
            · left; exact hz j (by simpa using hj) hji
          · rw [eu] at hj
            simp at hj
            rw [hj]
            exact ho
        · rw [if_pos (r2 ho), a1]
          rintro ⟨_, _, b3⟩
          have := (b3 rfl).2.2 i (by rw [eu]; simp)
          exact ho this
      rcases (show k = 0 ∨ k = 1 ∨ k = 2 ∨ k = 3 ∨ k = 4 by omega) with rfl | rfl | rfl | rfl | rfl
      · have hb : bodyB 0 f ⟨Q.enc (0 : Int).toNat ++ [u8 0], true⟩ = (⟨Q.enc (0 : Int).toNat ++ [u8 0], true⟩, 0) := rfl
        rw [hb]
        simp at z0 z1 z2 z3
        have hoa : okAw 0 0 f := ⟨by omega, fun hh => absurd rfl hh, fun _ => ⟨rfl, range4.2 ⟨.inl z0, .inl z1, .inl z2, .inl z3⟩, fun j hj => by cases hj⟩⟩
        rw [a2 hoa]
        rfl
      · simp at z1 z2 z3
        exact key 0 (by omega) rfl (fun j hj hn => by rcases (show j = 1 ∨ j = 2 ∨ j = 3 by omega) with rfl | rfl | rfl <;> assumption) rfl
      · simp at z0 z2 z3
        exact key 1 (by omega) rfl (fun j hj hn => by rcases (show j = 0 ∨ j = 2 ∨ j = 3 by omega) with rfl | rfl | rfl <;> assumption) rfl
      · simp at z0 z1 z3
        exact key 2 (by omega) rfl (fun j hj hn => by rcases (show j = 0 ∨ j = 1 ∨ j = 3 by omega) with rfl | rfl | rfl <;> assumption) rfl
      · simp at z0 z1 z2
        exact key 3 (by omega) rfl (fun j hj hn => by rcases (show j = 0 ∨ j = 1 ∨ j = 2 by omega) with rfl | rfl | rfl <;> assumption) rfl
    · rw [if_pos he]
      simp [he] at b4
      obtain ⟨⟨⟨⟨k0, y0⟩, y1⟩, y2⟩, y3⟩ := b4
      have hoa : okAw e k f := ⟨⟨b0, b1⟩, fun _ => ⟨k0, range4.2 ⟨y0, y1, y2, y3⟩⟩, fun hh => absurd hh he⟩
      rw [a2 hoa]
      have een : enAn e k f = Q.enc e.toNat := by unfold enAn; rw [if_pos he]; simp
      have := enc_len10 e.toNat
      rw [een, if_neg (by omega)]

end Go.Proofs.YtalmpmhnkilalaaGreatDoor
