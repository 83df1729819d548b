/-
  Patterns, purely: a machine that is at all its spots at once, and what it takes. Nothing of the program.
-/
import Derived.ProofKit
namespace Go.Proofs.YtanlgplgplncdaaDoor

abbrev Tx := List Nat
/-- One text behind another one of two kinds. -/
def Cat (P Q : Tx → Prop) (v : Tx) : Prop := ∃ u w, v = u ++ w ∧ P u ∧ Q w
inductive Plus (P : Tx → Prop) : Tx → Prop where
  | one {v : Tx} : P v → Plus P v
  | more {u v : Tx} : P u → Plus P v → Plus P (u ++ v)

/-- Spots one behind the other: from p to q, taking v. -/
inductive Pa (fol lab : Nat → Nat → Prop) : Nat → Tx → Nat → Prop where
  | one {p c : Nat} : lab p c → Pa fol lab p [c] p
  | more {p p' q c : Nat} {v : Tx} : lab p c → fol p p' → Pa fol lab p' v q → Pa fol lab p (c :: v) q

/-- Where a part begins, where it may end, and whether it means the empty text. -/
structure En where
  first : Nat → Prop
  last : Nat → Prop
  emp : Prop
def Acc (fol lab : Nat → Nat → Prop) (e : En) (v : Tx) : Prop := (v = [] ∧ e.emp) ∨ ∃ p q, e.first p ∧ Pa fol lab p v q ∧ e.last q

/-- A part's spots: it begins and ends within them, and leads to no others. -/
structure Cl (R : Nat → Prop) (fol : Nat → Nat → Prop) (e : En) : Prop where
  first : ∀ p, e.first p → R p
  last : ∀ p, e.last p → R p
  fol : ∀ p q, R p → fol p q → R q

theorem Pa.ne {fol lab : Nat → Nat → Prop} {p q : Nat} {v : Tx} (h : Pa fol lab p v q) : v ≠ [] := by
  cases h <;> simp
theorem Pa.within {R : Nat → Prop} {fol lab : Nat → Nat → Prop} (hc : ∀ p q, R p → fol p q → R q) {p q : Nat} {v : Tx} (h : Pa fol lab p v q) (hp : R p) : R q := by
  induction h with
  | one _ => exact hp
  | more _ hf _ ih => exact ih (hc _ _ hp hf)
theorem Pa.mono {R : Nat → Prop} {fol fol' lab : Nat → Nat → Prop} (hc : ∀ p q, R p → fol p q → R q) (hm : ∀ p q, R p → fol p q → fol' p q) {p q : Nat} {v : Tx} (h : Pa fol lab p v q) (hp : R p) : Pa fol' lab p v q := by
  induction h with
  | one hl => exact .one hl
  | more hl hf _ ih => exact .more hl (hm _ _ hp hf) (ih (hc _ _ hp hf))
theorem Pa.join {fol lab : Nat → Nat → Prop} {p i : Nat} {u : Tx} (h : Pa fol lab p u i) {j q : Nat} {w : Tx} (hf : fol i j) (k : Pa fol lab j w q) : Pa fol lab p (u ++ w) q := by
  induction h with
  | one hl => exact .more hl hf k
  | more hl hg _ ih => exact .more hl hg (ih hf)
theorem Acc.congr {R : Nat → Prop} {fol fol' lab : Nat → Nat → Prop} {e : En} (hc : Cl R fol e) (h : ∀ p q, R p → (fol p q ↔ fol' p q)) (v : Tx) : Acc fol lab e v ↔ Acc fol' lab e v := by
  have hc' : ∀ p q, R p → fol' p q → R q := fun p q hp hf => hc.fol p q hp ((h p q hp).2 hf)
  constructor
  · rintro (h0 | ⟨p, q, h1, h2, h3⟩)
    · exact Or.inl h0
    · exact Or.inr ⟨p, q, h1, h2.mono hc.fol (fun p q hp hf => (h p q hp).1 hf) (hc.first p h1), h3⟩
  · rintro (h0 | ⟨p, q, h1, h2, h3⟩)
    · exact Or.inl h0
    · exact Or.inr ⟨p, q, h1, h2.mono hc' (fun p q hp hf => (h p q hp).2 hf) (hc.first p h1), h3⟩

/-! ### the three ways to put parts together -/
section
variable {R S : Nat → Prop} {fol lab : Nat → Nat → Prop} {a b : En}

/-- One of two. -/
def En.either (a b : En) : En := ⟨fun p => a.first p ∨ b.first p, fun p => a.last p ∨ b.last p, a.emp ∨ b.emp⟩
theorem acc_either (ha : Cl R fol a) (hb : Cl S fol b) (hd : ∀ p, R p → S p → False) (v : Tx) : Acc fol lab (a.either b) v ↔ Acc fol lab a v ∨ Acc fol lab b v := by
  constructor
  · rintro (⟨h0, he⟩ | ⟨p, q, h1, h2, h3⟩)
    · rcases he with he | he
      · exact Or.inl (Or.inl ⟨h0, he⟩)
      · exact Or.inr (Or.inl ⟨h0, he⟩)
    · rcases h1 with h1 | h1
      · have hq := h2.within ha.fol (ha.first p h1)
        rcases h3 with h3 | h3
        · exact Or.inl (Or.inr ⟨p, q, h1, h2, h3⟩)
        · exact (hd q hq (hb.last q h3)).elim
      · have hq := h2.within hb.fol (hb.first p h1)
        rcases h3 with h3 | h3
        · exact (hd q (ha.last q h3) hq).elim
        · exact Or.inr (Or.inr ⟨p, q, h1, h2, h3⟩)
  · rintro ((⟨h0, he⟩ | ⟨p, q, h1, h2, h3⟩) | (⟨h0, he⟩ | ⟨p, q, h1, h2, h3⟩))
    · exact Or.inl ⟨h0, Or.inl he⟩
    · exact Or.inr ⟨p, q, Or.inl h1, h2, Or.inl h3⟩
    · exact Or.inl ⟨h0, Or.inr he⟩
    · exact Or.inr ⟨p, q, Or.inr h1, h2, Or.inr h3⟩
theorem cl_either (ha : Cl R fol a) (hb : Cl S fol b) : Cl (fun p => R p ∨ S p) fol (a.either b) where
  first := fun p h => h.imp (ha.first p) (hb.first p)
  last := fun p h => h.imp (ha.last p) (hb.last p)
  fol := fun p q h hf => h.imp (fun h => ha.fol p q h hf) (fun h => hb.fol p q h hf)

/-- One behind the other. -/
def En.chain (a b : En) : En := ⟨fun p => a.first p ∨ (a.emp ∧ b.first p), fun p => b.last p ∨ (b.emp ∧ a.last p), a.emp ∧ b.emp⟩
def lnk (fol : Nat → Nat → Prop) (from' to : Nat → Prop) (p q : Nat) : Prop := fol p q ∨ (from' p ∧ to q)
theorem cl_chain (ha : Cl R fol a) (hb : Cl S fol b) : Cl (fun p => R p ∨ S p) (lnk fol a.last b.first) (a.chain b) where
  first := fun p h => by
    rcases h with h | h
    · exact Or.inl (ha.first p h)
    · exact Or.inr (hb.first p h.2)
  last := fun p h => by
    rcases h with h | h
    · exact Or.inr (hb.last p h)
    · exact Or.inl (ha.last p h.2)
  fol := fun p q h hf => by
    rcases hf with hf | hf
    · exact h.imp (fun h => ha.fol p q h hf) (fun h => hb.fol p q h hf)
    · exact Or.inr (hb.first q hf.2)
theorem chain_cut (ha : Cl R fol a) (hb : Cl S fol b) (hd : ∀ p, R p → S p → False) {p q : Nat} {v : Tx} (h : Pa (lnk fol a.last b.first) lab p v q) :
    (R p → (R q ∧ Pa fol lab p v q) ∨ ∃ u w i j, v = u ++ w ∧ Pa fol lab p u i ∧ a.last i ∧ b.first j ∧ Pa fol lab j w q ∧ S q) ∧ (S p → S q ∧ Pa fol lab p v q) := by
  induction h with
  | one hl => exact ⟨fun h => Or.inl ⟨h, .one hl⟩, fun h => ⟨h, .one hl⟩⟩
  | @more p p' q c v hl hf _ ih =>
    refine ⟨fun hp => ?_, fun hp => ?_⟩
    · rcases hf with hf | ⟨hl1, hf1⟩
      · rcases ih.1 (ha.fol _ _ hp hf) with ⟨h1, h2⟩ | ⟨u, w, i, j, rfl, h1, h2, h3, h4, h5⟩
        · exact Or.inl ⟨h1, .more hl hf h2⟩
        · exact Or.inr ⟨c :: u, w, i, j, rfl, .more hl hf h1, h2, h3, h4, h5⟩
      · obtain ⟨h1, h2⟩ := ih.2 (hb.first _ hf1)
        exact Or.inr ⟨[c], v, p, p', rfl, .one hl, hl1, hf1, h2, h1⟩
    · rcases hf with hf | ⟨hl1, hf1⟩
      · obtain ⟨h1, h2⟩ := ih.2 (hb.fol _ _ hp hf)
        exact ⟨h1, .more hl hf h2⟩
      · exact (hd p (ha.last p hl1) hp).elim
theorem acc_chain (ha : Cl R fol a) (hb : Cl S fol b) (hd : ∀ p, R p → S p → False) (v : Tx) :
    Acc (lnk fol a.last b.first) lab (a.chain b) v ↔ Cat (Acc fol lab a) (Acc fol lab b) v := by
  have up : ∀ p q, True → fol p q → lnk fol a.last b.first p q := fun p q _ h => Or.inl h
  constructor
  · rintro (⟨rfl, he⟩ | ⟨p, q, h1, h2, h3⟩)
    · exact ⟨[], [], rfl, Or.inl ⟨rfl, he.1⟩, Or.inl ⟨rfl, he.2⟩⟩
    · have hcut := chain_cut ha hb hd h2
      rcases h1 with h1 | ⟨he, h1⟩
      · rcases hcut.1 (ha.first p h1) with ⟨hq, h4⟩ | ⟨u, w, i, j, rfl, h4, h5, h6, h7, h8⟩
        · rcases h3 with h3 | ⟨he, h3⟩
          · exact (hd q hq (hb.last q h3)).elim
          · exact ⟨v, [], by simp, Or.inr ⟨p, q, h1, h4, h3⟩, Or.inl ⟨rfl, he⟩⟩
        · rcases h3 with h3 | ⟨he, h3⟩
          · exact ⟨u, w, rfl, Or.inr ⟨p, i, h1, h4, h5⟩, Or.inr ⟨j, q, h6, h7, h3⟩⟩
          · exact (hd q (ha.last q h3) h8).elim
      · obtain ⟨hq, h4⟩ := hcut.2 (hb.first p h1)
        rcases h3 with h3 | ⟨he', h3⟩
        · exact ⟨[], v, rfl, Or.inl ⟨rfl, he⟩, Or.inr ⟨p, q, h1, h4, h3⟩⟩
        · exact (hd q (ha.last q h3) hq).elim
  · rintro ⟨u, w, rfl, (⟨rfl, ea⟩ | ⟨p, i, h1, h2, h3⟩), (⟨rfl, eb⟩ | ⟨j, q, k1, k2, k3⟩)⟩
    · exact Or.inl ⟨rfl, ea, eb⟩
    · exact Or.inr ⟨j, q, Or.inr ⟨ea, k1⟩, by simpa using k2.mono (fun _ _ _ _ => trivial) up trivial, Or.inl k3⟩
    · exact Or.inr ⟨p, i, Or.inl h1, by simpa using h2.mono (fun _ _ _ _ => trivial) up trivial, Or.inr ⟨eb, h3⟩⟩
    · exact Or.inr ⟨p, q, Or.inl h1, (h2.mono (fun _ _ _ _ => trivial) up trivial).join (Or.inr ⟨h3, k1⟩) (k2.mono (fun _ _ _ _ => trivial) up trivial), Or.inl k3⟩

/-- Again and again. -/
theorem cl_again (ha : Cl R fol a) : Cl R (lnk fol a.last a.first) a where
  first := ha.first
  last := ha.last
  fol := fun p q h hf => by
    rcases hf with hf | hf
    · exact ha.fol p q h hf
    · exact ha.first q hf.2
theorem again_cut {p q : Nat} {v : Tx} (h : Pa (lnk fol a.last a.first) lab p v q) :
    Pa fol lab p v q ∨ ∃ u w i j, v = u ++ w ∧ Pa fol lab p u i ∧ a.last i ∧ a.first j ∧ Pa (lnk fol a.last a.first) lab j w q := by
  induction h with
  | one hl => exact Or.inl (.one hl)
  | @more p p' q c v hl hf hp ih =>
    rcases hf with hf | ⟨h1, h2⟩
    · rcases ih with ih | ⟨u, w, i, j, rfl, k1, k2, k3, k4⟩
      · exact Or.inl (.more hl hf ih)
      · exact Or.inr ⟨c :: u, w, i, j, rfl, .more hl hf k1, k2, k3, k4⟩
    · exact Or.inr ⟨[c], v, p, p', rfl, .one hl, h1, h2, hp⟩
theorem acc_again (v : Tx) (hv : v ≠ []) : Acc (lnk fol a.last a.first) lab a v ↔ Plus (Acc fol lab a) v := by
  have up : ∀ p q, True → fol p q → lnk fol a.last a.first p q := fun p q _ h => Or.inl h
  constructor
  · rintro (⟨rfl, _⟩ | ⟨p, q, h1, h2, h3⟩)
    · exact absurd rfl hv
    · clear hv
      generalize hn : v.length = n
      induction n using Nat.strongRecOn generalizing v p with
      | ind n ih =>
        rcases again_cut h2 with h | ⟨u, w, i, j, rfl, k1, k2, k3, k4⟩
        · exact .one (Or.inr ⟨p, q, h1, h, h3⟩)
        · refine .more (Or.inr ⟨p, i, h1, k1, k2⟩) (ih w.length ?_ w j k3 k4 rfl)
          rw [← hn, List.length_append]
          have := List.length_pos_iff.2 k1.ne
          omega
  · intro h
    induction h with
    | @one v h =>
      rcases h with h | ⟨p, q, h1, h2, h3⟩
      · exact absurd h.1 hv
      · exact Or.inr ⟨p, q, h1, h2.mono (fun _ _ _ _ => trivial) up trivial, h3⟩
    | @more u v h _ ih =>
      rcases h with ⟨rfl, _⟩ | ⟨p, q, h1, h2, h3⟩
      · exact ih hv
      · by_cases hv' : v = []
        · subst hv'
          exact Or.inr ⟨p, q, h1, by simpa using h2.mono (fun _ _ _ _ => trivial) up trivial, h3⟩
        · rcases ih hv' with ⟨rfl, _⟩ | ⟨p', q', k1, k2, k3⟩
          · exact absurd rfl hv'
          · exact Or.inr ⟨p, q', h1, (h2.mono (fun _ _ _ _ => trivial) up trivial).join (Or.inr ⟨h3, k1⟩) k2, k3⟩
/-- One spot. -/
theorem acc_spot (n : Nat) (hn : ∀ q, ¬ fol n q) (v : Tx) : Acc fol lab ⟨fun p => p = n, fun p => p = n, False⟩ v ↔ ∃ c, v = [c] ∧ lab n c := by
  constructor
  · rintro (⟨_, h⟩ | ⟨p, q, h1, h2, h3⟩)
    · exact h.elim
    · have h1' : p = n := h1
      subst h1'
      cases h2 with
      | one hl => exact ⟨_, rfl, hl⟩
      | more _ hf _ => exact (hn _ hf).elim
  · rintro ⟨c, rfl, hl⟩
    exact Or.inr ⟨n, n, rfl, .one hl, rfl⟩
end

/-! ### at all spots at once -/
/-- What may take the next code point. -/
def stepS (fol lab : Nat → Nat → Prop) (op : Nat → Prop) (c : Nat) (q : Nat) : Prop := ∃ p, op p ∧ lab p c ∧ fol p q
def endS (lab : Nat → Nat → Prop) (last op : Nat → Prop) (c : Nat) : Prop := ∃ p, op p ∧ lab p c ∧ last p
/-- Does what is open take v? -/
def opens (fol lab : Nat → Nat → Prop) (last : Nat → Prop) : (Nat → Prop) → Prop → Tx → Prop
  | _, d, [] => d
  | op, _, c :: v => opens fol lab last (stepS fol lab op c) (endS lab last op c) v
theorem opens_iff (fol lab : Nat → Nat → Prop) (last : Nat → Prop) : ∀ (v : Tx) (op : Nat → Prop) (d : Prop), opens fol lab last op d v ↔ (v = [] ∧ d) ∨ ∃ p q, op p ∧ Pa fol lab p v q ∧ last q
  | [], op, d => by
    constructor
    · intro h; exact Or.inl ⟨rfl, h⟩
    · rintro (h | ⟨p, q, _, h, _⟩)
      · exact h.2
      · exact absurd rfl h.ne
  | c :: v, op, d => by
    rw [opens, opens_iff fol lab last v]
    constructor
    · rintro (⟨rfl, p, h1, h2, h3⟩ | ⟨p', q, ⟨p, h1, h2, h3⟩, h4, h5⟩)
      · exact Or.inr ⟨p, p, h1, .one h2, h3⟩
      · exact Or.inr ⟨p, q, h1, .more h2 h3 h4, h5⟩
    · rintro (⟨h, _⟩ | ⟨p, q, h1, h2, h3⟩)
      · cases h
      · cases h2 with
        | one hl => exact Or.inl ⟨rfl, p, h1, hl, h3⟩
        | more hl hf hp => exact Or.inr ⟨_, q, ⟨p, h1, hl, hf⟩, hp, h3⟩
theorem opens_acc (fol lab : Nat → Nat → Prop) (e : En) (v : Tx) : opens fol lab e.last e.first e.emp v ↔ Acc fol lab e v := opens_iff fol lab e.last v e.first e.emp

end Go.Proofs.YtanlgplgplncdaaDoor
