import Derived.ProofKit
set_option linter.unusedSimpArgs false
set_option linter.unusedVariables false
set_option maxHeartbeats 40000000
set_option maxRecDepth 100000
/-
  Patterns, purely: a machine that is at all its spots at once, and what it takes. Nothing of the program.
-/
namespace Go.Proofs.YtgmdpbahcbhfjaaGreatDoor

abbrev Tx := List Nat
/-- One text behind another one of two kinds. -/
def Cat (P Q : Tx → Prop) (v : Tx) : Prop := ∃ u w, v = u ++ w ∧ P u ∧ Q w
inductive Plus (P : Tx → Prop) : Tx → Prop where
  | one {v : Tx} : P v → Plus P v
  | more {u v : Tx} : P u → Plus P v → Plus P (u ++ v)

/-- Spots one behind the other: from p to q, taking v. -/
inductive Pa (fol lab : Nat → Nat → Prop) : Nat → Tx → Nat → Prop where
  | one {p c : Nat} : lab p c → Pa fol lab p [c] p
  | more {p p' q c : Nat} {v : Tx} : lab p c → fol p p' → Pa fol lab p' v q → Pa fol lab p (c :: v) q

/-- Where a part begins, where it may end, and whether it means the empty text. -/
structure En where
  first : Nat → Prop
  last : Nat → Prop
  emp : Prop
def Acc (fol lab : Nat → Nat → Prop) (e : En) (v : Tx) : Prop := (v = [] ∧ e.emp) ∨ ∃ p q, e.first p ∧ Pa fol lab p v q ∧ e.last q

/-- A part's spots: it begins and ends within them, and leads to no others. -/
structure Cl (R : Nat → Prop) (fol : Nat → Nat → Prop) (e : En) : Prop where
  first : ∀ p, e.first p → R p
  last : ∀ p, e.last p → R p
  fol : ∀ p q, R p → fol p q → R q

theorem Pa.ne {fol lab : Nat → Nat → Prop} {p q : Nat} {v : Tx} (h : Pa fol lab p v q) : v ≠ [] := by
  cases h <;> simp
theorem Pa.within {R : Nat → Prop} {fol lab : Nat → Nat → Prop} (hc : ∀ p q, R p → fol p q → R q) {p q : Nat} {v : Tx} (h : Pa fol lab p v q) (hp : R p) : R q := by
  induction h with
  | one _ => exact hp
  | more _ hf _ ih => exact ih (hc _ _ hp hf)
theorem Pa.mono {R : Nat → Prop} {fol fol' lab : Nat → Nat → Prop} (hc : ∀ p q, R p → fol p q → R q) (hm : ∀ p q, R p → fol p q → fol' p q) {p q : Nat} {v : Tx} (h : Pa fol lab p v q) (hp : R p) : Pa fol' lab p v q := by
  induction h with
  | one hl => exact .one hl
  | more hl hf _ ih => exact .more hl (hm _ _ hp hf) (ih (hc _ _ hp hf))
theorem Pa.join {fol lab : Nat → Nat → Prop} {p i : Nat} {u : Tx} (h : Pa fol lab p u i) {j q : Nat} {w : Tx} (hf : fol i j) (k : Pa fol lab j w q) : Pa fol lab p (u ++ w) q := by
  induction h with
  | one hl => exact .more hl hf k
  | more hl hg _ ih => exact .more hl hg (ih hf)
/-! ### the three ways to put parts together -/
section
variable {R S : Nat → Prop} {fol lab : Nat → Nat → Prop} {a b : En}

/-- One of two. -/
def En.either (a b : En) : En := ⟨fun p => a.first p ∨ b.first p, fun p => a.last p ∨ b.last p, a.emp ∨ b.emp⟩
theorem acc_either (ha : Cl R fol a) (hb : Cl S fol b) (hd : ∀ p, R p → S p → False) (v : Tx) : Acc fol lab (a.either b) v ↔ Acc fol lab a v ∨ Acc fol lab b v := by
  constructor
  · rintro (⟨h0, he⟩ | ⟨p, q, h1, h2, h3⟩)
    · rcases he with he | he
      · exact Or.inl (Or.inl ⟨h0, he⟩)
      · exact Or.inr (Or.inl ⟨h0, he⟩)
    · rcases h1 with h1 | h1
      · have hq := h2.within ha.fol (ha.first p h1)
        rcases h3 with h3 | h3
        · exact Or.inl (Or.inr ⟨p, q, h1, h2, h3⟩)
        · exact (hd q hq (hb.last q h3)).elim
      · have hq := h2.within hb.fol (hb.first p h1)
        rcases h3 with h3 | h3
        · exact (hd q (ha.last q h3) hq).elim
        · exact Or.inr (Or.inr ⟨p, q, h1, h2, h3⟩)
  · rintro ((⟨h0, he⟩ | ⟨p, q, h1, h2, h3⟩) | (⟨h0, he⟩ | ⟨p, q, h1, h2, h3⟩))
    · exact Or.inl ⟨h0, Or.inl he⟩
    · exact Or.inr ⟨p, q, Or.inl h1, h2, Or.inl h3⟩
    · exact Or.inl ⟨h0, Or.inr he⟩
    · exact Or.inr ⟨p, q, Or.inr h1, h2, Or.inr h3⟩
theorem cl_either (ha : Cl R fol a) (hb : Cl S fol b) : Cl (fun p => R p ∨ S p) fol (a.either b) where
  first := fun p h => h.imp (ha.first p) (hb.first p)
  last := fun p h => h.imp (ha.last p) (hb.last p)
  fol := fun p q h hf => h.imp (fun h => ha.fol p q h hf) (fun h => hb.fol p q h hf)

/-- One behind the other. -/
def En.chain (a b : En) : En := ⟨fun p => a.first p ∨ (a.emp ∧ b.first p), fun p => b.last p ∨ (b.emp ∧ a.last p), a.emp ∧ b.emp⟩
def lnk (fol : Nat → Nat → Prop) (from' to : Nat → Prop) (p q : Nat) : Prop := fol p q ∨ (from' p ∧ to q)
theorem cl_chain (ha : Cl R fol a) (hb : Cl S fol b) : Cl (fun p => R p ∨ S p) (lnk fol a.last b.first) (a.chain b) where
  first := fun p h => by
    rcases h with h | h
    · exact Or.inl (ha.first p h)
    · exact Or.inr (hb.first p h.2)
  last := fun p h => by
    rcases h with h | h
    · exact Or.inr (hb.last p h)
    · exact Or.inl (ha.last p h.2)
  fol := fun p q h hf => by
    rcases hf with hf | hf
    · exact h.imp (fun h => ha.fol p q h hf) (fun h => hb.fol p q h hf)
    · exact Or.inr (hb.first q hf.2)
theorem chain_cut (ha : Cl R fol a) (hb : Cl S fol b) (hd : ∀ p, R p → S p → False) {p q : Nat} {v : Tx} (h : Pa (lnk fol a.last b.first) lab p v q) :
    (R p → (R q ∧ Pa fol lab p v q) ∨ ∃ u w i j, v = u ++ w ∧ Pa fol lab p u i ∧ a.last i ∧ b.first j ∧ Pa fol lab j w q ∧ S q) ∧ (S p → S q ∧ Pa fol lab p v q) := by
  induction h with
  | one hl => exact ⟨fun h => Or.inl ⟨h, .one hl⟩, fun h => ⟨h, .one hl⟩⟩
  | @more p p' q c v hl hf _ ih =>
    refine ⟨fun hp => ?_, fun hp => ?_⟩
    · rcases hf with hf | ⟨hl1, hf1⟩
      · rcases ih.1 (ha.fol _ _ hp hf) with ⟨h1, h2⟩ | ⟨u, w, i, j, rfl, h1, h2, h3, h4, h5⟩
        · exact Or.inl ⟨h1, .more hl hf h2⟩
        · exact Or.inr ⟨c :: u, w, i, j, rfl, .more hl hf h1, h2, h3, h4, h5⟩
      · obtain ⟨h1, h2⟩ := ih.2 (hb.first _ hf1)
        exact Or.inr ⟨[c], v, p, p', rfl, .one hl, hl1, hf1, h2, h1⟩
    · rcases hf with hf | ⟨hl1, hf1⟩
      · obtain ⟨h1, h2⟩ := ih.2 (hb.fol _ _ hp hf)
        exact ⟨h1, .more hl hf h2⟩
      · exact (hd p (ha.last p hl1) hp).elim
theorem acc_chain (ha : Cl R fol a) (hb : Cl S fol b) (hd : ∀ p, R p → S p → False) (v : Tx) :
    Acc (lnk fol a.last b.first) lab (a.chain b) v ↔ Cat (Acc fol lab a) (Acc fol lab b) v := by
  have up : ∀ p q, True → fol p q → lnk fol a.last b.first p q := fun p q _ h => Or.inl h
  constructor
  · rintro (⟨rfl, he⟩ | ⟨p, q, h1, h2, h3⟩)
    · exact ⟨[], [], rfl, Or.inl ⟨rfl, he.1⟩, Or.inl ⟨rfl, he.2⟩⟩
    · have hcut := chain_cut ha hb hd h2
      rcases h1 with h1 | ⟨he, h1⟩
      · rcases hcut.1 (ha.first p h1) with ⟨hq, h4⟩ | ⟨u, w, i, j, rfl, h4, h5, h6, h7, h8⟩
        · rcases h3 with h3 | ⟨he, h3⟩
          · exact (hd q hq (hb.last q h3)).elim
          · exact ⟨v, [], by simp, Or.inr ⟨p, q, h1, h4, h3⟩, Or.inl ⟨rfl, he⟩⟩
        · rcases h3 with h3 | ⟨he, h3⟩
          · exact ⟨u, w, rfl, Or.inr ⟨p, i, h1, h4, h5⟩, Or.inr ⟨j, q, h6, h7, h3⟩⟩
          · exact (hd q (ha.last q h3) h8).elim
      · obtain ⟨hq, h4⟩ := hcut.2 (hb.first p h1)
        rcases h3 with h3 | ⟨he', h3⟩
        · exact ⟨[], v, rfl, Or.inl ⟨rfl, he⟩, Or.inr ⟨p, q, h1, h4, h3⟩⟩
        · exact (hd q (ha.last q h3) hq).elim
  · rintro ⟨u, w, rfl, (⟨rfl, ea⟩ | ⟨p, i, h1, h2, h3⟩), (⟨rfl, eb⟩ | ⟨j, q, k1, k2, k3⟩)⟩
    · exact Or.inl ⟨rfl, ea, eb⟩
    · exact Or.inr ⟨j, q, Or.inr ⟨ea, k1⟩, by simpa using k2.mono (fun _ _ _ _ => trivial) up trivial, Or.inl k3⟩
    · exact Or.inr ⟨p, i, Or.inl h1, by simpa using h2.mono (fun _ _ _ _ => trivial) up trivial, Or.inr ⟨eb, h3⟩⟩
    · exact Or.inr ⟨p, q, Or.inl h1, (h2.mono (fun _ _ _ _ => trivial) up trivial).join (Or.inr ⟨h3, k1⟩) (k2.mono (fun _ _ _ _ => trivial) up trivial), Or.inl k3⟩

/-- Again and again. -/
theorem cl_again (ha : Cl R fol a) : Cl R (lnk fol a.last a.first) a where
  first := ha.first
  last := ha.last
  fol := fun p q h hf => by
    rcases hf with hf | hf
    · exact ha.fol p q h hf
    · exact ha.first q hf.2
theorem again_cut {p q : Nat} {v : Tx} (h : Pa (lnk fol a.last a.first) lab p v q) :
    Pa fol lab p v q ∨ ∃ u w i j, v = u ++ w ∧ Pa fol lab p u i ∧ a.last i ∧ a.first j ∧ Pa (lnk fol a.last a.first) lab j w q := by
  induction h with
  | one hl => exact Or.inl (.one hl)
  | @more p p' q c v hl hf hp ih =>
    rcases hf with hf | ⟨h1, h2⟩
    · rcases ih with ih | ⟨u, w, i, j, rfl, k1, k2, k3, k4⟩
      · exact Or.inl (.more hl hf ih)
      · exact Or.inr ⟨c :: u, w, i, j, rfl, .more hl hf k1, k2, k3, k4⟩
    · exact Or.inr ⟨[c], v, p, p', rfl, .one hl, h1, h2, hp⟩
theorem acc_again (v : Tx) (hv : v ≠ []) : Acc (lnk fol a.last a.first) lab a v ↔ Plus (Acc fol lab a) v := by
  have up : ∀ p q, True → fol p q → lnk fol a.last a.first p q := fun p q _ h => Or.inl h
  constructor
  · rintro (⟨rfl, _⟩ | ⟨p, q, h1, h2, h3⟩)
    · exact absurd rfl hv
    · clear hv
      generalize hn : v.length = n
      induction n using Nat.strongRecOn generalizing v p with
      | ind n ih =>
        rcases again_cut h2 with h | ⟨u, w, i, j, rfl, k1, k2, k3, k4⟩
        · exact .one (Or.inr ⟨p, q, h1, h, h3⟩)
        · refine .more (Or.inr ⟨p, i, h1, k1, k2⟩) (ih w.length ?_ w j k3 k4 rfl)
          rw [← hn, List.length_append]
          have := List.length_pos_iff.2 k1.ne
          omega
  · intro h
    induction h with
    | @one v h =>
      rcases h with h | ⟨p, q, h1, h2, h3⟩
      · exact absurd h.1 hv
      · exact Or.inr ⟨p, q, h1, h2.mono (fun _ _ _ _ => trivial) up trivial, h3⟩
    | @more u v h _ ih =>
      rcases h with ⟨rfl, _⟩ | ⟨p, q, h1, h2, h3⟩
      · exact ih hv
      · by_cases hv' : v = []
        · subst hv'
          exact Or.inr ⟨p, q, h1, by simpa using h2.mono (fun _ _ _ _ => trivial) up trivial, h3⟩
        · rcases ih hv' with ⟨rfl, _⟩ | ⟨p', q', k1, k2, k3⟩
          · exact absurd rfl hv'
          · exact Or.inr ⟨p, q', h1, (h2.mono (fun _ _ _ _ => trivial) up trivial).join (Or.inr ⟨h3, k1⟩) k2, k3⟩
/-- One spot. -/
theorem acc_spot (n : Nat) (hn : ∀ q, ¬ fol n q) (v : Tx) : Acc fol lab ⟨fun p => p = n, fun p => p = n, False⟩ v ↔ ∃ c, v = [c] ∧ lab n c := by
  constructor
  · rintro (⟨_, h⟩ | ⟨p, q, h1, h2, h3⟩)
    · exact h.elim
    · have h1' : p = n := h1
      subst h1'
      cases h2 with
      | one hl => exact ⟨_, rfl, hl⟩
      | more _ hf _ => exact (hn _ hf).elim
  · rintro ⟨c, rfl, hl⟩
    exact Or.inr ⟨n, n, rfl, .one hl, rfl⟩
end

/-! ### at all spots at once -/
/-- What may take the next code point. -/
def stepS (fol lab : Nat → Nat → Prop) (op : Nat → Prop) (c : Nat) (q : Nat) : Prop := ∃ p, op p ∧ lab p c ∧ fol p q
def endS (lab : Nat → Nat → Prop) (last op : Nat → Prop) (c : Nat) : Prop := ∃ p, op p ∧ lab p c ∧ last p
/-- Does what is open take v? -/
def opens (fol lab : Nat → Nat → Prop) (last : Nat → Prop) : (Nat → Prop) → Prop → Tx → Prop
  | _, d, [] => d
  | op, _, c :: v => opens fol lab last (stepS fol lab op c) (endS lab last op c) v
theorem opens_iff (fol lab : Nat → Nat → Prop) (last : Nat → Prop) : ∀ (v : Tx) (op : Nat → Prop) (d : Prop), opens fol lab last op d v ↔ (v = [] ∧ d) ∨ ∃ p q, op p ∧ Pa fol lab p v q ∧ last q
  | [], op, d => by
    constructor
    · intro h; exact Or.inl ⟨rfl, h⟩
    · rintro (h | ⟨p, q, _, h, _⟩)
      · exact h.2
      · exact absurd rfl h.ne
  | c :: v, op, d => by
    rw [opens, opens_iff fol lab last v]
    constructor
    · rintro (⟨rfl, p, h1, h2, h3⟩ | ⟨p', q, ⟨p, h1, h2, h3⟩, h4, h5⟩)
      · exact Or.inr ⟨p, p, h1, .one h2, h3⟩
      · exact Or.inr ⟨p, q, h1, .more h2 h3 h4, h5⟩
    · rintro (⟨h, _⟩ | ⟨p, q, h1, h2, h3⟩)
      · cases h
      · cases h2 with
        | one hl => exact Or.inl ⟨rfl, p, h1, hl, h3⟩
        | more hl hf hp => exact Or.inr ⟨_, q, ⟨p, h1, hl, hf⟩, hp, h3⟩
theorem opens_acc (fol lab : Nat → Nat → Prop) (e : En) (v : Tx) : opens fol lab e.last e.first e.emp v ↔ Acc fol lab e v := opens_iff fol lab e.last v e.first e.emp

end Go.Proofs.YtgmdpbahcbhfjaaGreatDoor
/-
  Patterns, purely: the tree, what it means, the machine that is made of it. Nothing of the program's memory.
-/
namespace Go.Proofs.YtgmdpbahcbhfjaaGreatDoor

abbrev Sn := List (Nat × Nat)
def inS (l : Sn) (c : Nat) : Bool := l.any (fun s => decide (s.1 ≤ c) && decide (c ≤ s.2))
/-- All code points from low on that are within none. -/
def othS : Nat → Sn → Sn
  | low, [] => if low ≤ 1114111 then [(low, 1114111)] else []
  | low, s :: t => (if low < s.1 then [(low, s.1 - 1)] else []) ++ othS (s.2 + 1) t

inductive Pt where
  | chr (c : Nat)
  | any
  | cls (neg : Bool) (l : Sn)
  | grp (l : List (List Pt))
  | rep (a : Pt) (s : Nat)

/-- What single code points a part means. -/
def Pt.spans : Pt → Sn
  | .chr c => [(c, c)]
  | .any => othS 0 []
  | .cls neg l => if neg then othS 0 l else l
  | _ => []

mutual
/-- Does a part mean v? -/
def Pt.has : Pt → Tx → Prop
  | .chr c, v => ∃ x, v = [x] ∧ inS [(c, c)] x = true
  | .any, v => ∃ x, v = [x] ∧ inS (othS 0 []) x = true
  | .cls neg l, v => ∃ x, v = [x] ∧ inS (if neg then othS 0 l else l) x = true
  | .grp l, v => rowsHas l v
  | .rep a s, v => (s ≠ 43 ∧ v = []) ∨ (s = 63 ∧ a.has v) ∨ (s ≠ 63 ∧ Plus a.has v)
def rowHas : List Pt → Tx → Prop
  | [], v => v = []
  | p :: t, v => Cat p.has (rowHas t) v
def rowsHas : List (List Pt) → Tx → Prop
  | [], _ => False
  | r :: t, v => rowHas r v ∨ rowsHas t v
end

/-! ### the machine -/
structure Sp where
  takes : Sn
  next : Nat
structure Es where
  first : Nat
  last : Nat
  emp : Bool
def Es.either (a b : Es) : Es := ⟨a.first ||| b.first, a.last ||| b.last, a.emp || b.emp⟩
def Es.chain (a b : Es) : Es := ⟨if a.emp then a.first ||| b.first else a.first, if b.emp then b.last ||| a.last else b.last, a.emp && b.emp⟩
def lnkM (m : List Sp) (f t : Nat) : List Sp := m.mapIdx (fun i s => if f.testBit i then ⟨s.takes, s.next ||| t⟩ else s)
def spotM (m : List Sp) (l : Sn) : Es × List Sp := (⟨2 ^ m.length, 2 ^ m.length, false⟩, m ++ [⟨l, 0⟩])
def repM (e : Es) (m : List Sp) (s : Nat) : Es × List Sp := (if s = 43 then e else ⟨e.first, e.last, true⟩, if s = 63 then m else lnkM m e.last e.first)
mutual
def Pt.add : Pt → List Sp → Es × List Sp
  | .chr c, m => spotM m [(c, c)]
  | .any, m => spotM m (othS 0 [])
  | .cls neg l, m => spotM m (if neg then othS 0 l else l)
  | .grp l, m => rowsAdd l ⟨0, 0, false⟩ m
  | .rep a s, m => repM (a.add m).1 (a.add m).2 s
def rowAdd : List Pt → Es → List Sp → Es × List Sp
  | [], e, m => (e, m)
  | p :: t, e, m => rowAdd t (e.chain (p.add m).1) (lnkM (p.add m).2 e.last (p.add m).1.first)
def rowsAdd : List (List Pt) → Es → List Sp → Es × List Sp
  | [], e, m => (e, m)
  | r :: t, e, m => rowsAdd t (e.either (rowAdd r ⟨0, 0, true⟩ m).1) (rowAdd r ⟨0, 0, true⟩ m).2
end

def folM (m : List Sp) (p q : Nat) : Prop := ∃ s, m[p]? = some s ∧ s.next.testBit q = true
def labM (m : List Sp) (p c : Nat) : Prop := ∃ s, m[p]? = some s ∧ inS s.takes c = true
def Es.en (e : Es) : En := ⟨fun p => e.first.testBit p = true, fun p => e.last.testBit p = true, e.emp = true⟩
def Rg (a b p : Nat) : Prop := a ≤ p ∧ p < b

theorem Acc.congr2 {R : Nat → Prop} {fol fol' lab lab' : Nat → Nat → Prop} {e : En} (hc : Cl R fol e) (h : ∀ p q, R p → (fol p q ↔ fol' p q)) (hl : ∀ p c, R p → (lab p c ↔ lab' p c)) (v : Tx) : Acc fol lab e v ↔ Acc fol' lab' e v := by
  have key : ∀ {f f' g g' : Nat → Nat → Prop}, (∀ p q, R p → f p q → R q) → (∀ p q, R p → f p q → f' p q) → (∀ p c, R p → g p c → g' p c) → ∀ {p q : Nat} {v : Tx}, Pa f g p v q → R p → Pa f' g' p v q := by
    intro f f' g g' h1 h2 h3 p q v h
    induction h with
    | one hl => exact fun hp => .one (h3 _ _ hp hl)
    | more hl hf _ ih => exact fun hp => .more (h3 _ _ hp hl) (h2 _ _ hp hf) (ih (h1 _ _ hp hf))
  have hc' : ∀ p q, R p → fol' p q → R q := fun p q hp hf => hc.fol p q hp ((h p q hp).2 hf)
  constructor
  · rintro (h0 | ⟨p, q, h1, h2, h3⟩)
    · exact Or.inl h0
    · exact Or.inr ⟨p, q, h1, key hc.fol (fun p q hp => (h p q hp).1) (fun p c hp => (hl p c hp).1) h2 (hc.first p h1), h3⟩
  · rintro (h0 | ⟨p, q, h1, h2, h3⟩)
    · exact Or.inl h0
    · exact Or.inr ⟨p, q, h1, key hc' (fun p q hp => (h p q hp).2) (fun p c hp => (hl p c hp).2) h2 (hc.first p h1), h3⟩

/-- The spots ahead are as they were. -/
def Ext (n : Nat) (m m' : List Sp) : Prop := ∀ i, i < n → m'[i]? = m[i]?
/-- The spots from n on are a part's: they mean L. -/
structure Ok (n : Nat) (e : Es) (m : List Sp) (L : Tx → Prop) : Prop where
  le : n ≤ m.length
  cl : Cl (Rg n m.length) (folM m) e.en
  acc : ∀ v, Acc (folM m) (labM m) e.en v ↔ L v
theorem Ok.ext {n : Nat} {e : Es} {m m' : List Sp} {L : Tx → Prop} (h : Ok n e m L) (hx : Ext m.length m m') : Cl (Rg n m.length) (folM m') e.en ∧ ∀ v, Acc (folM m') (labM m') e.en v ↔ L v := by
  have hf : ∀ p q, Rg n m.length p → (folM m p q ↔ folM m' p q) := fun p q hp => by unfold folM; rw [hx p hp.2]
  have hl : ∀ p c, Rg n m.length p → (labM m p c ↔ labM m' p c) := fun p c hp => by unfold labM; rw [hx p hp.2]
  refine ⟨⟨h.cl.first, h.cl.last, fun p q hp hq => h.cl.fol p q hp ((hf p q hp).2 hq)⟩, fun v => ?_⟩
  rw [← Acc.congr2 h.cl hf hl v]
  exact h.acc v

theorem lnk_length (m : List Sp) (f t : Nat) : (lnkM m f t).length = m.length := by simp [lnkM]
theorem lnk_get (m : List Sp) (f t i : Nat) : (lnkM m f t)[i]? = m[i]?.map (fun s => if f.testBit i then ⟨s.takes, s.next ||| t⟩ else s) := by
  simp [lnkM, List.getElem?_mapIdx]
theorem lnk_fol (m : List Sp) (f t p q : Nat) (hf : f.testBit p = true → p < m.length) : folM (lnkM m f t) p q ↔ lnk (folM m) (fun p => f.testBit p = true) (fun q => t.testBit q = true) p q := by
  unfold folM lnk
  rw [lnk_get]
  constructor
  · rintro ⟨s, h1, h2⟩
    obtain ⟨s', h3, rfl⟩ := Option.map_eq_some_iff.1 h1
    by_cases hb : f.testBit p = true
    · rw [if_pos hb] at h2
      simp only [Nat.testBit_or, Bool.or_eq_true] at h2
      rcases h2 with h2 | h2
      · exact Or.inl ⟨s', h3, h2⟩
      · exact Or.inr ⟨hb, h2⟩
    · rw [if_neg hb] at h2
      exact Or.inl ⟨s', h3, h2⟩
  · rintro (⟨s, h1, h2⟩ | ⟨h1, h2⟩)
    · rw [h1]
      refine ⟨_, rfl, ?_⟩
      split
      · simp [Nat.testBit_or, h2]
      · exact h2
    · have hp := hf h1
      rw [List.getElem?_eq_getElem hp]
      refine ⟨_, rfl, ?_⟩
      simp [h1, Nat.testBit_or, h2]
theorem lnk_lab (m : List Sp) (f t p c : Nat) : labM (lnkM m f t) p c ↔ labM m p c := by
  unfold labM
  rw [lnk_get]
  constructor
  · rintro ⟨s, h1, h2⟩
    obtain ⟨s', h3, rfl⟩ := Option.map_eq_some_iff.1 h1
    refine ⟨s', h3, ?_⟩
    split at h2 <;> exact h2
  · rintro ⟨s, h1, h2⟩
    rw [h1]
    refine ⟨_, rfl, ?_⟩
    split <;> exact h2
theorem lnk_ext (m : List Sp) (f t n : Nat) (hf : ∀ p, p < n → f.testBit p = false) : Ext n m (lnkM m f t) := fun i hi => by
  rw [lnk_get, hf i hi]
  simp
theorem Ext.trans {n k : Nat} {a b c : List Sp} (h : Ext n a b) (g : Ext k b c) (hk : n ≤ k) : Ext n a c := fun i hi => by rw [g i (by omega), h i hi]
theorem Ext.mono {n k : Nat} {a b : List Sp} (h : Ext n a b) (hk : k ≤ n) : Ext k a b := fun i hi => h i (by omega)

theorem spot_ok (m : List Sp) (l : Sn) : Ext m.length m (spotM m l).2 ∧ Ok m.length (spotM m l).1 (spotM m l).2 (fun v => ∃ x, v = [x] ∧ inS l x = true) := by
  have hget : (m ++ [⟨l, 0⟩])[m.length]? = some ⟨l, 0⟩ := by simp
  have hbit : ∀ p, (2 ^ m.length).testBit p = true ↔ p = m.length := fun p => by rw [Nat.testBit_two_pow]; simp; exact ⟨fun h => h.symm, fun h => h.symm⟩
  have hno : ∀ q, ¬ folM (m ++ [⟨l, 0⟩]) m.length q := by
    rintro q ⟨s, h1, h2⟩
    rw [hget] at h1
    injection h1 with h1
    subst h1
    simp at h2
  refine ⟨fun i hi => by simp only [spotM]; rw [List.getElem?_append_left hi], ⟨by simp [spotM], ⟨fun p h => ?_, fun p h => ?_, fun p q hp hf => ?_⟩, fun v => ?_⟩⟩
  · have := (hbit p).1 h; simp [Rg, spotM, this]
  · have := (hbit p).1 h; simp [Rg, spotM, this]
  · have hp' : p = m.length := by simp only [Rg, spotM, List.length_append, List.length_singleton] at hp; omega
    subst hp'
    exact (hno q hf).elim
  · have he : (spotM m l).1.en = ⟨fun p => p = m.length, fun p => p = m.length, False⟩ := by
      simp only [spotM, Es.en, En.mk.injEq]
      exact ⟨funext fun p => propext (hbit p), funext fun p => propext (hbit p), by simp⟩
    rw [he]
    show Acc (folM (m ++ [⟨l, 0⟩])) (labM (m ++ [⟨l, 0⟩])) _ v ↔ _
    rw [acc_spot m.length hno]
    have hlab : ∀ x, labM (m ++ [⟨l, 0⟩]) m.length x ↔ inS l x = true := fun x => by
      unfold labM
      rw [hget]
      exact ⟨fun ⟨s, h1, h2⟩ => by injection h1 with h1; subst h1; exact h2, fun h => ⟨_, rfl, h⟩⟩
    exact ⟨fun ⟨c, h1, h2⟩ => ⟨c, h1, (hlab c).1 h2⟩, fun ⟨c, h1, h2⟩ => ⟨c, h1, (hlab c).2 h2⟩⟩

theorem plus_nil {P : Tx → Prop} (h : Plus P []) : P [] := by
  generalize hv : ([] : Tx) = v at h
  induction h with
  | one h => exact h
  | more h _ ih =>
    obtain ⟨rfl, rfl⟩ := List.append_eq_nil_iff.1 hv.symm
    exact h
theorem plus_mono {P Q : Tx → Prop} (h : ∀ v, P v ↔ Q v) (v : Tx) : Plus P v ↔ Plus Q v := by
  constructor
  · intro k; induction k with
    | one k => exact .one ((h _).1 k)
    | more k _ ih => exact .more ((h _).1 k) ih
  · intro k; induction k with
    | one k => exact .one ((h _).2 k)
    | more k _ ih => exact .more ((h _).2 k) ih

theorem rep_ok {n : Nat} {e : Es} {m : List Sp} {L : Tx → Prop} (h : Ok n e m L) (s : Nat) : Ext n m (repM e m s).2 ∧ Ok n (repM e m s).1 (repM e m s).2 (fun v => (s ≠ 43 ∧ v = []) ∨ (s = 63 ∧ L v) ∨ (s ≠ 63 ∧ Plus L v)) := by
  have hemp : L [] ↔ e.emp = true := by
    rw [← h.acc []]
    constructor
    · rintro (h0 | ⟨p, q, _, h2, _⟩)
      · exact h0.2
      · exact absurd rfl h2.ne
    · exact fun h0 => Or.inl ⟨rfl, h0⟩
  have hlast : ∀ p, e.last.testBit p = true → p < m.length := fun p hp => (h.cl.last p hp).2
  -- the same spots, with or without the way back
  have key : ∀ m', m' = (repM e m s).2 → Cl (Rg n m.length) (folM m') e.en ∧ m'.length = m.length ∧ Ext n m m' ∧ ∀ v, v ≠ [] → (Acc (folM m') (labM m') e.en v ↔ (s = 63 ∧ L v) ∨ (s ≠ 63 ∧ Plus L v)) := by
    intro m' hm'
    by_cases h63 : s = 63
    · have e1 : m' = m := by rw [hm', repM]; simp [h63]
      subst e1
      refine ⟨h.cl, rfl, fun _ _ => rfl, fun v hv => ?_⟩
      rw [h.acc v]
      simp [h63]
    · have e1 : m' = lnkM m e.last e.first := by rw [hm', repM]; simp [h63]
      subst e1
      have hf : folM (lnkM m e.last e.first) = lnk (folM m) e.en.last e.en.first := funext fun p => funext fun q => propext (lnk_fol m e.last e.first p q (hlast p))
      have hl : labM (lnkM m e.last e.first) = labM m := funext fun p => funext fun c => propext (lnk_lab m _ _ p c)
      refine ⟨by rw [hf]; exact cl_again h.cl, lnk_length _ _ _, lnk_ext _ _ _ _ (fun p hp => ?_), fun v hv => ?_⟩
      · cases hb : e.last.testBit p
        · rfl
        · have := (h.cl.last p hb).1; omega
      · rw [hf, hl, acc_again v hv, plus_mono h.acc v]
        simp [h63]
  obtain ⟨k1, k2, k3, k4⟩ := key _ rfl
  refine ⟨k3, ⟨by rw [k2]; exact h.le, ?_, fun v => ?_⟩⟩
  · rw [k2]
    refine ⟨fun p hp => k1.first p ?_, fun p hp => k1.last p ?_, k1.fol⟩
    · simp only [repM] at hp; split at hp <;> exact hp
    · simp only [repM] at hp; split at hp <;> exact hp
  · by_cases hv : v = []
    · subst hv
      have h1 : Acc (folM (repM e m s).2) (labM (repM e m s).2) (repM e m s).1.en [] ↔ (repM e m s).1.emp = true := by
        constructor
        · rintro (h0 | ⟨p, q, _, h2, _⟩)
          · exact h0.2
          · exact absurd rfl h2.ne
        · exact fun h0 => Or.inl ⟨rfl, h0⟩
      rw [h1]
      simp only [repM]
      by_cases h43 : s = 43
      · rw [if_pos h43, ← hemp]
        subst h43
        exact ⟨fun h => Or.inr (Or.inr ⟨by decide, .one h⟩), fun h => by
          rcases h with h | h | h
          · exact absurd rfl h.1
          · exact absurd h.1 (by decide)
          · exact plus_nil h.2⟩
      · rw [if_neg h43]
        exact ⟨fun _ => Or.inl ⟨h43, by first | trivial | rfl⟩, fun _ => by first | trivial | rfl⟩
    · have h1 : Acc (folM (repM e m s).2) (labM (repM e m s).2) (repM e m s).1.en v ↔ Acc (folM (repM e m s).2) (labM (repM e m s).2) e.en v := by
        have hfl : (repM e m s).1.first = e.first ∧ (repM e m s).1.last = e.last := by simp only [repM]; split <;> exact ⟨rfl, rfl⟩
        unfold Acc Es.en
        rw [hfl.1, hfl.2]
        simp [hv]
      rw [h1, k4 v hv]
      exact ⟨fun h => Or.inr h, fun h => by
        rcases h with h | h
        · exact absurd h.2 hv
        · exact h⟩

theorem chain_en (a b : Es) : (a.chain b).en = a.en.chain b.en := by
  simp only [Es.en, Es.chain, En.chain, En.mk.injEq]
  refine ⟨funext fun p => propext ?_, funext fun p => propext ?_, by simp⟩
  · cases a.emp <;> simp [Nat.testBit_or]
  · cases b.emp <;> simp [Nat.testBit_or]
theorem either_en (a b : Es) : (a.either b).en = a.en.either b.en := by
  simp only [Es.en, Es.either, En.either, En.mk.injEq]
  exact ⟨funext fun p => propext (by simp [Nat.testBit_or]), funext fun p => propext (by simp [Nat.testBit_or]), by simp⟩
theorem rg_or {a b c p : Nat} (h1 : a ≤ b) (h2 : b ≤ c) : (Rg a b p ∨ Rg b c p) ↔ Rg a c p := by unfold Rg; omega
theorem rg_dis {a b c : Nat} : ∀ p, Rg a b p → Rg b c p → False := fun p h k => by unfold Rg at *; omega

theorem chain_ok {n : Nat} {a b : Es} {m m1 : List Sp} {L M : Tx → Prop} (ha : Ok n a m L) (hx : Ext m.length m m1) (hb : Ok m.length b m1 M) :
    Ext n m (lnkM m1 a.last b.first) ∧ Ok n (a.chain b) (lnkM m1 a.last b.first) (Cat L M) := by
  obtain ⟨h1, h2⟩ := ha.ext hx
  have hlast : ∀ p, a.last.testBit p = true → p < m1.length := fun p hp => by have := (ha.cl.last p hp).2; have := hb.le; omega
  have hf : folM (lnkM m1 a.last b.first) = lnk (folM m1) a.en.last b.en.first := funext fun p => funext fun q => propext (lnk_fol m1 _ _ p q (hlast p))
  have hl : labM (lnkM m1 a.last b.first) = labM m1 := funext fun p => funext fun c => propext (lnk_lab m1 _ _ p c)
  refine ⟨(hx.mono ha.le).trans (lnk_ext m1 _ _ n (fun p hp => ?_)) (Nat.le_refl _), ⟨by rw [lnk_length]; have := ha.le; have := hb.le; omega, ?_, fun v => ?_⟩⟩
  · cases hbb : a.last.testBit p
    · rfl
    · have := (ha.cl.last p hbb).1; omega
  · rw [hf, chain_en, lnk_length]
    have := cl_chain h1 hb.cl
    exact ⟨fun p h => (rg_or ha.le hb.le).1 (this.first p h), fun p h => (rg_or ha.le hb.le).1 (this.last p h), fun p q h hq => (rg_or ha.le hb.le).1 (this.fol p q ((rg_or ha.le hb.le).2 h) hq)⟩
  · rw [hf, hl, chain_en, acc_chain h1 hb.cl rg_dis]
    unfold Cat
    exact ⟨fun ⟨u, w, e, k1, k2⟩ => ⟨u, w, e, (h2 u).1 k1, (hb.acc w).1 k2⟩, fun ⟨u, w, e, k1, k2⟩ => ⟨u, w, e, (h2 u).2 k1, (hb.acc w).2 k2⟩⟩
theorem either_ok {n : Nat} {a b : Es} {m m1 : List Sp} {L M : Tx → Prop} (ha : Ok n a m L) (hx : Ext m.length m m1) (hb : Ok m.length b m1 M) :
    Ok n (a.either b) m1 (fun v => L v ∨ M v) := by
  obtain ⟨h1, h2⟩ := ha.ext hx
  refine ⟨by have := ha.le; have := hb.le; omega, ?_, fun v => ?_⟩
  · rw [either_en]
    have := cl_either h1 hb.cl
    exact ⟨fun p h => (rg_or ha.le hb.le).1 (this.first p h), fun p h => (rg_or ha.le hb.le).1 (this.last p h), fun p q h hq => (rg_or ha.le hb.le).1 (this.fol p q ((rg_or ha.le hb.le).2 h) hq)⟩
  · rw [either_en, acc_either h1 hb.cl rg_dis, h2 v, hb.acc v]
theorem none_ok (m : List Sp) (b : Bool) : Ok m.length ⟨0, 0, b⟩ m (fun v => b = true ∧ v = []) := by
  refine ⟨Nat.le_refl _, ⟨fun p h => by simp [Es.en] at h, fun p h => by simp [Es.en] at h, fun p q h _ => by unfold Rg at h; omega⟩, fun v => ?_⟩
  constructor
  · rintro (⟨h1, h2⟩ | ⟨p, q, h1, _⟩)
    · exact ⟨h2, h1⟩
    · simp [Es.en] at h1
  · rintro ⟨h1, h2⟩
    exact Or.inl ⟨h2, h1⟩
theorem Ok.congr {n : Nat} {e : Es} {m : List Sp} {L M : Tx → Prop} (h : Ok n e m L) (hLM : ∀ v, L v ↔ M v) : Ok n e m M := ⟨h.le, h.cl, fun v => (h.acc v).trans (hLM v)⟩

theorem cat_assoc (P Q R : Tx → Prop) (v : Tx) : Cat (Cat P Q) R v ↔ Cat P (Cat Q R) v := by
  constructor
  · rintro ⟨_, c, rfl, ⟨a, b, rfl, h1, h2⟩, h3⟩
    exact ⟨a, b ++ c, by simp, h1, b, c, rfl, h2, h3⟩
  · rintro ⟨a, _, rfl, h1, b, c, rfl, h2, h3⟩
    exact ⟨a ++ b, c, by simp, ⟨a, b, rfl, h1, h2⟩, h3⟩
theorem cat_nil (P : Tx → Prop) (v : Tx) : Cat P (fun v => v = []) v ↔ P v := by
  constructor
  · rintro ⟨a, _, rfl, h1, rfl⟩; simpa using h1
  · exact fun h => ⟨v, [], by simp, h, rfl⟩
theorem nil_cat (P : Tx → Prop) (v : Tx) : Cat (fun v => v = []) P v ↔ P v := by
  constructor
  · rintro ⟨_, a, rfl, rfl, h1⟩; simpa using h1
  · exact fun h => ⟨[], v, rfl, rfl, h⟩

mutual
/-- THE MACHINE MEANS WHAT THE PART MEANS. -/
theorem Pt.add_ok : ∀ (p : Pt) (m : List Sp), Ext m.length m (p.add m).2 ∧ Ok m.length (p.add m).1 (p.add m).2 p.has
  | .chr c, m => by
    have := spot_ok m [(c, c)]
    simp only [Pt.add]
    exact ⟨this.1, this.2.congr (fun v => by simp only [Pt.has])⟩
  | .any, m => by
    have := spot_ok m (othS 0 [])
    simp only [Pt.add]
    exact ⟨this.1, this.2.congr (fun v => by simp only [Pt.has])⟩
  | .cls neg l, m => by
    have := spot_ok m (if neg then othS 0 l else l)
    simp only [Pt.add]
    exact ⟨this.1, this.2.congr (fun v => by simp only [Pt.has])⟩
  | .grp l, m => by
    have := rowsAdd_ok l ⟨0, 0, false⟩ m m.length _ (none_ok m false)
    simp only [Pt.add]
    refine ⟨this.1, this.2.congr (fun v => ?_)⟩
    simp [Pt.has]
  | .rep a s, m => by
    have h := Pt.add_ok a m
    have k := rep_ok h.2 s
    simp only [Pt.add]
    exact ⟨h.1.trans k.1 (Nat.le_refl _), k.2.congr (fun v => by simp only [Pt.has])⟩
theorem rowAdd_ok : ∀ (r : List Pt) (e : Es) (m : List Sp) (n : Nat) (L : Tx → Prop), Ok n e m L → Ext n m (rowAdd r e m).2 ∧ Ok n (rowAdd r e m).1 (rowAdd r e m).2 (Cat L (rowHas r))
  | [], e, m, n, L, h => by
    simp only [rowAdd]
    refine ⟨fun _ _ => rfl, h.congr (fun v => ?_)⟩
    have : rowHas [] = fun v => v = [] := by funext v; simp [rowHas]
    rw [this, cat_nil]
  | p :: t, e, m, n, L, h => by
    have h1 := Pt.add_ok p m
    have h2 := chain_ok h h1.1 h1.2
    have h3 := rowAdd_ok t _ _ n _ h2.2
    simp only [rowAdd]
    refine ⟨h2.1.trans h3.1 (Nat.le_refl _), h3.2.congr (fun v => ?_)⟩
    rw [cat_assoc]
    have : rowHas (p :: t) = Cat p.has (rowHas t) := by funext v; simp [rowHas]
    rw [this]
theorem rowsAdd_ok : ∀ (l : List (List Pt)) (e : Es) (m : List Sp) (n : Nat) (L : Tx → Prop), Ok n e m L → Ext n m (rowsAdd l e m).2 ∧ Ok n (rowsAdd l e m).1 (rowsAdd l e m).2 (fun v => L v ∨ rowsHas l v)
  | [], e, m, n, L, h => by
    simp only [rowsAdd]
    exact ⟨fun _ _ => rfl, h.congr (fun v => by simp [rowsHas])⟩
  | r :: t, e, m, n, L, h => by
    have h1 := rowAdd_ok r ⟨0, 0, true⟩ m m.length _ (none_ok m true)
    have h2 := either_ok h h1.1 h1.2
    have h3 := rowsAdd_ok t _ _ n _ h2
    simp only [rowsAdd]
    refine ⟨(h1.1.mono h.le).trans h3.1 (Nat.le_refl _), h3.2.congr (fun v => ?_)⟩
    have e1 : Cat (fun v => v = []) (rowHas r) v ↔ rowHas r v := nil_cat _ v
    simp only [rowsHas, true_and]
    rw [e1, or_assoc]
end

/-- A pattern's machine, and what it takes. -/
def machL (l : List (List Pt)) : Es × List Sp := rowsAdd l ⟨0, 0, false⟩ []
theorem mach_ok (l : List (List Pt)) (v : Tx) : opens (folM (machL l).2) (labM (machL l).2) (machL l).1.en.last (machL l).1.en.first (machL l).1.en.emp v ↔ rowsHas l v := by
  rw [opens_acc]
  have := (rowsAdd_ok l ⟨0, 0, false⟩ [] 0 _ (none_ok [] false)).2.acc v
  rw [machL, this]
  simp

end Go.Proofs.YtgmdpbahcbhfjaaGreatDoor
