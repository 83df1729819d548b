/-
  WalLasts: its memory.
-/
import Derived.Test.YtnfjhdedcnbdbaaWtC
namespace Go.Proofs.Ytnfjhdedcnbdbaa
open Go.RowKit
set_option linter.unusedVariables false
set_option linter.unusedSimpArgs false

/-- What a log has told, in memory. -/
structure Tl where
  sa : Option Addr
  sc : Nat
  st : List Int
  ra : Option Addr
  rc : Nat
  recs : List (List Int)
  els : List Value
def Tl.cells (t : Tl) : List Value := [.slice t.sa t.st.length t.sc, .slice t.ra t.recs.length t.rc]
structure Tl.ok (t : Tl) (M : Nat → Prop) (A : World) : Prop where
  s : Sl A t.sa t.st.length t.st
  sf : ∀ z, t.sa = some z → 0 < t.st.length → ¬ M z.block
  r : RecM M A (.slice t.ra t.recs.length t.rc) t.recs t.els
  rn : t.ra = none → t.recs.length = 0 ∧ t.rc = 0
theorem Tl.ok.chg {t : Tl} {M G : Nat → Prop} {A A' : World} (h : t.ok M A) (hc : Chg G A A') (hG : ∀ i, G i → M i) : t.ok M A' :=
  ⟨hc.sl h.s (fun z hz hp k => h.sf z hz hp (hG _ k)), h.sf, h.r.chg hc hG, h.rn⟩
theorem Tl.ok.new {t : Tl} {M M' : Nat → Prop} {A : World} (h : t.ok M A) (hn : New A M M') : t.ok M' A := by
  refine ⟨h.s, fun z hz hp k => ?_, h.r.new hn, h.rn⟩
  rcases hn _ k with q | q
  · exact h.sf z hz hp q
  · have := h.s.lt z hz hp; omega
theorem Tl.ok.mono {t : Tl} {M M' : Nat → Prop} {A : World} (h : t.ok M A) (hs : ∀ i, M' i → M i) : t.ok M' A := ⟨h.s, fun z hz hp k => h.sf z hz hp (hs _ k), h.r.mono hs, h.rn⟩
/-- What may change has changed, and moved. -/
theorem Tl.ok.step {t : Tl} {M M' G : Nat → Prop} {A A' : World} (h : t.ok M A) (hc : Chg G A A') (hG : ∀ i, G i → M i) (hn : New A M M') : t.ok M' A' := by
  have h1 : t.ok (fun i => M i ∨ M' i) A := h.new (fun i k => k.elim .inl (hn i))
  exact (h1.chg hc (fun i k => .inl (hG i k))).mono (fun i k => .inr k)
theorem lat_low {W A A' : World} {F : Nat → Prop} (h : Lat W A) (hc : Chg F A A') (hl : ∀ i, F i → W.heap.size ≤ i) : Lat W A' := Below.trans h (hc.below h.size hl)
theorem RecM.byte {F : Nat → Prop} {w : World} {rv : Value} {recs : List (List Int)} {els : List Value} (h : RecM F w rv recs els) : ∀ r ∈ recs, Byte r := by
  intro r hr
  obtain ⟨i, hi⟩ := List.getElem?_of_mem hr
  have hl := h.len
  have hlt := (List.getElem?_eq_some_iff.1 hi).1
  obtain ⟨a, c, _, h2, _⟩ := h.el i _ r (List.getElem?_eq_getElem (by omega)) hi
  exact h2.byte
/-- What may change. -/
def Mu (F : Nat → Prop) (lp tb nb : Nat) : Nat → Prop := fun i => F i ∨ i = lp ∨ i = tb ∨ i = nb
structure TI (W A : World) (p tb nb : Nat) (F : Nat → Prop) (lp : Nat) (S : St) (l : Lw) (t nx : Tl) (X : Nat → List Value → Prop) (Bb : Option Addr → List Int → Prop) : Prop where
  fd : Dk 71 66 A p F S
  fl : Lg 94 A lp p l
  ftb : Blk A tb 42 t.cells
  fnb : Blk A nb 42 nx.cells
  ft : t.ok (Mu F lp tb nb) A
  fn : nx.ok (Mu F lp tb nb) A
  flow : ∀ i, Mu F lp tb nb i → W.heap.size ≤ i
  fbel : Lat W A
  fx : ∀ g c, X g c → Blk A g 48 c
  fb : ∀ a c, Bb a c → Sl A a c.length c ∧ ∀ z, a = some z → 0 < c.length → ¬ Mu F lp tb nb z.block
section
variable {W A A' : World} {p tb nb : Nat} {F : Nat → Prop} {lp : Nat} {S S' : St} {l l' : Lw} {t nx : Tl} {X : Nat → List Value → Prop} {Bb : Option Addr → List Int → Prop}
theorem TI.off (h : TI W A p tb nb F lp S l t nx X Bb) : ¬ F lp ∧ ¬ F tb ∧ ¬ F nb ∧ tb ≠ lp ∧ nb ≠ lp := by
  have h1 : Tg A lp 94 := Blk.tg h.fl
  have h2 : Tg A tb 42 := Blk.tg h.ftb
  have h3 : Tg A nb 42 := Blk.tg h.fnb
  refine ⟨fun k => ?_, fun k => ?_, fun k => ?_, fun k => ?_, fun k => ?_⟩
  · rcases h.fd.tg _ k with q | q | q | q <;> exact absurd (h1.one q) (by decide)
  · rcases h.fd.tg _ k with q | q | q | q <;> exact absurd (h2.one q) (by decide)
  · rcases h.fd.tg _ k with q | q | q | q <;> exact absurd (h3.one q) (by decide)
  · subst k; exact absurd (h1.one h2) (by decide)
  · subst k; exact absurd (h1.one h3) (by decide)
theorem TI.xoff (h : TI W A p tb nb F lp S l t nx X Bb) {g : Nat} {c : List Value} (hx : X g c) : ¬ Mu F lp tb nb g := by
  have h0 : Tg A g 48 := Blk.tg (h.fx g c hx)
  have h1 : Tg A lp 94 := Blk.tg h.fl
  have h2 : Tg A tb 42 := Blk.tg h.ftb
  have h3 : Tg A nb 42 := Blk.tg h.fnb
  rintro (k | k | k | k)
  · rcases h.fd.tg _ k with q | q | q | q <;> exact absurd (h0.one q) (by decide)
  · subst k; exact absurd (h0.one h1) (by decide)
  · subst k; exact absurd (h0.one h2) (by decide)
  · subst k; exact absurd (h0.one h3) (by decide)
theorem TI.lt (h : TI W A p tb nb F lp S l t nx X Bb) : ∀ i, Mu F lp tb nb i → i < A.heap.size := by
  rintro i (k | k | k | k)
  · exact h.fd.lt i k
  · subst k; exact Blk.lt h.fl
  · subst k; exact h.ftb.lt
  · subst k; exact h.fnb.lt
theorem TI.lat (h : TI W A p tb nb F lp S l t nx X Bb) (hl : Lat A A') : TI W A' p tb nb F lp S l t nx X Bb := by
  have hc : Chg (fun _ => False) A A' := Chg.of_below hl
  exact ⟨h.fd.lat hl, h.fl.lat hl, h.ftb.later hl, h.fnb.later hl, h.ft.chg hc (fun _ k => k.elim), h.fn.chg hc (fun _ k => k.elim), h.flow, Lat.trans _ _ _ h.fbel hl, fun g c hx => (h.fx g c hx).later hl, fun a c hb => ⟨(h.fb a c hb).1.lat hl, (h.fb a c hb).2⟩⟩
theorem Mu.new {F' : Nat → Prop} (hn : New A F F') : New A (Mu F lp tb nb) (Mu F' lp tb nb) := by
  rintro i (k | k)
  · rcases hn i k with q | q
    · exact .inl (.inl q)
    · exact .inr q
  · exact .inl (.inr k)
theorem TI.grow {F' : Nat → Prop} (h : TI W A p tb nb F lp S l t nx X Bb) (hc : Chg (fun i => F i ∨ i = lp) A A') (hn : New A F F') (hd : Dk 71 66 A' p F' S') (hl : Lg 94 A' lp p l') : TI W A' p tb nb F' lp S' l' t nx X Bb := by
  obtain ⟨o1, o2, o3, o4, o5⟩ := h.off
  have sub : ∀ i, (F i ∨ i = lp) → Mu F lp tb nb i := fun i k => k.elim .inl (fun k => .inr (.inl k))
  have hn' : New A (Mu F lp tb nb) (Mu F' lp tb nb) := Mu.new hn
  refine ⟨hd, hl, hc.blk h.ftb (fun k => k.elim o2 o4), hc.blk h.fnb (fun k => k.elim o3 o5), h.ft.step hc sub hn', h.fn.step hc sub hn', fun i k => ?_, lat_low h.fbel hc (fun i k => h.flow i (sub i k)), fun g c hx => hc.blk (h.fx g c hx) (fun k => h.xoff hx (sub _ k)), fun a c hb => ⟨hc.sl (h.fb a c hb).1 (fun z hz hp k => (h.fb a c hb).2 z hz hp (sub _ k)), fun z hz hp k => ?_⟩⟩
  · rcases hn' i k with q | q
    · exact h.flow i q
    · have := h.fbel.size; omega
  · rcases hn' _ k with q | q
    · exact (h.fb a c hb).2 z hz hp q
    · have := (h.fb a c hb).1.lt z hz hp; omega
theorem TI.disk (h : TI W A p tb nb F lp S l t nx X Bb) (hk : Dks 71 66 A A' p F S') : ∃ F', TI W A' p tb nb F' lp S' l t nx X Bb := by
  obtain ⟨F', h1, h2, h3⟩ := hk
  have hc := h2.mono (G := fun i => F i ∨ i = lp) (fun i _ k => .inl k)
  exact ⟨F', h.grow hc h3 h1 (h.fl.chg h2 h.off.1)⟩
/-- Another log, on the same disk. -/
theorem TI.wake {F' : Nat → Prop} {lp' : Nat} (h : TI W A p tb nb F lp S l t nx X Bb) (hc : Chg F A A') (hn : New A F F') (hd : Dk 71 66 A' p F' S') (hl : Lg 94 A' lp' p l') (hp : A.heap.size ≤ lp') : TI W A' p tb nb F' lp' S' l' t nx X Bb := by
  obtain ⟨o1, o2, o3, o4, o5⟩ := h.off
  have sub : ∀ i, F i → Mu F lp tb nb i := fun i k => .inl k
  have hn' : New A (Mu F lp tb nb) (Mu F' lp' tb nb) := by
    rintro i (k | k | k)
    · rcases hn i k with q | q
      · exact .inl (.inl q)
      · exact .inr q
    · subst k; exact .inr hp
    · exact .inl (.inr (.inr k))
  refine ⟨hd, hl, hc.blk h.ftb o2, hc.blk h.fnb o3, h.ft.step hc sub hn', h.fn.step hc sub hn', fun i k => ?_, lat_low h.fbel hc (fun i k => h.flow i (sub i k)), fun g c hx => hc.blk (h.fx g c hx) (fun k => h.xoff hx (sub _ k)), fun a c hb => ⟨hc.sl (h.fb a c hb).1 (fun z hz hp k => (h.fb a c hb).2 z hz hp (sub _ k)), fun z hz hp k => ?_⟩⟩
  · rcases hn' i k with q | q
    · exact h.flow i q
    · have := h.fbel.size; omega
  · rcases hn' _ k with q | q
    · exact (h.fb a c hb).2 z hz hp q
    · have := (h.fb a c hb).1.lt z hz hp; omega
/-- A new variable 'next'. -/
theorem TI.newn {nb' : Nat} (h : TI W A p tb tb F lp S l t t X Bb) (hl : Lat A A') (hB : Blk A' nb' 42 t.cells) (hp : A.heap.size ≤ nb') : TI W A' p tb nb' F lp S l t t X Bb := by
  have h' := h.lat hl
  have hn' : New A (Mu F lp tb tb) (Mu F lp tb nb') := by
    rintro i (k | k | k | k)
    · exact .inl (.inl k)
    · exact .inl (.inr (.inl k))
    · exact .inl (.inr (.inr (.inl k)))
    · subst k; exact .inr hp
  have ht : t.ok (Mu F lp tb nb') A' := h.ft.step (Chg.of_below (F := fun _ => False) hl) (fun _ k => k.elim) hn'
  refine ⟨h'.fd, h'.fl, h'.ftb, hB, ht, ht, fun i k => ?_, h'.fbel, h'.fx, fun a c hb => ⟨(h'.fb a c hb).1, fun z hz hp k => ?_⟩⟩
  · rcases hn' i k with q | q
    · exact h.flow i q
    · have := h.fbel.size; omega
  · rcases hn' _ k with q | q
    · exact (h.fb a c hb).2 z hz hp q
    · have := (h.fb a c hb).1.lt z hz hp; omega
/-- 'next' is set. -/
theorem TI.setn {nx' : Tl} (h : TI W A p tb nb F lp S l t nx X Bb) (hne : tb ≠ nb) (hc : Chg (fun i => i = nb) A A') (hB : Blk A' nb 42 nx'.cells) (hk : nx'.ok (Mu F lp tb nb) A) : TI W A' p tb nb F lp S l t nx' X Bb := by
  obtain ⟨o1, o2, o3, o4, o5⟩ := h.off
  have sub : ∀ i, i = nb → Mu F lp tb nb i := fun i k => .inr (.inr (.inr k))
  exact ⟨h.fd.chg hc (fun i hi k => by subst k; exact o3 hi), h.fl.chg hc (fun k => o5 k.symm), hc.blk h.ftb hne, hB, h.ft.chg hc sub, hk.chg hc sub, h.flow, lat_low h.fbel hc (fun i k => h.flow i (sub i k)), fun g c hx => hc.blk (h.fx g c hx) (fun k => h.xoff hx (sub _ k)), fun a c hb => ⟨hc.sl (h.fb a c hb).1 (fun z hz hp k => (h.fb a c hb).2 z hz hp (sub _ k)), (h.fb a c hb).2⟩⟩
/-- What was next is told. -/
theorem TI.take (h : TI W A p tb nb F lp S l t nx X Bb) (hne : tb ≠ nb) (hc : Chg (fun i => i = tb) A A') (hB : Blk A' tb 42 nx.cells) : TI W A' p tb nb F lp S l nx nx X Bb := by
  obtain ⟨o1, o2, o3, o4, o5⟩ := h.off
  have sub : ∀ i, i = tb → Mu F lp tb nb i := fun i k => .inr (.inr (.inl k))
  exact ⟨h.fd.chg hc (fun i hi k => by subst k; exact o2 hi), h.fl.chg hc (fun k => o4 k.symm), hB, hc.blk h.fnb (fun k => hne k.symm), h.fn.chg hc sub, h.fn.chg hc sub, h.flow, lat_low h.fbel hc (fun i k => h.flow i (sub i k)), fun g c hx => hc.blk (h.fx g c hx) (fun k => h.xoff hx (sub _ k)), fun a c hb => ⟨hc.sl (h.fb a c hb).1 (fun z hz hp k => (h.fb a c hb).2 z hz hp (sub _ k)), (h.fb a c hb).2⟩⟩
/-- The round is over. -/
theorem TI.over (h : TI W A p tb nb F lp S l t nx X Bb) : TI W A p tb tb F lp S l t t (fun _ _ => False) (fun _ _ => False) := by
  have sub : ∀ i, Mu F lp tb tb i → Mu F lp tb nb i := fun i k => by
    rcases k with k | k | k | k
    · exact .inl k
    · exact .inr (.inl k)
    · exact .inr (.inr (.inl k))
    · exact .inr (.inr (.inl k))
  exact ⟨h.fd, h.fl, h.ftb, h.ftb, h.ft.mono sub, h.ft.mono sub, fun i k => h.flow i (sub i k), h.fbel, fun _ _ k => k.elim, fun _ _ k => k.elim⟩
/-- A deed is read. -/
theorem TI.deed (h : TI W A p tb nb F lp S l t nx (fun _ _ => False) (fun _ _ => False)) {xb : Nat} {xs : List Value} (hB : Blk A xb 48 xs) {ba : Option Addr} {b : List Int} (hs : Sl A ba b.length b) (hf : ∀ z, ba = some z → 0 < b.length → ¬ Mu F lp tb nb z.block) : TI W A p tb nb F lp S l t nx (fun g c => g = xb ∧ c = xs) (fun a c => a = ba ∧ c = b) :=
  ⟨h.fd, h.fl, h.ftb, h.fnb, h.ft, h.fn, h.flow, h.fbel, fun g c k => by rw [k.1, k.2]; exact hB, fun a c k => by rw [k.1, k.2]; exact ⟨hs, hf⟩⟩
end

/-- A deed, as it came in. -/
structure Dee where
  kd : Int
  ops : Int
  kp : Int
  ba : Option Addr
  bn : Nat
  bc : Nat
  bs : List Int
def Dee.cells (s : Dee) : List Value := [.int .i64 s.kd, .int .i64 s.ops, .int .i64 s.kp, .slice s.ba s.bn s.bc]
structure Dee.ok (w : World) (s : Dee) : Prop where
  kd : -9223372036854775808 ≤ s.kd ∧ s.kd ≤ 9223372036854775807
  ops : -9223372036854775808 ≤ s.ops ∧ s.ops ≤ 9223372036854775807
  kp : -9223372036854775808 ≤ s.kp ∧ s.kp ≤ 9223372036854775807
  sl : Sl w s.ba s.bn s.bs
  non : s.ba = none → s.bn = 0 ∧ s.bc = 0
  le : s.bn ≤ s.bc
  bl : s.bc ≤ 9223372036854775807
/-- The deeds. -/
def Dees (W : World) (sa : Option Addr) (n : Nat) (D : Nat → Dee) : Prop := 0 < n → ∃ b off, sa = some ⟨b, off, none⟩ ∧ ∀ i, i < n → (∀ q u, (D i).cells[q]? = some u → W.cell? ⟨b, off + i * 4 + q, none⟩ = some u) ∧ (D i).ok W

end Go.Proofs.Ytnfjhdedcnbdbaa
