import Derived.Test.YtanlgplgplncdaaGreatDoorPuA
import Derived.Deep.CutRange
/-
  The machine: link.
-/
namespace Go.Proofs.YtanlgplgplncdaaGreatDoor
open Go.RowKit
set_option linter.unusedVariables false
set_option linter.unusedSimpArgs false

/-- The spots ahead of k are linked. -/
def lnkK (k : Nat) (M : List Sp) (f t : Nat) : List Sp := M.mapIdx (fun i s => if i < k ∧ f.testBit i = true then ⟨s.takes, s.next ||| t⟩ else s)
theorem lnkK_length (k : Nat) (M : List Sp) (f t : Nat) : (lnkK k M f t).length = M.length := by simp [lnkK]
theorem lnkK_get (k : Nat) (M : List Sp) (f t i : Nat) : (lnkK k M f t)[i]? = M[i]?.map (fun s => if i < k ∧ f.testBit i = true then ⟨s.takes, s.next ||| t⟩ else s) := by
  simp [lnkK, List.getElem?_mapIdx]
theorem lnkK_zero (M : List Sp) (f t : Nat) : lnkK 0 M f t = M := by
  apply List.ext_getElem?
  intro i
  rw [lnkK_get]
  simp
theorem lnkK_all (M : List Sp) (f t : Nat) : lnkK M.length M f t = lnkM M f t := by
  apply List.ext_getElem?
  intro i
  rw [lnkK_get, lnk_get]
  cases h : M[i]? with
  | none => rfl
  | some s =>
    have := (List.getElem?_eq_some_iff.1 h).1
    simp [this]
theorem lnkK_yes {M : List Sp} {f t k : Nat} {s : Sp} (hs : M[k]? = some s) (hf : f.testBit k = true) : (lnkK k M f t).set k ⟨s.takes, s.next ||| t⟩ = lnkK (k + 1) M f t := by
  apply List.ext_getElem?
  intro i
  by_cases hik : k = i
  · subst hik
    rw [List.getElem?_set_self (by rw [lnkK_length]; exact (List.getElem?_eq_some_iff.1 hs).1), lnkK_get, hs]
    simp [hf]
  · rw [List.getElem?_set_ne hik, lnkK_get, lnkK_get]
    have : (i < k + 1) ↔ (i < k) := by omega
    simp only [this]
theorem lnkK_no {M : List Sp} {f t k : Nat} (hf : f.testBit k = false) : lnkK k M f t = lnkK (k + 1) M f t := by
  apply List.ext_getElem?
  intro i
  rw [lnkK_get, lnkK_get]
  by_cases hik : k = i
  · subst hik; simp [hf]
  · have : (i < k + 1) ↔ (i < k) := by omega
    simp only [this]
theorem lnkK_at {M : List Sp} {f t k : Nat} {s : Sp} (hs : M[k]? = some s) : (lnkK k M f t)[k]? = some s := by
  rw [lnkK_get, hs]; simp
theorem or_lt {a b : Nat} (ha : a < 18446744073709551616) (hb : b < 18446744073709551616) : a ||| b < 18446744073709551616 := Nat.or_lt_two_pow (n := 64) ha hb

/-- One spot's next is set. -/
theorem Mc.setN {F : Nat → Prop} {w : World} {r : Nat} {E : Es} {M : List Sp} {g c : Nat} {vs : List (Value × Nat)} (h : Mc F w r E M (some ⟨g, 0, none⟩) c vs) {k n : Nat} {v : Value} {s : Sp} (hv : vs[k]? = some (v, s.next)) (hs : M[k]? = some s) (hn : n < 18446744073709551616) :
    Mc F (w.setCell ⟨g, k * 2 + 1, none⟩ (.int .u64 (n : Int))) r E (M.set k ⟨s.takes, n⟩) (some ⟨g, 0, none⟩) c (vs.set k (v, n)) := by
  have hg : ∀ b, (Value.slice (some ⟨g, 0, none⟩) M.length c).ownBlock = some b ↔ g = b := fun b => by simp [Value.ownBlock]
  have hc := Chg.set ⟨g, k * 2 + 1, none⟩ (.int .u64 (n : Int)) w
  have hl : (M.set k ⟨s.takes, n⟩).length = M.length := by simp
  refine ⟨?_, ?_, ?_, h.nr, ?_, ?_, fun b hb => ?_, fun i x hx => ?_⟩
  · rw [hl]
    exact hc.blk h.blk (fun e => h.ne ((hg r).2 (by have e' : r = g := e; exact e'.symm)))
  · rw [hl]
    have := owns_setV h.own (k * 2 + 1) (.int .u64 (n : Int))
    rw [cQ_set vs k _ n hv] at this
    exact this
  · exact (h.sp.keep hc (fun b hb e => h.no b hb ((hg b).2 (by have e' : b = g := e; exact e'.symm)))).set hv hs
  · rw [hl]; exact h.no
  · rw [hl]; exact h.ne
  · have := h.lt b hb; have := hc.size; omega
  · by_cases hk : k = i
    · subst hk
      rw [List.getElem?_set_self (List.getElem?_eq_some_iff.1 hs).1] at hx
      injection hx with hx
      subst hx
      exact hn
    · rw [List.getElem?_set_ne hk] at hx
      exact h.b64 i x hx

set_option maxRecDepth 100000 in
set_option maxHeartbeats 8000000 in
theorem linkP (F : Nat → Prop) (w : World) (r : Nat) (E : Es) (M : List Sp) (o : Option Nat) (f t : Nat) (hM : Mch F w r E M o) (hf : f < 18446744073709551616) (ht : t < 18446744073709551616) (hlen : M.length ≤ 64) :
    Calls Tryz.prog 118 #[.pointer (some ⟨r, 0, none⟩), .int .u64 (f : Int), .int .u64 (t : Int)] w fun e w' => e = .returned (.tuple #[]) ∧ Mch F w' r E (lnkM M f t) o ∧ Chg (fun b => o = some b) w w' := by
  obtain ⟨ad, c, vs, hm, ho⟩ := hM
  obtain ⟨n, hn⟩ : ∃ n, M.length = n := ⟨_, rfl⟩
  have HN := hidden hn
  have HO : Hid ((Value.slice ad n c).ownBlock = o) := hidden (by rw [← hn]; exact ho)
  have HM : Hid (Mc F w r E (lnkK 0 M f t) ad c vs) := hidden (by rw [lnkK_zero]; exact hm)
  have c0 : w.cell? ⟨r, 0, none⟩ = some (.slice ad n c) := by have := hm.blk.cell 0; rw [hn] at this; exact this
  have HA := hidden (lnkK_all M f t)
  rw [hn] at hlen
  clear ho hn hm
  go_enter Tryz.func118, Tryz.ntmps118
  go_wp2
  clear c0
  go_loopw [6, 12] (fun s6 s12 wx => ∃ (i : Nat), s12 = .int .i64 (i : Int) ∧ i ≤ n ∧ Hid (∃ vs', Mc F wx r E (lnkK i M f t) ad c vs') ∧ Hid (Chg (fun b => o = some b) w wx)) (fun _ s12 _ => n - (intOf s12).toNat)
  case atStart => exact ⟨0, rfl, by omega, hidden ⟨vs, HM.out⟩, hidden (Chg.refl _ _)⟩
  case round =>
    rename World => wr
    obtain ⟨i, rfl, hi, hex, hch⟩ := hrel
    obtain ⟨vs', hmc⟩ := hex.out
    clear HM hex
    by_cases hlt : i < n
    · have hltz : (i : Int) < (n : Int) := by omega
      obtain ⟨s, hs⟩ : ∃ s, M[i]? = some s := ⟨M[i]'(by rw [HN.out]; exact hlt), by simp⟩
      have hs' := lnkK_at (f := f) (t := t) hs
      obtain ⟨v, hv, htk⟩ := hmc.sp.get hs'
      have hln : (lnkK i M f t).length = n := by rw [lnkK_length]; exact HN.out
      have kH := hasP f i hf (by omega)
      obtain ⟨R, hR⟩ : ∃ R, f.testBit i = R := ⟨_, rfl⟩
      cases R with
      | false =>
        have HNX : Hid (∃ vs', Mc F wr r E (lnkK (i + 1) M f t) ad c vs') := hidden ⟨vs', by rw [← lnkK_no hR]; exact hmc⟩
        rw [hR] at kH
        clear hmc hs hs' hv htk hln hR
        go_wp2_with (go_at_call 111; refine (kH _).mono ?_; rintro e w2 ⟨rfl, rfl⟩; clear kH)
        refine ⟨⟨i + 1, by first | rfl | simp, by omega, HNX, hch⟩, ?_⟩
        simp [intOf]
        omega
      | true =>
        rcases hmc.own.2 with ⟨e0, e1⟩ | ⟨g, cap, cur, e0, _⟩
        · rw [hln] at e1; omega
        · injection e0 with e0 _ e2
          subst e0 e2
          have hoc := cQ_get vs' i _ hv
          have d1 : wr.cell? ⟨g, i * 2 + 1, none⟩ = some (.int .u64 (s.next : Int)) := by
            have := hmc.own.cells (g := g) (by simp [Value.ownBlock]) _ _ hoc.2
            rw [Addr.add_lit, Nat.zero_add] at this
            exact this
          have d2 : wr.frozen? ⟨g, i * 2 + 1, none⟩ = false := hmc.own.frozenAt _
          have c0 : wr.cell? ⟨r, 0, none⟩ = some (.slice (some ⟨g, 0, none⟩) n c) := by have := hmc.blk.cell 0; rw [hln] at this; exact this
          have hb := hmc.b64 i s hs'
          have HNX : Hid (∃ vs', Mc F (wr.setCell ⟨g, i * 2 + 1, none⟩ (.int .u64 ((s.next ||| t : Nat) : Int))) r E (lnkK (i + 1) M f t) (some ⟨g, 0, none⟩) c vs') := hidden ⟨_, by rw [← lnkK_yes hs hR]; exact hmc.setN hv hs' (or_lt hb ht)⟩
          have HCN : Hid (Chg (fun b => o = some b) w (wr.setCell ⟨g, i * 2 + 1, none⟩ (.int .u64 ((s.next ||| t : Nat) : Int)))) := hidden (hch.out.trans (Chg.set _ _ wr) (fun b _ e => by rw [← HO.out]; have e' : b = g := e; rw [e']; rfl))
          have o1 := or64 hb ht
          rw [hR] at kH
          clear hmc hs hs' hv htk hln hR hoc hb
          go_wp2_with (go_at_call 111; refine (kH _).mono ?_; rintro e w2 ⟨rfl, rfl⟩; clear kH)
          refine ⟨⟨i + 1, by first | rfl | simp, by omega, HNX, HCN⟩, ?_⟩
          simp [intOf]
          omega
    · have hltz : ¬ (i : Int) < (n : Int) := by omega
      have hie : i = n := by omega
      subst hie
      have HF : Hid (Mc F wr r E (lnkM M f t) ad c vs') := hidden (by rw [← HA.out, HN.out]; exact hmc)
      clear hmc
      go_wp2
      go_end0
      exact ⟨rfl, ⟨ad, c, vs', HF.out, by rw [lnk_length, HN.out]; exact HO.out⟩, hch.out⟩

end Go.Proofs.YtanlgplgplncdaaGreatDoor

/-
  The machine: addSpot.
-/
namespace Go.Proofs.YtanlgplgplncdaaGreatDoor
open Go.RowKit
set_option linter.unusedVariables false
set_option linter.unusedSimpArgs false

theorem res_spot (tmps : Array Value) (w : World) (g : Nat) (e : Es) (hp : tmps.getD 4 undef = .pointer (some ⟨g, 0, none⟩)) (h : Blk w g 163 (esC e)) :
    (results Tryz.f109 tmps).run Tryz.prog w = .ok (esV e) w := by
  have h0 : w.cell? ⟨g, 0, none⟩ = some (.int .u64 (e.first : Int)) := h.cell 0
  have h1 : w.cell? ⟨g, 1, none⟩ = some (.int .u64 (e.last : Int)) := h.cell 1
  have h2 : w.cell? ⟨g, 2, none⟩ = some (.bool e.emp) := h.cell 2
  have hr : Tryz.f109.results = #[.cell 4 163] := by kernel_rfl
  have hp' : tmps[4]?.getD undef = .pointer (some ⟨g, 0, none⟩) := by simpa using hp
  simp [results, hr, hp', asAddr, loadVar, h0, h1, h2, go_sem, esV]

theorem Chg.sets (b : Nat) : ∀ (vs : List Value) (o : Nat) (w : World), Chg (fun i => i = b) w (w.setCells b o vs)
  | [], o, w => Chg.refl _ _
  | v :: t, o, w => (Chg.set ⟨b, o, none⟩ v w).trans (Chg.sets b t (o + 1) _) (fun _ _ e => e)
theorem Mc.pushed {F : Nat → Prop} {w w9 : World} {r : Nat} {E : Es} {M : List Sp} {ad : Option Addr} {c : Nat} {vs : List (Value × Nat)} {v : Value} {l : Sn} {n g9 c9 : Nat} (h : Mc F w r E M ad c vs) (hn : M.length = n) (hv : TkV F w v l) (ho : w9.ownsRow 0 202 2 (.slice (some ⟨g9, 0, none⟩) (n + 1) c9) (n + 1) (cQ vs ++ [v, .int .u64 0]))
    (hch : Chg (fun b => (Value.slice ad n c).ownBlock = some b) w w9) (hmv : Moved w (Value.slice ad n c).ownBlock (some g9)) : Mc F (w9.setCell ⟨r, 0, none⟩ (.slice (some ⟨g9, 0, none⟩) (n + 1) c9)) r E (M ++ [⟨l, 0⟩]) (some ⟨g9, 0, none⟩) c9 (vs ++ [(v, 0)]) := by
  subst hn
  have hg : ∀ n c b, (Value.slice (some ⟨g9, 0, none⟩) n c).ownBlock = some b ↔ g9 = b := fun n c b => by simp [Value.ownBlock]
  have hgn : ∀ b, b < w.heap.size → (Value.slice ad M.length c).ownBlock ≠ some b → g9 ≠ b := fun b hb hne e => by
    rcases hmv with e1 | ⟨g, e1, hlt⟩
    · exact hne (by rw [← e1, e])
    · injection e1 with e1; omega
  have hc := Chg.set ⟨r, 0, none⟩ (.slice (some ⟨g9, 0, none⟩) (M.length + 1) c9) w9
  have hl : (M ++ [(⟨l, 0⟩ : Sp)]).length = M.length + 1 := by simp
  have hne := hgn r h.blk.lt h.ne
  refine ⟨?_, ?_, ?_, h.nr, ?_, ?_, fun b hb => ?_, fun i x hx => ?_⟩
  · rw [hl]
    exact (hch.blk h.blk h.ne).set 0 _
  · rw [hl]
    have e : cQ (vs ++ [(v, 0)]) = cQ vs ++ [v, .int .u64 0] := by rw [cQ_append]; rfl
    rw [e]
    exact hc.owns ho (fun g e e2 => hne (by have e2' : g = r := e2; rw [← e2']; exact (hg _ _ g).1 e))
  · exact ((h.sp.keep hch (fun b hb e => h.no b hb e)).snoc (hv.keep hch (fun b hb e => h.no b hb e))).keep hc (fun b hb e => h.nr (by have e' : b = r := e; rw [← e']; exact hb))
  · intro b hb e
    exact hgn b (h.lt b hb) (h.no b hb) ((hg _ _ b).1 e)
  · exact fun e => hne ((hg _ _ r).1 e)
  · have := h.lt b hb; have := hch.size; have := hc.size; omega
  · rcases Nat.lt_or_ge i M.length with hi | hi
    · rw [List.getElem?_append_left hi] at hx
      exact h.b64 i x hx
    · rw [List.getElem?_append_right hi] at hx
      have hi0 : i - M.length = 0 := by
        have := (List.getElem?_eq_some_iff.1 hx).1
        simp at this
        omega
      rw [hi0] at hx
      simp at hx
      subst hx
      simp
theorem wrap2 {n p : Nat} (hn : n < 64) (hp : 2 ^ n = p) : IntKind.u64.wrap (2 ^ n) = (p : Int) := by
  have h1 : 2 ^ n < 2 ^ 64 := Nat.pow_lt_pow_right (by omega) hn
  have h2 : (2 : Nat) ^ 64 = 18446744073709551616 := by decide
  have e : ((2 : Int) ^ n) = (p : Int) := by rw [← hp]; simp
  rw [hp, h2] at h1
  rw [e, IntKind.wrap_u64]
  omega
theorem info52 : (Tryz.prog.info? 163).map (·.size) = some 3 := by kernel_rfl

set_option maxRecDepth 100000 in
set_option maxHeartbeats 8000000 in
theorem addSpotP (F : Nat → Prop) (w : World) (r : Nat) (E : Es) (M : List Sp) (o : Option Nat) (v : Value) (l : Sn) (hM : Mch F w r E M o) (hv : TkV F w v l) (hlen : M.length < 64) :
    Calls Tryz.prog 109 #[.pointer (some ⟨r, 0, none⟩), v] w fun e w' => e = .returned (esV (spotM M l).1) ∧ ∃ o', Mch F w' r E (spotM M l).2 o' ∧ Mv F F w w' r o o' := by
  obtain ⟨i0, hi0, hz0, hz1, hz2⟩ := info_parts info102
  have HI := hidden hi0
  obtain ⟨ad, c, vs, hm, ho⟩ := hM
  obtain ⟨n, hn⟩ : ∃ n, M.length = n := ⟨_, rfl⟩
  have HN := hidden hn
  have HO : Hid ((Value.slice ad n c).ownBlock = o) := hidden (by rw [← hn]; exact ho)
  have HM := hidden hm
  have B1 := Blk.alloc hm.blk (.cells #[.int .u64 0, .int .u64 0, .bool false] 163)
  have c0 : (w.alloc (.cells #[.int .u64 0, .int .u64 0, .bool false] 163)).cell? ⟨r, 0, none⟩ = some (.slice ad n c) := by have := B1.cell 0; rw [hn] at this; exact this
  have OW : Hid (((w.alloc (.cells #[.int .u64 0, .int .u64 0, .bool false] 163))).ownsRow 0 202 2 (.slice ad n c) n (cQ vs)) := hidden (by have := hm.own.alloc (.cells #[.int .u64 0, .int .u64 0, .bool false] 163); rw [hn] at this; exact this)
  rw [hn] at hlen
  have HV := hidden hv
  obtain ⟨va, vc, rfl, hv2⟩ := hv
  obtain ⟨k, hk⟩ : ∃ k, l.length = k := ⟨_, rfl⟩
  rw [hk] at HV
  have HK := hidden hk
  rw [hk]
  have cellN : Hid (∀ jj u, [Value.slice va k vc, Value.int .u64 0][jj]? = some u → ((w.alloc (.cells #[.int .u64 0, .int .u64 0, .bool false] 163)).alloc (.cells #[.slice va k vc, .int .u64 0] 202)).cell? ((⟨w.heap.size + 1, 0, none⟩ : Addr).add jj) = some u) := hidden (fun jj u hu => by
    rw [Addr.add_lit, Nat.zero_add]
    have := (Blk.new (w.alloc (.cells #[.int .u64 0, .int .u64 0, .bool false] 163)) 202 [.slice va k vc, .int .u64 0]).cell jj
    rw [hu, show (w.alloc (.cells #[.int .u64 0, .int .u64 0, .bool false] 163)).heap.size = w.heap.size + 1 by simp] at this
    exact this)
  obtain ⟨p, hp⟩ : ∃ p, 2 ^ n = p := ⟨_, rfl⟩
  have hwr := wrap2 hlen hp
  have B52 := Blk.new w 163 [.int .u64 0, .int .u64 0, .bool false]
  have HNX : Hid (∀ (w9 : World) (g9 c9 : Nat) (ob : Obj), w9.ownsRow 0 202 2 (.slice (some ⟨g9, 0, none⟩) (n + 1) c9) (n + 1) (cQ vs ++ [.slice va k vc, .int .u64 0]) → Pushed ((w.alloc (.cells #[.int .u64 0, .int .u64 0, .bool false] 163)).alloc ob) w9 (.slice ad n c) g9 →
      Mc F (w9.setCell ⟨r, 0, none⟩ (.slice (some ⟨g9, 0, none⟩) (n + 1) c9)) r E (M ++ [⟨l, 0⟩]) (some ⟨g9, 0, none⟩) c9 (vs ++ [(.slice va k vc, 0)]) ∧ Blk w9 r 165 [.slice ad n c, .int .u64 (E.first : Int), .int .u64 (E.last : Int), .bool E.emp] ∧ Blk (w9.setCell ⟨r, 0, none⟩ (.slice (some ⟨g9, 0, none⟩) (n + 1) c9)) w.heap.size 163 [.int .u64 0, .int .u64 0, .bool false] ∧ Mv F F w (w9.setCell ⟨r, 0, none⟩ (.slice (some ⟨g9, 0, none⟩) (n + 1) c9)) r o (some g9) ∧ g9 ≠ w.heap.size) := hidden (fun w9 g9 c9 ob h1 h2 => by
    obtain ⟨hch, hmv⟩ := h2.chg
    have hch2 : Chg (fun b => (Value.slice ad n c).ownBlock = some b) w w9 := (Chg.alloc _ w _).trans hch (fun _ _ e => e)
    have hal : (w.alloc (.cells #[.int .u64 0, .int .u64 0, .bool false] 163)).heap.size = w.heap.size + 1 := by simp
    have hmv2 : Moved w (Value.slice ad n c).ownBlock (some g9) := by
      rcases hmv with e | ⟨g, e, hlt⟩
      · exact .inl e
      · exact .inr ⟨g, e, by omega⟩
    have hwn : ∀ b, (Value.slice ad n c).ownBlock = some b → b < w.heap.size := by rw [← hn]; exact owns_lt hm.own
    have hne := hm.ne
    rw [hn] at hne
    have HRL := hm.blk.lt
    refine ⟨hm.pushed hn HV.out h1 hch2 hmv2, ?_, ?_, ⟨?_, ?_, fun _ h => h, fun _ h => .inl h⟩, ?_⟩
    · have := hch2.blk hm.blk (by rw [hn] at *; exact hne)
      rw [hn] at this
      exact this
    · exact (Chg.set ⟨r, 0, none⟩ _ w9).blk (hch.blk B52 (fun e => by have := hwn _ e; omega)) (fun e => by have e' : w.heap.size = r := e; omega)
    · exact (hch2.mono (G := fun b => b = r ∨ o = some b) (fun i _ h => .inr (by rw [← HO.out]; exact h))).trans (Chg.set ⟨r, 0, none⟩ _ w9) (fun i _ e => .inl e)
    · rw [← HO.out]; exact hmv2
    · intro e
      rcases hmv with e1 | ⟨g, e1, hlt⟩
      · have := hwn g9 e1.symm; omega
      · injection e1 with e1; omega)
  have HP := hidden hp
  have HRL := hidden hm.blk.lt
  have HFL := hidden hm.lt
  have hone : Hid (∀ v ∈ [Value.int .u64 (p : Int), Value.int .u64 (p : Int), Value.bool false], v.oneCell' = true) := hidden (by intro v hv; simp at hv; rcases hv with rfl | rfl <;> rfl)
  clear hi0 ho hn hm B1 hv2 hk B52 hp
  obtain ⟨R, hR⟩ : ∃ R, spotM M l = R := ⟨_, rfl⟩
  have HR := hidden hR
  rw [hR]
  clear hR
  go_enter Tryz.func109, Tryz.ntmps109
  go_wp2_with (first
    | (refine wpList_push2 _ rfl (.tmp 16) (.tmp 19) 159 rfl 202 i0 (.agg #[.slice none 0 0, .int .u64 0]) 32 Tryz.underlying159 HI.out hz0 hz1 hz2 rfl 0 (.slice ad n c) n (cQ vs) rfl (OW.out.alloc _) ⟨w.heap.size + 1, 0, none⟩ [.slice va k vc, .int .u64 0] rfl rfl cellN.out (by intro u hu; simp at hu; rcases hu with rfl | rfl <;> rfl) (by unfold maxLen; omega) (by omega) (by omega) ?_; intro g9 c9 w9 ho9 hp9; have HX := hidden (HNX.out w9 g9 c9 _ ho9 hp9); have x0 : w9.cell? ⟨r, 0, none⟩ = some (.slice ad n c) := HX.out.2.1.cell 0; have x1 := HX.out.2.1.frozen 0; clear ho9 hp9 HNX)
    | (refine wpList_store_blk rfl 163 (.tmp 4) (.tmp 25) rfl rfl w.heap.size HX.out.2.2.1 rfl rfl rfl info52 hone.out ?_))
  have HB := blk_stored (l := [.int .u64 (p : Int), .int .u64 (p : Int), .bool false]) HX.out.2.2.1 rfl
  refine bodyPost_ret (res_spot _ _ w.heap.size ⟨p, p, false⟩ rfl HB) rfl ?_
  have hcs := Chg.sets w.heap.size [.int .u64 (p : Int), .int .u64 (p : Int), .bool false] 0 (w9.setCell ⟨r, 0, none⟩ (.slice (some ⟨g9, 0, none⟩) (n + 1) c9))
  have hRL := HRL.out
  rw [← HR.out]
  refine ⟨?_, some g9, ⟨_, _, _, HX.out.1.keep hcs (fun e => by have e' : r = w.heap.size := e; omega) (fun b hb e => HX.out.2.2.2.2 (by have e' : b = w.heap.size := e; rw [← e']; simpa [Value.ownBlock] using hb)) (fun b hb e => by have := HFL.out b hb; have e' : b = w.heap.size := e; omega), rfl⟩, ?_⟩
  · simp only [spotM, HN.out, HP.out]
  · have hmv := HX.out.2.2.2.1
    exact ⟨hmv.chg.trans hcs (fun i hi e => by have e' : i = w.heap.size := e; omega), hmv.mv, fun _ h => h, fun _ h => .inl h⟩

end Go.Proofs.YtanlgplgplncdaaGreatDoor
