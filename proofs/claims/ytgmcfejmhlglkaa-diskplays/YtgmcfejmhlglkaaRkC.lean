/-
  The document's disk: ops, Fuse, Crash, Read.
-/
import Derived.Test.YtgmcfejmhlglkaaRkB
namespace Go.Proofs.Ytgmcfejmhlglkaa
open Go.RowKit
set_option linter.unusedVariables false
set_option linter.unusedSimpArgs false

theorem DR.file2 {dt ft : TypeId} {w w' : World} {p fb fc : Nat} {rs : List (Value × Fl)} {on : Bool} {falls : Nat} {set : Bool} {ops : Nat} {kv : Value} {kl : List Int} (ht : Ty4 dt ft) (h : DR dt ft w p fb fc rs on falls set ops kv kl) (i : Nat) (r r' : Value × Fl) (hr : rs[i]? = some r) (hc : Chg (fun k => k = fb ∨ r.1.ownBlock = some k) w w')
    (hf : w'.ownsRow 0 ft 2 (.slice (some ⟨fb, 0, none⟩) rs.length fc) rs.length (fcells (rs.set i r'))) (hR : FR w' r') (hm : ∀ g, r'.1.ownBlock = some g → r.1.ownBlock = some g ∨ w.heap.size ≤ g) : DR dt ft w' p fb fc (rs.set i r') on falls set ops kv kl := by
  obtain ⟨t1, t2, t3, t4, t5⟩ := ht
  have hF := h.tgf
  have hil := (List.getElem?_eq_some_iff.1 hr).1
  refine ⟨?_, by rw [List.length_set]; exact hf, fun j s hs => ?_, fun j k s t g hs htt hg1 hg2 => ?_, hc.owns h.keep (fun g hg e => ?_), h.kint, h.opsb, by rw [List.length_set]; exact h.n8, by rw [List.length_set]; exact h.n1, h.klen⟩
  · rw [List.length_set]
    refine hc.blk h.blk ?_
    rintro (rfl | e)
    · exact t1 (h.tgp.one hF)
    · exact t2 (h.tgp.one (h.tgr i r hr _ e))
  · rw [List.getElem?_set] at hs
    by_cases hij : i = j
    · subst hij
      rw [if_pos rfl, if_pos hil] at hs
      obtain rfl := Option.some.inj hs
      exact hR
    · rw [if_neg hij] at hs
      refine (h.row j s hs).chg hc (fun g hg => ?_)
      rintro (rfl | e)
      · exact t4 (hF.one (h.tgr j s hs _ hg))
      · exact hij (h.apart i j r s g hr hs e hg)
  · have key : ∀ (k : Nat) (t : Value × Fl), i ≠ k → rs[k]? = some t → r'.1.ownBlock = some g → t.1.ownBlock = some g → False := by
      intro k t hk htt hg1 hg2
      rcases hm g hg1 with e | hg'
      · exact hk (h.apart i k r t g hr htt e hg2)
      · have := h.lt g (.inr (.inr (.inl ⟨k, t, htt, hg2⟩)))
        omega
    rw [List.getElem?_set] at hs htt
    by_cases hij : i = j
    · subst hij
      rw [if_pos rfl, if_pos hil] at hs
      obtain rfl := Option.some.inj hs
      by_cases hik : i = k
      · exact hik
      · rw [if_neg hik] at htt
        exact (key k t hik htt hg1 hg2).elim
    · rw [if_neg hij] at hs
      by_cases hik : i = k
      · subst hik
        rw [if_pos rfl, if_pos hil] at htt
        obtain rfl := Option.some.inj htt
        exact (key j s hij hs hg2 hg1).elim
      · rw [if_neg hik] at htt
        exact h.apart j k s t g hs htt hg1 hg2
  · rcases e with rfl | e
    · exact t5 (hF.one (h.tgk _ hg))
    · exact absurd ((h.tgr i r hr _ e).one (h.tgk _ hg)) (by decide)
theorem FPd_file2 {w : World} {p fb : Nat} {rs : List (Value × Fl)} {kv : Value} {i : Nat} {r r' : Value × Fl} (hr : rs[i]? = some r) (hm : ∀ g, r'.1.ownBlock = some g → r.1.ownBlock = some g ∨ w.heap.size ≤ g) : New w (FPd p fb rs kv) (FPd p fb (rs.set i r') kv) := by
  rintro g (rfl | rfl | ⟨k, s, hs, hg⟩ | hg)
  · exact .inl (.inl rfl)
  · exact .inl (.inr (.inl rfl))
  · rw [List.getElem?_set] at hs
    by_cases hk : i = k
    · subst hk
      rw [if_pos rfl, if_pos (List.getElem?_eq_some_iff.1 hr).1] at hs
      obtain rfl := Option.some.inj hs
      rcases hm g hg with e | hg'
      · exact .inl (.inr (.inr (.inl ⟨i, r, hr, e⟩)))
      · exact .inr hg'
    · rw [if_neg hk] at hs
      exact .inl (.inr (.inr (.inl ⟨k, s, hs, hg⟩)))
  · exact .inl (.inr (.inr (.inr hg)))

/-- A disk of which a file has a new row. -/
theorem Dk.newrow {dt ft : TypeId} {w : World} {p : Nat} {F : Nat → Prop} {S : St} (ht : Ty4 dt ft) (h : Dk dt ft w p F S) (i : Nat) (x : Fl) (hx : S.L[i]? = some x) :
    ∃ fb fc ad c, w.cell? ⟨p, 0, none⟩ = some (.slice (some ⟨fb, 0, none⟩) S.L.length fc) ∧ w.cell? ⟨fb, i * 2, none⟩ = some (.slice ad x.b.length c) ∧ w.frozen? ⟨fb, i * 2, none⟩ = false ∧ w.ownsRow 0 5 1 (.slice ad x.b.length c) x.b.length (cells8 x.b) ∧ Byte x.b ∧ x.n ≤ x.b.length ∧ x.b.length ≤ 16777216 ∧ S.L.length ≤ 8 ∧ p < w.heap.size ∧ fb < w.heap.size ∧
      ∀ (w1 : World) (v' : Value) (b' : List Int), Below w.heap.size w w1 → w1.ownsRow w.heap.size 5 1 v' b'.length (cells8 b') → Byte b' → x.n ≤ b'.length → b'.length ≤ 16777216 →
        Dks dt ft w (w1.setCell ⟨fb, i * 2, none⟩ v') p F { S with L := S.L.set i ⟨b', x.n⟩ } := by
  obtain ⟨fb, fc, rs, set, ops, kv, kl, h, hL, hfu, rfl⟩ := h
  have hn : S.L.length = rs.length := by rw [hL]; simp
  obtain ⟨r, hr, hrx⟩ : ∃ r, rs[i]? = some r ∧ r.2 = x := by
    rw [hL] at hx
    simpa using hx
  have hR := h.row i r hr
  subst hrx
  obtain ⟨ad, c, hv⟩ := owns_form hR.row
  have h1 := hR.row
  have c0 := owns_cell h.files _ _ (fcells_row rs i r hr)
  rw [hv] at h1 c0
  refine ⟨fb, fc, ad, c, by rw [hn]; exact h.blk.cell 0, c0, owns_frozen h.files _, h1, hR.byte, hR.le, hR.top, by rw [hn]; exact h.n8, h.blk.lt, (h.files.lt fb rfl).2, ?_⟩
  intro w1 v' b' hbl ho hb hle htop
  have hc : Chg (fun _ => False) w w1 := Chg.of_below hbl
  have hC : Chg (fun k => k = fb ∨ r.1.ownBlock = some k) w (w1.setCell ⟨fb, i * 2, none⟩ v') := (hc.mono (fun _ _ h => h.elim)).trans (Chg.set ⟨fb, i * 2, none⟩ v' w1) (fun _ _ h => .inl h)
  have hf1 : w1.ownsRow 0 ft 2 (.slice (some ⟨fb, 0, none⟩) rs.length fc) rs.length (fcells rs) := hc.owns h.files (fun _ _ h => h)
  have hil := (List.getElem?_eq_some_iff.1 hr).1
  have hnew : ∀ g, v'.ownBlock = some g → w.heap.size ≤ g := fun g hg => (ho.lt g hg).1
  have hfl := (h.files.lt fb rfl).2
  refine ⟨_, ⟨fb, fc, rs.set i (v', ⟨b', r.2.n⟩), set, ops, kv, kl, h.file2 ht i r _ hr hC ?_ ⟨?_, hb, hle, htop⟩ (fun g hg => .inr (hnew g hg)), ?_, ?_, rfl⟩, hC.mono ?_, FPd_file2 hr (fun g hg => .inr (hnew g hg))⟩
  · rw [fcells_set_row rs i r hr]
    exact owns_setv hf1 (i * 2) v' (by rw [fcells_length]; omega)
  · refine (Chg.set ⟨fb, i * 2, none⟩ v' w1).owns (owns_zero ho) (fun g hg e => ?_)
    have := hnew g hg
    have e2 : g = fb := e
    omega
  · simp [hL, List.map_set]
  · simpa using hfu
  · rintro k _ (rfl | e)
    · exact .inr (.inl rfl)
    · exact .inr (.inr (.inl ⟨i, r, hr, e⟩))

set_option maxHeartbeats 1000000 in
theorem burnsR (p : Nat) (F : Nat → Prop) (S : St) (w : World) (h : Dk 75 86 w p F S) : Calls Try.prog 50 #[.pointer (some ⟨p, 0, none⟩)] w fun e w' => (S.op.1 = 0 ∧ e = .returned (.bool false) ∧ Dks 75 86 w w' p F S.op.2) ∨ (S.op.1 = 40 ∧ e = .returned (.bool true) ∧ w' = w ∧ ∃ K, S.fuse = some (0, K)) := by
  have HDk := hidden h
  obtain ⟨fb, fc, rs, set, ops, kv, kl, h, hL, hfu, rfl⟩ := h
  have B0 := h.blk
  have c3 := B0.cell 3
  have c4 := B0.cell 4
  have f4 := B0.frozen 4
  simp only [List.getElem?_cons_succ, List.getElem?_cons_zero] at c3 c4
  have HB := hidden B0
  have HH := hidden h
  have hopb := h.opsb
  clear B0 h
  have HL := hidden hL
  have HFU := hidden hfu
  clear hL hfu
  cases set with
  | false =>
    have e1 : Hid (S.op = (0, S)) := by show _ = _; unfold St.op; rw [HFU.out]; rfl
    go_enter Try.func50, Try.ntmps50
    go_wp2_with fail
    go_ret
    refine .inl ?_
    rw [e1.out]
    exact ⟨rfl, rfl, _, HDk.out, Chg.refl _ _, New.refl _ _⟩
  | true =>
    have e0 : Hid (S.fuse = some (ops, kl.take rs.length)) := HFU.out
    cases ops with
    | zero =>
      have e1 : Hid (S.op = (40, S.fail (kl.take rs.length))) := by show _ = _; unfold St.op; rw [e0.out]
      go_enter Try.func50, Try.ntmps50
      go_wp2_with fail
      go_ret
      refine .inr ?_
      rw [e1.out]
      exact ⟨rfl, rfl, rfl, _, e0.out⟩
    | succ o =>
      have e1 : Hid (S.op = (0, { S with fuse := some (o, kl.take rs.length) })) := by show _ = _; unfold St.op; rw [e0.out]
      have ho : ((o + 1 : Nat) : Int) = (o : Int) + 1 := by omega
      rw [ho] at c4
      clear ho
      have ho2 : (o : Int) + 1 - 1 = (o : Int) := by omega
      have ho3 : (o : Int) ≤ 9223372036854775806 := by omega
      have ho4 : ((o : Int) + 1 = 0) = False := by simp; omega
      go_enter Try.func50, Try.ntmps50
      go_wp2_with fail
      go_ret
      refine .inl ?_
      rw [e1.out]
      have hB := HB.out.set 4 (.int .i64 (o : Int))
      simp only [List.set_cons_succ, List.set_cons_zero] at hB
      have hC := Chg.set ⟨p, 4, none⟩ (.int .i64 (o : Int)) w
      exact ⟨rfl, rfl, _, ⟨fb, fc, rs, true, o, kv, kl, HH.out.swap ty75 hC hB HH.out.keep HH.out.kint (by omega) HH.out.klen, HL.out, rfl, rfl⟩, hC.mono (fun i _ hi => .inl hi), New.refl _ _⟩

theorem Lost.fp2 {rs rs' : List (Value × Fl)} {K : List Int} {i : Nat} (h : Lost rs K i rs') (w : World) (p fb : Nat) (kv : Value) : New w (FPd p fb rs kv) (FPd p fb rs' kv) := by
  rintro g (rfl | rfl | ⟨k, r, hr, hg⟩ | hg)
  · exact .inl (.inl rfl)
  · exact .inl (.inr (.inl rfl))
  · have hk : k < rs.length := by have := (List.getElem?_eq_some_iff.1 hr).1; have := h.1; omega
    obtain ⟨u, hu, hu2⟩ := h.2 k rs[k] (List.getElem?_eq_getElem hk)
    rw [hr] at hu2
    obtain rfl := Option.some.inj hu2
    exact .inl (.inr (.inr (.inl ⟨k, rs[k], List.getElem?_eq_getElem hk, by rw [← hu]; exact hg⟩)))
  · exact .inl (.inr (.inr (.inr hg)))
/-- The fuse's own list. -/
theorem Dk.keepR {w : World} {p : Nat} {F : Nat → Prop} {S : St} (h : Dk 75 86 w p F S) (hf : S.falls ≤ 1099511627776) {q : Nat} {K : List Int} (hfu : S.fuse = some (q, K)) :
    ∃ ka kn kc, w.cell? ⟨p, 5, none⟩ = some (.slice ka kn kc) ∧ Calls Try.prog 51 #[.pointer (some ⟨p, 0, none⟩), .slice ka kn kc] w fun e w' => e = .returned (.tuple #[]) ∧ Dks 75 86 w w' p F (S.fail K) := by
  obtain ⟨fb, fc, rs, set, ops, kv, kl, h, hL, hfu2, rfl⟩ := h
  obtain ⟨ka, kc, hkv⟩ := owns_form h.keep
  subst hkv
  refine ⟨ka, kl.length, kc, h.blk.cell 5, ?_⟩
  have hK : K = kl.take rs.length := by
    rw [hfu] at hfu2
    cases set with
    | false => cases hfu2
    | true =>
      have e : some (q, K) = some (ops, kl.take rs.length) := hfu2
      simp only [Option.some.injEq, Prod.mk.injEq] at e
      exact e.2
  refine (failR p fb fc rs S.on S.falls set ops _ kl ka kl.length kc kl w h (sn_of_owns h.keep h.kint) ?_ hf).mono ?_
  · intro x hx h0 e
    subst hx
    have := h.tgk x.block rfl
    rw [e] at this
    exact absurd (this.one h.tgf) (by decide)
  rintro e w' ⟨rfl, rs', hD, hLo, hC⟩
  refine ⟨rfl, _, ⟨fb, fc, rs', false, ops, _, kl, hD, ?_, rfl, rfl⟩, hC.mono ?_, ?_⟩
  · show loseAll S.L _ = _
    rw [hL, hK, loseAll_take _ _ _ (by simp), hLo.all]
  · rintro i _ (rfl | rfl)
    · exact .inl rfl
    · exact .inr (.inl rfl)
  · exact hLo.fp2 w p fb _
theorem crashR (p : Nat) (F : Nat → Prop) (S : St) (ka : Option Addr) (kn kc : Nat) (K : List Int) (w : World) (h : Dk 75 86 w p F S) (hS : Sn w ka kn K) (hka : ∀ x, ka = some x → 0 < kn → ¬ F x.block) (hf : S.falls ≤ 1099511627776) :
    Calls Try.prog 34 #[.pointer (some ⟨p, 0, none⟩), .slice ka kn kc] w fun e w' => e = .returned (.tuple #[]) ∧ Dks 75 86 w w' p F (S.crash K) := by
  have HDk := hidden h
  obtain ⟨fb, fc, rs, set, ops, kv, kl, h, hL, hfu, rfl⟩ := h
  have c1 := h.blk.cell 1
  simp only [List.getElem?_cons_succ, List.getElem?_cons_zero] at c1
  have HH := hidden h
  have HL := hidden hL
  have HS := hidden hS
  have HKA := hidden hka
  clear h hL hfu hS hka
  obtain ⟨S', hS'⟩ : ∃ S', S.crash K = S' := ⟨_, rfl⟩
  rw [hS']
  have HS' := hidden hS'
  clear hS'
  obtain ⟨on, hon⟩ : ∃ on, S.on = on := ⟨_, rfl⟩
  rw [hon] at c1
  have HON := hidden hon
  clear hon
  cases on with
  | false =>
    go_enter Try.func34, Try.ntmps34
    go_wp2_with fail
    go_end0
    refine ⟨rfl, ?_⟩
    rw [← HS'.out]
    unfold St.crash
    rw [HON.out, if_neg (by decide)]
    exact ⟨_, HDk.out, Chg.refl _ _, New.refl _ _⟩
  | true =>
    go_enter Try.func34, Try.ntmps34
    go_wp2_with fail
    refine (failR p fb fc rs S.on S.falls set ops kv kl ka kn kc K w HH.out HS.out (fun x hx h0 e => HKA.out x hx h0 (.inr (.inl e))) hf).mono ?_
    rintro e w' ⟨rfl, rs', hD, hLo, hC⟩
    have HD := hidden hD
    have HLo := hidden hLo
    have HC := hidden hC
    clear hD hLo hC
    go_wp2_with fail
    go_end0
    have e2 : S' = S.fail K := by rw [← HS'.out]; unfold St.crash; rw [HON.out, if_pos rfl]
    rw [e2]
    refine ⟨rfl, _, ⟨fb, fc, rs', false, ops, _, kl, HD.out, ?_, rfl, rfl⟩, HC.out.mono ?_, HLo.out.fp2 w p fb _⟩
    · show loseAll S.L _ = _
      rw [HL.out, HLo.out.all]
    · rintro i _ (rfl | rfl)
      · exact .inl rfl
      · exact .inr (.inl rfl)

end Go.Proofs.Ytgmcfejmhlglkaa
