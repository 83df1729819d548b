/-
  Bytes are lost; a file is cut; the power fails; an op. The program's.
-/
import Derived.Test.YtgmcfejmhlglkaaDkB
namespace Go.Proofs.Ytgmcfejmhlglkaa
open Go.RowKit
set_option linter.unusedVariables false
set_option linter.unusedSimpArgs false

set_option maxHeartbeats 1000000 in
theorem lose_walk (fb j : Nat) (ad : Option Addr) (n c m : Nat) (k : Int) (w : World) (hj : j ≤ 100) (c0 : w.cell? ⟨fb, j, none⟩ = some (.slice ad n c)) (c1 : w.cell? ⟨fb, j + 1, none⟩ = some (.int .i64 (m : Int))) (f0 : w.frozen? ⟨fb, j, none⟩ = false) (f1 : w.frozen? ⟨fb, j + 1, none⟩ = false)
    (hm : m ≤ n) (hn : n ≤ 16777216) (hc : n ≤ c) (hk : -9223372036854775808 ≤ k) (hk2 : k ≤ 9223372036854775807) (hnone : ad = none → n = 0 ∧ c = 0) (t : Nat) (ht : t = m + min k.toNat (n - m)) :
    Calls Try.prog 56 #[.pointer (some ⟨fb, j, none⟩), .int .i64 k] w fun e w' => e = .returned (.tuple #[]) ∧ w' = ((w.setCell ⟨fb, j, none⟩ (.slice ad t c)).setCell ⟨fb, j + 1, none⟩ (.int .i64 (t : Int))).drew.drew := by
  obtain ⟨d, hd⟩ : ∃ d, n - m = d := ⟨_, rfl⟩
  rw [hd] at ht
  have hsub : (n : Int) - (m : Int) = (d : Int) := by omega
  have hd2 : d ≤ 16777216 := by omega
  have hmd : m + d = n := by omega
  clear hd
  by_cases h1 : k < 0
  · have ht2 : t = m := by omega
    clear ht
    subst ht2
    have hd0 : (0 : Int) ≤ (d : Int) := by omega
    go_enter Try.func56, Try.ntmps56
    go_wp2_with fail
    go_region
    go_wp2_with fail
    go_region
    go_wp2_with fail
    all_goals first
      | (go_end0; exact ⟨rfl, rfl⟩)
      | (exfalso; omega)
  · obtain ⟨kk, rfl⟩ : ∃ kk : Nat, k = (kk : Int) := ⟨k.toNat, by omega⟩
    rw [Int.toNat_natCast] at ht
    clear h1
    have hk0 : (0 : Int) ≤ (kk : Int) := by omega
    by_cases h2 : kk ≤ d
    · have ht2 : t = m + kk := by omega
      clear ht
      have hti : (m : Int) + (kk : Int) = (t : Int) := by omega
      have htn : t ≤ n := by omega
      clear ht2
      go_enter Try.func56, Try.ntmps56
      go_wp2_with fail
      go_region
      go_wp2_with fail
      go_region
      go_wp2_with fail
      all_goals first
        | (go_end0; exact ⟨rfl, rfl⟩)
        | (exfalso; omega)
        | trace_state
    · have ht2 : t = m + d := by omega
      clear ht
      have hti : (m : Int) + (d : Int) = (t : Int) := by omega
      have htn : t ≤ n := by omega
      have h2' : d < kk := by omega
      clear ht2
      go_enter Try.func56, Try.ntmps56
      go_wp2_with fail
      go_region
      go_wp2_with fail
      go_region
      go_wp2_with fail
      all_goals first
        | (go_end0; exact ⟨rfl, rfl⟩)
        | (exfalso; omega)
        | trace_state

theorem Sn.at {w : World} {ad : Option Addr} {n : Nat} {l : List Int} (h : Sn w ad n l) (hp : 0 < n) : ∃ g off, ad = some ⟨g, off, none⟩ ∧ ∀ j, j < n → w.cell? ⟨g, off + j, none⟩ = some (.int .i64 (l.getD j 0)) := by
  obtain ⟨⟨g, off, sp⟩, hx, hc⟩ := h.cell 0 hp
  have hs : sp = none := by simpa [Addr.add] using World.cell?_spot hc
  subst hs
  refine ⟨g, off, hx, fun j hj => ?_⟩
  obtain ⟨y, hy, hcj⟩ := h.cell j hj
  rw [hx] at hy
  obtain rfl := Option.some.inj hy
  rwa [Addr.add_lit] at hcj
theorem owns_none {w : World} {base : Nat} {e : TypeId} {ad : Option Addr} {n cap : Nat} {xs : List Value} (h : w.ownsRow base e 1 (.slice ad n cap) n xs) : ad = none → n = 0 ∧ cap = 0 := by
  intro h0
  rcases h.2 with ⟨h1, h2⟩ | ⟨g, c, cur, h1, _⟩
  · simp only [Value.slice.injEq] at h1
    exact ⟨h2, h1.2.2⟩
  · simp only [Value.slice.injEq] at h1
    rw [h0] at h1
    cases h1.1
theorem owns_le {w : World} {base : Nat} {e : TypeId} {ad : Option Addr} {n cap : Nat} {xs : List Value} (h : w.ownsRow base e 1 (.slice ad n cap) n xs) : n ≤ cap := by
  rcases h.2 with ⟨h1, h2⟩ | ⟨g, c, cur, h1, _, _, h2, _⟩
  · omega
  · simp only [Value.slice.injEq] at h1
    obtain ⟨_, _, rfl⟩ := h1
    exact h2

/-- A file is cut. -/
theorem DR.cutTo {dt ft : TypeId} {w w' : World} {p fb fc : Nat} {rs : List (Value × Fl)} {on : Bool} {falls : Nat} {set : Bool} {ops : Nat} {kv : Value} {kl : List Int} (ht : Ty4 dt ft) (h : DR dt ft w p fb fc rs on falls set ops kv kl) (i : Nat) (r : Value × Fl) (hr : rs[i]? = some r) (ad : Option Addr) (c : Nat) (hv : r.1 = .slice ad r.2.b.length c)
    (t s : Nat) (htl : t ≤ r.2.b.length) (hs : s ≤ t) (hw : w' = (w.setCell ⟨fb, i * 2, none⟩ (.slice ad t c)).setCell ⟨fb, i * 2 + 1, none⟩ (.int .i64 (s : Int))) :
    DR dt ft w' p fb fc (rs.set i (.slice ad t c, ⟨r.2.b.take t, s⟩)) on falls set ops kv kl ∧ Chg (fun k => k = fb) w w' ∧ (Value.slice ad t c).ownBlock = r.1.ownBlock := by
  have hil := (List.getElem?_eq_some_iff.1 hr).1
  have hR := h.row i r hr
  have hC : Chg (fun k => k = fb) w w' := by
    rw [hw]
    exact (Chg.set ⟨fb, i * 2, none⟩ _ w).trans (Chg.set ⟨fb, i * 2 + 1, none⟩ _ _) (fun _ _ h => h)
  have hob : (Value.slice ad t c).ownBlock = r.1.ownBlock := by rw [hv]; cases ad <;> rfl
  refine ⟨h.file ht i r _ hr (hC.mono (fun _ _ h => .inl h)) ?_ ⟨?_, hR.byte.take t, ?_, ?_⟩ (.inl hob), hC, hob⟩
  · rw [hw, fcells_set]
    exact owns_setv (owns_setv h.files (i * 2) _ (by rw [fcells_length]; omega)) (i * 2 + 1) _ (by rw [List.length_set, fcells_length]; omega)
  · have h1 := hR.row
    rw [hv] at h1
    have h2 := owns_cut h1 htl
    have e1 : (r.2.b.take t).length = t := by simp; omega
    simp only [e1]
    have e2 : cells8 (r.2.b.take t) = (cells8 r.2.b).take t := by simp [cells8, List.map_take]
    rw [e2]
    refine hC.owns h2 ?_
    intro g hg e
    subst e
    rw [hob] at hg
    exact ht.2.2.2.1 (h.tgf.one (h.tgr i r hr _ hg))
  · simp
    omega
  · have := hR.top
    simp
    omega
theorem DR.drew {dt ft : TypeId} {w : World} {p fb fc : Nat} {rs : List (Value × Fl)} {on : Bool} {falls : Nat} {set : Bool} {ops : Nat} {kv : Value} {kl : List Int} (h : DR dt ft w p fb fc rs on falls set ops kv kl) : DR dt ft w.drew p fb fc rs on falls set ops kv kl := h.chg (Chg.drew (fun _ => False) w) (fun _ _ h => h)

/-- Files of which the first ones have lost. -/
def Lost (rs : List (Value × Fl)) (K : List Int) (i : Nat) (rs' : List (Value × Fl)) : Prop := rs'.length = rs.length ∧ ∀ (k : Nat) (r : Value × Fl), rs[k]? = some r → ∃ v, v.ownBlock = r.1.ownBlock ∧ rs'[k]? = some (v, if k < i then r.2.lose (K.getD k 0) else r.2)
theorem Lost.zero (rs : List (Value × Fl)) (K : List Int) : Lost rs K 0 rs := ⟨rfl, fun k r hr => ⟨r.1, rfl, by simpa using hr⟩⟩
theorem Lost.step {rs rs' : List (Value × Fl)} {K : List Int} {i : Nat} (h : Lost rs K i rs') {r' : Value × Fl} (hr : rs'[i]? = some r') {v : Value} (hv : v.ownBlock = r'.1.ownBlock) : Lost rs K (i + 1) (rs'.set i (v, r'.2.lose (K.getD i 0))) := by
  refine ⟨by rw [List.length_set]; exact h.1, fun k r hk => ?_⟩
  obtain ⟨u, hu, hu2⟩ := h.2 k r hk
  by_cases hik : i = k
  · subst hik
    rw [hr] at hu2
    obtain rfl := Option.some.inj hu2
    refine ⟨v, by rw [hv]; exact hu, ?_⟩
    rw [List.getElem?_set, if_pos rfl, if_pos (List.getElem?_eq_some_iff.1 hr).1]
    simp
  · refine ⟨u, hu, ?_⟩
    rw [List.getElem?_set, if_neg hik, hu2]
    by_cases hlt : k < i
    · rw [if_pos hlt, if_pos (by omega)]
    · rw [if_neg hlt, if_neg (by omega)]
theorem Lost.all {rs rs' : List (Value × Fl)} {K : List Int} (h : Lost rs K rs.length rs') : rs'.map (·.2) = loseAll (rs.map (·.2)) K := by
  apply List.ext_getElem?
  intro k
  rw [loseAll_at, List.getElem?_map, List.getElem?_map]
  by_cases hk : k < rs.length
  · obtain ⟨u, hu, hu2⟩ := h.2 k rs[k] (List.getElem?_eq_getElem hk)
    rw [hu2, if_pos hk, List.getElem?_eq_getElem hk]
    rfl
  · rw [List.getElem?_eq_none (by omega : rs.length ≤ k), List.getElem?_eq_none (by have := h.1; omega)]
    rfl
theorem Lost.fp {rs rs' : List (Value × Fl)} {K : List Int} {i : Nat} (h : Lost rs K i rs') (w : World) (p fb : Nat) (kv : Value) : New w (FPd p fb rs kv) (FPd p fb rs' (.slice none 0 0)) := by
  rintro g (rfl | rfl | ⟨k, r, hr, hg⟩ | hg)
  · exact .inl (.inl rfl)
  · exact .inl (.inr (.inl rfl))
  · have hk : k < rs.length := by have := (List.getElem?_eq_some_iff.1 hr).1; have := h.1; omega
    obtain ⟨u, hu, hu2⟩ := h.2 k rs[k] (List.getElem?_eq_getElem hk)
    rw [hr] at hu2
    obtain rfl := Option.some.inj hu2
    exact .inl (.inr (.inr (.inl ⟨k, rs[k], List.getElem?_eq_getElem hk, by rw [← hu]; exact hg⟩)))
  · cases hg

theorem loseP (p fb fc : Nat) (rs : List (Value × Fl)) (on : Bool) (falls : Nat) (set : Bool) (ops : Nat) (kv : Value) (kl : List Int) (i : Nat) (r : Value × Fl) (k : Int) (w : World) (h : DR 80 82 w p fb fc rs on falls set ops kv kl) (hr : rs[i]? = some r) (hk : -9223372036854775808 ≤ k) (hk2 : k ≤ 9223372036854775807) :
    Calls Try.prog 56 #[.pointer (some ⟨fb, i * 2, none⟩), .int .i64 k] w fun e w' => e = .returned (.tuple #[]) ∧ ∃ v, v.ownBlock = r.1.ownBlock ∧ DR 80 82 w' p fb fc (rs.set i (v, r.2.lose k)) on falls set ops kv kl ∧ Chg (fun k => k = fb) w w' := by
  have hR := h.row i r hr
  obtain ⟨ad, c, hv⟩ := owns_form hR.row
  have h1 := hR.row
  have c0 := owns_cell h.files _ _ (fcells_row rs i r hr)
  have c1 := owns_cell h.files _ _ (fcells_n rs i r hr)
  rw [hv] at h1 c0
  have hil := (List.getElem?_eq_some_iff.1 hr).1
  have h8 := h.n8
  have hle := hR.le
  refine (lose_walk fb (i * 2) ad r.2.b.length c r.2.n k w (by omega) c0 c1 (owns_frozen h.files _) (owns_frozen h.files _) hR.le hR.top (owns_le h1) hk hk2 (owns_none h1) _ rfl).mono ?_
  rintro e w' ⟨rfl, rfl⟩
  obtain ⟨d1, d2, d3⟩ := h.cutTo ty80 i r hr ad c hv (r.2.n + min k.toNat (r.2.b.length - r.2.n)) (r.2.n + min k.toNat (r.2.b.length - r.2.n)) (by omega) (Nat.le_refl _) rfl
  exact ⟨rfl, _, d3, d1.drew.drew, (d2.trans (Chg.drew _ _) (fun _ _ h => h)).trans (Chg.drew _ _) (fun _ _ h => h)⟩

set_option maxHeartbeats 1000000 in
theorem failP (p fb fc : Nat) (rs : List (Value × Fl)) (on : Bool) (falls : Nat) (set : Bool) (ops : Nat) (kv : Value) (kl : List Int) (ka : Option Addr) (kn kc : Nat) (K : List Int) (w : World) (h : DR 80 82 w p fb fc rs on falls set ops kv kl) (hS : Sn w ka kn K) (hka : ∀ x, ka = some x → 0 < kn → x.block ≠ fb) (hf : falls ≤ 1099511627776) :
    Calls Try.prog 45 #[.pointer (some ⟨p, 0, none⟩), .slice ka kn kc] w fun e w' => e = .returned (.tuple #[]) ∧ ∃ rs', DR 80 82 w' p fb fc rs' false (falls + 1) false 0 (.slice none 0 0) [] ∧ Lost rs K rs.length rs' ∧ Chg (fun k => k = p ∨ k = fb) w w' := by
  obtain ⟨n, hn⟩ : ∃ n, rs.length = n := ⟨_, rfl⟩
  have h8 := h.n8
  have h1 := h.n1
  have c0 := h.blk.cell 0
  simp only [List.getElem?_cons_succ, List.getElem?_cons_zero] at c0
  rw [hn] at h8 h1 c0 ⊢
  have HH := hidden h
  have HS := hidden hS
  have HKA := hidden hka
  have HN := hidden hn
  clear h hS hka hn
  go_enter Try.func45, Try.ntmps45
  go_wp2_with fail
  go_loopw [11] (fun iv wr => ∃ (i : Nat) (rs' : List (Value × Fl)), i ≤ n ∧ iv = .int .i64 (i : Int) ∧ DR 80 82 wr p fb fc rs' on falls set ops kv kl ∧ Lost rs K i rs' ∧ Chg (fun k => k = fb) w wr) (fun iv _ => (n - (intOf iv).toNat))
  case atStart => exact ⟨0, rs, Nat.zero_le _, rfl, HH.out, Lost.zero _ _, Chg.refl _ _⟩
  case round =>
    rename World => wr
    obtain ⟨i, rs', hle, rfl, hD, hL, hC⟩ := hrel
    have hl : rs'.length = n := by rw [hL.1]; exact HN.out
    have d0 := hD.blk.cell 0
    simp only [List.getElem?_cons_succ, List.getElem?_cons_zero] at d0
    rw [hl] at d0
    have HD := hidden hD
    have HLo := hidden hL
    have HC := hidden hC
    clear hD hL hC c0
    by_cases hi : i < n
    · obtain ⟨r', hr'⟩ : ∃ r', rs'[i]? = some r' := ⟨_, List.getElem?_eq_getElem (by omega)⟩
      have hs2 : Hid (Sn wr ka kn K) := HC.out.sn HS.out (fun x hx h0 e => HKA.out x hx h0 e)
      have HR := hidden hr'
      clear hr'
      have hb := HS.out.int.at i
      by_cases hk : i < kn
      · obtain ⟨g, off, rfl, hcell⟩ := hs2.out.at (by omega)
        have ck := hcell i hk
        obtain ⟨kk, hkk⟩ : ∃ kk, K.getD i 0 = kk := ⟨_, rfl⟩
        rw [hkk] at ck hb
        have HKK := hidden hkk
        clear hcell hkk
        go_wp2_with fail
        refine (loseP p fb fc rs' on falls set ops kv kl i r' kk wr HD.out HR.out hb.1 hb.2).mono ?_
        rintro e w2 ⟨rfl, v, hv, hD2, hC2⟩
        go_wp2_with fail
        refine ⟨⟨i + 1, _, by omega, by first | rfl | simp, hD2, by rw [← HKK.out]; exact HLo.out.step HR.out hv, HC.out.trans hC2 (fun _ _ h => h)⟩, ?_⟩
        simp [intOf]
        omega
      · have hk2 : kn ≤ i := by omega
        have hkk : Hid (K.getD i 0 = 0) := by
          have := HS.out.len
          show _ = _
          simp [List.getD, show K.length ≤ i by omega]
        go_wp2_with fail
        refine (loseP p fb fc rs' on falls set ops kv kl i r' 0 wr HD.out HR.out (by omega) (by omega)).mono ?_
        rintro e w2 ⟨rfl, v, hv, hD2, hC2⟩
        go_wp2_with fail
        refine ⟨⟨i + 1, _, by omega, by first | rfl | simp, hD2, by rw [← hkk.out]; exact HLo.out.step HR.out hv, HC.out.trans hC2 (fun _ _ h => h)⟩, ?_⟩
        simp [intOf]
        omega
    · have hin : i = n := by omega
      subst hin
      have B0 := HD.out.blk
      have d1 := B0.cell 1
      have d2 := B0.cell 2
      simp only [List.getElem?_cons_succ, List.getElem?_cons_zero] at d1 d2
      have f1 := B0.frozen 1
      have f2 := B0.frozen 2
      have HB := hidden B0
      clear B0
      have hb := built78
      have B2 := hidden ((HB.out.set 1 (.bool false)).set 2 (.int .i64 ((falls + 1 : Nat) : Int)))
      go_wp2_with (first
        | (refine wpList_build_to rfl 78 #[] rfl [] #[.bool false, .int .i64 0, .slice none 0 0] ?_ hb ?_; kernel_rfl)
        | (refine wpList_store_mid rfl 78 (.tmp 44) (.tmp 42) rfl p 3 #[.bool false, .int .i64 0, .slice none 0 0] rfl rfl (B2.out.there 3 3 (by simp)) size78 (by simp [Value.oneCell']) ?_))
      go_end0
      have hS3 := B2.out.sets [.bool false, .int .i64 0, .slice none 0 0] 3 _ _ (by simp)
      simp only [List.set_cons_succ, List.set_cons_zero, List.take_succ_cons, List.take_zero, List.length_cons, List.length_nil, List.drop_succ_cons, List.drop_nil, List.cons_append, List.nil_append, List.append_nil, Nat.zero_add, Nat.reduceAdd] at hS3
      have hC3 : Chg (fun i => i = p) wr _ := ((Chg.set ⟨p, 1, none⟩ (.bool false) wr).trans (Chg.set ⟨p, 2, none⟩ (.int .i64 ((falls + 1 : Nat) : Int)) _) (fun _ _ h => h)).trans (chg_sets (fun i => i = p) p rfl [.bool false, .int .i64 0, .slice none 0 0] 3 _) (fun _ _ h => h)
      refine ⟨rfl, rs', HD.out.swap ty80 hC3 hS3 (World.ownsRow_nil _ _ _ _) (fun n hn => by simp at hn) (by omega) (by simp), HLo.out, (HC.out.mono (fun _ _ h => .inr h)).trans hC3 (fun _ _ h => .inl h)⟩

end Go.Proofs.Ytgmcfejmhlglkaa
