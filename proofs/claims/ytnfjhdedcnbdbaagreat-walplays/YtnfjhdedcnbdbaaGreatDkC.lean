import Derived.Test.YtnfjhdedcnbdbaaGreatDkB
import Derived.Deep.RegionLaw
/-
  Bytes are lost; a file is cut; the power fails; an op. The program's.
-/
namespace Go.Proofs.YtnfjhdedcnbdbaaGreat
open Go.RowKit
set_option linter.unusedVariables false
set_option linter.unusedSimpArgs false

set_option maxHeartbeats 1000000 in
set_option maxRecDepth 100000 in
theorem lose_walk (fb j : Nat) (ad : Option Addr) (n c m : Nat) (k : Int) (w : World) (hj : j ≤ 100) (c0 : w.cell? ⟨fb, j, none⟩ = some (.slice ad n c)) (c1 : w.cell? ⟨fb, j + 1, none⟩ = some (.int .i64 (m : Int))) (f0 : w.frozen? ⟨fb, j, none⟩ = false) (f1 : w.frozen? ⟨fb, j + 1, none⟩ = false)
    (hm : m ≤ n) (hn : n ≤ 16777216) (hc : n ≤ c) (hk : -9223372036854775808 ≤ k) (hk2 : k ≤ 9223372036854775807) (hnone : ad = none → n = 0 ∧ c = 0) (t : Nat) (ht : t = m + min k.toNat (n - m)) :
    Calls Tryz.prog 89 #[.pointer (some ⟨fb, j, none⟩), .int .i64 k] w fun e w' => e = .returned (.tuple #[]) ∧ w' = ((w.setCell ⟨fb, j, none⟩ (.slice ad t c)).setCell ⟨fb, j + 1, none⟩ (.int .i64 (t : Int))).drew.drew := by
  obtain ⟨d, hd⟩ : ∃ d, n - m = d := ⟨_, rfl⟩
  rw [hd] at ht
  have hsub : (n : Int) - (m : Int) = (d : Int) := by omega
  have hd2 : d ≤ 16777216 := by omega
  have hmd : m + d = n := by omega
  clear hd
  by_cases h1 : k < 0
  · have ht2 : t = m := by omega
    clear ht
    subst ht2
    have hd0 : (0 : Int) ≤ (d : Int) := by omega
    go_enter Tryz.func89, Tryz.ntmps89
    go_wp2_with fail
    go_region
    go_wp2_with fail
    go_region
    go_wp2_with fail
    all_goals first
      | (go_end0; exact ⟨rfl, rfl⟩)
      | (exfalso; omega)
  · obtain ⟨kk, rfl⟩ : ∃ kk : Nat, k = (kk : Int) := ⟨k.toNat, by omega⟩
    rw [Int.toNat_natCast] at ht
    clear h1
    have hk0 : (0 : Int) ≤ (kk : Int) := by omega
    by_cases h2 : kk ≤ d
    · have ht2 : t = m + kk := by omega
      clear ht
      have hti : (m : Int) + (kk : Int) = (t : Int) := by omega
      have htn : t ≤ n := by omega
      clear ht2
      go_enter Tryz.func89, Tryz.ntmps89
      go_wp2_with fail
      go_region
      go_wp2_with fail
      go_region
      go_wp2_with fail
      all_goals first
        | (go_end0; exact ⟨rfl, rfl⟩)
        | (exfalso; omega)
        | trace_state
    · have ht2 : t = m + d := by omega
      clear ht
      have hti : (m : Int) + (d : Int) = (t : Int) := by omega
      have htn : t ≤ n := by omega
      have h2' : d < kk := by omega
      clear ht2
      go_enter Tryz.func89, Tryz.ntmps89
      go_wp2_with fail
      go_region
      go_wp2_with fail
      go_region
      go_wp2_with fail
      all_goals first
        | (go_end0; exact ⟨rfl, rfl⟩)
        | (exfalso; omega)
        | trace_state

theorem Sn.at {w : World} {ad : Option Addr} {n : Nat} {l : List Int} (h : Sn w ad n l) (hp : 0 < n) : ∃ g off, ad = some ⟨g, off, none⟩ ∧ ∀ j, j < n → w.cell? ⟨g, off + j, none⟩ = some (.int .i64 (l.getD j 0)) := by
  obtain ⟨⟨g, off, sp⟩, hx, hc⟩ := h.cell 0 hp
  have hs : sp = none := by simpa [Addr.add] using World.cell?_spot hc
  subst hs
  refine ⟨g, off, hx, fun j hj => ?_⟩
  obtain ⟨y, hy, hcj⟩ := h.cell j hj
  rw [hx] at hy
  obtain rfl := Option.some.inj hy
  rwa [Addr.add_lit] at hcj
theorem owns_none {w : World} {base : Nat} {e : TypeId} {ad : Option Addr} {n cap : Nat} {xs : List Value} (h : w.ownsRow base e 1 (.slice ad n cap) n xs) : ad = none → n = 0 ∧ cap = 0 := by
  intro h0
  rcases h.2 with ⟨h1, h2⟩ | ⟨g, c, cur, h1, _⟩
  · simp only [Value.slice.injEq] at h1
    exact ⟨h2, h1.2.2⟩
  · simp only [Value.slice.injEq] at h1
    rw [h0] at h1
    cases h1.1
theorem owns_le {w : World} {base : Nat} {e : TypeId} {ad : Option Addr} {n cap : Nat} {xs : List Value} (h : w.ownsRow base e 1 (.slice ad n cap) n xs) : n ≤ cap := by
  rcases h.2 with ⟨h1, h2⟩ | ⟨g, c, cur, h1, _, _, h2, _⟩
  · omega
  · simp only [Value.slice.injEq] at h1
    obtain ⟨_, _, rfl⟩ := h1
    exact h2

/-- A file is cut. -/
theorem DR.cutTo {dt ft : TypeId} {w w' : World} {p fb fc : Nat} {rs : List (Value × Fl)} {on : Bool} {falls : Nat} {set : Bool} {ops : Nat} {kv : Value} {kl : List Int} (ht : Ty4 dt ft) (h : DR dt ft w p fb fc rs on falls set ops kv kl) (i : Nat) (r : Value × Fl) (hr : rs[i]? = some r) (ad : Option Addr) (c : Nat) (hv : r.1 = .slice ad r.2.b.length c)
    (t s : Nat) (htl : t ≤ r.2.b.length) (hs : s ≤ t) (hw : w' = (w.setCell ⟨fb, i * 2, none⟩ (.slice ad t c)).setCell ⟨fb, i * 2 + 1, none⟩ (.int .i64 (s : Int))) :
    DR dt ft w' p fb fc (rs.set i (.slice ad t c, ⟨r.2.b.take t, s⟩)) on falls set ops kv kl ∧ Chg (fun k => k = fb) w w' ∧ (Value.slice ad t c).ownBlock = r.1.ownBlock := by
  have hil := (List.getElem?_eq_some_iff.1 hr).1
  have hR := h.row i r hr
  have hC : Chg (fun k => k = fb) w w' := by
    rw [hw]
    exact (Chg.set ⟨fb, i * 2, none⟩ _ w).trans (Chg.set ⟨fb, i * 2 + 1, none⟩ _ _) (fun _ _ h => h)
  have hob : (Value.slice ad t c).ownBlock = r.1.ownBlock := by rw [hv]; cases ad <;> rfl
  refine ⟨h.file ht i r _ hr (hC.mono (fun _ _ h => .inl h)) ?_ ⟨?_, hR.byte.take t, ?_, ?_⟩ (.inl hob), hC, hob⟩
  · rw [hw, fcells_set]
    exact owns_setv (owns_setv h.files (i * 2) _ (by rw [fcells_length]; omega)) (i * 2 + 1) _ (by rw [List.length_set, fcells_length]; omega)
  · have h1 := hR.row
    rw [hv] at h1
    have h2 := owns_cut h1 htl
    have e1 : (r.2.b.take t).length = t := by simp; omega
    simp only [e1]
    have e2 : cells8 (r.2.b.take t) = (cells8 r.2.b).take t := by simp [cells8, List.map_take]
    rw [e2]
    refine hC.owns h2 ?_
    intro g hg e
    subst e
    rw [hob] at hg
    exact ht.2.2.2.1 (h.tgf.one (h.tgr i r hr _ hg))
  · simp
    omega
  · have := hR.top
    simp
    omega
theorem DR.drew {dt ft : TypeId} {w : World} {p fb fc : Nat} {rs : List (Value × Fl)} {on : Bool} {falls : Nat} {set : Bool} {ops : Nat} {kv : Value} {kl : List Int} (h : DR dt ft w p fb fc rs on falls set ops kv kl) : DR dt ft w.drew p fb fc rs on falls set ops kv kl := h.chg (Chg.drew (fun _ => False) w) (fun _ _ h => h)

/-- Files of which the first ones have lost. -/
def Lost (rs : List (Value × Fl)) (K : List Int) (i : Nat) (rs' : List (Value × Fl)) : Prop := rs'.length = rs.length ∧ ∀ (k : Nat) (r : Value × Fl), rs[k]? = some r → ∃ v, v.ownBlock = r.1.ownBlock ∧ rs'[k]? = some (v, if k < i then r.2.lose (K.getD k 0) else r.2)
theorem Lost.zero (rs : List (Value × Fl)) (K : List Int) : Lost rs K 0 rs := ⟨rfl, fun k r hr => ⟨r.1, rfl, by simpa using hr⟩⟩
theorem Lost.step {rs rs' : List (Value × Fl)} {K : List Int} {i : Nat} (h : Lost rs K i rs') {r' : Value × Fl} (hr : rs'[i]? = some r') {v : Value} (hv : v.ownBlock = r'.1.ownBlock) : Lost rs K (i + 1) (rs'.set i (v, r'.2.lose (K.getD i 0))) := by
  refine ⟨by rw [List.length_set]; exact h.1, fun k r hk => ?_⟩
  obtain ⟨u, hu, hu2⟩ := h.2 k r hk
  by_cases hik : i = k
  · subst hik
    rw [hr] at hu2
    obtain rfl := Option.some.inj hu2
    refine ⟨v, by rw [hv]; exact hu, ?_⟩
    rw [List.getElem?_set, if_pos rfl, if_pos (List.getElem?_eq_some_iff.1 hr).1]
    simp
  · refine ⟨u, hu, ?_⟩
    rw [List.getElem?_set, if_neg hik, hu2]
    by_cases hlt : k < i
    · rw [if_pos hlt, if_pos (by omega)]
    · rw [if_neg hlt, if_neg (by omega)]
theorem Lost.all {rs rs' : List (Value × Fl)} {K : List Int} (h : Lost rs K rs.length rs') : rs'.map (·.2) = loseAll (rs.map (·.2)) K := by
  apply List.ext_getElem?
  intro k
  rw [loseAll_at, List.getElem?_map, List.getElem?_map]
  by_cases hk : k < rs.length
  · obtain ⟨u, hu, hu2⟩ := h.2 k rs[k] (List.getElem?_eq_getElem hk)
    rw [hu2, if_pos hk, List.getElem?_eq_getElem hk]
    rfl
  · rw [List.getElem?_eq_none (by omega : rs.length ≤ k), List.getElem?_eq_none (by have := h.1; omega)]
    rfl
theorem Lost.fp {rs rs' : List (Value × Fl)} {K : List Int} {i : Nat} (h : Lost rs K i rs') (w : World) (p fb : Nat) (kv : Value) : New w (FPd p fb rs kv) (FPd p fb rs' (.slice none 0 0)) := by
  rintro g (rfl | rfl | ⟨k, r, hr, hg⟩ | hg)
  · exact .inl (.inl rfl)
  · exact .inl (.inr (.inl rfl))
  · have hk : k < rs.length := by have := (List.getElem?_eq_some_iff.1 hr).1; have := h.1; omega
    obtain ⟨u, hu, hu2⟩ := h.2 k rs[k] (List.getElem?_eq_getElem hk)
    rw [hr] at hu2
    obtain rfl := Option.some.inj hu2
    exact .inl (.inr (.inr (.inl ⟨k, rs[k], List.getElem?_eq_getElem hk, by rw [← hu]; exact hg⟩)))
  · cases hg

theorem loseP (p fb fc : Nat) (rs : List (Value × Fl)) (on : Bool) (falls : Nat) (set : Bool) (ops : Nat) (kv : Value) (kl : List Int) (i : Nat) (r : Value × Fl) (k : Int) (w : World) (h : DR 64 79 w p fb fc rs on falls set ops kv kl) (hr : rs[i]? = some r) (hk : -9223372036854775808 ≤ k) (hk2 : k ≤ 9223372036854775807) :
    Calls Tryz.prog 89 #[.pointer (some ⟨fb, i * 2, none⟩), .int .i64 k] w fun e w' => e = .returned (.tuple #[]) ∧ ∃ v, v.ownBlock = r.1.ownBlock ∧ DR 64 79 w' p fb fc (rs.set i (v, r.2.lose k)) on falls set ops kv kl ∧ Chg (fun k => k = fb) w w' := by
  have hR := h.row i r hr
  obtain ⟨ad, c, hv⟩ := owns_form hR.row
  have h1 := hR.row
  have c0 := owns_cell h.files _ _ (fcells_row rs i r hr)
  have c1 := owns_cell h.files _ _ (fcells_n rs i r hr)
  rw [hv] at h1 c0
  have hil := (List.getElem?_eq_some_iff.1 hr).1
  have h8 := h.n8
  have hle := hR.le
  refine (lose_walk fb (i * 2) ad r.2.b.length c r.2.n k w (by omega) c0 c1 (owns_frozen h.files _) (owns_frozen h.files _) hR.le hR.top (owns_le h1) hk hk2 (owns_none h1) _ rfl).mono ?_
  rintro e w' ⟨rfl, rfl⟩
  obtain ⟨d1, d2, d3⟩ := h.cutTo ty80 i r hr ad c hv (r.2.n + min k.toNat (r.2.b.length - r.2.n)) (r.2.n + min k.toNat (r.2.b.length - r.2.n)) (by omega) (Nat.le_refl _) rfl
  exact ⟨rfl, _, d3, d1.drew.drew, (d2.trans (Chg.drew _ _) (fun _ _ h => h)).trans (Chg.drew _ _) (fun _ _ h => h)⟩

set_option maxHeartbeats 1000000 in
set_option maxRecDepth 100000 in
theorem failP (p fb fc : Nat) (rs : List (Value × Fl)) (on : Bool) (falls : Nat) (set : Bool) (ops : Nat) (kv : Value) (kl : List Int) (ka : Option Addr) (kn kc : Nat) (K : List Int) (w : World) (h : DR 64 79 w p fb fc rs on falls set ops kv kl) (hS : Sn w ka kn K) (hka : ∀ x, ka = some x → 0 < kn → x.block ≠ fb) (hf : falls ≤ 1099511627776) :
    Calls Tryz.prog 61 #[.pointer (some ⟨p, 0, none⟩), .slice ka kn kc] w fun e w' => e = .returned (.tuple #[]) ∧ ∃ rs', DR 64 79 w' p fb fc rs' false (falls + 1) false 0 (.slice none 0 0) [] ∧ Lost rs K rs.length rs' ∧ Chg (fun k => k = p ∨ k = fb) w w' := by
  obtain ⟨n, hn⟩ : ∃ n, rs.length = n := ⟨_, rfl⟩
  have h8 := h.n8
  have h1 := h.n1
  have c0 := h.blk.cell 0
  simp only [List.getElem?_cons_succ, List.getElem?_cons_zero] at c0
  rw [hn] at h8 h1 c0 ⊢
  have HH := hidden h
  have HS := hidden hS
  have HKA := hidden hka
  have HN := hidden hn
  clear h hS hka hn
  go_enter Tryz.func61, Tryz.ntmps61
  go_wp2_with fail
  go_loopw [11] (fun iv wr => ∃ (i : Nat) (rs' : List (Value × Fl)), i ≤ n ∧ iv = .int .i64 (i : Int) ∧ DR 64 79 wr p fb fc rs' on falls set ops kv kl ∧ Lost rs K i rs' ∧ Chg (fun k => k = fb) w wr) (fun iv _ => (n - (intOf iv).toNat))
  case atStart => exact ⟨0, rs, Nat.zero_le _, rfl, HH.out, Lost.zero _ _, Chg.refl _ _⟩
  case round =>
    rename World => wr
    obtain ⟨i, rs', hle, rfl, hD, hL, hC⟩ := hrel
    have hl : rs'.length = n := by rw [hL.1]; exact HN.out
    have d0 := hD.blk.cell 0
    simp only [List.getElem?_cons_succ, List.getElem?_cons_zero] at d0
    rw [hl] at d0
    have HD := hidden hD
    have HLo := hidden hL
    have HC := hidden hC
    clear hD hL hC c0
    by_cases hi : i < n
    · obtain ⟨r', hr'⟩ : ∃ r', rs'[i]? = some r' := ⟨_, List.getElem?_eq_getElem (by omega)⟩
      have hs2 : Hid (Sn wr ka kn K) := HC.out.sn HS.out (fun x hx h0 e => HKA.out x hx h0 e)
      have HR := hidden hr'
      clear hr'
      have hb := HS.out.int.at i
      by_cases hk : i < kn
      · obtain ⟨g, off, rfl, hcell⟩ := hs2.out.at (by omega)
        have ck := hcell i hk
        obtain ⟨kk, hkk⟩ : ∃ kk, K.getD i 0 = kk := ⟨_, rfl⟩
        rw [hkk] at ck hb
        have HKK := hidden hkk
        clear hcell hkk
        go_wp2_with fail
        refine (loseP p fb fc rs' on falls set ops kv kl i r' kk wr HD.out HR.out hb.1 hb.2).mono ?_
        rintro e w2 ⟨rfl, v, hv, hD2, hC2⟩
        go_wp2_with fail
        refine ⟨⟨i + 1, _, by omega, by first | rfl | simp, hD2, by rw [← HKK.out]; exact HLo.out.step HR.out hv, HC.out.trans hC2 (fun _ _ h => h)⟩, ?_⟩
        simp [intOf]
        omega
      · have hk2 : kn ≤ i := by omega
        have hkk : Hid (K.getD i 0 = 0) := by
          have := HS.out.len
          show _ = _
          simp [List.getD, show K.length ≤ i by omega]
        go_wp2_with fail
        refine (loseP p fb fc rs' on falls set ops kv kl i r' 0 wr HD.out HR.out (by omega) (by omega)).mono ?_
        rintro e w2 ⟨rfl, v, hv, hD2, hC2⟩
        go_wp2_with fail
        refine ⟨⟨i + 1, _, by omega, by first | rfl | simp, hD2, by rw [← hkk.out]; exact HLo.out.step HR.out hv, HC.out.trans hC2 (fun _ _ h => h)⟩, ?_⟩
        simp [intOf]
        omega
    · have hin : i = n := by omega
      subst hin
      have B0 := HD.out.blk
      have d1 := B0.cell 1
      have d2 := B0.cell 2
      simp only [List.getElem?_cons_succ, List.getElem?_cons_zero] at d1 d2
      have f1 := B0.frozen 1
      have f2 := B0.frozen 2
      have HB := hidden B0
      clear B0
      have hb := built78
      have B2 := hidden ((HB.out.set 1 (.bool false)).set 2 (.int .i64 ((falls + 1 : Nat) : Int)))
      go_wp2_with (first
        | (refine wpList_build_to rfl 62 #[] rfl [] #[.bool false, .int .i64 0, .slice none 0 0] ?_ hb ?_; kernel_rfl)
        | (refine wpList_store_mid rfl 62 (.tmp 44) (.tmp 42) rfl p 3 #[.bool false, .int .i64 0, .slice none 0 0] rfl rfl (B2.out.there 3 3 (by simp)) size78 (by simp [Value.oneCell']) ?_))
      go_end0
      have hS3 := B2.out.sets [.bool false, .int .i64 0, .slice none 0 0] 3 _ _ (by simp)
      simp only [List.set_cons_succ, List.set_cons_zero, List.take_succ_cons, List.take_zero, List.length_cons, List.length_nil, List.drop_succ_cons, List.drop_nil, List.cons_append, List.nil_append, List.append_nil, Nat.zero_add, Nat.reduceAdd] at hS3
      have hC3 : Chg (fun i => i = p) wr _ := ((Chg.set ⟨p, 1, none⟩ (.bool false) wr).trans (Chg.set ⟨p, 2, none⟩ (.int .i64 ((falls + 1 : Nat) : Int)) _) (fun _ _ h => h)).trans (chg_sets (fun i => i = p) p rfl [.bool false, .int .i64 0, .slice none 0 0] 3 _) (fun _ _ h => h)
      refine ⟨rfl, rs', HD.out.swap ty80 hC3 hS3 (World.ownsRow_nil _ _ _ _) (fun n hn => by simp at hn) (by omega) (by simp), HLo.out, (HC.out.mono (fun _ _ h => .inr h)).trans hC3 (fun _ _ h => .inl h)⟩

end Go.Proofs.YtnfjhdedcnbdbaaGreat

/-
  Ops. The program's.
-/
namespace Go.Proofs.YtnfjhdedcnbdbaaGreat
open Go.RowKit
set_option linter.unusedVariables false
set_option linter.unusedSimpArgs false

theorem New.mono_left {w : World} {F G H : Nat → Prop} (h : New w F H) (hs : ∀ i, F i → G i) : New w G H := fun i hi => (h i hi).imp (hs i) id
theorem FPd_keep_self {w : World} {p fb : Nat} {rs : List (Value × Fl)} {kv : Value} : New w (FPd p fb rs kv) (FPd p fb rs kv) := New.refl _ _

set_option maxHeartbeats 1000000 in
set_option maxRecDepth 100000 in
theorem opP (p : Nat) (F : Nat → Prop) (S : St) (w : World) (h : Dk 64 79 w p F S) (hf : S.falls ≤ 1099511627776) : Calls Tryz.prog 64 #[.pointer (some ⟨p, 0, none⟩)] w fun e w' => e = .returned (.int .i64 S.op.1) ∧ Dks 64 79 w w' p F S.op.2 := by
  have HDk := hidden h
  obtain ⟨fb, fc, rs, set, ops, kv, kl, h, hL, hfu, rfl⟩ := h
  have B0 := h.blk
  have c3 := B0.cell 3
  have c4 := B0.cell 4
  have c5 := B0.cell 5
  have f4 := B0.frozen 4
  simp only [List.getElem?_cons_succ, List.getElem?_cons_zero] at c3 c4 c5
  have HB := hidden B0
  have HH := hidden h
  have hopb := h.opsb
  clear B0 h
  obtain ⟨er, her⟩ : ∃ er, S.op.1 = er := ⟨_, rfl⟩
  obtain ⟨S', hS'⟩ : ∃ S', S.op.2 = S' := ⟨_, rfl⟩
  rw [her, hS']
  have HL := hidden hL
  have HFU := hidden hfu
  have HS' := hidden hS'
  clear hL hfu hS'
  cases set with
  | false =>
    have e1 : S.op = (0, S) := by unfold St.op; rw [HFU.out]; rfl
    rw [e1] at her HS'
    obtain rfl := her
    have HS2 : Hid (S = S') := HS'.out
    clear HS'
    go_enter Tryz.func64, Tryz.ntmps64
    go_wp2_with fail
    go_ret
    refine ⟨rfl, ?_⟩
    rw [← HS2.out]
    exact ⟨_, HDk.out, Chg.refl _ _, New.refl _ _⟩
  | true =>
    have e0 : S.fuse = some (ops, kl.take rs.length) := HFU.out
    cases ops with
    | zero =>
      have e1 : S.op = (40, S.fail (kl.take rs.length)) := by unfold St.op; rw [e0]
      rw [e1] at her HS'
      obtain rfl := her
      have HS2 : Hid (S.fail (kl.take rs.length) = S') := HS'.out
      clear HS' e1 e0
      obtain ⟨ka, kc, hkv⟩ := owns_form HH.out.keep
      subst hkv
      obtain ⟨kn, hkn⟩ : ∃ kn, kl.length = kn := ⟨_, rfl⟩
      have HKN := hidden hkn
      rw [hkn] at c5
      clear hkn
      go_enter Tryz.func64, Tryz.ntmps64
      go_wp2_with fail
      refine (failP p fb fc rs S.on S.falls true 0 _ kl ka kn kc kl w HH.out (sn_of_owns (HKN.out ▸ HH.out.keep) HH.out.kint) ?_ hf).mono ?_
      · intro x hx h0 e
        subst hx
        have := HH.out.tgk x.block rfl
        rw [e] at this
        exact absurd (this.one HH.out.tgf) (by decide)
      rintro e w' ⟨rfl, rs', hD, hLo, hC⟩
      have HD := hidden hD
      have HLo := hidden hLo
      have HC := hidden hC
      clear hD hLo hC
      go_wp2_with fail
      go_ret
      refine ⟨rfl, _, ⟨fb, fc, rs', false, 0, .slice none 0 0, [], ?_, ?_, ?_, rfl⟩, HC.out.mono ?_, HLo.out.fp w p fb _⟩
      · rw [← HS2.out]; exact HD.out
      · rw [← HS2.out]
        show loseAll S.L _ = _
        rw [HL.out, loseAll_take _ _ _ (by simp), HLo.out.all]
      · rw [← HS2.out]; rfl
      · rintro i _ (rfl | rfl)
        · exact .inl rfl
        · exact .inr (.inl rfl)
    | succ o =>
      have e1 : S.op = (0, { S with fuse := some (o, kl.take rs.length) }) := by unfold St.op; rw [e0]
      rw [e1] at her HS'
      obtain rfl := her
      have HS2 : Hid (({ S with fuse := some (o, kl.take rs.length) } : St) = S') := HS'.out
      clear HS' e1 e0
      have ho : ((o + 1 : Nat) : Int) = (o : Int) + 1 := by omega
      rw [ho] at c4
      clear ho
      have ho2 : (o : Int) + 1 - 1 = (o : Int) := by omega
      have ho3 : (o : Int) ≤ 9223372036854775806 := by omega
      have ho4 : ((o : Int) + 1 = 0) = False := by simp; omega
      go_enter Tryz.func64, Tryz.ntmps64
      go_wp2_with fail
      go_ret
      have hB := HB.out.set 4 (.int .i64 (o : Int))
      simp only [List.set_cons_succ, List.set_cons_zero] at hB
      have hC := Chg.set ⟨p, 4, none⟩ (.int .i64 (o : Int)) w
      refine ⟨rfl, _, ⟨fb, fc, rs, true, o, kv, kl, ?_, ?_, ?_, rfl⟩, hC.mono (fun i _ hi => .inl hi), New.refl _ _⟩
      · rw [← HS2.out]
        exact HH.out.swap ty80 hC hB HH.out.keep HH.out.kint (by omega) HH.out.klen
      · rw [← HS2.out]; exact HL.out
      · rw [← HS2.out]; rfl

set_option maxRecDepth 100000 in
theorem crashP (p : Nat) (F : Nat → Prop) (S : St) (ka : Option Addr) (kn kc : Nat) (K : List Int) (w : World) (h : Dk 64 79 w p F S) (hS : Sn w ka kn K) (hka : ∀ x, ka = some x → 0 < kn → ¬ F x.block) (hf : S.falls ≤ 1099511627776) :
    Calls Tryz.prog 28 #[.pointer (some ⟨p, 0, none⟩), .slice ka kn kc] w fun e w' => e = .returned (.tuple #[]) ∧ Dks 64 79 w w' p F (S.crash K) := by
  have HDk := hidden h
  obtain ⟨fb, fc, rs, set, ops, kv, kl, h, hL, hfu, rfl⟩ := h
  have c1 := h.blk.cell 1
  simp only [List.getElem?_cons_succ, List.getElem?_cons_zero] at c1
  have HH := hidden h
  have HL := hidden hL
  have HS := hidden hS
  have HKA := hidden hka
  clear h hL hfu hS hka
  obtain ⟨S', hS'⟩ : ∃ S', S.crash K = S' := ⟨_, rfl⟩
  rw [hS']
  have HS' := hidden hS'
  clear hS'
  obtain ⟨on, hon⟩ : ∃ on, S.on = on := ⟨_, rfl⟩
  rw [hon] at c1
  have HON := hidden hon
  clear hon
  cases on with
  | false =>
    go_enter Tryz.func28, Tryz.ntmps28
    go_wp2_with fail
    go_end0
    refine ⟨rfl, ?_⟩
    rw [← HS'.out]
    unfold St.crash
    rw [HON.out, if_neg (by decide)]
    exact ⟨_, HDk.out, Chg.refl _ _, New.refl _ _⟩
  | true =>
    go_enter Tryz.func28, Tryz.ntmps28
    go_wp2_with fail
    refine (failP p fb fc rs S.on S.falls set ops kv kl ka kn kc K w HH.out HS.out (fun x hx h0 e => HKA.out x hx h0 (.inr (.inl e))) hf).mono ?_
    rintro e w' ⟨rfl, rs', hD, hLo, hC⟩
    have HD := hidden hD
    have HLo := hidden hLo
    have HC := hidden hC
    clear hD hLo hC
    go_wp2_with fail
    go_end0
    have e2 : S' = S.fail K := by rw [← HS'.out]; unfold St.crash; rw [HON.out, if_pos rfl]
    rw [e2]
    refine ⟨rfl, _, ⟨fb, fc, rs', false, 0, _, _, HD.out, ?_, rfl, rfl⟩, HC.out.mono ?_, HLo.out.fp w p fb _⟩
    · show loseAll S.L _ = _
      rw [HL.out, HLo.out.all]
    · rintro i _ (rfl | rfl)
      · exact .inl rfl
      · exact .inr (.inl rfl)

set_option maxHeartbeats 1000000 in
set_option maxRecDepth 100000 in
theorem cut_walk (fb j : Nat) (ad : Option Addr) (n c m t : Nat) (w : World) (hj : j ≤ 100) (c0 : w.cell? ⟨fb, j, none⟩ = some (.slice ad n c)) (c1 : w.cell? ⟨fb, j + 1, none⟩ = some (.int .i64 (m : Int))) (f0 : w.frozen? ⟨fb, j, none⟩ = false) (f1 : w.frozen? ⟨fb, j + 1, none⟩ = false)
    (hm : m ≤ n) (hn : n ≤ 16777216) (hc : n ≤ c) (htn : t ≤ n) (s : Nat) (hs : s = min m t) :
    Calls Tryz.prog 78 #[.pointer (some ⟨fb, j, none⟩), .int .i64 (t : Int)] w fun e w' => e = .returned (.tuple #[]) ∧ w' = (w.setCell ⟨fb, j, none⟩ (.slice ad t c)).setCell ⟨fb, j + 1, none⟩ (.int .i64 (s : Int)) := by
  by_cases h1 : m ≤ t
  · have hs2 : s = m := by omega
    clear hs
    subst hs2
    go_enter Tryz.func78, Tryz.ntmps78
    go_wp2_with fail
    all_goals first
      | (go_end0; exact ⟨rfl, rfl⟩)
      | (exfalso; omega)
  · have hs2 : s = t := by omega
    clear hs
    subst hs2
    have h1' : s < m := by omega
    go_enter Tryz.func78, Tryz.ntmps78
    go_wp2_with fail
    all_goals first
      | (go_end0; exact ⟨rfl, rfl⟩)
      | (exfalso; omega)

theorem refuse_no {S : St} {f : Int} (h : S.refuse f = 0) : S.on = true ∧ 0 ≤ f ∧ f < S.L.length := by
  unfold St.refuse at h
  split at h
  · cases h
  · rename_i h1
    split at h
    · rename_i h2
      exact ⟨by simpa using h1, h2⟩
    · cases h

theorem Sl.part {w : World} {ad : Option Addr} {n A B : Nat} {l : List Int} (h : Sl w ad n l) (hAB : A + B ≤ n) : Sl w (Option.map (fun x => x.add A) ad) B ((l.drop A).take B) := by
  have hl := h.len
  refine ⟨by simp; omega, (h.byte.drop A).take B, fun j hj => ?_⟩
  obtain ⟨b, off, rfl, _, hcell⟩ := h.at (by omega)
  refine ⟨_, rfl, ?_⟩
  simp only []
  rw [Addr.add_lit, Addr.add_lit, Nat.add_assoc, hcell (A + j) (by omega)]
  congr 2
  simp [List.getD, List.getElem?_drop, hj]
theorem Sl.part0 {w : World} {ad : Option Addr} {n A B : Nat} {l : List Int} (h : Sl w ad n l) (ad' : Option Addr) (hAB : A + B ≤ n) (hB : B = 0) : Sl w ad' B ((l.drop A).take B) := by
  subst hB
  exact ⟨by simp, fun n hn => by simp at hn, fun j hj => by omega⟩

set_option maxHeartbeats 1000000 in
set_option maxRecDepth 100000 in
theorem readP (p : Nat) (F : Nat → Prop) (S : St) (w : World) (f at_ n : Int) (h : Dk 64 79 w p F S) (ha : -9223372036854775808 ≤ at_ ∧ at_ ≤ 9223372036854775807) (hn : -9223372036854775808 ≤ n ∧ n ≤ 9223372036854775807) :
    Calls Tryz.prog 69 #[.pointer (some ⟨p, 0, none⟩), .int .i64 f, .int .i64 at_, .int .i64 n] w fun e w' => ∃ ad m c, e = .returned (.tuple #[.slice ad m c, .int .i64 (S.read f at_ n).1]) ∧ w'.ownsRow w.heap.size 5 1 (.slice ad m c) m (cells8 (S.read f at_ n).2) ∧ Byte (S.read f at_ n).2 ∧ Below w.heap.size w w' := by
  have hh := hidden (refusalP p F S w f h)
  obtain ⟨er, her⟩ : ∃ er, S.refuse f = er := ⟨_, rfl⟩
  obtain ⟨q, hq⟩ : ∃ q, S.read f at_ n = q := ⟨_, rfl⟩
  obtain ⟨q1, q2⟩ := q
  rw [hq]
  unfold St.read at hq
  rw [her] at hq hh
  by_cases h0 : er = 0
  · subst h0
    obtain ⟨hon, hf0, hf1⟩ := refuse_no her
    obtain ⟨i, rfl⟩ : ∃ i : Nat, f = (i : Int) := ⟨f.toNat, by omega⟩
    obtain ⟨fb, fc, ad, c, x, hx, c0, c1, c2, ho, hb, ht, hl, h8, hF⟩ := h.at i (by omega)
    rw [if_neg (by simp), Int.toNat_natCast, hx] at hq
    simp only at hq
    have hi : i < S.L.length := by omega
    obtain ⟨N, hN⟩ : ∃ N, S.L.length = N := ⟨_, rfl⟩
    rw [hN] at c0 h8 hi
    have hSl := sl_of_owns ho hb
    have HO := hidden ho
    have HSl := hidden hSl
    have HB := hidden hb
    obtain ⟨m, hm⟩ : ∃ m, x.b.length = m := ⟨_, rfl⟩
    rw [hm] at c1 ht hl hq HSl HO
    have hle := owns_le HO.out
    have hno := owns_none HO.out
    have HNO := hidden hno
    clear hno
    have HM := hidden hm
    clear hm hN hx hF hf0 hf1 her hon ho hb hSl h c2 hl
    by_cases ha0 : at_ < 0
    · rw [if_pos (.inl ha0)] at hq
      obtain ⟨rfl, rfl⟩ := Prod.mk.inj hq
      clear hq
      go_enter Tryz.func69, Tryz.ntmps69
      go_wp2_with fail
      refine hh.out.mono ?_
      rintro e w' ⟨rfl, rfl⟩
      go_wp2_with fail
      go_ret2
      exact ⟨_, _, _, rfl, World.ownsRow_nil _ _ _ _, fun n hn => by simp at hn, Below.refl _ _⟩
    · by_cases hn0 : n < 0
      · rw [if_pos (.inr (.inl hn0))] at hq
        obtain ⟨rfl, rfl⟩ := Prod.mk.inj hq
        clear hq
        have ha1 : 0 ≤ at_ := by omega
        go_enter Tryz.func69, Tryz.ntmps69
        go_wp2_with fail
        refine hh.out.mono ?_
        rintro e w' ⟨rfl, rfl⟩
        go_wp2_with fail
        go_ret2
        exact ⟨_, _, _, rfl, World.ownsRow_nil _ _ _ _, fun n hn => by simp at hn, Below.refl _ _⟩
      · by_cases hbig : (m : Int) < at_ + n
        · rw [if_pos (.inr (.inr hbig))] at hq
          obtain ⟨rfl, rfl⟩ := Prod.mk.inj hq
          clear hq
          have ha1 : 0 ≤ at_ := by omega
          have hn1 : 0 ≤ n := by omega
          have hb2 : (m : Int) - at_ < n := by omega
          go_enter Tryz.func69, Tryz.ntmps69
          go_wp2_with fail
          refine hh.out.mono ?_
          rintro e w' ⟨rfl, rfl⟩
          go_wp2_with fail
          go_ret2
          exact ⟨_, _, _, rfl, World.ownsRow_nil _ _ _ _, fun n hn => by simp at hn, Below.refl _ _⟩
        · rw [if_neg (by omega)] at hq
          obtain ⟨rfl, hq2⟩ := Prod.mk.inj hq
          clear hq
          obtain ⟨A, rfl⟩ : ∃ A : Nat, at_ = (A : Int) := ⟨at_.toNat, by omega⟩
          obtain ⟨B, rfl⟩ : ∃ B : Nat, n = (B : Int) := ⟨n.toNat, by omega⟩
          rw [Int.toNat_natCast, Int.toNat_natCast] at hq2
          have hAB : A + B ≤ m := by omega
          have hb2 : (B : Int) ≤ (m : Int) - (A : Int) := by omega
          have hAB2 : (A : Int) + (B : Int) = ((A + B : Nat) : Int) := by omega
          obtain ⟨E, hE⟩ : ∃ E, A + B = E := ⟨_, rfl⟩
          rw [hE] at hAB2 hAB
          have hEB : E - A = B := by omega
          have HQ2 := hidden hq2
          have HE := hidden hE
          clear hq2 hE hbig
          go_enter Tryz.func69, Tryz.ntmps69
          go_wp2_with fail
          refine hh.out.mono ?_
          rintro e w' ⟨rfl, rfl⟩
          go_wp2_with fail
          all_goals
            refine (copied8 _ B _ q2 w' ?_ (by omega)).mono ?_
            · rw [← HQ2.out]
              first
                | exact HSl.out.part (by have := HE.out; omega)
                | exact HSl.out.part0 _ (by have := HE.out; omega) (by omega)
            rintro e w2 ⟨rfl, ho2, hb2⟩
            have HO2 := hidden ho2
            have HB2 := hidden hb2
            clear ho2 hb2
            go_wp2_with fail
            go_ret2
            exact ⟨_, _, _, rfl, HO2.out, by rw [← HQ2.out]; exact (HB.out.drop A).take B, HB2.out⟩
  · rw [if_pos h0] at hq
    obtain ⟨rfl, rfl⟩ := Prod.mk.inj hq
    clear hq
    go_enter Tryz.func69, Tryz.ntmps69
    go_wp2_with fail
    refine hh.out.mono ?_
    rintro e w' ⟨rfl, rfl⟩
    go_wp2_with fail
    go_ret2
    exact ⟨_, _, _, rfl, World.ownsRow_nil _ _ _ _, fun n hn => by simp at hn, Below.refl _ _⟩

end Go.Proofs.YtnfjhdedcnbdbaaGreat

/-
  Append, Sync, Truncate, Fuse. The program's.
-/
namespace Go.Proofs.YtnfjhdedcnbdbaaGreat
open Go.RowKit
set_option linter.unusedVariables false
set_option linter.unusedSimpArgs false

/-- A disk of which a file's row was grown. -/
theorem Dk.grown {dt ft : TypeId} {w : World} {p : Nat} {F : Nat → Prop} {S : St} (ht : Ty4 dt ft) (h : Dk dt ft w p F S) (i : Nat) (x : Fl) (hx : S.L[i]? = some x) :
    ∃ fb fc v, w.cell? ⟨p, 0, none⟩ = some (.slice (some ⟨fb, 0, none⟩) S.L.length fc) ∧ w.cell? ⟨fb, i * 2, none⟩ = some v ∧ w.frozen? ⟨fb, i * 2, none⟩ = false ∧ w.ownsRow 0 5 1 v x.b.length (cells8 x.b) ∧ Byte x.b ∧ x.n ≤ x.b.length ∧ x.b.length ≤ 16777216 ∧ (∀ g, v.ownBlock = some g → F g) ∧ S.L.length ≤ 8 ∧
      ∀ (w1 : World) (v' : Value) (b' : List Int), Chg (fun k => v.ownBlock = some k) w w1 → Moved w v.ownBlock v'.ownBlock → w1.ownsRow 0 5 1 v' b'.length (cells8 b') → Byte b' → x.n ≤ b'.length → b'.length ≤ 16777216 →
        w1.cell? ⟨p, 0, none⟩ = some (.slice (some ⟨fb, 0, none⟩) S.L.length fc) ∧ w1.cell? ⟨fb, i * 2, none⟩ = some v ∧ w1.frozen? ⟨fb, i * 2, none⟩ = false ∧
        Dks dt ft w (w1.setCell ⟨fb, i * 2, none⟩ v') p F { S with L := S.L.set i ⟨b', x.n⟩ } := by
  obtain ⟨fb, fc, rs, set, ops, kv, kl, h, hL, hfu, rfl⟩ := h
  have hn : S.L.length = rs.length := by rw [hL]; simp
  obtain ⟨r, hr, hrx⟩ : ∃ r, rs[i]? = some r ∧ r.2 = x := by
    rw [hL] at hx
    simpa using hx
  have hR := h.row i r hr
  subst hrx
  refine ⟨fb, fc, r.1, by rw [hn]; exact h.blk.cell 0, owns_cell h.files _ _ (fcells_row rs i r hr), owns_frozen h.files _, hR.row, hR.byte, hR.le, hR.top, fun g hg => .inr (.inr (.inl ⟨i, r, hr, hg⟩)), by rw [hn]; exact h.n8, ?_⟩
  intro w1 v' b' hc hm ho hb hle htop
  have hC : Chg (fun k => k = fb ∨ r.1.ownBlock = some k) w (w1.setCell ⟨fb, i * 2, none⟩ v') := (hc.mono (fun _ _ h => .inr h)).trans (Chg.set ⟨fb, i * 2, none⟩ v' w1) (fun _ _ h => .inl h)
  have hpn : r.1.ownBlock ≠ some p := fun e => ht.2.1 (h.tgp.one (h.tgr i r hr _ e))
  have hfn : r.1.ownBlock ≠ some fb := fun e => ht.2.2.2.1 (h.tgf.one (h.tgr i r hr _ e))
  have hf1 : w1.ownsRow 0 ft 2 (.slice (some ⟨fb, 0, none⟩) rs.length fc) rs.length (fcells rs) := hc.owns h.files (fun g hg e => hfn (by have e2 : fb = g := Option.some.inj hg; rw [e2]; exact e))
  have hil := (List.getElem?_eq_some_iff.1 hr).1
  have hv'fb : v'.ownBlock ≠ some fb := by
    intro e
    rcases hm with e2 | ⟨g, e2, hg⟩
    · exact hfn (by rw [← e2]; exact e)
    · rw [e] at e2
      have := (h.files.lt fb rfl).2
      have e3 : fb = g := Option.some.inj e2
      omega
  refine ⟨by rw [hn]; exact (hc.blk h.blk hpn).cell 0, owns_cell hf1 _ _ (fcells_row rs i r hr), owns_frozen hf1 _, _, ⟨fb, fc, rs.set i (v', ⟨b', r.2.n⟩), set, ops, kv, kl, h.file ht i r _ hr hC ?_ ⟨?_, hb, hle, htop⟩ hm, ?_, ?_, rfl⟩, hC.mono ?_, FPd_file hr hm⟩
  · rw [fcells_set_row rs i r hr]
    exact owns_setv hf1 (i * 2) v' (by rw [fcells_length]; omega)
  · refine (Chg.set ⟨fb, i * 2, none⟩ v' w1).owns ho (fun g hg e => hv'fb ?_)
    rw [hg]
    exact congrArg some e
  · simp [hL, List.map_set]
  · simpa using hfu
  · rintro k _ (rfl | e)
    · exact .inr (.inl rfl)
    · exact .inr (.inr (.inl ⟨i, r, hr, e⟩))

set_option maxHeartbeats 2000000 in
set_option maxRecDepth 100000 in
theorem appendP (p : Nat) (F : Nat → Prop) (S : St) (w : World) (f : Int) (ad : Option Addr) (m c : Nat) (l : List Int) (h : Dk 64 79 w p F S) (hf : S.falls ≤ 1099511627776) (hS : Sl w ad m l) (hnone : ad = none → m = 0 ∧ c = 0) (hm : m ≤ 70368744177664) :
    Calls Tryz.prog 32 #[.pointer (some ⟨p, 0, none⟩), .int .i64 f, .slice ad m c] w fun e w' => e = .returned (.int .i64 (S.append f l).1) ∧ Dks 64 79 w w' p F (S.append f l).2 := by
  have hh := hidden (refusalP p F S w f h)
  obtain ⟨er, her⟩ : ∃ er, S.refuse f = er := ⟨_, rfl⟩
  obtain ⟨q, hq⟩ : ∃ q, S.append f l = q := ⟨_, rfl⟩
  rw [hq]
  unfold St.append at hq
  rw [her] at hq hh
  have HDk := hidden h
  have HSl := hidden hS
  have HNO := hidden hnone
  clear hnone
  by_cases h0 : er = 0
  · subst h0
    obtain ⟨hon, hf0, hf1⟩ := refuse_no her
    obtain ⟨i, rfl⟩ : ∃ i : Nat, f = (i : Int) := ⟨f.toNat, by omega⟩
    have hi : i < S.L.length := by omega
    obtain ⟨x, hx⟩ : ∃ x, S.L[i]? = some x := ⟨_, List.getElem?_eq_getElem hi⟩
    obtain ⟨fb, fc, v, c0, c1, f1, hown, hby, hle, htop, hFv, h8, hgo⟩ := h.grown ty80 i x hx
    rw [if_neg (by simp), Int.toNat_natCast, hx] at hq
    simp only at hq
    obtain ⟨N, hN⟩ : ∃ N, S.L.length = N := ⟨_, rfl⟩
    rw [hN] at c0 h8 hi hgo
    obtain ⟨av, cv, rfl⟩ := owns_form hown
    obtain ⟨n, hn⟩ : ∃ n, x.b.length = n := ⟨_, rfl⟩
    have HG := hidden hgo
    have HO := hidden hown
    have HBY := hidden hby
    have HN := hidden hn
    rw [hn] at c1 htop hle hq
    have hml := hS.len
    rw [hml] at hq
    clear h hgo hown hby hN hn hf0 hf1 her hon hS hFv hml
    by_cases hfull : 16777216 < n + m
    · rw [if_pos hfull] at hq
      subst hq
      have hfi : (16777216 : Int) - (n : Int) < (m : Int) := by omega
      go_enter Tryz.func32, Tryz.ntmps32
      go_wp2_with fail
      refine hh.out.mono ?_
      rintro e w' ⟨rfl, rfl⟩
      go_wp2_with fail
      go_ret
      exact ⟨rfl, _, HDk.out, Chg.refl _ _, New.refl _ _⟩
    · rw [if_neg hfull] at hq
      have HQ := hidden hq
      clear hq
      have hfi : (m : Int) ≤ (16777216 : Int) - (n : Int) := by omega
      obtain ⟨i0, hi0, hz0, hz1, hz2⟩ := info_parts info5
      go_enter Tryz.func32, Tryz.ntmps32
      go_wp2_with fail
      refine hh.out.mono ?_
      rintro e w' ⟨rfl, rfl⟩
      go_wp2_with fail
      go_region_law (refine step_appends _ (by rfl) (.tmp 34) (.tmp 35) 28 (by rfl) 5 i0 (.int .u8 0) Tryz.underlying28 hi0 hz0 hz1 hz2 (by rfl) (.slice av n cv) n x.b (by rfl) (by exact HN.out ▸ (Chg.drew (fun _ => False) w').owns HO.out (fun _ _ h => h)) ad m c l (by rfl) (by exact (Chg.drew (fun _ => False) w').sl HSl.out (fun _ _ _ h => h)) HNO.out (by omega) ?_; intro v6 w6 ho6 hc6 hm6; obtain ⟨a6, c6, rfl⟩ := owns_form ho6; obtain ⟨e0, e1, e2, e3⟩ := HG.out w6 _ (x.b ++ l) ((Chg.drew _ w').trans hc6 (fun _ _ h => by rw [HN.out]; exact h)) (by rw [HN.out]; exact hm6) (by rw [List.length_append, HN.out, HSl.out.len]; exact ho6) (HBY.out.append HSl.out.byte) (by rw [List.length_append, HN.out]; omega) (by rw [List.length_append, HN.out, HSl.out.len]; omega); rw [HN.out] at e1; have HE3 := hidden e3; clear e3 ho6 hc6 hm6)
      all_goals
        go_wp2_with fail
        obtain ⟨F2, k1, k2, k3⟩ := HE3.out
        refine (opP p F2 _ _ k1 hf).mono ?_
        rintro e w7 ⟨rfl, hd7⟩
        have HD7 := hidden hd7
        have HQ2 := hidden (HQ.out)
        clear hd7
        obtain ⟨er2, her2⟩ : ∃ er2, ({ S with L := S.L.set i ⟨x.b ++ l, x.n⟩ } : St).op.1 = er2 := ⟨_, rfl⟩
        rw [her2]
        have HER := hidden her2
        clear her2
        go_wp2_with fail
        go_ret
        rw [← HQ.out, HER.out]
        exact ⟨rfl, Dks.trans k2 k3 HD7.out⟩
  · rw [if_pos h0] at hq
    subst hq
    go_enter Tryz.func32, Tryz.ntmps32
    go_wp2_with fail
    refine hh.out.mono ?_
    rintro e w' ⟨rfl, rfl⟩
    go_wp2_with fail
    go_ret
    exact ⟨rfl, _, HDk.out, Chg.refl _ _, New.refl _ _⟩

end Go.Proofs.YtnfjhdedcnbdbaaGreat

/-
  Sync, Truncate, Fuse. The program's.
-/
namespace Go.Proofs.YtnfjhdedcnbdbaaGreat
open Go.RowKit
set_option linter.unusedVariables false
set_option linter.unusedSimpArgs false

theorem op_ok {S : St} (h : S.op.1 = 0) : S.op.2.L = S.L ∧ S.op.2.falls = S.falls ∧ S.op.2.on = S.on := by
  unfold St.op at *
  split at h
  · rename_i e
    simp only [e]
    exact ⟨trivial, trivial, trivial⟩
  · cases h
  · rename_i e
    simp only [e]
    exact ⟨trivial, trivial, trivial⟩

/-- A file of a disk: what may be set. -/
theorem Dk.file {dt ft : TypeId} {w : World} {p : Nat} {F : Nat → Prop} {S : St} (ht : Ty4 dt ft) (h : Dk dt ft w p F S) (i : Nat) (x : Fl) (hx : S.L[i]? = some x) :
    ∃ fb fc ad c, w.cell? ⟨p, 0, none⟩ = some (.slice (some ⟨fb, 0, none⟩) S.L.length fc) ∧ w.cell? ⟨fb, i * 2, none⟩ = some (.slice ad x.b.length c) ∧ w.cell? ⟨fb, i * 2 + 1, none⟩ = some (.int .i64 (x.n : Int)) ∧ w.frozen? ⟨fb, i * 2, none⟩ = false ∧ w.frozen? ⟨fb, i * 2 + 1, none⟩ = false ∧
      x.n ≤ x.b.length ∧ x.b.length ≤ 16777216 ∧ x.b.length ≤ c ∧ S.L.length ≤ 8 ∧ i < S.L.length ∧
      (∀ (s : Nat), s ≤ x.b.length → Dks dt ft w (w.setCell ⟨fb, i * 2 + 1, none⟩ (.int .i64 (s : Int))) p F { S with L := S.L.set i ⟨x.b, s⟩ }) ∧
      (∀ (t s : Nat), t ≤ x.b.length → s ≤ t → Dks dt ft w ((w.setCell ⟨fb, i * 2, none⟩ (.slice ad t c)).setCell ⟨fb, i * 2 + 1, none⟩ (.int .i64 (s : Int))) p F { S with L := S.L.set i ⟨x.b.take t, s⟩ }) := by
  obtain ⟨fb, fc, rs, set, ops, kv, kl, h, hL, hfu, rfl⟩ := h
  have hn : S.L.length = rs.length := by rw [hL]; simp
  obtain ⟨r, hr, hrx⟩ : ∃ r, rs[i]? = some r ∧ r.2 = x := by
    rw [hL] at hx
    simpa using hx
  have hR := h.row i r hr
  subst hrx
  obtain ⟨ad, c, hv⟩ := owns_form hR.row
  have h1 := hR.row
  have c0 := owns_cell h.files _ _ (fcells_row rs i r hr)
  rw [hv] at h1 c0
  have hil := (List.getElem?_eq_some_iff.1 hr).1
  refine ⟨fb, fc, ad, c, by rw [hn]; exact h.blk.cell 0, c0, owns_cell h.files _ _ (fcells_n rs i r hr), owns_frozen h.files _, owns_frozen h.files _, hR.le, hR.top, owns_le h1, by rw [hn]; exact h.n8, by rw [hn]; exact hil, ?_, ?_⟩
  · intro s hs
    have hC := Chg.set ⟨fb, i * 2 + 1, none⟩ (.int .i64 (s : Int)) w
    have hrow : FR (w.setCell ⟨fb, i * 2 + 1, none⟩ (.int .i64 (s : Int))) (r.1, ⟨r.2.b, s⟩) := ⟨hC.owns hR.row (fun g hg e => by
      have e2 : g = fb := e
      subst e2
      exact ht.2.2.2.1 (h.tgf.one (h.tgr i r hr _ hg))), hR.byte, hs, hR.top⟩
    refine ⟨_, ⟨fb, fc, rs.set i (r.1, ⟨r.2.b, s⟩), set, ops, kv, kl, h.file ht i r _ hr (hC.mono (fun _ _ h => .inl h)) ?_ hrow (.inl rfl), ?_, ?_, rfl⟩, hC.mono (fun k _ e => .inr (.inl e)), FPd_file hr (.inl rfl)⟩
    · rw [fcells_set_n rs i r hr]
      exact owns_setv h.files (i * 2 + 1) _ (by rw [fcells_length]; omega)
    · simp [hL, List.map_set]
    · simpa using hfu
  · intro t s htl hst
    obtain ⟨d1, d2, d3⟩ := h.cutTo ht i r hr ad c hv t s htl hst rfl
    refine ⟨_, ⟨fb, fc, _, set, ops, kv, kl, d1, ?_, ?_, rfl⟩, d2.mono (fun k _ e => .inr (.inl e)), FPd_file hr (.inl d3)⟩
    · simp [hL, List.map_set]
    · simpa using hfu
theorem Dks.drew {dt ft : TypeId} {w w' : World} {p : Nat} {F : Nat → Prop} {S : St} (h : Dks dt ft w w' p F S) : Dks dt ft w w'.drew p F S := by
  obtain ⟨F', h1, h2, h3⟩ := h
  exact ⟨F', h1.chg (Chg.drew (fun _ => False) _) (fun _ _ h => h), h2.trans (Chg.drew (fun _ => False) _) (fun _ _ h => h.elim), h3⟩
theorem Dks.drew0 {dt ft : TypeId} {w w' : World} {p : Nat} {F : Nat → Prop} {S : St} (h : Dks dt ft w.drew w' p F S) : Dks dt ft w w' p F S := by
  obtain ⟨F', h1, h2, h3⟩ := h
  exact ⟨F', h1, (Chg.drew F w).trans h2 (fun _ _ h => h), h3⟩

set_option maxHeartbeats 1000000 in
set_option maxRecDepth 100000 in
theorem syncP (p : Nat) (F : Nat → Prop) (S : St) (w : World) (f : Int) (h : Dk 64 79 w p F S) (hf : S.falls ≤ 1099511627776) :
    Calls Tryz.prog 80 #[.pointer (some ⟨p, 0, none⟩), .int .i64 f] w fun e w' => e = .returned (.int .i64 (S.sync f).1) ∧ Dks 64 79 w w' p F (S.sync f).2 := by
  have hh := hidden (refusalP p F S w f h)
  obtain ⟨er, her⟩ : ∃ er, S.refuse f = er := ⟨_, rfl⟩
  obtain ⟨q, hq⟩ : ∃ q, S.sync f = q := ⟨_, rfl⟩
  rw [hq]
  unfold St.sync at hq
  rw [her] at hq hh
  have HDk := hidden h
  have HOP := hidden (opP p F S w h hf)
  clear h
  by_cases h0 : er = 0
  · subst h0
    obtain ⟨hon, hf0, hf1⟩ := refuse_no her
    rw [if_neg (by simp)] at hq
    have HOK := hidden (op_ok (S := S))
    obtain ⟨S2, hS2⟩ : ∃ S2, S.op = S2 := ⟨_, rfl⟩
    obtain ⟨e2, S2⟩ := S2
    rw [hS2] at HOP HOK hq
    clear hS2
    by_cases h2 : e2 = 0
    · subst h2
      rw [if_neg (by simp)] at hq
      obtain ⟨hL2, _, _⟩ := HOK.out rfl
      simp only at hL2
      obtain ⟨i, rfl⟩ : ∃ i : Nat, f = (i : Int) := ⟨f.toNat, by omega⟩
      have hi : i < S2.L.length := by rw [hL2]; omega
      obtain ⟨x, hx⟩ : ∃ x, S2.L[i]? = some x := ⟨_, List.getElem?_eq_getElem hi⟩
      rw [Int.toNat_natCast] at hq
      simp only [hx] at hq
      have HX := hidden hx
      have HQ := hidden hq
      clear hq hx hL2 hf0 hf1 her hon hi
      go_enter Tryz.func80, Tryz.ntmps80
      go_wp2_with fail
      refine hh.out.mono ?_
      rintro e w' ⟨rfl, rfl⟩
      go_wp2_with fail
      refine HOP.out.mono ?_
      rintro e w2 ⟨rfl, F2, k1, k2, k3⟩
      obtain ⟨fb, fc, ad, c, c0, c1, c2, f0, f1, g1, g2, g3, g4, g5, G1, G2⟩ := k1.file ty80 i x HX.out
      obtain ⟨N, hN⟩ : ∃ N, S2.L.length = N := ⟨_, rfl⟩
      rw [hN] at c0 g4 g5
      obtain ⟨n, hn⟩ : ∃ n, x.b.length = n := ⟨_, rfl⟩
      have HG := hidden G1
      rw [hn] at c1 g1 g2 g3 HG
      have HN := hidden hn
      have HK1 := hidden k1
      have HK2 := hidden k2
      have HK3 := hidden k3
      clear k1 k2 k3 G1 G2 hN hn
      go_wp2_with fail
      go_region
      go_wp2_with fail
      go_ret
      have hfin := (Dks.trans HK2.out HK3.out (HG.out n (Nat.le_refl _))).drew
      refine ⟨by rw [← HQ.out]; rfl, ?_⟩
      rw [← HQ.out, HN.out]
      exact hfin
    · rw [if_pos h2] at hq
      subst hq
      go_enter Tryz.func80, Tryz.ntmps80
      go_wp2_with fail
      refine hh.out.mono ?_
      rintro e w' ⟨rfl, rfl⟩
      go_wp2_with fail
      refine HOP.out.mono ?_
      rintro e w2 ⟨rfl, k⟩
      have HK := hidden k
      clear k
      go_wp2_with fail
      go_ret
      exact ⟨rfl, HK.out⟩
  · rw [if_pos h0] at hq
    subst hq
    go_enter Tryz.func80, Tryz.ntmps80
    go_wp2_with fail
    refine hh.out.mono ?_
    rintro e w' ⟨rfl, rfl⟩
    go_wp2_with fail
    go_ret
    exact ⟨rfl, _, HDk.out, Chg.refl _ _, New.refl _ _⟩

set_option maxHeartbeats 1000000 in
set_option maxRecDepth 100000 in
theorem truncateP (p : Nat) (F : Nat → Prop) (S : St) (w : World) (f n : Int) (h : Dk 64 79 w p F S) (hf : S.falls ≤ 1099511627776) (hn : -9223372036854775808 ≤ n ∧ n ≤ 9223372036854775807) :
    Calls Tryz.prog 43 #[.pointer (some ⟨p, 0, none⟩), .int .i64 f, .int .i64 n] w fun e w' => e = .returned (.int .i64 (S.truncate f n).1) ∧ Dks 64 79 w w' p F (S.truncate f n).2 := by
  have hh := hidden (refusalP p F S w f h)
  obtain ⟨er, her⟩ : ∃ er, S.refuse f = er := ⟨_, rfl⟩
  obtain ⟨q, hq⟩ : ∃ q, S.truncate f n = q := ⟨_, rfl⟩
  rw [hq]
  unfold St.truncate at hq
  rw [her] at hq hh
  have HDk := hidden h
  have HOP := hidden (opP p F S w h hf)
  by_cases h0 : er = 0
  · subst h0
    obtain ⟨hon, hf0, hf1⟩ := refuse_no her
    rw [if_neg (by simp)] at hq
    obtain ⟨i, rfl⟩ : ∃ i : Nat, f = (i : Int) := ⟨f.toNat, by omega⟩
    have hi : i < S.L.length := by omega
    obtain ⟨x, hx⟩ : ∃ x, S.L[i]? = some x := ⟨_, List.getElem?_eq_getElem hi⟩
    obtain ⟨fb, fc, ad, c, c0, c1, c2, f0, f1, g1, g2, g3, g4, g5, G1, G2⟩ := h.file ty80 i x hx
    rw [Int.toNat_natCast] at hq
    simp only [hx] at hq
    obtain ⟨N, hN⟩ : ∃ N, S.L.length = N := ⟨_, rfl⟩
    rw [hN] at c0 g4 g5
    obtain ⟨m, hm⟩ : ∃ m, x.b.length = m := ⟨_, rfl⟩
    rw [hm] at c1 g1 g2 g3 hq
    have HX := hidden hx
    have HM := hidden hm
    clear h hx G1 G2 hN hf0 hf1 her hon hi hm c2 f0 f1
    by_cases hbad : n < 0 ∨ (m : Int) < n
    · rw [if_pos hbad] at hq
      subst hq
      by_cases hn0 : n < 0
      · clear hbad
        go_enter Tryz.func43, Tryz.ntmps43
        go_wp2_with fail
        refine hh.out.mono ?_
        rintro e w' ⟨rfl, rfl⟩
        go_wp2_with fail
        go_ret
        exact ⟨rfl, _, HDk.out, Chg.refl _ _, New.refl _ _⟩
      · have hn1 : (m : Int) < n := by omega
        have hn2 : 0 ≤ n := by omega
        clear hbad
        go_enter Tryz.func43, Tryz.ntmps43
        go_wp2_with fail
        refine hh.out.mono ?_
        rintro e w' ⟨rfl, rfl⟩
        go_wp2_with fail
        go_ret
        exact ⟨rfl, _, HDk.out, Chg.refl _ _, New.refl _ _⟩
    · rw [if_neg hbad] at hq
      obtain ⟨t, rfl⟩ : ∃ t : Nat, n = (t : Int) := ⟨n.toNat, by omega⟩
      rw [Int.toNat_natCast] at hq
      have htm : t ≤ m := by omega
      clear hbad
      have HOK := hidden (op_ok (S := S))
      obtain ⟨S2, hS2⟩ : ∃ S2, S.op = S2 := ⟨_, rfl⟩
      obtain ⟨e2, S2⟩ := S2
      rw [hS2] at HOP HOK hq
      clear hS2
      by_cases h2 : e2 = 0
      · subst h2
        rw [if_neg (by simp)] at hq
        obtain ⟨hL2, _, _⟩ := HOK.out rfl
        simp only at hL2 hq
        have HL2 := hidden hL2
        have HQ := hidden hq
        clear hq hL2
        go_enter Tryz.func43, Tryz.ntmps43
        go_wp2_with fail
        refine hh.out.mono ?_
        rintro e w' ⟨rfl, rfl⟩
        go_wp2_with fail
        refine HOP.out.mono ?_
        rintro e w2 ⟨rfl, F2, k1, k2, k3⟩
        obtain ⟨fb, fc, ad, c, c0, c1, c2, f0, f1, g1, g2, g3, g4, g5, G1, G2⟩ := k1.file ty80 i x (by rw [HL2.out]; exact HX.out)
        obtain ⟨N2, hN⟩ : ∃ N2, S2.L.length = N2 := ⟨_, rfl⟩
        rw [hN] at c0 g4 g5
        rw [HM.out] at c1 g1 g2 g3 G2
        have HG := hidden G2
        have HK1 := hidden k1
        have HK2 := hidden k2
        have HK3 := hidden k3
        clear k1 k2 k3 G1 G2 hN
        go_wp2_with fail
        refine (cut_walk fb (i * 2) ad m c x.n t w2 (by omega) c1 c2 f0 f1 g1 g2 g3 htm _ rfl).mono ?_
        rintro e w3 ⟨rfl, rfl⟩
        go_wp2_with fail
        go_ret
        refine ⟨by rw [← HQ.out]; rfl, ?_⟩
        rw [← HQ.out]
        exact Dks.trans HK2.out HK3.out (HG.out t (min x.n t) htm (by omega))
      · rw [if_pos h2] at hq
        subst hq
        go_enter Tryz.func43, Tryz.ntmps43
        go_wp2_with fail
        refine hh.out.mono ?_
        rintro e w' ⟨rfl, rfl⟩
        go_wp2_with fail
        refine HOP.out.mono ?_
        rintro e w2 ⟨rfl, k⟩
        have HK := hidden k
        clear k
        go_wp2_with fail
        go_ret
        exact ⟨rfl, HK.out⟩
  · rw [if_pos h0] at hq
    subst hq
    go_enter Tryz.func43, Tryz.ntmps43
    go_wp2_with fail
    refine hh.out.mono ?_
    rintro e w' ⟨rfl, rfl⟩
    go_wp2_with fail
    go_ret
    exact ⟨rfl, _, HDk.out, Chg.refl _ _, New.refl _ _⟩

theorem built78v (o : Int) (g t : Nat) : Tryz.prog.built 62 [(0, .bool true), (1, .int .i64 o), (2, .slice (some ⟨g, 0, none⟩) t t)] = some #[.bool true, .int .i64 o, .slice (some ⟨g, 0, none⟩) t t] := by kernel_rfl

set_option maxHeartbeats 1000000 in
set_option maxRecDepth 100000 in
theorem fuseP (p : Nat) (F : Nat → Prop) (S : St) (o : Int) (ka : Option Addr) (kn kc : Nat) (K : List Int) (w : World) (h : Dk 64 79 w p F S) (hS : Sn w ka kn K) (hkc : kn ≤ kc) (ho : -9223372036854775808 ≤ o ∧ o ≤ 9223372036854775807) :
    Calls Tryz.prog 26 #[.pointer (some ⟨p, 0, none⟩), .int .i64 o, .slice ka kn kc] w fun e w' => e = .returned (.int .i64 (S.setFuse o K).1) ∧ Dks 64 79 w w' p F (S.setFuse o K).2 := by
  have HDk := hidden h
  obtain ⟨fb, fc, rs, set, ops, kv, kl, h, hL, hfu, rfl⟩ := h
  have hn : S.L.length = rs.length := by rw [hL]; simp
  have c0 := h.blk.cell 0
  have c1 := h.blk.cell 1
  simp only [List.getElem?_cons_succ, List.getElem?_cons_zero] at c0 c1
  have h8 := h.n8
  obtain ⟨N, hN⟩ : ∃ N, rs.length = N := ⟨_, rfl⟩
  rw [hN] at c0 h8 hn
  have HH := hidden h
  have HL := hidden hL
  have HS := hidden hS
  have HN := hidden hN
  clear h hL hfu hS hN
  obtain ⟨q, hq⟩ : ∃ q, S.setFuse o K = q := ⟨_, rfl⟩
  rw [hq]
  unfold St.setFuse at hq
  rw [hn] at hq
  obtain ⟨on, hon⟩ : ∃ on, S.on = on := ⟨_, rfl⟩
  rw [hon] at c1 hq
  have HON := hidden hon
  clear hon hn
  cases on with
  | false =>
    rw [if_pos rfl] at hq
    subst hq
    go_enter Tryz.func26, Tryz.ntmps26
    go_wp2_with fail
    go_ret
    exact ⟨rfl, _, HDk.out, Chg.refl _ _, New.refl _ _⟩
  | true =>
    rw [if_neg (by decide)] at hq
    by_cases h0 : o < 0
    · rw [if_pos h0] at hq
      subst hq
      go_enter Tryz.func26, Tryz.ntmps26
      go_wp2_with fail
      go_ret
      exact ⟨rfl, _, HDk.out, Chg.refl _ _, New.refl _ _⟩
    · rw [if_neg h0] at hq
      have h0' : 0 ≤ o := by omega
      have HQ := hidden hq
      clear hq h0
      obtain ⟨t, ht⟩ : ∃ t, min kn N = t := ⟨_, rfl⟩
      have htk : t ≤ kn := by omega
      have ht8 : t ≤ 8 := by omega
      have HB := hidden HH.out.blk
      have HT := hidden ht
      have key : ∀ w2, w2.ownsRow w.heap.size 3 1 (.slice (some ⟨w.heap.size, 0, none⟩) t t) t (cellsI (K.take t)) → Below w.heap.size w w2 → Dks 64 79 w (w2.setCells p 3 [.bool true, .int .i64 o, .slice (some ⟨w.heap.size, 0, none⟩) t t]) p (FPd p fb rs kv) q.2 := by
        intro w2 ho2 hb2
        have hlt := HB.out.lt
        have B2 := HB.out.later hb2
        have hS3 := B2.sets [.bool true, .int .i64 o, .slice (some ⟨w.heap.size, 0, none⟩) t t] 3 _ _ (by simp)
        simp only [List.set_cons_succ, List.set_cons_zero, List.take_succ_cons, List.take_zero, List.length_cons, List.length_nil, List.drop_succ_cons, List.drop_nil, List.cons_append, List.nil_append, List.append_nil, Nat.zero_add, Nat.reduceAdd] at hS3
        have hC3 : Chg (fun i => i = p) w2 _ := chg_sets (fun i => i = p) p rfl [.bool true, .int .i64 o, .slice (some ⟨w.heap.size, 0, none⟩) t t] 3 w2
        have hlen : (K.take t).length = t := by have := HS.out.len; simp; omega
        have hD := (HH.out.chg (Chg.of_below (F := fun _ => False) hb2) (fun _ _ h => h)).swap ty80 hC3 (on' := S.on) (falls' := S.falls) (set' := true) (ops' := o.toNat) (kv' := .slice (some ⟨w.heap.size, 0, none⟩) t t) (kl' := K.take t) (by rw [Int.toNat_of_nonneg h0']; exact hS3) (by rw [hlen]; exact owns_zero ho2) (HS.out.int.take t) (by omega) (by rw [hlen]; omega)
        rw [HON.out] at hD
        rw [← HQ.out]
        refine ⟨FPd p fb rs (.slice (some ⟨w.heap.size, 0, none⟩) t t), ⟨fb, fc, rs, true, o.toNat, .slice (some ⟨w.heap.size, 0, none⟩) t t, K.take t, hD, HL.out, ?_, rfl⟩, (Chg.of_below (F := FPd p fb rs kv) hb2).trans hC3 (fun i _ hi => .inl hi), FPd_nokeep (fun g hg => .inr (by have e : w.heap.size = g := Option.some.inj hg; omega))⟩
        show some (o.toNat, K.take N) = some (o.toNat, (K.take t).take rs.length)
        rw [List.take_take, HN.out]
        have hl := HS.out.len
        by_cases hk : kn ≤ N
        · rw [List.take_of_length_le (by omega), List.take_of_length_le (by omega)]
        · rw [show min N t = N by omega]
      have HKEY := hidden key
      clear key
      by_cases hk : kn ≤ N
      · have htt : t = kn := by omega
        clear ht
        subst htt
        have hki : ¬ ((N : Int) < (t : Int)) := by omega
        go_enter Tryz.func26, Tryz.ntmps26
        go_wp2_with fail
        refine (copied64 ka t kc (K.take t) w (HS.out.take htk) (by omega)).mono ?_
        rintro e w2 ⟨rfl, ho2, hb2⟩
        have HO2 := hidden ho2
        have HB2 := hidden hb2
        have HBB := hidden (HB.out.later hb2)
        clear ho2 hb2
        go_wp2_with (first
          | (refine wpList_build_to rfl 62 #[(0, .const (.bool true)), (1, .tmp 15), (2, .tmp 26)] rfl [(0, .bool true), (1, .int .i64 o), (2, .slice (some ⟨w.heap.size, 0, none⟩) t t)] #[.bool true, .int .i64 o, .slice (some ⟨w.heap.size, 0, none⟩) t t] ?_ (built78v _ _ _) ?_; kernel_rfl)
          | (refine wpList_store_mid rfl 62 (.tmp 29) (.tmp 27) rfl p 3 #[.bool true, .int .i64 o, .slice (some ⟨w.heap.size, 0, none⟩) t t] rfl rfl (HBB.out.there 3 3 (by simp)) size78 (by simp [Value.oneCell']) ?_))
        go_ret
        refine ⟨by rw [← HQ.out]; rfl, HKEY.out w2 HO2.out HB2.out⟩
      · have htt : t = N := by omega
        clear ht
        subst htt
        have hki : (t : Int) < (kn : Int) := by omega
        go_enter Tryz.func26, Tryz.ntmps26
        go_wp2_with fail
        refine (copied64 ka t kc (K.take t) w (HS.out.take htk) (by omega)).mono ?_
        rintro e w2 ⟨rfl, ho2, hb2⟩
        have HO2 := hidden ho2
        have HB2 := hidden hb2
        have HBB := hidden (HB.out.later hb2)
        clear ho2 hb2
        go_wp2_with (first
          | (refine wpList_build_to rfl 62 #[(0, .const (.bool true)), (1, .tmp 15), (2, .tmp 26)] rfl [(0, .bool true), (1, .int .i64 o), (2, .slice (some ⟨w.heap.size, 0, none⟩) t t)] #[.bool true, .int .i64 o, .slice (some ⟨w.heap.size, 0, none⟩) t t] ?_ (built78v _ _ _) ?_; kernel_rfl)
          | (refine wpList_store_mid rfl 62 (.tmp 29) (.tmp 27) rfl p 3 #[.bool true, .int .i64 o, .slice (some ⟨w.heap.size, 0, none⟩) t t] rfl rfl (HBB.out.there 3 3 (by simp)) size78 (by simp [Value.oneCell']) ?_))
        go_ret
        refine ⟨by rw [← HQ.out]; rfl, HKEY.out w2 HO2.out HB2.out⟩

end Go.Proofs.YtnfjhdedcnbdbaaGreat
