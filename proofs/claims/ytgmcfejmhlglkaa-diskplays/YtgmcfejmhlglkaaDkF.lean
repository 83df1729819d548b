/-
  Sync, Truncate, Fuse. The program's.
-/
import Derived.Test.YtgmcfejmhlglkaaDkD
namespace Go.Proofs.Ytgmcfejmhlglkaa
open Go.RowKit
set_option linter.unusedVariables false
set_option linter.unusedSimpArgs false

theorem op_ok {S : St} (h : S.op.1 = 0) : S.op.2.L = S.L ∧ S.op.2.falls = S.falls ∧ S.op.2.on = S.on := by
  unfold St.op at *
  split at h
  · rename_i e
    simp only [e]
    exact ⟨trivial, trivial, trivial⟩
  · cases h
  · rename_i e
    simp only [e]
    exact ⟨trivial, trivial, trivial⟩

/-- A file of a disk: what may be set. -/
theorem Dk.file {dt ft : TypeId} {w : World} {p : Nat} {F : Nat → Prop} {S : St} (ht : Ty4 dt ft) (h : Dk dt ft w p F S) (i : Nat) (x : Fl) (hx : S.L[i]? = some x) :
    ∃ fb fc ad c, w.cell? ⟨p, 0, none⟩ = some (.slice (some ⟨fb, 0, none⟩) S.L.length fc) ∧ w.cell? ⟨fb, i * 2, none⟩ = some (.slice ad x.b.length c) ∧ w.cell? ⟨fb, i * 2 + 1, none⟩ = some (.int .i64 (x.n : Int)) ∧ w.frozen? ⟨fb, i * 2, none⟩ = false ∧ w.frozen? ⟨fb, i * 2 + 1, none⟩ = false ∧
      x.n ≤ x.b.length ∧ x.b.length ≤ 16777216 ∧ x.b.length ≤ c ∧ S.L.length ≤ 8 ∧ i < S.L.length ∧
      (∀ (s : Nat), s ≤ x.b.length → Dks dt ft w (w.setCell ⟨fb, i * 2 + 1, none⟩ (.int .i64 (s : Int))) p F { S with L := S.L.set i ⟨x.b, s⟩ }) ∧
      (∀ (t s : Nat), t ≤ x.b.length → s ≤ t → Dks dt ft w ((w.setCell ⟨fb, i * 2, none⟩ (.slice ad t c)).setCell ⟨fb, i * 2 + 1, none⟩ (.int .i64 (s : Int))) p F { S with L := S.L.set i ⟨x.b.take t, s⟩ }) := by
  obtain ⟨fb, fc, rs, set, ops, kv, kl, h, hL, hfu, rfl⟩ := h
  have hn : S.L.length = rs.length := by rw [hL]; simp
  obtain ⟨r, hr, hrx⟩ : ∃ r, rs[i]? = some r ∧ r.2 = x := by
    rw [hL] at hx
    simpa using hx
  have hR := h.row i r hr
  subst hrx
  obtain ⟨ad, c, hv⟩ := owns_form hR.row
  have h1 := hR.row
  have c0 := owns_cell h.files _ _ (fcells_row rs i r hr)
  rw [hv] at h1 c0
  have hil := (List.getElem?_eq_some_iff.1 hr).1
  refine ⟨fb, fc, ad, c, by rw [hn]; exact h.blk.cell 0, c0, owns_cell h.files _ _ (fcells_n rs i r hr), owns_frozen h.files _, owns_frozen h.files _, hR.le, hR.top, owns_le h1, by rw [hn]; exact h.n8, by rw [hn]; exact hil, ?_, ?_⟩
  · intro s hs
    have hC := Chg.set ⟨fb, i * 2 + 1, none⟩ (.int .i64 (s : Int)) w
    have hrow : FR (w.setCell ⟨fb, i * 2 + 1, none⟩ (.int .i64 (s : Int))) (r.1, ⟨r.2.b, s⟩) := ⟨hC.owns hR.row (fun g hg e => by
      have e2 : g = fb := e
      subst e2
      exact ht.2.2.2.1 (h.tgf.one (h.tgr i r hr _ hg))), hR.byte, hs, hR.top⟩
    refine ⟨_, ⟨fb, fc, rs.set i (r.1, ⟨r.2.b, s⟩), set, ops, kv, kl, h.file ht i r _ hr (hC.mono (fun _ _ h => .inl h)) ?_ hrow (.inl rfl), ?_, ?_, rfl⟩, hC.mono (fun k _ e => .inr (.inl e)), FPd_file hr (.inl rfl)⟩
    · rw [fcells_set_n rs i r hr]
      exact owns_setv h.files (i * 2 + 1) _ (by rw [fcells_length]; omega)
    · simp [hL, List.map_set]
    · simpa using hfu
  · intro t s htl hst
    obtain ⟨d1, d2, d3⟩ := h.cutTo ht i r hr ad c hv t s htl hst rfl
    refine ⟨_, ⟨fb, fc, _, set, ops, kv, kl, d1, ?_, ?_, rfl⟩, d2.mono (fun k _ e => .inr (.inl e)), FPd_file hr (.inl d3)⟩
    · simp [hL, List.map_set]
    · simpa using hfu
theorem Dks.drew {dt ft : TypeId} {w w' : World} {p : Nat} {F : Nat → Prop} {S : St} (h : Dks dt ft w w' p F S) : Dks dt ft w w'.drew p F S := by
  obtain ⟨F', h1, h2, h3⟩ := h
  exact ⟨F', h1.chg (Chg.drew (fun _ => False) _) (fun _ _ h => h), h2.trans (Chg.drew (fun _ => False) _) (fun _ _ h => h.elim), h3⟩
theorem Dks.drew0 {dt ft : TypeId} {w w' : World} {p : Nat} {F : Nat → Prop} {S : St} (h : Dks dt ft w.drew w' p F S) : Dks dt ft w w' p F S := by
  obtain ⟨F', h1, h2, h3⟩ := h
  exact ⟨F', h1, (Chg.drew F w).trans h2 (fun _ _ h => h), h3⟩

set_option maxHeartbeats 1000000 in
theorem syncP (p : Nat) (F : Nat → Prop) (S : St) (w : World) (f : Int) (h : Dk 80 82 w p F S) (hf : S.falls ≤ 1099511627776) :
    Calls Try.prog 13 #[.pointer (some ⟨p, 0, none⟩), .int .i64 f] w fun e w' => e = .returned (.int .i64 (S.sync f).1) ∧ Dks 80 82 w w' p F (S.sync f).2 := by
  have hh := hidden (refusalP p F S w f h)
  obtain ⟨er, her⟩ : ∃ er, S.refuse f = er := ⟨_, rfl⟩
  obtain ⟨q, hq⟩ : ∃ q, S.sync f = q := ⟨_, rfl⟩
  rw [hq]
  unfold St.sync at hq
  rw [her] at hq hh
  have HDk := hidden h
  have HOP := hidden (opP p F S w h hf)
  clear h
  by_cases h0 : er = 0
  · subst h0
    obtain ⟨hon, hf0, hf1⟩ := refuse_no her
    rw [if_neg (by simp)] at hq
    have HOK := hidden (op_ok (S := S))
    obtain ⟨S2, hS2⟩ : ∃ S2, S.op = S2 := ⟨_, rfl⟩
    obtain ⟨e2, S2⟩ := S2
    rw [hS2] at HOP HOK hq
    clear hS2
    by_cases h2 : e2 = 0
    · subst h2
      rw [if_neg (by simp)] at hq
      obtain ⟨hL2, _, _⟩ := HOK.out rfl
      simp only at hL2
      obtain ⟨i, rfl⟩ : ∃ i : Nat, f = (i : Int) := ⟨f.toNat, by omega⟩
      have hi : i < S2.L.length := by rw [hL2]; omega
      obtain ⟨x, hx⟩ : ∃ x, S2.L[i]? = some x := ⟨_, List.getElem?_eq_getElem hi⟩
      rw [Int.toNat_natCast] at hq
      simp only [hx] at hq
      have HX := hidden hx
      have HQ := hidden hq
      clear hq hx hL2 hf0 hf1 her hon hi
      go_enter Try.func13, Try.ntmps13
      go_wp2_with fail
      refine hh.out.mono ?_
      rintro e w' ⟨rfl, rfl⟩
      go_wp2_with fail
      refine HOP.out.mono ?_
      rintro e w2 ⟨rfl, F2, k1, k2, k3⟩
      obtain ⟨fb, fc, ad, c, c0, c1, c2, f0, f1, g1, g2, g3, g4, g5, G1, G2⟩ := k1.file ty80 i x HX.out
      obtain ⟨N, hN⟩ : ∃ N, S2.L.length = N := ⟨_, rfl⟩
      rw [hN] at c0 g4 g5
      obtain ⟨n, hn⟩ : ∃ n, x.b.length = n := ⟨_, rfl⟩
      have HG := hidden G1
      rw [hn] at c1 g1 g2 g3 HG
      have HN := hidden hn
      have HK1 := hidden k1
      have HK2 := hidden k2
      have HK3 := hidden k3
      clear k1 k2 k3 G1 G2 hN hn
      go_wp2_with fail
      go_region
      go_wp2_with fail
      go_ret
      have hfin := (Dks.trans HK2.out HK3.out (HG.out n (Nat.le_refl _))).drew
      refine ⟨by rw [← HQ.out]; rfl, ?_⟩
      rw [← HQ.out, HN.out]
      exact hfin
    · rw [if_pos h2] at hq
      subst hq
      go_enter Try.func13, Try.ntmps13
      go_wp2_with fail
      refine hh.out.mono ?_
      rintro e w' ⟨rfl, rfl⟩
      go_wp2_with fail
      refine HOP.out.mono ?_
      rintro e w2 ⟨rfl, k⟩
      have HK := hidden k
      clear k
      go_wp2_with fail
      go_ret
      exact ⟨rfl, HK.out⟩
  · rw [if_pos h0] at hq
    subst hq
    go_enter Try.func13, Try.ntmps13
    go_wp2_with fail
    refine hh.out.mono ?_
    rintro e w' ⟨rfl, rfl⟩
    go_wp2_with fail
    go_ret
    exact ⟨rfl, _, HDk.out, Chg.refl _ _, New.refl _ _⟩

set_option maxHeartbeats 1000000 in
theorem truncateP (p : Nat) (F : Nat → Prop) (S : St) (w : World) (f n : Int) (h : Dk 80 82 w p F S) (hf : S.falls ≤ 1099511627776) (hn : -9223372036854775808 ≤ n ∧ n ≤ 9223372036854775807) :
    Calls Try.prog 14 #[.pointer (some ⟨p, 0, none⟩), .int .i64 f, .int .i64 n] w fun e w' => e = .returned (.int .i64 (S.truncate f n).1) ∧ Dks 80 82 w w' p F (S.truncate f n).2 := by
  have hh := hidden (refusalP p F S w f h)
  obtain ⟨er, her⟩ : ∃ er, S.refuse f = er := ⟨_, rfl⟩
  obtain ⟨q, hq⟩ : ∃ q, S.truncate f n = q := ⟨_, rfl⟩
  rw [hq]
  unfold St.truncate at hq
  rw [her] at hq hh
  have HDk := hidden h
  have HOP := hidden (opP p F S w h hf)
  by_cases h0 : er = 0
  · subst h0
    obtain ⟨hon, hf0, hf1⟩ := refuse_no her
    rw [if_neg (by simp)] at hq
    obtain ⟨i, rfl⟩ : ∃ i : Nat, f = (i : Int) := ⟨f.toNat, by omega⟩
    have hi : i < S.L.length := by omega
    obtain ⟨x, hx⟩ : ∃ x, S.L[i]? = some x := ⟨_, List.getElem?_eq_getElem hi⟩
    obtain ⟨fb, fc, ad, c, c0, c1, c2, f0, f1, g1, g2, g3, g4, g5, G1, G2⟩ := h.file ty80 i x hx
    rw [Int.toNat_natCast] at hq
    simp only [hx] at hq
    obtain ⟨N, hN⟩ : ∃ N, S.L.length = N := ⟨_, rfl⟩
    rw [hN] at c0 g4 g5
    obtain ⟨m, hm⟩ : ∃ m, x.b.length = m := ⟨_, rfl⟩
    rw [hm] at c1 g1 g2 g3 hq
    have HX := hidden hx
    have HM := hidden hm
    clear h hx G1 G2 hN hf0 hf1 her hon hi hm c2 f0 f1
    by_cases hbad : n < 0 ∨ (m : Int) < n
    · rw [if_pos hbad] at hq
      subst hq
      by_cases hn0 : n < 0
      · clear hbad
        go_enter Try.func14, Try.ntmps14
        go_wp2_with fail
        refine hh.out.mono ?_
        rintro e w' ⟨rfl, rfl⟩
        go_wp2_with fail
        go_ret
        exact ⟨rfl, _, HDk.out, Chg.refl _ _, New.refl _ _⟩
      · have hn1 : (m : Int) < n := by omega
        have hn2 : 0 ≤ n := by omega
        clear hbad
        go_enter Try.func14, Try.ntmps14
        go_wp2_with fail
        refine hh.out.mono ?_
        rintro e w' ⟨rfl, rfl⟩
        go_wp2_with fail
        go_ret
        exact ⟨rfl, _, HDk.out, Chg.refl _ _, New.refl _ _⟩
    · rw [if_neg hbad] at hq
      obtain ⟨t, rfl⟩ : ∃ t : Nat, n = (t : Int) := ⟨n.toNat, by omega⟩
      rw [Int.toNat_natCast] at hq
      have htm : t ≤ m := by omega
      clear hbad
      have HOK := hidden (op_ok (S := S))
      obtain ⟨S2, hS2⟩ : ∃ S2, S.op = S2 := ⟨_, rfl⟩
      obtain ⟨e2, S2⟩ := S2
      rw [hS2] at HOP HOK hq
      clear hS2
      by_cases h2 : e2 = 0
      · subst h2
        rw [if_neg (by simp)] at hq
        obtain ⟨hL2, _, _⟩ := HOK.out rfl
        simp only at hL2 hq
        have HL2 := hidden hL2
        have HQ := hidden hq
        clear hq hL2
        go_enter Try.func14, Try.ntmps14
        go_wp2_with fail
        refine hh.out.mono ?_
        rintro e w' ⟨rfl, rfl⟩
        go_wp2_with fail
        refine HOP.out.mono ?_
        rintro e w2 ⟨rfl, F2, k1, k2, k3⟩
        obtain ⟨fb, fc, ad, c, c0, c1, c2, f0, f1, g1, g2, g3, g4, g5, G1, G2⟩ := k1.file ty80 i x (by rw [HL2.out]; exact HX.out)
        obtain ⟨N2, hN⟩ : ∃ N2, S2.L.length = N2 := ⟨_, rfl⟩
        rw [hN] at c0 g4 g5
        rw [HM.out] at c1 g1 g2 g3 G2
        have HG := hidden G2
        have HK1 := hidden k1
        have HK2 := hidden k2
        have HK3 := hidden k3
        clear k1 k2 k3 G1 G2 hN
        go_wp2_with fail
        refine (cut_walk fb (i * 2) ad m c x.n t w2 (by omega) c1 c2 f0 f1 g1 g2 g3 htm _ rfl).mono ?_
        rintro e w3 ⟨rfl, rfl⟩
        go_wp2_with fail
        go_ret
        refine ⟨by rw [← HQ.out]; rfl, ?_⟩
        rw [← HQ.out]
        exact Dks.trans HK2.out HK3.out (HG.out t (min x.n t) htm (by omega))
      · rw [if_pos h2] at hq
        subst hq
        go_enter Try.func14, Try.ntmps14
        go_wp2_with fail
        refine hh.out.mono ?_
        rintro e w' ⟨rfl, rfl⟩
        go_wp2_with fail
        refine HOP.out.mono ?_
        rintro e w2 ⟨rfl, k⟩
        have HK := hidden k
        clear k
        go_wp2_with fail
        go_ret
        exact ⟨rfl, HK.out⟩
  · rw [if_pos h0] at hq
    subst hq
    go_enter Try.func14, Try.ntmps14
    go_wp2_with fail
    refine hh.out.mono ?_
    rintro e w' ⟨rfl, rfl⟩
    go_wp2_with fail
    go_ret
    exact ⟨rfl, _, HDk.out, Chg.refl _ _, New.refl _ _⟩

theorem built78v (o : Int) (g t : Nat) : Try.prog.built 78 [(0, .bool true), (1, .int .i64 o), (2, .slice (some ⟨g, 0, none⟩) t t)] = some #[.bool true, .int .i64 o, .slice (some ⟨g, 0, none⟩) t t] := by kernel_rfl

set_option maxHeartbeats 1000000 in
theorem fuseP (p : Nat) (F : Nat → Prop) (S : St) (o : Int) (ka : Option Addr) (kn kc : Nat) (K : List Int) (w : World) (h : Dk 80 82 w p F S) (hS : Sn w ka kn K) (hkc : kn ≤ kc) (ho : -9223372036854775808 ≤ o ∧ o ≤ 9223372036854775807) :
    Calls Try.prog 21 #[.pointer (some ⟨p, 0, none⟩), .int .i64 o, .slice ka kn kc] w fun e w' => e = .returned (.int .i64 (S.setFuse o K).1) ∧ Dks 80 82 w w' p F (S.setFuse o K).2 := by
  have HDk := hidden h
  obtain ⟨fb, fc, rs, set, ops, kv, kl, h, hL, hfu, rfl⟩ := h
  have hn : S.L.length = rs.length := by rw [hL]; simp
  have c0 := h.blk.cell 0
  have c1 := h.blk.cell 1
  simp only [List.getElem?_cons_succ, List.getElem?_cons_zero] at c0 c1
  have h8 := h.n8
  obtain ⟨N, hN⟩ : ∃ N, rs.length = N := ⟨_, rfl⟩
  rw [hN] at c0 h8 hn
  have HH := hidden h
  have HL := hidden hL
  have HS := hidden hS
  have HN := hidden hN
  clear h hL hfu hS hN
  obtain ⟨q, hq⟩ : ∃ q, S.setFuse o K = q := ⟨_, rfl⟩
  rw [hq]
  unfold St.setFuse at hq
  rw [hn] at hq
  obtain ⟨on, hon⟩ : ∃ on, S.on = on := ⟨_, rfl⟩
  rw [hon] at c1 hq
  have HON := hidden hon
  clear hon hn
  cases on with
  | false =>
    rw [if_pos rfl] at hq
    subst hq
    go_enter Try.func21, Try.ntmps21
    go_wp2_with fail
    go_ret
    exact ⟨rfl, _, HDk.out, Chg.refl _ _, New.refl _ _⟩
  | true =>
    rw [if_neg (by decide)] at hq
    by_cases h0 : o < 0
    · rw [if_pos h0] at hq
      subst hq
      go_enter Try.func21, Try.ntmps21
      go_wp2_with fail
      go_ret
      exact ⟨rfl, _, HDk.out, Chg.refl _ _, New.refl _ _⟩
    · rw [if_neg h0] at hq
      have h0' : 0 ≤ o := by omega
      have HQ := hidden hq
      clear hq h0
      obtain ⟨t, ht⟩ : ∃ t, min kn N = t := ⟨_, rfl⟩
      have htk : t ≤ kn := by omega
      have ht8 : t ≤ 8 := by omega
      have HB := hidden HH.out.blk
      have HT := hidden ht
      have key : ∀ w2, w2.ownsRow w.heap.size 3 1 (.slice (some ⟨w.heap.size, 0, none⟩) t t) t (cellsI (K.take t)) → Below w.heap.size w w2 → Dks 80 82 w (w2.setCells p 3 [.bool true, .int .i64 o, .slice (some ⟨w.heap.size, 0, none⟩) t t]) p (FPd p fb rs kv) q.2 := by
        intro w2 ho2 hb2
        have hlt := HB.out.lt
        have B2 := HB.out.later hb2
        have hS3 := B2.sets [.bool true, .int .i64 o, .slice (some ⟨w.heap.size, 0, none⟩) t t] 3 _ _ (by simp)
        simp only [List.set_cons_succ, List.set_cons_zero, List.take_succ_cons, List.take_zero, List.length_cons, List.length_nil, List.drop_succ_cons, List.drop_nil, List.cons_append, List.nil_append, List.append_nil, Nat.zero_add, Nat.reduceAdd] at hS3
        have hC3 : Chg (fun i => i = p) w2 _ := chg_sets (fun i => i = p) p rfl [.bool true, .int .i64 o, .slice (some ⟨w.heap.size, 0, none⟩) t t] 3 w2
        have hlen : (K.take t).length = t := by have := HS.out.len; simp; omega
        have hD := (HH.out.chg (Chg.of_below (F := fun _ => False) hb2) (fun _ _ h => h)).swap ty80 hC3 (on' := S.on) (falls' := S.falls) (set' := true) (ops' := o.toNat) (kv' := .slice (some ⟨w.heap.size, 0, none⟩) t t) (kl' := K.take t) (by rw [Int.toNat_of_nonneg h0']; exact hS3) (by rw [hlen]; exact owns_zero ho2) (HS.out.int.take t) (by omega) (by rw [hlen]; omega)
        rw [HON.out] at hD
        rw [← HQ.out]
        refine ⟨FPd p fb rs (.slice (some ⟨w.heap.size, 0, none⟩) t t), ⟨fb, fc, rs, true, o.toNat, .slice (some ⟨w.heap.size, 0, none⟩) t t, K.take t, hD, HL.out, ?_, rfl⟩, (Chg.of_below (F := FPd p fb rs kv) hb2).trans hC3 (fun i _ hi => .inl hi), FPd_nokeep (fun g hg => .inr (by have e : w.heap.size = g := Option.some.inj hg; omega))⟩
        show some (o.toNat, K.take N) = some (o.toNat, (K.take t).take rs.length)
        rw [List.take_take, HN.out]
        have hl := HS.out.len
        by_cases hk : kn ≤ N
        · rw [List.take_of_length_le (by omega), List.take_of_length_le (by omega)]
        · rw [show min N t = N by omega]
      have HKEY := hidden key
      clear key
      by_cases hk : kn ≤ N
      · have htt : t = kn := by omega
        clear ht
        subst htt
        have hki : ¬ ((N : Int) < (t : Int)) := by omega
        go_enter Try.func21, Try.ntmps21
        go_wp2_with fail
        refine (copied64 ka t kc (K.take t) w (HS.out.take htk) (by omega)).mono ?_
        rintro e w2 ⟨rfl, ho2, hb2⟩
        have HO2 := hidden ho2
        have HB2 := hidden hb2
        have HBB := hidden (HB.out.later hb2)
        clear ho2 hb2
        go_wp2_with (first
          | (refine wpList_build_to rfl 78 #[(0, .const (.bool true)), (1, .tmp 15), (2, .tmp 26)] rfl [(0, .bool true), (1, .int .i64 o), (2, .slice (some ⟨w.heap.size, 0, none⟩) t t)] #[.bool true, .int .i64 o, .slice (some ⟨w.heap.size, 0, none⟩) t t] ?_ (built78v _ _ _) ?_; kernel_rfl)
          | (refine wpList_store_mid rfl 78 (.tmp 29) (.tmp 27) rfl p 3 #[.bool true, .int .i64 o, .slice (some ⟨w.heap.size, 0, none⟩) t t] rfl rfl (HBB.out.there 3 3 (by simp)) size78 (by simp [Value.oneCell']) ?_))
        go_ret
        refine ⟨by rw [← HQ.out]; rfl, HKEY.out w2 HO2.out HB2.out⟩
      · have htt : t = N := by omega
        clear ht
        subst htt
        have hki : (t : Int) < (kn : Int) := by omega
        go_enter Try.func21, Try.ntmps21
        go_wp2_with fail
        refine (copied64 ka t kc (K.take t) w (HS.out.take htk) (by omega)).mono ?_
        rintro e w2 ⟨rfl, ho2, hb2⟩
        have HO2 := hidden ho2
        have HB2 := hidden hb2
        have HBB := hidden (HB.out.later hb2)
        clear ho2 hb2
        go_wp2_with (first
          | (refine wpList_build_to rfl 78 #[(0, .const (.bool true)), (1, .tmp 15), (2, .tmp 26)] rfl [(0, .bool true), (1, .int .i64 o), (2, .slice (some ⟨w.heap.size, 0, none⟩) t t)] #[.bool true, .int .i64 o, .slice (some ⟨w.heap.size, 0, none⟩) t t] ?_ (built78v _ _ _) ?_; kernel_rfl)
          | (refine wpList_store_mid rfl 78 (.tmp 29) (.tmp 27) rfl p 3 #[.bool true, .int .i64 o, .slice (some ⟨w.heap.size, 0, none⟩) t t] rfl rfl (HBB.out.there 3 3 (by simp)) size78 (by simp [Value.oneCell']) ?_))
        go_ret
        refine ⟨by rw [← HQ.out]; rfl, HKEY.out w2 HO2.out HB2.out⟩

end Go.Proofs.Ytgmcfejmhlglkaa
