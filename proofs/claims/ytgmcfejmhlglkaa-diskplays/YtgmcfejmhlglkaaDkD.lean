/-
  Ops. The program's.
-/
import Derived.Test.YtgmcfejmhlglkaaDkC
namespace Go.Proofs.Ytgmcfejmhlglkaa
open Go.RowKit
set_option linter.unusedVariables false
set_option linter.unusedSimpArgs false

theorem New.mono_left {w : World} {F G H : Nat → Prop} (h : New w F H) (hs : ∀ i, F i → G i) : New w G H := fun i hi => (h i hi).imp (hs i) id
theorem FPd_keep_self {w : World} {p fb : Nat} {rs : List (Value × Fl)} {kv : Value} : New w (FPd p fb rs kv) (FPd p fb rs kv) := New.refl _ _

set_option maxHeartbeats 1000000 in
theorem opP (p : Nat) (F : Nat → Prop) (S : St) (w : World) (h : Dk 80 82 w p F S) (hf : S.falls ≤ 1099511627776) : Calls Try.prog 43 #[.pointer (some ⟨p, 0, none⟩)] w fun e w' => e = .returned (.int .i64 S.op.1) ∧ Dks 80 82 w w' p F S.op.2 := by
  have HDk := hidden h
  obtain ⟨fb, fc, rs, set, ops, kv, kl, h, hL, hfu, rfl⟩ := h
  have B0 := h.blk
  have c3 := B0.cell 3
  have c4 := B0.cell 4
  have c5 := B0.cell 5
  have f4 := B0.frozen 4
  simp only [List.getElem?_cons_succ, List.getElem?_cons_zero] at c3 c4 c5
  have HB := hidden B0
  have HH := hidden h
  have hopb := h.opsb
  clear B0 h
  obtain ⟨er, her⟩ : ∃ er, S.op.1 = er := ⟨_, rfl⟩
  obtain ⟨S', hS'⟩ : ∃ S', S.op.2 = S' := ⟨_, rfl⟩
  rw [her, hS']
  have HL := hidden hL
  have HFU := hidden hfu
  have HS' := hidden hS'
  clear hL hfu hS'
  cases set with
  | false =>
    have e1 : S.op = (0, S) := by unfold St.op; rw [HFU.out]; rfl
    rw [e1] at her HS'
    obtain rfl := her
    have HS2 : Hid (S = S') := HS'.out
    clear HS'
    go_enter Try.func43, Try.ntmps43
    go_wp2_with fail
    go_ret
    refine ⟨rfl, ?_⟩
    rw [← HS2.out]
    exact ⟨_, HDk.out, Chg.refl _ _, New.refl _ _⟩
  | true =>
    have e0 : S.fuse = some (ops, kl.take rs.length) := HFU.out
    cases ops with
    | zero =>
      have e1 : S.op = (40, S.fail (kl.take rs.length)) := by unfold St.op; rw [e0]
      rw [e1] at her HS'
      obtain rfl := her
      have HS2 : Hid (S.fail (kl.take rs.length) = S') := HS'.out
      clear HS' e1 e0
      obtain ⟨ka, kc, hkv⟩ := owns_form HH.out.keep
      subst hkv
      obtain ⟨kn, hkn⟩ : ∃ kn, kl.length = kn := ⟨_, rfl⟩
      have HKN := hidden hkn
      rw [hkn] at c5
      clear hkn
      go_enter Try.func43, Try.ntmps43
      go_wp2_with fail
      refine (failP p fb fc rs S.on S.falls true 0 _ kl ka kn kc kl w HH.out (sn_of_owns (HKN.out ▸ HH.out.keep) HH.out.kint) ?_ hf).mono ?_
      · intro x hx h0 e
        subst hx
        have := HH.out.tgk x.block rfl
        rw [e] at this
        exact absurd (this.one HH.out.tgf) (by decide)
      rintro e w' ⟨rfl, rs', hD, hLo, hC⟩
      have HD := hidden hD
      have HLo := hidden hLo
      have HC := hidden hC
      clear hD hLo hC
      go_wp2_with fail
      go_ret
      refine ⟨rfl, _, ⟨fb, fc, rs', false, 0, .slice none 0 0, [], ?_, ?_, ?_, rfl⟩, HC.out.mono ?_, HLo.out.fp w p fb _⟩
      · rw [← HS2.out]; exact HD.out
      · rw [← HS2.out]
        show loseAll S.L _ = _
        rw [HL.out, loseAll_take _ _ _ (by simp), HLo.out.all]
      · rw [← HS2.out]; rfl
      · rintro i _ (rfl | rfl)
        · exact .inl rfl
        · exact .inr (.inl rfl)
    | succ o =>
      have e1 : S.op = (0, { S with fuse := some (o, kl.take rs.length) }) := by unfold St.op; rw [e0]
      rw [e1] at her HS'
      obtain rfl := her
      have HS2 : Hid (({ S with fuse := some (o, kl.take rs.length) } : St) = S') := HS'.out
      clear HS' e1 e0
      have ho : ((o + 1 : Nat) : Int) = (o : Int) + 1 := by omega
      rw [ho] at c4
      clear ho
      have ho2 : (o : Int) + 1 - 1 = (o : Int) := by omega
      have ho3 : (o : Int) ≤ 9223372036854775806 := by omega
      have ho4 : ((o : Int) + 1 = 0) = False := by simp; omega
      go_enter Try.func43, Try.ntmps43
      go_wp2_with fail
      go_ret
      have hB := HB.out.set 4 (.int .i64 (o : Int))
      simp only [List.set_cons_succ, List.set_cons_zero] at hB
      have hC := Chg.set ⟨p, 4, none⟩ (.int .i64 (o : Int)) w
      refine ⟨rfl, _, ⟨fb, fc, rs, true, o, kv, kl, ?_, ?_, ?_, rfl⟩, hC.mono (fun i _ hi => .inl hi), New.refl _ _⟩
      · rw [← HS2.out]
        exact HH.out.swap ty80 hC hB HH.out.keep HH.out.kint (by omega) HH.out.klen
      · rw [← HS2.out]; exact HL.out
      · rw [← HS2.out]; rfl

theorem crashP (p : Nat) (F : Nat → Prop) (S : St) (ka : Option Addr) (kn kc : Nat) (K : List Int) (w : World) (h : Dk 80 82 w p F S) (hS : Sn w ka kn K) (hka : ∀ x, ka = some x → 0 < kn → ¬ F x.block) (hf : S.falls ≤ 1099511627776) :
    Calls Try.prog 15 #[.pointer (some ⟨p, 0, none⟩), .slice ka kn kc] w fun e w' => e = .returned (.tuple #[]) ∧ Dks 80 82 w w' p F (S.crash K) := by
  have HDk := hidden h
  obtain ⟨fb, fc, rs, set, ops, kv, kl, h, hL, hfu, rfl⟩ := h
  have c1 := h.blk.cell 1
  simp only [List.getElem?_cons_succ, List.getElem?_cons_zero] at c1
  have HH := hidden h
  have HL := hidden hL
  have HS := hidden hS
  have HKA := hidden hka
  clear h hL hfu hS hka
  obtain ⟨S', hS'⟩ : ∃ S', S.crash K = S' := ⟨_, rfl⟩
  rw [hS']
  have HS' := hidden hS'
  clear hS'
  obtain ⟨on, hon⟩ : ∃ on, S.on = on := ⟨_, rfl⟩
  rw [hon] at c1
  have HON := hidden hon
  clear hon
  cases on with
  | false =>
    go_enter Try.func15, Try.ntmps15
    go_wp2_with fail
    go_end0
    refine ⟨rfl, ?_⟩
    rw [← HS'.out]
    unfold St.crash
    rw [HON.out, if_neg (by decide)]
    exact ⟨_, HDk.out, Chg.refl _ _, New.refl _ _⟩
  | true =>
    go_enter Try.func15, Try.ntmps15
    go_wp2_with fail
    refine (failP p fb fc rs S.on S.falls set ops kv kl ka kn kc K w HH.out HS.out (fun x hx h0 e => HKA.out x hx h0 (.inr (.inl e))) hf).mono ?_
    rintro e w' ⟨rfl, rs', hD, hLo, hC⟩
    have HD := hidden hD
    have HLo := hidden hLo
    have HC := hidden hC
    clear hD hLo hC
    go_wp2_with fail
    go_end0
    have e2 : S' = S.fail K := by rw [← HS'.out]; unfold St.crash; rw [HON.out, if_pos rfl]
    rw [e2]
    refine ⟨rfl, _, ⟨fb, fc, rs', false, 0, _, _, HD.out, ?_, rfl, rfl⟩, HC.out.mono ?_, HLo.out.fp w p fb _⟩
    · show loseAll S.L _ = _
      rw [HL.out, HLo.out.all]
    · rintro i _ (rfl | rfl)
      · exact .inl rfl
      · exact .inr (.inl rfl)

set_option maxHeartbeats 1000000 in
theorem cut_walk (fb j : Nat) (ad : Option Addr) (n c m t : Nat) (w : World) (hj : j ≤ 100) (c0 : w.cell? ⟨fb, j, none⟩ = some (.slice ad n c)) (c1 : w.cell? ⟨fb, j + 1, none⟩ = some (.int .i64 (m : Int))) (f0 : w.frozen? ⟨fb, j, none⟩ = false) (f1 : w.frozen? ⟨fb, j + 1, none⟩ = false)
    (hm : m ≤ n) (hn : n ≤ 16777216) (hc : n ≤ c) (htn : t ≤ n) (s : Nat) (hs : s = min m t) :
    Calls Try.prog 44 #[.pointer (some ⟨fb, j, none⟩), .int .i64 (t : Int)] w fun e w' => e = .returned (.tuple #[]) ∧ w' = (w.setCell ⟨fb, j, none⟩ (.slice ad t c)).setCell ⟨fb, j + 1, none⟩ (.int .i64 (s : Int)) := by
  by_cases h1 : m ≤ t
  · have hs2 : s = m := by omega
    clear hs
    subst hs2
    go_enter Try.func44, Try.ntmps44
    go_wp2_with fail
    all_goals first
      | (go_end0; exact ⟨rfl, rfl⟩)
      | (exfalso; omega)
  · have hs2 : s = t := by omega
    clear hs
    subst hs2
    have h1' : s < m := by omega
    go_enter Try.func44, Try.ntmps44
    go_wp2_with fail
    all_goals first
      | (go_end0; exact ⟨rfl, rfl⟩)
      | (exfalso; omega)

theorem refuse_no {S : St} {f : Int} (h : S.refuse f = 0) : S.on = true ∧ 0 ≤ f ∧ f < S.L.length := by
  unfold St.refuse at h
  split at h
  · cases h
  · rename_i h1
    split at h
    · rename_i h2
      exact ⟨by simpa using h1, h2⟩
    · cases h

theorem Sl.part {w : World} {ad : Option Addr} {n A B : Nat} {l : List Int} (h : Sl w ad n l) (hAB : A + B ≤ n) : Sl w (Option.map (fun x => x.add A) ad) B ((l.drop A).take B) := by
  have hl := h.len
  refine ⟨by simp; omega, (h.byte.drop A).take B, fun j hj => ?_⟩
  obtain ⟨b, off, rfl, _, hcell⟩ := h.at (by omega)
  refine ⟨_, rfl, ?_⟩
  simp only []
  rw [Addr.add_lit, Addr.add_lit, Nat.add_assoc, hcell (A + j) (by omega)]
  congr 2
  simp [List.getD, List.getElem?_drop, hj]
theorem Sl.part0 {w : World} {ad : Option Addr} {n A B : Nat} {l : List Int} (h : Sl w ad n l) (ad' : Option Addr) (hAB : A + B ≤ n) (hB : B = 0) : Sl w ad' B ((l.drop A).take B) := by
  subst hB
  exact ⟨by simp, fun n hn => by simp at hn, fun j hj => by omega⟩

set_option maxHeartbeats 1000000 in
theorem readP (p : Nat) (F : Nat → Prop) (S : St) (w : World) (f at_ n : Int) (h : Dk 80 82 w p F S) (ha : -9223372036854775808 ≤ at_ ∧ at_ ≤ 9223372036854775807) (hn : -9223372036854775808 ≤ n ∧ n ≤ 9223372036854775807) :
    Calls Try.prog 16 #[.pointer (some ⟨p, 0, none⟩), .int .i64 f, .int .i64 at_, .int .i64 n] w fun e w' => ∃ ad m c, e = .returned (.tuple #[.slice ad m c, .int .i64 (S.read f at_ n).1]) ∧ w'.ownsRow w.heap.size 5 1 (.slice ad m c) m (cells8 (S.read f at_ n).2) ∧ Byte (S.read f at_ n).2 ∧ Below w.heap.size w w' := by
  have hh := hidden (refusalP p F S w f h)
  obtain ⟨er, her⟩ : ∃ er, S.refuse f = er := ⟨_, rfl⟩
  obtain ⟨q, hq⟩ : ∃ q, S.read f at_ n = q := ⟨_, rfl⟩
  obtain ⟨q1, q2⟩ := q
  rw [hq]
  unfold St.read at hq
  rw [her] at hq hh
  by_cases h0 : er = 0
  · subst h0
    obtain ⟨hon, hf0, hf1⟩ := refuse_no her
    obtain ⟨i, rfl⟩ : ∃ i : Nat, f = (i : Int) := ⟨f.toNat, by omega⟩
    obtain ⟨fb, fc, ad, c, x, hx, c0, c1, c2, ho, hb, ht, hl, h8, hF⟩ := h.at i (by omega)
    rw [if_neg (by simp), Int.toNat_natCast, hx] at hq
    simp only at hq
    have hi : i < S.L.length := by omega
    obtain ⟨N, hN⟩ : ∃ N, S.L.length = N := ⟨_, rfl⟩
    rw [hN] at c0 h8 hi
    have hSl := sl_of_owns ho hb
    have HO := hidden ho
    have HSl := hidden hSl
    have HB := hidden hb
    obtain ⟨m, hm⟩ : ∃ m, x.b.length = m := ⟨_, rfl⟩
    rw [hm] at c1 ht hl hq HSl HO
    have hle := owns_le HO.out
    have hno := owns_none HO.out
    have HNO := hidden hno
    clear hno
    have HM := hidden hm
    clear hm hN hx hF hf0 hf1 her hon ho hb hSl h c2 hl
    by_cases ha0 : at_ < 0
    · rw [if_pos (.inl ha0)] at hq
      obtain ⟨rfl, rfl⟩ := Prod.mk.inj hq
      clear hq
      go_enter Try.func16, Try.ntmps16
      go_wp2_with fail
      refine hh.out.mono ?_
      rintro e w' ⟨rfl, rfl⟩
      go_wp2_with fail
      go_ret2
      exact ⟨_, _, _, rfl, World.ownsRow_nil _ _ _ _, fun n hn => by simp at hn, Below.refl _ _⟩
    · by_cases hn0 : n < 0
      · rw [if_pos (.inr (.inl hn0))] at hq
        obtain ⟨rfl, rfl⟩ := Prod.mk.inj hq
        clear hq
        have ha1 : 0 ≤ at_ := by omega
        go_enter Try.func16, Try.ntmps16
        go_wp2_with fail
        refine hh.out.mono ?_
        rintro e w' ⟨rfl, rfl⟩
        go_wp2_with fail
        go_ret2
        exact ⟨_, _, _, rfl, World.ownsRow_nil _ _ _ _, fun n hn => by simp at hn, Below.refl _ _⟩
      · by_cases hbig : (m : Int) < at_ + n
        · rw [if_pos (.inr (.inr hbig))] at hq
          obtain ⟨rfl, rfl⟩ := Prod.mk.inj hq
          clear hq
          have ha1 : 0 ≤ at_ := by omega
          have hn1 : 0 ≤ n := by omega
          have hb2 : (m : Int) - at_ < n := by omega
          go_enter Try.func16, Try.ntmps16
          go_wp2_with fail
          refine hh.out.mono ?_
          rintro e w' ⟨rfl, rfl⟩
          go_wp2_with fail
          go_ret2
          exact ⟨_, _, _, rfl, World.ownsRow_nil _ _ _ _, fun n hn => by simp at hn, Below.refl _ _⟩
        · rw [if_neg (by omega)] at hq
          obtain ⟨rfl, hq2⟩ := Prod.mk.inj hq
          clear hq
          obtain ⟨A, rfl⟩ : ∃ A : Nat, at_ = (A : Int) := ⟨at_.toNat, by omega⟩
          obtain ⟨B, rfl⟩ : ∃ B : Nat, n = (B : Int) := ⟨n.toNat, by omega⟩
          rw [Int.toNat_natCast, Int.toNat_natCast] at hq2
          have hAB : A + B ≤ m := by omega
          have hb2 : (B : Int) ≤ (m : Int) - (A : Int) := by omega
          have hAB2 : (A : Int) + (B : Int) = ((A + B : Nat) : Int) := by omega
          obtain ⟨E, hE⟩ : ∃ E, A + B = E := ⟨_, rfl⟩
          rw [hE] at hAB2 hAB
          have hEB : E - A = B := by omega
          have HQ2 := hidden hq2
          have HE := hidden hE
          clear hq2 hE hbig
          go_enter Try.func16, Try.ntmps16
          go_wp2_with fail
          refine hh.out.mono ?_
          rintro e w' ⟨rfl, rfl⟩
          go_wp2_with fail
          all_goals
            refine (copied8 _ B _ q2 w' ?_ (by omega)).mono ?_
            · rw [← HQ2.out]
              first
                | exact HSl.out.part (by have := HE.out; omega)
                | exact HSl.out.part0 _ (by have := HE.out; omega) (by omega)
            rintro e w2 ⟨rfl, ho2, hb2⟩
            have HO2 := hidden ho2
            have HB2 := hidden hb2
            clear ho2 hb2
            go_wp2_with fail
            go_ret2
            exact ⟨_, _, _, rfl, HO2.out, by rw [← HQ2.out]; exact (HB.out.drop A).take B, HB2.out⟩
  · rw [if_pos h0] at hq
    obtain ⟨rfl, rfl⟩ := Prod.mk.inj hq
    clear hq
    go_enter Try.func16, Try.ntmps16
    go_wp2_with fail
    refine hh.out.mono ?_
    rintro e w' ⟨rfl, rfl⟩
    go_wp2_with fail
    go_ret2
    exact ⟨_, _, _, rfl, World.ownsRow_nil _ _ _ _, fun n hn => by simp at hn, Below.refl _ _⟩

end Go.Proofs.Ytgmcfejmhlglkaa
