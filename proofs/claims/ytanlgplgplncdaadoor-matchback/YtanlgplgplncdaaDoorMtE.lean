import Derived.Test.YtanlgplgplncdaaDoorMtD
import Derived.Test.YtanlgplgplncdaaDoorMtM
/-
  Holds: its region that draws its order.
-/
namespace Go.Proofs.YtanlgplgplncdaaDoor
open Go.RowKit
set_option linter.unusedVariables false
set_option linter.unusedSimpArgs false

/-- A text of these bytes. -/
def EntR (G : List UInt8) : Ent Lat := ⟨fun v _ => ∃ r, v = .string r ∧ bts r = G, fun _ _ _ h _ => h⟩

set_option maxRecDepth 100000 in
set_option maxHeartbeats 2000000 in
theorem holds_r4 (q n lc : Nat) (f : FuncId) (fa fc : Array Value) (la : Option Addr) (nm : ByteArray) (G : List UInt8) (H : Bool) (w : World) (a0 : Act) (Q : Exit → Act → World → Prop) (hsz : a0.tmps.size = 26)
    (s6 : a0.tmps.getD 6 undef = .pointer (some ⟨q, 0, none⟩))
    (s1 : a0.tmps.getD 1 undef = .slice la n lc)
    (hen : ∀ args w1, (callFunc f args).run Tryd.prog w1 = .ok (.enter f args) w1)
    (hfv : ∀ w1, Lat w w1 → w1.cell? ⟨q, 3, none⟩ = some (.func (.func f) fa fc))
    (hnm : ∀ w1, Lat w w1 → w1.cell? ⟨q, 0, none⟩ = some (.string nm))
    (hget : ∀ wx, Lat w wx → Calls Tryd.prog 15 #[.slice la n lc, .string nm] wx fun e w' => ∃ r, e = .returned (.string r) ∧ bts r = G ∧ Lat wx w')
    (hcl : ∀ wx r, Lat w wx → bts r = G → Calls Tryd.prog f (fa.push (.string r) ++ fc) wx fun e w' => e = .returned (.bool H) ∧ Lat wx w')
    (hQ : ∀ (v16 v17 v18 v19 v20 v21 v22 v23 v24 : Value) (w1 : World), Lat w w1 → v24 = .bool (!H) → Q .normal (((((((((a0.put (some 16) v16).put (some 17) v17).put (some 18) v18).put (some 19) v19).put (some 20) v20).put (some 21) v21).put (some 22) v22).put (some 23) v23).put (some 24) v24) w1) :
    Code.wp Tryd.prog ((Tryd.f8.body.bind (findRegion 4)).getD .skip) Q a0 w := by
  conv => arg 2; whnf
  refine wp_region_inv Lat (TE [Ent.val (.pointer (some ⟨q, 3, none⟩)), Ent.val (.func (.func f) fa fc), Ent.val (.slice la n lc), Ent.val (.pointer (some ⟨q, 0, none⟩)), Ent.val (.pointer (some ⟨q, 0, none⟩)), Ent.val (.string nm), EntR G, Ent.val (.bool H), Ent.val (.bool (!H))]) (by kernel_rfl) (by kernel_rfl) (by kernel_rfl) (by rw [hsz]; kernel_rfl) (by kernel_rfl) Lat.refl Lat.trans (TE_stable _) (Lat.draw w) ?hop ?hdone
  case hdone =>
    intro a w1 hL hS hT
    have he := same_puts hS
    rw [he]
    exact hQ (a.tmps.getD 16 undef) (a.tmps.getD 17 undef) (a.tmps.getD 18 undef) (a.tmps.getD 19 undef) (a.tmps.getD 20 undef) (a.tmps.getD 21 undef) (a.tmps.getD 22 undef) (a.tmps.getD 23 undef) (a.tmps.getD 24 undef) w1 hL (hT 8 _ rfl)
  case hop =>
    intro i o hi
    have hlt : i < 9 := (Array.getElem?_eq_some_iff.1 hi).1
    rcases (show i = 0 ∨ i = 1 ∨ i = 2 ∨ i = 3 ∨ i = 4 ∨ i = 5 ∨ i = 6 ∨ i = 7 ∨ i = 8 by omega) with rfl | rfl | rfl | rfl | rfl | rfl | rfl | rfl | rfl
    · obtain rfl := Option.some.inj hi
      clear hi hlt
      intro a w1 hL hS hD
      have e6 : a.tmps.getD 6 undef = .pointer (some ⟨q, 0, none⟩) := (hS.slot 6 (by kernel_rfl)).trans s6
      refine step_yes rfl ?_
      exact ok_value Lat.refl (.pointer (some ⟨q, 3, none⟩)) (by simp [execOp, Act.eval, e6, go_sem]) rfl
    · obtain rfl := Option.some.inj hi
      clear hi hlt
      intro a w1 hL hS hD
      have d0 : a.tmps.getD 16 undef = .pointer (some ⟨q, 3, none⟩) := hD ⟨0, .data⟩ (by simp) rfl _ rfl
      refine step_yes rfl ?_
      exact ok_value Lat.refl (.func (.func f) fa fc) (by simp [execOp, Act.eval, d0, hfv w1 hL, go_sem]) rfl
    · obtain rfl := Option.some.inj hi
      clear hi hlt
      intro a w1 hL hS hD
      have e1 : a.tmps.getD 1 undef = .slice la n lc := (hS.slot 1 (by kernel_rfl)).trans s1
      refine step_yes rfl ?_
      exact ok_value Lat.refl (.slice la n lc) (by simp [execOp, Act.eval, e1, go_sem]) rfl
    · obtain rfl := Option.some.inj hi
      clear hi hlt
      intro a w1 hL hS hD
      have e6 : a.tmps.getD 6 undef = .pointer (some ⟨q, 0, none⟩) := (hS.slot 6 (by kernel_rfl)).trans s6
      refine step_yes rfl ?_
      exact ok_value Lat.refl (.pointer (some ⟨q, 0, none⟩)) (by simp [execOp, Act.eval, e6, go_sem]) rfl
    · obtain rfl := Option.some.inj hi
      clear hi hlt
      intro a w1 hL hS hD
      have d3 : a.tmps.getD 19 undef = .pointer (some ⟨q, 0, none⟩) := hD ⟨3, .data⟩ (by simp) rfl _ rfl
      refine step_yes rfl ?_
      exact ok_value Lat.refl (.pointer (some ⟨q, 0, none⟩)) (by simp [execOp, Act.eval, d3, go_sem]) rfl
    · obtain rfl := Option.some.inj hi
      clear hi hlt
      intro a w1 hL hS hD
      have d4 : a.tmps.getD 20 undef = .pointer (some ⟨q, 0, none⟩) := hD ⟨4, .data⟩ (by simp) rfl _ rfl
      refine step_yes rfl ?_
      exact ok_value Lat.refl (.string nm) (by simp [execOp, Act.eval, d4, hnm w1 hL, go_sem]) rfl
    · obtain rfl := Option.some.inj hi
      clear hi hlt
      intro a w1 hL hS hD
      have d2 : a.tmps.getD 18 undef = .slice la n lc := hD ⟨2, .data⟩ (by simp) rfl _ rfl
      have d5 : a.tmps.getD 21 undef = .string nm := hD ⟨5, .data⟩ (by simp) rfl _ rfl
      refine step_yes rfl ?_
      refine ok_call (f := 15) (args := #[.slice la n lc, .string nm]) (by simp [execOp, resolve, Act.eval, d2, d5, go_sem]) ?_
      refine (hget w1 hL).mono ?_
      rintro e w2 ⟨r, rfl, hr, b5⟩
      exact ⟨_, rfl, b5, r, rfl, hr⟩
    · obtain rfl := Option.some.inj hi
      clear hi hlt
      intro a w1 hL hS hD
      have d1 : a.tmps.getD 17 undef = .func (.func f) fa fc := hD ⟨1, .data⟩ (by simp) rfl _ rfl
      have d6 := hD ⟨6, .data⟩ (by simp) rfl _ rfl
      refine step_yes rfl ?_
      obtain ⟨r, h5, hr⟩ := d6
      have h7 : a.tmps.getD 22 undef = .string r := h5
      have h6 : a.tmps[22]?.getD undef = .string r := by simpa using h7
      refine ok_call (f := f) (args := fa.push (.string r) ++ fc) (by simp [execOp, resolve, Act.eval, d1, h6, hen, go_sem]) ?_
      refine (hcl w1 r hL hr).mono ?_
      rintro e w2 ⟨rfl, b5⟩
      exact ⟨_, rfl, b5, rfl⟩
    · obtain rfl := Option.some.inj hi
      clear hi hlt
      intro a w1 hL hS hD
      have d7 : a.tmps.getD 23 undef = .bool H := hD ⟨7, .data⟩ (by simp) rfl _ rfl
      refine step_yes rfl ?_
      exact ok_value Lat.refl (.bool (!H)) (by simp [execOp, Act.eval, d7, go_sem]) rfl

end Go.Proofs.YtanlgplgplncdaaDoor

/-
  A matcher's test called; Holds.
-/
namespace Go.Proofs.YtanlgplgplncdaaDoor
open Go.RowKit
set_option linter.unusedVariables false
set_option linter.unusedSimpArgs false

theorem str_eqB (a b : ByteArray) {i : Decidable (a = b)} : (a.toList == b.toList) = @decide (a = b) i := by
  rw [Bool.eq_iff_iff, beq_iff_eq, decide_eq_true_iff]
  constructor
  · intro h
    rw [L.toList_bts, L.toList_bts] at h
    exact L.bts_inj h
  · rintro rfl; rfl
theorem isC (b : Nat) (t v : ByteArray) (w : World) (h : Blk w b 9 [.string t]) : Calls Tryd.prog 43 #[.string v, .pointer (some ⟨b, 0, none⟩)] w fun e w' => e = .returned (.bool (v.toList == t.toList)) ∧ Below w.heap.size w w' := by
  have c0 : w.cell? ⟨b, 0, none⟩ = some (.string t) := h.cell 0
  clear h
  go_enter Tryd.func43, Tryd.ntmps43
  go_wp2
  go_ret
  exact ⟨by first | rfl | simp, Below.refl _ _⟩
theorem notIsC (b b2 : Nat) (t v : ByteArray) (w : World) (h : Blk w b 54 [.func (.func 43) #[] #[.pointer (some ⟨b2, 0, none⟩)]]) (h2 : Blk w b2 9 [.string t]) : Calls Tryd.prog 44 #[.string v, .pointer (some ⟨b, 0, none⟩)] w fun e w' => e = .returned (.bool (!(v.toList == t.toList))) ∧ Below w.heap.size w w' := by
  have c0 : w.cell? ⟨b, 0, none⟩ = some (.func (.func 43) #[] #[.pointer (some ⟨b2, 0, none⟩)]) := h.cell 0
  have K := isC b2 t v w h2
  generalize (v.toList == t.toList) = R at *
  clear h h2
  go_enter Tryd.func44, Tryd.ntmps44
  go_wp2_with fail
  refine K.mono ?_
  rintro e w2 ⟨rfl, b2⟩
  have B2 := hidden b2
  clear b2 K
  go_wp2
  go_ret
  exact ⟨by first | rfl | simp, B2.out⟩
theorem notPaC (F : Nat → Prop) (b p : Nat) (l : List (List Pt)) (v : ByteArray) (w : World) (h : Blk w b 54 [.func (.func 36) #[.pointer (some ⟨p, 0, none⟩)] #[]]) (hP : PaR F w p l) (hv : v.size ≤ 140737488355328) (R : Bool) (hR : R = true ↔ Means l (bts v)) :
    Calls Tryd.prog 44 #[.string v, .pointer (some ⟨b, 0, none⟩)] w fun e w' => e = .returned (.bool (!R)) ∧ Below w.heap.size w w' := by
  have c0 : w.cell? ⟨b, 0, none⟩ = some (.func (.func 36) #[.pointer (some ⟨p, 0, none⟩)] #[]) := h.cell 0
  have K := matchP F w p l hP v hv R hR
  clear h hP hR hv
  go_enter Tryd.func44, Tryd.ntmps44
  go_wp2_with fail
  refine K.mono ?_
  rintro e w2 ⟨rfl, b2⟩
  have B2 := hidden b2
  clear b2 K
  go_wp2
  go_ret
  exact ⟨by first | rfl | simp, B2.out⟩
open Classical in
theorem callH {F : Nat → Prop} {w : World} {op : Int} {t n : ByteArray} {fv : Value} (h : Fv F w op t fv) : ∃ f fa fc, fv = .func (.func f) fa fc ∧ (∀ args w1, (callFunc f args).run Tryd.prog w1 = .ok (.enter f args) w1) ∧
    ∀ wx (r : ByteArray), Lat w wx → r.size ≤ 140737488355328 → Calls Tryd.prog f (fa.push (.string r) ++ fc) wx fun e w' => e = .returned (.bool (Mt.hold ⟨n, op, t⟩ r)) ∧ Lat wx w' := by
  have hk : ∀ wx, Lat w wx → Fv F wx op t fv := fun wx hl => h.keep (Chg.of_below (F := fun _ => False) hl) (fun _ _ e => e)
  rcases h with ⟨rfl, b, rfl, h1, h2⟩ | ⟨rfl, b, f, rfl, h1, h2, b3, rfl, h3, h4⟩ | ⟨rfl, p, l, k, rfl, h1, h2⟩ | ⟨rfl, b, f, rfl, h1, h2, p, l, k, rfl, h3, h4⟩
  · refine ⟨43, #[], #[.pointer (some ⟨b, 0, none⟩)], rfl, fun _ _ => rfl, fun wx r hl hr => ?_⟩
    refine (isC b t r wx (h2.later hl)).mono ?_
    rintro e w' ⟨rfl, hb⟩
    exact ⟨by rw [str_eqB (i := Classical.propDecidable _)]; unfold Mt.hold; rw [if_pos rfl]; congr 2; congr, hb⟩
  · refine ⟨44, #[], #[.pointer (some ⟨b, 0, none⟩)], rfl, fun _ _ => rfl, fun wx r hl hr => ?_⟩
    refine (notIsC b b3 t r wx (h2.later hl) (h4.later hl)).mono ?_
    rintro e w' ⟨rfl, hb⟩
    exact ⟨by rw [str_eqB (i := Classical.propDecidable _)]; unfold Mt.hold; rw [if_neg (by simp), if_pos rfl]; congr 3; congr, hb⟩
  · refine ⟨36, #[.pointer (some ⟨p, 0, none⟩)], #[], rfl, fun _ _ => rfl, fun wx r hl hr => ?_⟩
    refine (matchP F wx p l (h2.later hl) r hr (decide (Means l (bts r))) (by simp)).mono ?_
    rintro e w' ⟨rfl, hb⟩
    exact ⟨by unfold Mt.hold; rw [if_neg (by simp), if_neg (by simp), if_pos rfl, prsL_of h1], hb⟩
  · refine ⟨44, #[], #[.pointer (some ⟨b, 0, none⟩)], rfl, fun _ _ => rfl, fun wx r hl hr => ?_⟩
    refine (notPaC F b p l r wx (h2.later hl) (h4.later hl) hr (decide (Means l (bts r))) (by simp)).mono ?_
    rintro e w' ⟨rfl, hb⟩
    exact ⟨by unfold Mt.hold; rw [if_neg (by simp), if_neg (by simp), if_neg (by simp), prsL_of h3], hb⟩

/-- What labels tell of a name, as a text. -/
def gotL (l : List L.Lb) (n : ByteArray) : ByteArray := L.oft (L.getL l (bts n))
noncomputable def holdsL (l : List Mt) (lb : List L.Lb) : Bool := l.all fun x => x.hold (gotL lb x.n)
theorem getL_len {N : Nat} : ∀ (l : List L.Lb) (n : List UInt8), (∀ x ∈ l, x.v.size ≤ N) → (L.getL l n).length ≤ N
  | [], n, h => by simp [L.getL]
  | x :: t, n, h => by
    unfold L.getL
    split
    · have := h x (by simp)
      rwa [L.size_bts] at this
    · exact getL_len t n (fun y hy => h y (by simp [hy]))

set_option maxRecDepth 100000 in
set_option maxHeartbeats 4000000 in
theorem holdsP (F : Nat → Prop) (w : World) (s : Nat) (l : List Mt) (hS : StR F w s l) (hll : l.length ≤ 1000) (la : Option Addr) (lc : Nat) (lb : List L.Lb) (hB : L.Ls w la lb) (hbl : lb.length ≤ 9223372036854775807) (hbs : ∀ x ∈ lb, x.v.size ≤ 140737488355328) :
    Calls Tryd.prog 8 #[.pointer (some ⟨s, 0, none⟩), .slice la lb.length lc] w fun e w' => e = .returned (.bool (holdsL l lb)) ∧ Below w.heap.size w w' := by
  obtain ⟨v, R, h1, h2, h3, h4, h5, h6, h7⟩ := hS
  have HF := hidden h4
  have HO := hidden h2
  have HR := hidden h3
  have HLB := hidden hB
  obtain ⟨ad, c, rfl, -⟩ := owns_formS h2
  have c0 : w.cell? ⟨s, 0, none⟩ = some (.slice ad R.length c) := h1.cell 0
  obtain ⟨m, hm⟩ : ∃ m, lb.length = m := ⟨_, rfl⟩
  obtain ⟨n, hn⟩ : ∃ n, R.length = n := ⟨_, rfl⟩
  have HM := hidden hm
  have HN := hidden hn
  have hn1 : n ≤ 1000 := by rw [← hn, ← List.length_map (f := Prod.fst), h3]; exact hll
  have hbl' : m ≤ 9223372036854775807 := by omega
  have HBS := hidden hbs
  rw [hm]
  rw [hn] at c0
  clear h1 h2 h3 h4 h5 h6 h7 hB hm hn hbl hbs hll
  go_enter Tryd.func8, Tryd.ntmps8
  go_wp2_with fail
  go_loopw [6, 12] (fun v6 v12 wx => ∃ i : Nat, v12 = .int .i64 (i : Int) ∧ i ≤ n ∧ Hid ((l.take i).all (fun x => x.hold (gotL lb x.n)) = true) ∧ Hid (Below w.heap.size w wx)) (fun _ v12 _ => n - (intOf v12).toNat)
  case atStart => exact ⟨0, rfl, by omega, hidden (by simp), hidden (Below.refl _ _)⟩
  case round =>
    rename World => wx
    obtain ⟨i, rfl, hi, hA, hBl⟩ := hrel
    by_cases hlt : i < n
    · have hltz : (i : Int) < (n : Int) := by omega
      obtain ⟨p, hp⟩ : ∃ p, R[i]? = some p := ⟨R[i]'(by rw [HN.out]; exact hlt), by simp⟩
      obtain ⟨x, fv⟩ := p
      have hx : l[i]? = some x := by rw [← HR.out, List.getElem?_map, hp]; rfl
      have hfv := HF.out _ (List.mem_of_getElem? hp)
      obtain ⟨f, fa, fc, e, hen, hcl⟩ := callH (n := x.n) hfv
      simp only at e
      subst e
      obtain ⟨g, rfl⟩ : ∃ g, ad = some ⟨g, 0, none⟩ := by
        rcases HO.out.2 with ⟨_, e⟩ | ⟨g, cap, cur, e, _⟩
        · rw [HN.out] at e; omega
        · injection e with e; exact ⟨g, e⟩
      have hO := owl HO.out hBl.out
      obtain ⟨k0, k1, k2, k3⟩ := cR_get R i _ hp
      have d0 := hO.cells (g := g) rfl _ _ k0
      have d1 := hO.cells (g := g) rfl _ _ k1
      have d2 := hO.cells (g := g) rfl _ _ k2
      have d3 := hO.cells (g := g) rfl _ _ k3
      rw [Addr.add_lit, Nat.zero_add] at d0 d1 d2 d3
      have HX := hidden hx
      have HCL := hidden hcl
      have HEN := hidden hen
      clear hO hp hx hfv hcl hen k0 k1 k2 k3
      go_upto_region 4 with (refine wpList_new_var rfl rfl 56 6 (.tmp 15) rfl rfl rfl rfl 4 info56n (ruC x (.func (.func f) fa fc)) rfl (one_ruC rfl) (by simp) rfl ?_; intro w4 B4 bl4 hz4; have BL4 := hidden bl4; have HB4 := hidden B4; clear B4 bl4 hz4)
      have B4 : Hid (Below w.heap.size w w4) := hidden (hBl.out.trans (BL4.out.mono hBl.out.size))
      refine holds_r4 wx.heap.size m lc f fa fc la x.n (L.getL lb (bts x.n)) (x.hold (gotL lb x.n)) w4 _ _ (by rfl) (by rfl) (by rfl) HEN.out (fun w5 h5 => (HB4.out.later h5).cell 3) (fun w5 h5 => (HB4.out.later h5).cell 0) (fun w5 h5 => ?_) (fun w5 r h5 hr => ?_) ?_
      · have := L.getP la lc lb x.n w5 (HLB.out.later (B4.out.trans (h5.mono B4.out.size))) (by rw [HM.out]; exact hbl')
        rw [HM.out] at this
        exact this
      · have hrr : r = gotL lb x.n := L.bts_inj (by unfold gotL; rw [L.bts_oft]; exact hr)
        subst hrr
        refine HCL.out w5 _ (hBl.out.trans ((BL4.out.trans (h5.mono BL4.out.size)).mono hBl.out.size) |> fun h => h) ?_
        rw [L.size_bts]
        unfold gotL
        rw [L.bts_oft]
        exact getL_len lb _ HBS.out
      · intro v16 v17 v18 v19 v20 v21 v22 v23 v24 w6 hL6 h24
        subst h24
        have B6 : Hid (Below w.heap.size w w6) := hidden (B4.out.trans (hL6.mono B4.out.size))
        clear hL6 d0 d1 d2 d3
        simp only [Act.put, List.setIfInBounds_toArray, List.set_cons_succ, List.set_cons_zero]
        cases hh : x.hold (gotL lb x.n) with
        | false =>
          have HHF : Hid (holdsL l lb = false) := hidden (by
            unfold holdsL
            rw [List.all_eq_false]
            exact ⟨x, List.mem_of_getElem? HX.out, by rw [hh]; simp⟩)
          clear hh
          go_wp2
          go_ret
          exact ⟨by rw [HHF.out]; rfl, B6.out⟩
        | true =>
          have HA2 : Hid ((l.take (i + 1)).all (fun x => x.hold (gotL lb x.n)) = true) := hidden (by
            rw [take_next HX.out, List.all_append, hA.out, Bool.true_and]
            simp [hh])
          clear hh
          go_wp2_with fail
          exact ⟨⟨i + 1, by rw [Int.natCast_add]; rfl, by omega, HA2, B6⟩, by simp [intOf]; omega⟩
    · have hltz : ¬ (i : Int) < (n : Int) := by omega
      have HHT : Hid (holdsL l lb = true) := hidden (by
        unfold holdsL
        have := hA.out
        rwa [List.take_of_length_le (by rw [← HR.out, List.length_map, HN.out]; omega)] at this)
      go_wp2
      go_ret
      exact ⟨by rw [HHT.out]; rfl, hBl.out⟩

end Go.Proofs.YtanlgplgplncdaaDoor
