import Derived.Test.YtgmdpbahcbhfjaaGreatDoorMtM
import Derived.Test.YtgmdpbahcbhfjaaGreatDoorLbV
set_option linter.unusedSimpArgs false
set_option linter.unusedVariables false
set_option maxHeartbeats 40000000
set_option maxRecDepth 100000
/-
  A matcher's test as a function's value; isLabel, isText, testOf.
-/
namespace Go.Proofs.YtgmdpbahcbhfjaaGreatDoor
open Go.RowKit

theorem built50 (a b : ByteArray) : Tryz.prog.built 75 [(0, .string a), (1, .string b)] = some #[.string a, .string b] := by kernel_rfl

theorem ls_one (w : World) (x : L.Lb) (h1 : x.n.size ≤ 9223372036854775807) (h2 : x.v.size ≤ 9223372036854775807) : L.Ls (w.alloc (.cells #[.string x.n, .string x.v] 75)) (some ⟨w.heap.size, 0, none⟩) [x] := by
  refine ⟨fun y hy => by rw [List.mem_singleton.1 hy]; exact ⟨h1, h2⟩, fun _ => ⟨w.heap.size, 0, rfl, by simp, fun i y hy => ?_⟩⟩
  have hi : i = 0 := by have := (List.getElem?_eq_some_iff.1 hy).1; simp at this; exact this
  subst hi
  obtain rfl : y = x := by simpa using hy.symm
  exact ⟨by simp, by simp⟩
theorem right_one (x : L.Lb) : L.right [x] = x.fits := by simp [L.right, L.rightFrom]
theorem errL_eq (b : Bool) : ((L.errL b) == 0) = b := by cases b <;> rfl

set_option maxRecDepth 100000 in
set_option maxHeartbeats 2000000 in
theorem isLabelP (B : Nat) (n v : ByteArray) (w : World) (hn : n.size ≤ 9223372036854775807) (hv : v.size ≤ 9223372036854775807) (hT : L.Tb B w) :
    Calls Tryz.prog 84 #[.string n, .string v] w fun e w' => e = .returned (.bool (L.isName (bts n) && L.isVal (bts v))) ∧ Below w.heap.size w w' := by
  have hal : Below w.heap.size w (w.alloc (.cells #[.string n, .string v] 75)) := (Below.refl _ _).alloc (Nat.le_refl _) _
  have K := L.rightP B (some ⟨w.heap.size, 0, none⟩) 1 [⟨n, v⟩] _ (ls_one w ⟨n, v⟩ hn hv) (by simp) (hT.later hal)
  rw [right_one] at K
  have hE : L.Lb.fits ⟨n, v⟩ = (L.isName (bts n) && L.isVal (bts v)) := rfl
  rw [hE] at K
  obtain ⟨R, hR⟩ : ∃ R, (L.isName (bts n) && L.isVal (bts v)) = R := ⟨_, rfl⟩
  rw [hR] at K ⊢
  have HA := hidden hal
  have he := errL_eq R
  clear hal hT hR hE
  simp only [List.length_singleton] at K
  go_enter Tryz.func84, Tryz.ntmps84
  go_wp2_with (refine wpList_build_to rfl 75 #[(0, .tmp 5), (1, .tmp 6)] rfl [(0, .string n), (1, .string v)] #[.string n, .string v] rfl (built50 _ _) ?_)
  refine K.mono ?_
  rintro e w2 ⟨rfl, b2⟩
  have B2 := hidden (HA.out.trans (b2.mono HA.out.size))
  clear b2 K
  generalize L.errL R = E at *
  go_wp2
  go_ret
  exact ⟨by first | rfl | simp [he], B2.out⟩

theorem x_name : L.isName (bts ⟨#[120]⟩) = true := by decide
set_option maxRecDepth 100000 in
set_option maxHeartbeats 2000000 in
theorem isTextP (B : Nat) (s : ByteArray) (w : World) (hs : s.size ≤ 9223372036854775807) (hT : L.Tb B w) :
    Calls Tryz.prog 98 #[.string s] w fun e w' => e = .returned (.bool (decide (bts s = []) || L.isVal (bts s))) ∧ Below w.heap.size w w' := by
  have K := isLabelP B ⟨#[120]⟩ s w (by show 1 ≤ _; omega) hs hT
  rw [x_name, Bool.true_and] at K
  have e0 : (s.toList == ([] : List UInt8)) = decide (bts s = []) := L.empty_bts s
  obtain ⟨R, hR⟩ : ∃ R, L.isVal (bts s) = R := ⟨_, rfl⟩
  rw [hR] at K ⊢
  clear hR hT
  by_cases h0 : bts s = []
  · rw [decide_eq_true h0] at e0 ⊢
    rw [Bool.true_or]
    clear h0 K
    go_enter Tryz.func98, Tryz.ntmps98
    go_wp2
    go_ret
    exact ⟨by first | rfl | simp, Below.refl _ _⟩
  · rw [decide_eq_false h0] at e0 ⊢
    rw [Bool.false_or]
    clear h0
    go_enter Tryz.func98, Tryz.ntmps98
    go_wp2_with fail
    refine K.mono ?_
    rintro e w2 ⟨rfl, b2⟩
    have B2 := hidden b2
    clear b2 K
    go_wp2
    go_ret
    exact ⟨by first | rfl | simp, B2.out⟩

end Go.Proofs.YtgmdpbahcbhfjaaGreatDoor
/-
  A matcher's test as a function's value; testOf.
-/
namespace Go.Proofs.YtgmdpbahcbhfjaaGreatDoor
open Go.RowKit

/-- What asks for just this text. -/
def IsV (F : Nat → Prop) (w : World) (t : ByteArray) (fv : Value) : Prop := ∃ b, fv = .func (.func 126) #[] #[.pointer (some ⟨b, 0, none⟩)] ∧ F b ∧ Blk w b 9 [.string t]
/-- What asks a pattern. -/
def PaV (F : Nat → Prop) (w : World) (t : ByteArray) (fv : Value) : Prop := ∃ p l k, fv = .func (.func 101) #[.pointer (some ⟨p, 0, none⟩)] #[] ∧ prs (bts t) = .ok l k ∧ PaR F w p l
/-- What asks for the other answer. -/
def NoV (F : Nat → Prop) (w : World) (P : Value → Prop) (fv : Value) : Prop := ∃ b f, fv = .func (.func 127) #[] #[.pointer (some ⟨b, 0, none⟩)] ∧ F b ∧ Blk w b 108 [f] ∧ P f
/-- A matcher's test. -/
def Fv (F : Nat → Prop) (w : World) (op : Int) (t : ByteArray) (fv : Value) : Prop :=
  (op = 1 ∧ IsV F w t fv) ∨ (op = 2 ∧ NoV F w (IsV F w t) fv) ∨ (op = 3 ∧ PaV F w t fv) ∨ (op = 4 ∧ NoV F w (PaV F w t) fv)
theorem IsV.keep {F G : Nat → Prop} {w w' : World} {t : ByteArray} {fv : Value} (h : IsV F w t fv) (hc : Chg G w w') (hd : ∀ b, F b → ¬ G b) : IsV F w' t fv := by
  obtain ⟨b, e, hF, hB⟩ := h
  exact ⟨b, e, hF, hc.blk hB (hd b hF)⟩
theorem PaV.keep {F G : Nat → Prop} {w w' : World} {t : ByteArray} {fv : Value} (h : PaV F w t fv) (hc : Chg G w w') (hd : ∀ b, F b → ¬ G b) : PaV F w' t fv := by
  obtain ⟨p, l, k, e, h1, h2⟩ := h
  exact ⟨p, l, k, e, h1, h2.keep hc hd⟩
theorem Fv.keep {F G : Nat → Prop} {w w' : World} {op : Int} {t : ByteArray} {fv : Value} (h : Fv F w op t fv) (hc : Chg G w w') (hd : ∀ b, F b → ¬ G b) : Fv F w' op t fv := by
  rcases h with ⟨e, h⟩ | ⟨e, b, f, e2, h1, h2, h3⟩ | ⟨e, h⟩ | ⟨e, b, f, e2, h1, h2, h3⟩
  · exact .inl ⟨e, h.keep hc hd⟩
  · exact .inr (.inl ⟨e, b, f, e2, h1, hc.blk h2 (hd b h1), h3.keep hc hd⟩)
  · exact .inr (.inr (.inl ⟨e, h.keep hc hd⟩))
  · exact .inr (.inr (.inr ⟨e, b, f, e2, h1, hc.blk h2 (hd b h1), h3.keep hc hd⟩))
theorem PaR.mono {F F' : Nat → Prop} {w : World} {p : Nat} {l : List (List Pt)} (h : PaR F w p l) (hm : ∀ b, F b → F' b) (hl : ∀ b, F' b → b < w.heap.size) : PaR F' w p l := by
  obtain ⟨ad, c, b, off, sa, sc, vs, h⟩ := h
  exact ⟨ad, c, b, off, sa, sc, vs, h.blk, fun h0 => ⟨(h.at' h0).1, hm _ (h.at' h0).2⟩, RowsV.mono hm l b off h.rows, ⟨h.sp.own, h.sp.sp.mono hm, fun b hb => hm _ (h.sp.at' b hb), h.sp.b64⟩, hm _ h.fp, hl, h.fine, h.cnt⟩
theorem Fv.mono {F F' : Nat → Prop} {w : World} {op : Int} {t : ByteArray} {fv : Value} (h : Fv F w op t fv) (hm : ∀ b, F b → F' b) (hl : ∀ b, F' b → b < w.heap.size) : Fv F' w op t fv := by
  rcases h with ⟨e, b, e2, h1, h2⟩ | ⟨e, b, f, e2, h1, h2, b3, e3, h3, h4⟩ | ⟨e, p, l, k, e2, h1, h2⟩ | ⟨e, b, f, e2, h1, h2, p, l, k, e3, h3, h4⟩
  · exact .inl ⟨e, b, e2, hm _ h1, h2⟩
  · exact .inr (.inl ⟨e, b, f, e2, hm _ h1, h2, b3, e3, hm _ h3, h4⟩)
  · exact .inr (.inr (.inl ⟨e, p, l, k, e2, h1, h2.mono hm hl⟩))
  · exact .inr (.inr (.inr ⟨e, b, f, e2, hm _ h1, h2, p, l, k, e3, h3, h4.mono hm hl⟩))

theorem isP (t : ByteArray) (w : World) : Calls Tryz.prog 97 #[.string t] w fun e w' => e = .returned (.func (.func 126) #[] #[.pointer (some ⟨w.heap.size, 0, none⟩)]) ∧ w' = w.alloc (.cells #[.string t] 9) := by
  go_enter Tryz.func97, Tryz.ntmps97
  go_wp2
  go_ret
  exact ⟨by first | rfl | simp, by first | rfl | simp⟩
theorem notP (fn : Fn) (x y : Array Value) (w : World) : Calls Tryz.prog 99 #[.func fn x y] w fun e w' => e = .returned (.func (.func 127) #[] #[.pointer (some ⟨w.heap.size, 0, none⟩)]) ∧ w' = w.alloc (.cells #[.func fn x y] 108) := by
  go_enter Tryz.func99, Tryz.ntmps99
  go_wp2
  go_ret
  exact ⟨by first | rfl | simp, by first | rfl | simp⟩

/-- What testOf leaves. -/
def TeP (w : World) (op : Int) (t : ByteArray) (e : Ending) (w' : World) : Prop :=
  Below w.heap.size w w' ∧ ∃ fv, e = .returned (.tuple #[fv, .bool (txtOk op (bts t))]) ∧ (txtOk op (bts t) = true → ∃ F, Fv F w' op t fv ∧ ∀ b, F b → w.heap.size ≤ b ∧ b < w'.heap.size)

set_option maxRecDepth 100000 in
set_option maxHeartbeats 4000000 in
theorem testOfP (B : Nat) (op : Int) (t : ByteArray) (w : World) (ho : -9223372036854775808 ≤ op ∧ op ≤ 9223372036854775807) (ht : t.size ≤ 9223372036854775807) (hT : L.Tb B w) : Calls Tryz.prog 83 #[.int .i64 op, .string t] w (TeP w op t) := by
  unfold TeP
  by_cases h1 : op = 1
  · subst h1
    have hx : txtOk 1 (bts t) = (decide (bts t = []) || L.isVal (bts t)) := rfl
    rw [hx]
    have hal : Below w.heap.size w (w.alloc (.cells #[.string t] 9)) := (Below.refl _ _).alloc (Nat.le_refl _) _
    have K := isTextP B t _ ht (hT.later hal)
    generalize (decide (bts t = []) || L.isVal (bts t)) = R at *
    have HA := hidden hal
    clear hal hx hT
    go_enter Tryz.func83, Tryz.ntmps83
    go_wp2_with fail
    refine (isP t w).mono ?_
    rintro e w2 ⟨rfl, rfl⟩
    go_wp2_with fail
    refine K.mono ?_
    rintro e w3 ⟨rfl, b3⟩
    have B3 := hidden b3
    clear b3 K
    go_wp2
    go_ret2
    refine ⟨HA.out.trans (B3.out.mono HA.out.size), _, rfl, fun _ => ⟨fun b => b = w.heap.size, .inl ⟨rfl, w.heap.size, rfl, rfl, (Blk.new w 9 [.string t]).later B3.out⟩, fun b hb => ?_⟩⟩
    have := B3.out.size
    simp at this
    omega
  · have e1 : (op == 1) = false := by simpa using h1
    by_cases h2 : op = 2
    · subst h2
      have hx : txtOk 2 (bts t) = (decide (bts t = []) || L.isVal (bts t)) := rfl
      rw [hx]
      obtain ⟨W1, hW1⟩ : ∃ W1, w.alloc (.cells #[.string t] 9) = W1 := ⟨_, rfl⟩
      have hs1 : W1.heap.size = w.heap.size + 1 := by rw [← hW1]; simp
      have hal : Below w.heap.size w W1 := by rw [← hW1]; exact (Below.refl _ _).alloc (Nat.le_refl _) _
      have hbk : Blk W1 w.heap.size 9 [.string t] := by rw [← hW1]; exact Blk.new w 9 _
      obtain ⟨W2, hW2⟩ : ∃ W2, W1.alloc (.cells #[.func (.func 126) #[] #[.pointer (some ⟨w.heap.size, 0, none⟩)]] 108) = W2 := ⟨_, rfl⟩
      have hs2 : W2.heap.size = w.heap.size + 2 := by rw [← hW2]; simp; omega
      have hal2 : Below W1.heap.size W1 W2 := by rw [← hW2]; exact (Below.refl _ _).alloc (Nat.le_refl _) _
      have hbk2 : Blk W2 (w.heap.size + 1) 108 [.func (.func 126) #[] #[.pointer (some ⟨w.heap.size, 0, none⟩)]] := by rw [← hW2, ← hs1]; exact Blk.new W1 108 _
      have hbl := hal.trans (hal2.mono hal.size)
      have K := isTextP B t W2 ht (hT.later hbl)
      generalize (decide (bts t = []) || L.isVal (bts t)) = R at *
      have HA := hidden hbl
      have HK1 := hidden (hbk.later hal2)
      have HK2 := hidden hbk2
      have HW1 := hidden hW1
      have HW2 := hidden hW2
      have HS1 := hidden hs1
      have HS2 := hidden hs2
      clear hal hal2 hbl hbk hbk2 hx hT hW1 hW2 hs1 hs2 h1
      go_enter Tryz.func83, Tryz.ntmps83
      go_wp2_with fail
      refine (isP t w).mono ?_
      rintro e w2 ⟨rfl, rfl⟩
      rw [HW1.out]
      go_wp2_with fail
      refine (notP _ _ _ W1).mono ?_
      rintro e w3 ⟨rfl, rfl⟩
      rw [HW2.out, HS1.out]
      go_wp2_with fail
      refine K.mono ?_
      rintro e w4 ⟨rfl, b4⟩
      have B4 := hidden b4
      clear b4 K
      go_wp2
      go_ret2
      refine ⟨HA.out.trans (B4.out.mono HA.out.size), _, rfl, fun _ => ⟨fun b => b = w.heap.size ∨ b = w.heap.size + 1, .inr (.inl ⟨rfl, w.heap.size + 1, _, rfl, .inr rfl, HK2.out.later B4.out, w.heap.size, rfl, .inl rfl, HK1.out.later B4.out⟩), fun b hb => ?_⟩⟩
      have h3 := B4.out.size
      have h4 := HS2.out
      omega
    · have e2 : (op == 2) = false := by simpa using h2
      by_cases h34 : op = 3 ∨ op = 4
      · have hx : txtOk op (bts t) = prsOk (bts t) := by rcases h34 with rfl | rfl <;> rfl
        rw [hx]
        have K := parseP t w
        unfold ParseR at K
        have e34 : ((op == 3) = true ∧ (op == 4) = false ∧ op = 3) ∨ ((op == 3) = false ∧ (op == 4) = true ∧ op = 4) := by rcases h34 with rfl | rfl <;> simp
        clear h34 hx h1 h2 hT
        rcases e34 with ⟨e3, e4, e5⟩ | ⟨e3, e4, e5⟩
        all_goals have E5 := hidden e5
        all_goals clear e5
        all_goals
          go_enter Tryz.func83, Tryz.ntmps83
          go_wp2_with fail
          refine K.mono ?_
          rintro e w2 ⟨b2, ⟨p, F, l, ⟨k, hk⟩, rfl, hP, hF⟩ | ⟨k, g, hk, rfl, hB, hks⟩⟩
        · have HB := hidden b2
          have HP := hidden hP
          have HO : Hid (prsOk (bts t) = true) := hidden (by unfold prsOk; rw [hk])
          have HK := hidden hk
          have HF := hidden hF
          clear b2 hP hk hF K
          go_wp2
          go_ret2
          exact ⟨HB.out, .func (.func 101) #[.pointer (some ⟨p, 0, none⟩)] #[], by rw [HO.out]; rfl, fun _ => ⟨F, .inr (.inr (.inl ⟨E5.out, p, l, k, rfl, HK.out, HP.out⟩)), fun b hb => ⟨HF.out b hb, by obtain ⟨_, _, _, _, _, _, _, h⟩ := HP.out; exact h.lt b hb⟩⟩⟩
        · have HB := hidden b2
          have HO : Hid (prsOk (bts t) = false) := hidden (by unfold prsOk; rw [hk])
          clear b2 hk hB hks K
          go_wp2
          go_ret2
          exact ⟨HB.out, .nilFunc, by rw [HO.out]; rfl, fun h => by rw [HO.out] at h; cases h⟩
        · have HB := hidden b2
          have HP := hidden hP
          have HO : Hid (prsOk (bts t) = true) := hidden (by unfold prsOk; rw [hk])
          have HK := hidden hk
          have HF := hidden hF
          clear b2 hP hk hF K
          go_wp2_with fail
          refine (notP _ _ _ w2).mono ?_
          rintro e w3 ⟨rfl, rfl⟩
          go_wp2
          go_ret2
          have hal : Below w2.heap.size w2 (w2.alloc (.cells #[.func (.func 101) #[.pointer (some ⟨p, 0, none⟩)] #[]] 108)) := (Below.refl _ _).alloc (Nat.le_refl _) _
          have hlt : ∀ b, F b → b < w2.heap.size := by obtain ⟨_, _, _, _, _, _, _, h⟩ := HP.out; exact h.lt
          have hsz := HB.out.size
          refine ⟨HB.out.trans (hal.mono HB.out.size), .func (.func 127) #[] #[.pointer (some ⟨w2.heap.size, 0, none⟩)], by rw [HO.out]; rfl, fun _ => ⟨fun b => F b ∨ b = w2.heap.size, .inr (.inr (.inr ⟨E5.out, w2.heap.size, _, rfl, .inr rfl, Blk.new w2 108 _, p, l, k, rfl, HK.out, (HP.out.later hal).mono (fun _ h => .inl h) (fun b hb => ?_)⟩)), fun b hb => ?_⟩⟩
          · rcases hb with hb | hb
            · have := hlt b hb; simp; omega
            · simp; omega
          · rcases hb with hb | hb
            · have := hlt b hb; have := HF.out b hb; simp; omega
            · simp; omega
        · have HB := hidden b2
          have HO : Hid (prsOk (bts t) = false) := hidden (by unfold prsOk; rw [hk])
          clear b2 hk hB hks K
          go_wp2
          go_ret2
          exact ⟨HB.out, .nilFunc, by rw [HO.out]; rfl, fun h => by rw [HO.out] at h; cases h⟩
      · have e3 : (op == 3) = false := by simp; omega
        have e4 : (op == 4) = false := by simp; omega
        have hx : txtOk op (bts t) = false := by unfold txtOk; rw [if_neg h1, if_neg h2, if_neg (by omega), if_neg (by omega)]
        rw [hx]
        clear h34 hx h1 h2 hT
        go_enter Tryz.func83, Tryz.ntmps83
        go_wp2
        go_ret2
        exact ⟨Below.refl _ _, _, rfl, fun h => by cases h⟩

end Go.Proofs.YtgmdpbahcbhfjaaGreatDoor
/-
  ruleOf.
-/
namespace Go.Proofs.YtgmdpbahcbhfjaaGreatDoor
open Go.RowKit

def OkM (x : Mt) : Prop := x.n.size ≤ 9223372036854775807 ∧ x.t.size ≤ 9223372036854775807 ∧ -9223372036854775808 ≤ x.op ∧ x.op ≤ 9223372036854775807
/-- A matcher's cells, and its rule's. -/
def mC (x : Mt) : List Value := [.string x.n, .int .i64 x.op, .string x.t]
def ruC (x : Mt) (fv : Value) : List Value := [.string x.n, .int .i64 x.op, .string x.t, fv]
def zM : Mt := ⟨⟨#[]⟩, 0, ⟨#[]⟩⟩
theorem info56z : (Tryz.prog.info? 126).map (fun i => i.zero.map (·.cells)) = some (some (ruC zM .nilFunc).toArray) := by kernel_rfl
theorem size56 : (Tryz.prog.info? 126).map (·.size) = some 4 := by kernel_rfl
theorem built56z : Tryz.prog.built 126 [] = some (ruC zM .nilFunc).toArray := by kernel_rfl
theorem res_rule (tmps : Array Value) (w : World) (g : Nat) (x : Mt) (fv c : Value) (hp : tmps.getD 2 undef = .pointer (some ⟨g, 0, none⟩)) (h : Blk w g 126 (ruC x fv)) (h3 : tmps.getD 3 undef = c) :
    (results Tryz.f67 tmps).run Tryz.prog w = .ok (.tuple #[.agg (ruC x fv).toArray, c]) w := by
  have hr : Tryz.f67.results = #[.cell 2 126, .tmp 3] := by kernel_rfl
  have hp' : tmps[2]?.getD undef = .pointer (some ⟨g, 0, none⟩) := by simpa using hp
  have h3' : tmps[3]?.getD undef = c := by simpa using h3
  have c0 := h.cell 0
  have c1 := h.cell 1
  have c2 := h.cell 2
  have c3 := h.cell 3
  simp [ruC] at c0 c1 c2 c3
  simp [results, hr, hp', h3', asAddr, loadVar, c0, c1, c2, c3, ruC, go_sem]

theorem Fv.one {F : Nat → Prop} {w : World} {op : Int} {t : ByteArray} {fv : Value} (h : Fv F w op t fv) : fv.oneCell' = true := by
  rcases h with ⟨_, b, rfl, _⟩ | ⟨_, b, f, rfl, _⟩ | ⟨_, p, l, k, rfl, _⟩ | ⟨_, b, f, rfl, _⟩ <;> rfl

theorem Fv.func {F : Nat → Prop} {w : World} {op : Int} {t : ByteArray} {fv : Value} (h : Fv F w op t fv) : ∃ fn x y, fv = .func fn x y := by
  rcases h with ⟨_, b, rfl, _⟩ | ⟨_, b, f, rfl, _⟩ | ⟨_, p, l, k, rfl, _⟩ | ⟨_, b, f, rfl, _⟩ <;> exact ⟨_, _, _, rfl⟩
theorem x_val : L.isVal (bts ⟨#[120]⟩) = true := by kernel_rfl
theorem one_ruC {x : Mt} {fv : Value} (h : fv.oneCell' = true) : ∀ v ∈ ruC x fv, v.oneCell' = true := by
  intro v hv
  simp [ruC] at hv
  rcases hv with rfl | rfl | rfl | rfl
  · rfl
  · rfl
  · rfl
  · exact h
/-- What ruleOf leaves. -/
def RuP (w : World) (x : Mt) (e : Ending) (w' : World) : Prop :=
  Below w.heap.size w w' ∧ ∃ y fv, e = .returned (.tuple #[.agg (ruC y fv).toArray, .bool x.may]) ∧ fv.oneCell' = true ∧ (x.may = true → y = x ∧ ∃ F, Fv F w' x.op x.t fv ∧ ∀ b, F b → w.heap.size ≤ b ∧ b < w'.heap.size)

set_option maxRecDepth 100000 in
set_option maxHeartbeats 4000000 in
theorem ruleOfP (B : Nat) (x : Mt) (w : World) (hx : OkM x) (hT : L.Tb B w) : Calls Tryz.prog 67 #[.agg (mC x).toArray] w (RuP w x) := by
  obtain ⟨n, op, t⟩ := x
  obtain ⟨h1, h2, h3, h4⟩ := hx
  simp only at h1 h2 h3 h4
  have HT := hidden hT
  clear hT
  unfold RuP
  go_enter Tryz.func67, Tryz.ntmps67
  go_wp2_with (first
    | (refine wpList_box_blk rfl 78 (.tmp 0) rfl (mC ⟨n, op, t⟩) rfl ?_; intro w1 B1 bl1 hz1; have HB1 := hidden B1; have BL1 := hidden bl1; have HZ1 := hidden hz1; clear bl1 hz1; have c0 := B1.cell 0; have c1 := B1.cell 1; have c2 := B1.cell 2; simp [mC] at c0 c1 c2; clear B1)
    | (refine wpList_alloc_blk rfl 126 rfl 2 rfl (ruC zM .nilFunc) info56z ?_; intro w2 B2 bl2 hz2; have HB2 := hidden B2; have BL2 := hidden bl2; clear B2 bl2 hz2; have d0 : w2.cell? ⟨w.heap.size, 0, none⟩ = some (.string n) := (HB1.out.later BL2.out).cell 0; have d1 : w2.cell? ⟨w.heap.size, 1, none⟩ = some (.int .i64 op) := (HB1.out.later BL2.out).cell 1; have d2 : w2.cell? ⟨w.heap.size, 2, none⟩ = some (.string t) := (HB1.out.later BL2.out).cell 2; clear c0 c1 c2))
  have hs1 := BL1.out.size
  have hs2 := BL2.out.size
  have BW2 : Hid (Below w.heap.size w w2) := hidden (BL1.out.trans (BL2.out.mono hs1))
  refine (testOfP B op t w2 ⟨h3, h4⟩ h2 (HT.out.later BW2.out)).mono ?_
  rintro e w3 ⟨b3, fv, rfl, hfv⟩
  have B3 := hidden b3
  have BW3 : Hid (Below w.heap.size w w3) := hidden (BW2.out.trans (b3.mono BW2.out.size))
  have HB13 := hidden ((HB1.out.later BL2.out).later b3)
  have HB23 := hidden (HB2.out.later b3)
  have e0 : w3.cell? ⟨w.heap.size, 0, none⟩ = some (.string n) := HB13.out.cell 0
  have hs3 := b3.size
  have hlt2 := HB2.out.lt
  have HFV := hidden hfv
  clear b3 d0 d1 d2 hfv
  have HM : Hid (Mt.may ⟨n, op, t⟩ = (txtOk op (bts t) && L.isName (bts n))) := hidden rfl
  cases hk : txtOk op (bts t) with
  | false =>
    rw [hk] at HM HFV
    rw [Bool.false_and] at HM
    go_wp2_with (first
      | (refine wpList_build_to rfl 126 #[] rfl [] (ruC zM .nilFunc).toArray rfl built56z ?_)
      | (refine wpList_store_blk rfl 126 (.tmp 2) (.tmp 22) rfl rfl w1.heap.size (l := ruC zM .nilFunc) HB23.out rfl rfl rfl size56 (one_ruC rfl) ?_))
    have hN := blk_stored (l := ruC zM .nilFunc) HB23.out rfl
    have hcs := Chg.sets w1.heap.size (ruC zM .nilFunc) 0 w3
    refine bodyPost_ret (res_rule _ _ w1.heap.size _ _ _ rfl hN rfl) rfl ?_
    exact ⟨BW3.out.trans (hcs.below BW3.out.size (fun i hi => by omega)), zM, .nilFunc, by rw [HM.out]; rfl, rfl, fun h => by rw [HM.out] at h; cases h⟩
  | true =>
    rw [hk] at HM HFV
    rw [Bool.true_and] at HM
    obtain ⟨F, hF, hFb⟩ := HFV.out rfl
    obtain ⟨fn, xa, ya, rfl⟩ := hF.func
    have HF := hidden hF
    have HFb := hidden hFb
    have HONE := hidden hF.one
    have K := isLabelP B n ⟨#[120]⟩ w3 h1 (by show 1 ≤ _; omega) (HT.out.later BW3.out)
    rw [x_val, Bool.and_true] at K
    obtain ⟨R, hR⟩ : ∃ R, L.isName (bts n) = R := ⟨_, rfl⟩
    rw [hR] at K HM
    clear hF hFb HFV hR
    go_wp2_with fail
    refine K.mono ?_
    rintro e w4 ⟨rfl, b4⟩
    have B4 := hidden b4
    have BW4 : Hid (Below w.heap.size w w4) := hidden (BW3.out.trans (b4.mono BW3.out.size))
    have HB14 := hidden (HB13.out.later b4)
    have HB24 := hidden (HB23.out.later b4)
    have hs4 := b4.size
    clear b4 e0 K
    cases R with
    | false =>
      go_wp2_with (first
        | (refine wpList_build_to rfl 126 #[] rfl [] (ruC zM .nilFunc).toArray rfl built56z ?_)
        | (refine wpList_store_blk rfl 126 (.tmp 2) (.tmp 22) rfl rfl w1.heap.size (l := ruC zM .nilFunc) HB24.out rfl rfl rfl size56 (one_ruC rfl) ?_))
      have hN := blk_stored (l := ruC zM .nilFunc) HB24.out rfl
      have hcs := Chg.sets w1.heap.size (ruC zM .nilFunc) 0 w4
      refine bodyPost_ret (res_rule _ _ w1.heap.size _ _ _ rfl hN rfl) rfl ?_
      exact ⟨BW4.out.trans (hcs.below BW4.out.size (fun i hi => by omega)), zM, .nilFunc, by rw [HM.out]; rfl, rfl, fun h => by rw [HM.out] at h; cases h⟩
    | true =>
      have g0 : w4.cell? ⟨w.heap.size, 0, none⟩ = some (.string n) := HB14.out.cell 0
      have g1 : w4.cell? ⟨w.heap.size, 1, none⟩ = some (.int .i64 op) := HB14.out.cell 1
      have g2 : w4.cell? ⟨w.heap.size, 2, none⟩ = some (.string t) := HB14.out.cell 2
      go_wp2_with (refine wpList_store_blk rfl 126 (.tmp 2) (.tmp 25) rfl rfl w1.heap.size (l := ruC ⟨n, op, t⟩ (.func fn xa ya)) HB24.out rfl rfl rfl size56 (one_ruC HONE.out) ?_)
      have hN := blk_stored (l := ruC ⟨n, op, t⟩ (.func fn xa ya)) HB24.out rfl
      have hcs := Chg.sets w1.heap.size (ruC ⟨n, op, t⟩ (.func fn xa ya)) 0 w4
      refine bodyPost_ret (res_rule _ _ w1.heap.size _ _ _ rfl hN rfl) rfl ?_
      refine ⟨BW4.out.trans (hcs.below BW4.out.size (fun i hi => by omega)), ⟨n, op, t⟩, .func fn xa ya, by rw [HM.out]; rfl, HONE.out, fun _ => ⟨rfl, F, ?_, fun b hb => ?_⟩⟩
      · refine (HF.out.keep (Chg.of_below (F := fun _ => False) B4.out) (fun _ _ h => h)).keep hcs (fun b hb e => ?_)
        have := (HFb.out b hb).1
        omega
      · have h5 := HFb.out b hb
        have h6 := hcs.size
        omega

end Go.Proofs.YtgmdpbahcbhfjaaGreatDoor
/-
  Matchers and rules in memory; New.
-/
namespace Go.Proofs.YtgmdpbahcbhfjaaGreatDoor
open Go.RowKit

/-- A slice's matchers: where they lie. -/
structure Ms (w : World) (ad : Option Addr) (l : List Mt) : Prop where
  sz : ∀ x ∈ l, OkM x
  at' : l ≠ [] → ∃ b off, ad = some ⟨b, off, none⟩ ∧ b < w.heap.size ∧ ∀ i x, l[i]? = some x → w.cell? ⟨b, off + i * 3, none⟩ = some (.string x.n) ∧ w.cell? ⟨b, off + i * 3 + 1, none⟩ = some (.int .i64 x.op) ∧ w.cell? ⟨b, off + i * 3 + 2, none⟩ = some (.string x.t)
theorem Ms.later {w w' : World} {ad : Option Addr} {l : List Mt} (h : Ms w ad l) (hb : Below w.heap.size w w') : Ms w' ad l := by
  refine ⟨h.sz, fun h0 => ?_⟩
  obtain ⟨b, off, e, hlt, hc⟩ := h.at' h0
  refine ⟨b, off, e, Nat.lt_of_lt_of_le hlt hb.size, fun i x hx => ?_⟩
  rw [hb.cell (p := ⟨b, off + i * 3, none⟩) hlt, hb.cell (p := ⟨b, off + i * 3 + 1, none⟩) hlt, hb.cell (p := ⟨b, off + i * 3 + 2, none⟩) hlt]
  exact hc i x hx
theorem Ms.nil (w : World) (ad : Option Addr) : Ms w ad [] := ⟨by simp, fun h => absurd rfl h⟩
theorem Ms.get {w : World} {ad : Option Addr} {l : List Mt} (h : Ms w ad l) {i : Nat} (hi : i < l.length) : ∃ b off x, ad = some ⟨b, off, none⟩ ∧ b < w.heap.size ∧ l[i]? = some x ∧ w.cell? ⟨b, off + i * 3, none⟩ = some (.string x.n) ∧ w.cell? ⟨b, off + i * 3 + 1, none⟩ = some (.int .i64 x.op) ∧ w.cell? ⟨b, off + i * 3 + 2, none⟩ = some (.string x.t) ∧ OkM x := by
  obtain ⟨b, off, e, hlt, hc⟩ := h.at' (by intro h0; rw [h0] at hi; simp at hi)
  have hx : l[i]? = some l[i] := by simp [hi]
  exact ⟨b, off, l[i], e, hlt, hx, (hc i _ hx).1, (hc i _ hx).2.1, (hc i _ hx).2.2, h.sz _ (by simp)⟩
theorem Ms.below {w w' : World} {ad : Option Addr} {l : List Mt} {B : Nat} (h : Ms w ad l) (hB : w.heap.size ≤ B) (hb : Below B w w') : Ms w' ad l := h.later (hb.mono hB)

/-- Rules, as their cells. -/
def cR (L : List (Mt × Value)) : List Value := L.flatMap fun p => ruC p.1 p.2
theorem cR_cons (p : Mt × Value) (L : List (Mt × Value)) : cR (p :: L) = ruC p.1 p.2 ++ cR L := by simp [cR]
theorem cR_append (L M : List (Mt × Value)) : cR (L ++ M) = cR L ++ cR M := by simp [cR]
theorem cR_get : ∀ (L : List (Mt × Value)) (i : Nat) (p : Mt × Value), L[i]? = some p → (cR L)[i * 4]? = some (.string p.1.n) ∧ (cR L)[i * 4 + 1]? = some (.int .i64 p.1.op) ∧ (cR L)[i * 4 + 2]? = some (.string p.1.t) ∧ (cR L)[i * 4 + 3]? = some p.2
  | [], i, p, h => by simp at h
  | q :: t, 0, p, h => by simp at h; subst h; rw [cR_cons]; exact ⟨rfl, rfl, rfl, rfl⟩
  | q :: t, i + 1, p, h => by
    have := cR_get t i p (by simpa using h)
    rw [cR_cons]
    have e : ∀ k, (ruC q.1 q.2 ++ cR t)[(i + 1) * 4 + k]? = (cR t)[i * 4 + k]? := fun k => by
      rw [List.getElem?_append_right (by simp [ruC]; omega)]
      congr 1
      simp [ruC]
      omega
    exact ⟨by rw [← this.1]; exact e 0, by rw [← this.2.1]; exact e 1, by rw [← this.2.2.1]; exact e 2, by rw [← this.2.2.2]; exact e 3⟩

/-- What a set of rules holds while it grows: its header's block, its rules' row, what their tests lie in. -/
structure NL (w wx : World) (s : Nat) (v : Value) (L : List (Mt × Value)) (F : Nat → Prop) : Prop where
  blk : Blk wx s 124 [v]
  own : wx.ownsRow w.heap.size 126 4 v L.length (cR L)
  fv : ∀ p ∈ L, Fv F wx p.1.op p.1.t p.2
  fr : ∀ b, F b → w.heap.size ≤ b ∧ b < wx.heap.size ∧ b ≠ s ∧ ¬ v.ownBlock = some b
  ne : ¬ v.ownBlock = some s
  bel : Below w.heap.size w wx
  sb : w.heap.size ≤ s
theorem NL.later {w wx wy : World} {s : Nat} {v : Value} {L : List (Mt × Value)} {F : Nat → Prop} (h : NL w wx s v L F) (hb : Below wx.heap.size wx wy) : NL w wy s v L F :=
  ⟨h.blk.later hb, owl h.own hb, fun p hp => (h.fv p hp).keep (Chg.of_below (F := fun _ => False) hb) (fun _ _ e => e), fun b hb2 => ⟨(h.fr b hb2).1, Nat.lt_of_lt_of_le (h.fr b hb2).2.1 hb.size, (h.fr b hb2).2.2⟩, h.ne, h.bel.trans (hb.mono h.bel.size), h.sb⟩
/-- One rule more. -/
theorem NL.push {w wx wy w' : World} {s g' c' : Nat} {v : Value} {L : List (Mt × Value)} {F F2 : Nat → Prop} {p : Mt × Value} (h : NL w wx s v L F) (hb : Below wx.heap.size wx wy) (hf : Fv F2 wy p.1.op p.1.t p.2) (hF2 : ∀ b, F2 b → wx.heap.size ≤ b ∧ b < wy.heap.size)
    (ho : w'.ownsRow w.heap.size 126 4 (.slice (some ⟨g', 0, none⟩) (L.length + 1) c') (L.length + 1) (cR L ++ ruC p.1 p.2)) (hc : Chg (fun i => v.ownBlock = some i) wy w') (hm : Moved wy v.ownBlock (some g')) :
    NL w (w'.setCell ⟨s, 0, none⟩ (.slice (some ⟨g', 0, none⟩) (L.length + 1) c')) s (.slice (some ⟨g', 0, none⟩) (L.length + 1) c') (L ++ [p]) (fun b => F b ∨ F2 b) := by
  have h2 := h.later hb
  have hcs := Chg.set ⟨s, 0, none⟩ (.slice (some ⟨g', 0, none⟩) (L.length + 1) c') w'
  have hsb : Blk w' s 124 [v] := hc.blk h2.blk h2.ne
  have hsl : s < wx.heap.size := h.blk.lt
  have hsz := hb.size
  have hgs : ¬ g' = s := by
    rintro rfl
    rcases hm with e2 | ⟨q, e2, hq⟩
    · exact h.ne e2.symm
    · injection e2 with e2; omega
  have hFg : ∀ b, F b ∨ F2 b → ¬ v.ownBlock = some b := by
    rintro b (hb2 | hb2)
    · exact (h.fr b hb2).2.2.2
    · intro e
      have h3 := (h.own.lt b e).2
      have := (hF2 b hb2).1
      omega
  have hFs : ∀ b, F b ∨ F2 b → ¬ b = s := by
    rintro b (hb2 | hb2)
    · exact (h.fr b hb2).2.2.1
    · have := (hF2 b hb2).1; omega
  have hFl : ∀ b, F b ∨ F2 b → w.heap.size ≤ b ∧ b < wy.heap.size := by
    rintro b (hb2 | hb2)
    · have := h.fr b hb2; omega
    · have h3 := hF2 b hb2; have := h.bel.size; omega
  have hgl : ∀ b, F b ∨ F2 b → ¬ g' = b := by
    rintro b hb2 rfl
    rcases hm with e2 | ⟨q, e2, hq⟩
    · exact hFg g' hb2 e2.symm
    · injection e2 with e2
      have := (hFl g' hb2).2
      omega
  refine ⟨Blk.set hsb 0 _, ?_, ?_, fun b hb2 => ⟨(hFl b hb2).1, ?_, hFs b hb2, ?_⟩, ?_, (h2.bel.trans (hc.below h2.bel.size (fun i hi => (h.own.lt i hi).1))).trans (hcs.below (Nat.le_trans h2.bel.size hc.size) (fun i hi => by simp only at hi; rw [hi]; exact h.sb)), h.sb⟩
  · have := hcs.owns ho (fun g hg e => by simp [Value.ownBlock] at hg; simp only at e; omega)
    rw [List.length_append, cR_append]
    simpa [cR] using this
  · intro q hq
    have key : Fv (fun b => F b ∨ F2 b) wy q.1.op q.1.t q.2 := by
      rcases List.mem_append.1 hq with hq | hq
      · exact (h2.fv q hq).mono (fun _ hh => .inl hh) (fun b hh => (hFl b hh).2)
      · rw [List.mem_singleton.1 hq]
        exact hf.mono (fun _ hh => .inr hh) (fun b hh => (hFl b hh).2)
    exact (key.keep hc hFg).keep hcs (fun b hh e => by simp only at e; exact hFs b hh e)
  · have h3 := (hFl b hb2).2
    have h4 := hc.size
    have h5 := hcs.size
    omega
  · simp [Value.ownBlock]
    exact fun e => hgl b hb2 e
  · simp [Value.ownBlock]
    exact fun e => hgs e

/-- What ruleOf leaves, its cells written out. -/
theorem ruleOfL (B : Nat) (x : Mt) (w : World) (hx : OkM x) (hT : L.Tb B w) : Calls Tryz.prog 67 #[.agg #[.string x.n, .int .i64 x.op, .string x.t]] w fun e w' =>
    Below w.heap.size w w' ∧ ∃ (y : Mt) (fv : Value), e = .returned (.tuple #[.agg #[.string y.n, .int .i64 y.op, .string y.t, fv], .bool x.may]) ∧ fv.oneCell' = true ∧ (x.may = true → y = x ∧ ∃ F, Fv F w' x.op x.t fv ∧ ∀ b, F b → w.heap.size ≤ b ∧ b < w'.heap.size) := ruleOfP B x w hx hT

/-- A set of matchers. -/
def StR (F : Nat → Prop) (w : World) (s : Nat) (l : List Mt) : Prop :=
  ∃ v L, Blk w s 124 [v] ∧ w.ownsRow 0 126 4 v L.length (cR L) ∧ L.map Prod.fst = l ∧ (∀ p ∈ L, Fv F w p.1.op p.1.t p.2) ∧ F s ∧ (∀ g, v.ownBlock = some g → F g) ∧ (∀ b, F b → b < w.heap.size)
theorem StR.keep {F G : Nat → Prop} {w w' : World} {s : Nat} {l : List Mt} (h : StR F w s l) (hc : Chg G w w') (hd : ∀ b, F b → ¬ G b) : StR F w' s l := by
  obtain ⟨v, L, h1, h2, h3, h4, h5, h6, h7⟩ := h
  exact ⟨v, L, hc.blk h1 (hd s h5), hc.owns h2 (fun g hg => hd g (h6 g hg)), h3, fun p hp => (h4 p hp).keep hc hd, h5, h6, fun b hb => Nat.lt_of_lt_of_le (h7 b hb) hc.size⟩
theorem StR.later {F : Nat → Prop} {w w' : World} {s : Nat} {l : List Mt} (h : StR F w s l) (hb : Below w.heap.size w w') : StR F w' s l := h.keep (Chg.of_below (F := fun _ => False) hb) (fun _ _ e => e)
theorem NL.set {w wx : World} {s : Nat} {v : Value} {L : List (Mt × Value)} {F : Nat → Prop} (h : NL w wx s v L F) : ∃ F', StR F' wx s (L.map Prod.fst) ∧ ∀ b, F' b → w.heap.size ≤ b := by
  have hlt : ∀ b, (F b ∨ b = s ∨ v.ownBlock = some b) → b < wx.heap.size := by
    rintro b (hb | hb | hb)
    · exact (h.fr b hb).2.1
    · rw [hb]; exact h.blk.lt
    · exact (h.own.lt b hb).2
  refine ⟨fun b => F b ∨ b = s ∨ v.ownBlock = some b, ⟨v, L, h.blk, ⟨h.own.1, ?_⟩, rfl, fun p hp => (h.fv p hp).mono (fun _ hh => .inl hh) hlt, .inr (.inl rfl), fun g hg => .inr (.inr hg), hlt⟩, ?_⟩
  · rcases h.own.2 with hh | ⟨g, cap, cur, e, _, r⟩
    · exact .inl hh
    · exact .inr ⟨g, cap, cur, e, Nat.zero_le _, r⟩
  · rintro b (hb | hb | hb)
    · exact (h.fr b hb).1
    · rw [hb]; exact h.sb
    · exact (h.own.lt b hb).1

theorem info56 : (Tryz.prog.info? 126).map (fun i => (i.zero, i.size, i.bytes)) = some (some (.agg #[.string ⟨#[]⟩, .int .i64 0, .string ⟨#[]⟩, .nilFunc]), 4, 48) := by kernel_rfl
theorem Pushed.chg2 {w w6 : World} {v : Value} {g6 : Nat} {o : Obj} (hp : Pushed (w.alloc o) w6 v g6) : Chg (fun i => v.ownBlock = some i) w w6 ∧ Moved w v.ownBlock (some g6) := by
  have hA : Chg (fun i => v.ownBlock = some i) w (w.alloc o) := Chg.of_below ((Below.refl _ _).alloc (Nat.le_refl _) o)
  rcases hp with ⟨h1, h2⟩ | ⟨h1, h2⟩
  · exact ⟨hA.trans (Chg.of_grown (F := fun i => v.ownBlock = some i) h2 (fun i hi => by rw [h1]; exact hi)) (fun i _ hi => hi), .inl h1.symm⟩
  · exact ⟨hA.trans (Chg.of_grown (F := fun i => v.ownBlock = some i) h2 (fun i hi => by cases hi)) (fun i _ hi => hi), .inr ⟨g6, rfl, by simp at h1; omega⟩⟩
/-- A rule behind a row of rules. -/
theorem step_pushR (w : World) {ops : Array Oper} {o : Oper} {a : Act} {K : Act → World → Prop} {Q : Exit → Act → World → Prop} {E : Prop} (hgd : o.guard = none) (s x : Operand)
    (ho : o.op = .call { callee := .builtin .append, args := #[s, x], argTypes := #[122, 122] }) (base : Nat) (v : Value) (n : Nat) (xs : List Value) (hs : a.eval s = v) (w0 : World) (hown : w0.ownsRow base 126 4 v n xs) (y : Mt) (fv : Value) (h1 : fv.oneCell' = true)
    (hw : w = w0.alloc (.cells #[.string y.n, .int .i64 y.op, .string y.t, fv] 126)) (hx : a.eval x = .slice (some ⟨w0.heap.size, 0, none⟩) 1 1) (hn : n ≤ 1000000000) (hbase : base ≤ w0.heap.size)
    (h : ∀ g' c' w', w'.ownsRow base 126 4 (.slice (some ⟨g', 0, none⟩) (n + 1) c') (n + 1) (xs ++ ruC y fv) → Chg (fun i => v.ownBlock = some i) w0 w' → Moved w0 v.ownBlock (some g') → K (a.put o.dst (.slice (some ⟨g', 0, none⟩) (n + 1) c')) w') :
    if Region.wanted o (yielded ops a.tmps) = true then Oper.wp Tryz.prog o a w K Q else E := by
  subst hw
  obtain ⟨i0, hi0, hz0, hz1, hz2⟩ := info_parts info56
  refine step_pushN _ hgd s x 122 ho 126 i0 (.agg #[.string ⟨#[]⟩, .int .i64 0, .string ⟨#[]⟩, .nilFunc]) 4 48 Tryz.underlying122 hi0 hz0 hz1 hz2 rfl (by omega) base v n xs hs (hown.alloc _) ⟨w0.heap.size, 0, none⟩ (ruC y fv) hx rfl (fun j u hu => by
    have := (Blk.new w0 126 (ruC y fv)).cell (0 + j)
    rw [Addr.add_lit]
    refine this.trans ?_
    rw [Nat.zero_add]
    exact hu) (one_ruC h1) (by unfold maxLen; omega) (by omega) (by simp; omega) ?_
  intro g' c' w' ho' hp'
  exact h g' c' w' ho' hp'.chg2.1 hp'.chg2.2

/-- What New answers. -/
def NewR (w : World) (l : List Mt) (e : Ending) (w' : World) : Prop :=
  Below w.heap.size w w' ∧ ((newOk l = true ∧ ∃ s F, e = .returned (.tuple #[.pointer (some ⟨s, 0, none⟩), .int .i64 0]) ∧ StR F w' s l ∧ ∀ b, F b → w.heap.size ≤ b) ∨ (newOk l = false ∧ e = .returned (.tuple #[.pointer none, .int .i64 90])))

theorem info56n : (Tryz.prog.info? 126).map (fun i => (i.zero.map (·.cells.size), i.size)) = some (some 4, 4) := by kernel_rfl
theorem take_next {l : List Mt} {i : Nat} {x : Mt} (h : l[i]? = some x) : l.take (i + 1) = l.take i ++ [x] := by
  rw [List.take_add_one, h]; rfl

set_option maxRecDepth 100000 in
set_option maxHeartbeats 4000000 in
theorem newP (B : Nat) (ad : Option Addr) (c : Nat) (l : List Mt) (w : World) (hL : Ms w ad l) (hlen : l.length ≤ 9223372036854775807) (hT : L.Tb B w) : Calls Tryz.prog 47 #[.slice ad l.length c] w (NewR w l) := by
  obtain ⟨n, hn⟩ : ∃ n, l.length = n := ⟨_, rfl⟩
  rw [hn] at hlen ⊢
  have HN := hidden hn
  have HL := hidden hL
  have HT := hidden hT
  clear hn hL hT
  unfold NewR
  by_cases h8 : 8 < n
  · have h8z : (8 : Int) < (n : Int) := by omega
    have HO : Hid (newOk l = false) := hidden (by unfold newOk; rw [HN.out, decide_eq_false (by omega), Bool.false_and])
    go_enter Tryz.func47, Tryz.ntmps47
    go_wp2
    go_ret2
    exact ⟨Below.refl _ _, .inr ⟨HO.out, rfl⟩⟩
  · have h8z : ¬ (8 : Int) < (n : Int) := by omega
    have hal : Below w.heap.size w (w.alloc (.cells #[.slice none 0 0] 124)) := (Below.refl _ _).alloc (Nat.le_refl _) _
    have N0 : Hid (NL w (w.alloc (.cells #[.slice none 0 0] 124)) w.heap.size (.slice none 0 0) [] (fun _ => False)) := hidden ⟨Blk.new w 124 _, World.ownsRow_nil _ _ _ _, by simp, fun _ h => h.elim, by simp [Value.ownBlock], hal, Nat.le_refl _⟩
    clear hal
    go_enter Tryz.func47, Tryz.ntmps47
    go_wp2_with fail
    go_loopw [6, 7, 8, 16] (fun v6 v7 v8 v16 wx => ∃ (i : Nat) (v : Value) (R : List (Mt × Value)) (F : Nat → Prop), v16 = .int .i64 (i : Int) ∧ i ≤ n ∧ Hid (R.map Prod.fst = l.take i ∧ (l.take i).all Mt.may = true) ∧ Hid (NL w wx w.heap.size v R F)) (fun _ _ _ v16 _ => n - (intOf v16).toNat)
    case atStart => exact ⟨0, _, [], _, rfl, by omega, hidden ⟨by simp, by simp⟩, N0⟩
    case round =>
      rename World => wx
      obtain ⟨i, v, R, F, rfl, hi, hR, hN⟩ := hrel
      clear N0
      by_cases hlt : i < n
      · have hltz : (i : Int) < (n : Int) := by omega
        obtain ⟨bb, off, x, rfl, hbb, hx, c0, c1, c2, hok⟩ := (HL.out.below (Nat.le_refl _) hN.out.bel).get (i := i) (by rw [HN.out]; exact hlt)
        have HX := hidden hx
        have HOK := hidden hok
        clear hx hok
        have hal : Below wx.heap.size wx (wx.alloc (.cells #[.string x.n, .int .i64 x.op, .string x.t] 78)) := (Below.refl _ _).alloc (Nat.le_refl _) _
        have HAL := hidden hal
        clear hal
        go_wp2_with fail
        refine (ruleOfL B x _ HOK.out (HT.out.later (hN.out.bel.trans (HAL.out.mono hN.out.bel.size)))).mono ?_
        rintro e w3 ⟨b3, y, fv, rfl, hone, hm⟩
        have B3 : Hid (Below wx.heap.size wx w3) := hidden (HAL.out.trans (b3.mono HAL.out.size))
        have HS3 : Hid (wx.heap.size ≤ (wx.alloc (.cells #[.string x.n, .int .i64 x.op, .string x.t] 78)).heap.size) := hidden HAL.out.size
        have HM := hidden hm
        have HONE := hidden hone
        clear b3 hm c0 c1 c2 hone HAL
        cases hmay : x.may with
        | false =>
          have HO : Hid (newOk l = false) := hidden (by
            unfold newOk
            rw [Bool.and_eq_false_iff]
            right
            rw [List.all_eq_false]
            exact ⟨x, List.mem_of_getElem? HX.out, by rw [hmay]; simp⟩)
          clear hmay HM
          go_wp2_with (refine wpList_new_var rfl rfl 126 7 (.tmp 23) rfl rfl rfl rfl 4 info56n (ruC y fv) rfl (one_ruC HONE.out) (by simp) rfl ?_; intro w4 B4 bl4 hz4; have BL4 := hidden bl4; clear B4 bl4 hz4)
          go_ret2
          have b4 := B3.out.trans (BL4.out.mono B3.out.size)
          exact ⟨hN.out.bel.trans (b4.mono hN.out.bel.size), .inr ⟨HO.out, rfl⟩⟩
        | true =>
          obtain ⟨rfl, F2, hF2, hF2b⟩ := HM.out hmay
          obtain ⟨fn, xa, ya, rfl⟩ := hF2.func
          have HF2 := hidden hF2
          have HF2b := hidden hF2b
          have HMAY := hidden hmay
          have HRl : Hid (R.length = i) := hidden (by have := congrArg List.length hR.out.1; simp at this; rw [HN.out] at this; omega)
          clear hF2 hF2b hmay
          go_upto_region 10 with (refine wpList_new_var rfl rfl 126 7 (.tmp 23) rfl rfl rfl rfl 4 info56n (ruC y (.func fn xa ya)) rfl (one_ruC rfl) (by simp) rfl ?_; intro w4 B4 bl4 hz4; have BL4 := hidden bl4; have HB4 := hidden B4; clear B4 bl4 hz4)
          have B34 : Hid (Below wx.heap.size wx w4) := hidden (B3.out.trans (BL4.out.mono B3.out.size))
          have hblk : Blk w4 w.heap.size 124 [v] := hN.out.blk.later B34.out
          have cs : w4.cell? ⟨w.heap.size, 0, none⟩ = some v := hblk.cell 0
          have fs : w4.frozen? ⟨w.heap.size, 0, none⟩ = false := hblk.frozen 0
          have hlt4 : w.heap.size < w4.heap.size := hblk.lt
          have g0 : w4.cell? ⟨w3.heap.size, 0, none⟩ = some (.string y.n) := HB4.out.cell 0
          have g1 : w4.cell? ⟨w3.heap.size, 1, none⟩ = some (.int .i64 y.op) := HB4.out.cell 1
          have g2 : w4.cell? ⟨w3.heap.size, 2, none⟩ = some (.string y.t) := HB4.out.cell 2
          have g3 : w4.cell? ⟨w3.heap.size, 3, none⟩ = some (.func fn xa ya) := HB4.out.cell 3
          have hlt3 : w3.heap.size < w4.heap.size := HB4.out.lt
          have OW4 : Hid (w4.ownsRow w.heap.size 126 4 v R.length (cR R)) := hidden (owl hN.out.own B34.out)
          have HF4 : Hid (Fv F2 w4 y.op y.t (.func fn xa ya)) := hidden (HF2.out.keep (Chg.of_below (F := fun _ => False) BL4.out) (fun _ _ e => e))
          have hle4 : w.heap.size ≤ w4.heap.size := by omega
          have HBLK := hidden hblk
          clear hblk
          go_region_law (refine step_pushR _ (by rfl) (.tmp 31) (.tmp 33) (by rfl) w.heap.size v R.length (cR R) (by rfl) w4.drew OW4.out y (.func fn xa ya) rfl (by rfl) (by rfl) (by have := HRl.out; omega) hle4 ?_
                         intro g9 c9 w9 o9 ch9 mv9
                         have bk9 : Blk w9 w.heap.size 124 [v] := ch9.blk HBLK.out hN.out.ne
                         have cs9 : w9.cell? ⟨w.heap.size, 0, none⟩ = some v := bk9.cell 0
                         have fs9 : w9.frozen? ⟨w.heap.size, 0, none⟩ = false := bk9.frozen 0
                         have O9 := hidden o9
                         have CH9 : Hid (Chg (fun i => v.ownBlock = some i) w4 w9) := hidden ((Chg.drew _ w4).trans ch9 (fun _ _ e => e))
                         have MV9 : Hid (Moved w4 v.ownBlock (some g9)) := hidden mv9
                         clear o9 ch9 mv9 bk9)
          all_goals
            have N9 := hidden (hN.out.push (p := (y, .func fn xa ya)) B34.out HF4.out (fun b hb => ⟨Nat.le_trans HS3.out (HF2b.out b hb).1, Nat.lt_trans (HF2b.out b hb).2 hlt3⟩) O9.out CH9.out MV9.out)
            go_wp2_with fail
            refine ⟨⟨i + 1, _, _, _, by rw [Int.natCast_add]; rfl, by omega, hidden ⟨?_, ?_⟩, N9⟩, by simp [intOf]; omega⟩
            · rw [List.map_append, hR.out.1, take_next HX.out]
              rfl
            · rw [take_next HX.out, List.all_append, hR.out.2, Bool.true_and]
              simp [HMAY.out]
      · have hltz : ¬ (i : Int) < (n : Int) := by omega
        obtain rfl : i = n := by omega
        have HO : Hid (newOk l = true) := hidden (by
          unfold newOk
          rw [HN.out, decide_eq_true (by omega), Bool.true_and]
          have := hR.out.2
          rwa [List.take_of_length_le (by rw [HN.out]; exact Nat.le_refl _)] at this)
        obtain ⟨F', hF', hFb⟩ := hN.out.set
        have HF' : Hid (StR F' wx w.heap.size l) := hidden (by
          have := hF'
          rwa [hR.out.1, List.take_of_length_le (by rw [HN.out]; exact Nat.le_refl _)] at this)
        have HFb := hidden hFb
        clear hF' hFb
        go_wp2
        go_ret2
        exact ⟨hN.out.bel, .inl ⟨HO.out, w.heap.size, by first | rfl | simp, F', HF'.out, HFb.out⟩⟩

end Go.Proofs.YtgmdpbahcbhfjaaGreatDoor
/-
  Holds: its region that draws its order.
-/
namespace Go.Proofs.YtgmdpbahcbhfjaaGreatDoor
open Go.RowKit

/-- A text of these bytes. -/
def EntR (G : List UInt8) : Ent Lat := ⟨fun v _ => ∃ r, v = .string r ∧ bts r = G, fun _ _ _ h _ => h⟩

set_option maxRecDepth 100000 in
set_option maxHeartbeats 2000000 in
theorem holds_r4 (q n lc : Nat) (f : FuncId) (fa fc : Array Value) (la : Option Addr) (nm : ByteArray) (G : List UInt8) (H : Bool) (w : World) (a0 : Act) (Q : Exit → Act → World → Prop) (hsz : a0.tmps.size = 26)
    (s6 : a0.tmps.getD 6 undef = .pointer (some ⟨q, 0, none⟩))
    (s1 : a0.tmps.getD 1 undef = .slice la n lc)
    (hen : ∀ args w1, (callFunc f args).run Tryz.prog w1 = .ok (.enter f args) w1)
    (hfv : ∀ w1, Lat w w1 → w1.cell? ⟨q, 3, none⟩ = some (.func (.func f) fa fc))
    (hnm : ∀ w1, Lat w w1 → w1.cell? ⟨q, 0, none⟩ = some (.string nm))
    (hget : ∀ wx, Lat w wx → Calls Tryz.prog 57 #[.slice la n lc, .string nm] wx fun e w' => ∃ r, e = .returned (.string r) ∧ bts r = G ∧ Lat wx w')
    (hcl : ∀ wx r, Lat w wx → bts r = G → Calls Tryz.prog f (fa.push (.string r) ++ fc) wx fun e w' => e = .returned (.bool H) ∧ Lat wx w')
    (hQ : ∀ (v16 v17 v18 v19 v20 v21 v22 v23 v24 : Value) (w1 : World), Lat w w1 → v24 = .bool (!H) → Q .normal (((((((((a0.put (some 16) v16).put (some 17) v17).put (some 18) v18).put (some 19) v19).put (some 20) v20).put (some 21) v21).put (some 22) v22).put (some 23) v23).put (some 24) v24) w1) :
    Code.wp Tryz.prog ((Tryz.f27.body.bind (findRegion 4)).getD .skip) Q a0 w := by
  conv => arg 2; whnf
  refine wp_region_inv Lat (TE [Ent.val (.pointer (some ⟨q, 3, none⟩)), Ent.val (.func (.func f) fa fc), Ent.val (.slice la n lc), Ent.val (.pointer (some ⟨q, 0, none⟩)), Ent.val (.pointer (some ⟨q, 0, none⟩)), Ent.val (.string nm), EntR G, Ent.val (.bool H), Ent.val (.bool (!H))]) (by kernel_rfl) (by kernel_rfl) (by kernel_rfl) (by rw [hsz]; kernel_rfl) (by kernel_rfl) Lat.refl Lat.trans (TE_stable _) (Lat.draw w) ?hop ?hdone
  case hdone =>
    intro a w1 hL hS hT
    have he := same_puts hS
    rw [he]
    exact hQ (a.tmps.getD 16 undef) (a.tmps.getD 17 undef) (a.tmps.getD 18 undef) (a.tmps.getD 19 undef) (a.tmps.getD 20 undef) (a.tmps.getD 21 undef) (a.tmps.getD 22 undef) (a.tmps.getD 23 undef) (a.tmps.getD 24 undef) w1 hL (hT 8 _ rfl)
  case hop =>
    intro i o hi
    have hlt : i < 9 := (Array.getElem?_eq_some_iff.1 hi).1
    rcases (show i = 0 ∨ i = 1 ∨ i = 2 ∨ i = 3 ∨ i = 4 ∨ i = 5 ∨ i = 6 ∨ i = 7 ∨ i = 8 by omega) with rfl | rfl | rfl | rfl | rfl | rfl | rfl | rfl | rfl
    · obtain rfl := Option.some.inj hi
      clear hi hlt
      intro a w1 hL hS hD
      have e6 : a.tmps.getD 6 undef = .pointer (some ⟨q, 0, none⟩) := (hS.slot 6 (by kernel_rfl)).trans s6
      refine step_yes rfl ?_
      exact ok_value Lat.refl (.pointer (some ⟨q, 3, none⟩)) (by simp [execOp, Act.eval, e6, go_sem]) rfl
    · obtain rfl := Option.some.inj hi
      clear hi hlt
      intro a w1 hL hS hD
      have d0 : a.tmps.getD 16 undef = .pointer (some ⟨q, 3, none⟩) := hD ⟨0, .data⟩ (by simp) rfl _ rfl
      refine step_yes rfl ?_
      exact ok_value Lat.refl (.func (.func f) fa fc) (by simp [execOp, Act.eval, d0, hfv w1 hL, go_sem]) rfl
    · obtain rfl := Option.some.inj hi
      clear hi hlt
      intro a w1 hL hS hD
      have e1 : a.tmps.getD 1 undef = .slice la n lc := (hS.slot 1 (by kernel_rfl)).trans s1
      refine step_yes rfl ?_
      exact ok_value Lat.refl (.slice la n lc) (by simp [execOp, Act.eval, e1, go_sem]) rfl
    · obtain rfl := Option.some.inj hi
      clear hi hlt
      intro a w1 hL hS hD
      have e6 : a.tmps.getD 6 undef = .pointer (some ⟨q, 0, none⟩) := (hS.slot 6 (by kernel_rfl)).trans s6
      refine step_yes rfl ?_
      exact ok_value Lat.refl (.pointer (some ⟨q, 0, none⟩)) (by simp [execOp, Act.eval, e6, go_sem]) rfl
    · obtain rfl := Option.some.inj hi
      clear hi hlt
      intro a w1 hL hS hD
      have d3 : a.tmps.getD 19 undef = .pointer (some ⟨q, 0, none⟩) := hD ⟨3, .data⟩ (by simp) rfl _ rfl
      refine step_yes rfl ?_
      exact ok_value Lat.refl (.pointer (some ⟨q, 0, none⟩)) (by simp [execOp, Act.eval, d3, go_sem]) rfl
    · obtain rfl := Option.some.inj hi
      clear hi hlt
      intro a w1 hL hS hD
      have d4 : a.tmps.getD 20 undef = .pointer (some ⟨q, 0, none⟩) := hD ⟨4, .data⟩ (by simp) rfl _ rfl
      refine step_yes rfl ?_
      exact ok_value Lat.refl (.string nm) (by simp [execOp, Act.eval, d4, hnm w1 hL, go_sem]) rfl
    · obtain rfl := Option.some.inj hi
      clear hi hlt
      intro a w1 hL hS hD
      have d2 : a.tmps.getD 18 undef = .slice la n lc := hD ⟨2, .data⟩ (by simp) rfl _ rfl
      have d5 : a.tmps.getD 21 undef = .string nm := hD ⟨5, .data⟩ (by simp) rfl _ rfl
      refine step_yes rfl ?_
      refine ok_call (f := 57) (args := #[.slice la n lc, .string nm]) (by simp [execOp, resolve, Act.eval, d2, d5, go_sem]) ?_
      refine (hget w1 hL).mono ?_
      rintro e w2 ⟨r, rfl, hr, b5⟩
      exact ⟨_, rfl, b5, r, rfl, hr⟩
    · obtain rfl := Option.some.inj hi
      clear hi hlt
      intro a w1 hL hS hD
      have d1 : a.tmps.getD 17 undef = .func (.func f) fa fc := hD ⟨1, .data⟩ (by simp) rfl _ rfl
      have d6 := hD ⟨6, .data⟩ (by simp) rfl _ rfl
      refine step_yes rfl ?_
      obtain ⟨r, h5, hr⟩ := d6
      have h7 : a.tmps.getD 22 undef = .string r := h5
      have h6 : a.tmps[22]?.getD undef = .string r := by simpa using h7
      refine ok_call (f := f) (args := fa.push (.string r) ++ fc) (by simp [execOp, resolve, Act.eval, d1, h6, hen, go_sem]) ?_
      refine (hcl w1 r hL hr).mono ?_
      rintro e w2 ⟨rfl, b5⟩
      exact ⟨_, rfl, b5, rfl⟩
    · obtain rfl := Option.some.inj hi
      clear hi hlt
      intro a w1 hL hS hD
      have d7 : a.tmps.getD 23 undef = .bool H := hD ⟨7, .data⟩ (by simp) rfl _ rfl
      refine step_yes rfl ?_
      exact ok_value Lat.refl (.bool (!H)) (by simp [execOp, Act.eval, d7, go_sem]) rfl

end Go.Proofs.YtgmdpbahcbhfjaaGreatDoor
/-
  A matcher's test called; Holds.
-/
namespace Go.Proofs.YtgmdpbahcbhfjaaGreatDoor
open Go.RowKit

theorem str_eqB (a b : ByteArray) {i : Decidable (a = b)} : (a.toList == b.toList) = @decide (a = b) i := by
  rw [Bool.eq_iff_iff, beq_iff_eq, decide_eq_true_iff]
  constructor
  · intro h
    rw [L.toList_bts, L.toList_bts] at h
    exact L.bts_inj h
  · rintro rfl; rfl
theorem isC (b : Nat) (t v : ByteArray) (w : World) (h : Blk w b 9 [.string t]) : Calls Tryz.prog 126 #[.string v, .pointer (some ⟨b, 0, none⟩)] w fun e w' => e = .returned (.bool (v.toList == t.toList)) ∧ Below w.heap.size w w' := by
  have c0 : w.cell? ⟨b, 0, none⟩ = some (.string t) := h.cell 0
  clear h
  go_enter Tryz.func126, Tryz.ntmps126
  go_wp2
  go_ret
  exact ⟨by first | rfl | simp, Below.refl _ _⟩
theorem notIsC (b b2 : Nat) (t v : ByteArray) (w : World) (h : Blk w b 108 [.func (.func 126) #[] #[.pointer (some ⟨b2, 0, none⟩)]]) (h2 : Blk w b2 9 [.string t]) : Calls Tryz.prog 127 #[.string v, .pointer (some ⟨b, 0, none⟩)] w fun e w' => e = .returned (.bool (!(v.toList == t.toList))) ∧ Below w.heap.size w w' := by
  have c0 : w.cell? ⟨b, 0, none⟩ = some (.func (.func 126) #[] #[.pointer (some ⟨b2, 0, none⟩)]) := h.cell 0
  have K := isC b2 t v w h2
  generalize (v.toList == t.toList) = R at *
  clear h h2
  go_enter Tryz.func127, Tryz.ntmps127
  go_wp2_with fail
  refine K.mono ?_
  rintro e w2 ⟨rfl, b2⟩
  have B2 := hidden b2
  clear b2 K
  go_wp2
  go_ret
  exact ⟨by first | rfl | simp, B2.out⟩
theorem notPaC (F : Nat → Prop) (b p : Nat) (l : List (List Pt)) (v : ByteArray) (w : World) (h : Blk w b 108 [.func (.func 101) #[.pointer (some ⟨p, 0, none⟩)] #[]]) (hP : PaR F w p l) (hv : v.size ≤ 140737488355328) (R : Bool) (hR : R = true ↔ Means l (bts v)) :
    Calls Tryz.prog 127 #[.string v, .pointer (some ⟨b, 0, none⟩)] w fun e w' => e = .returned (.bool (!R)) ∧ Below w.heap.size w w' := by
  have c0 : w.cell? ⟨b, 0, none⟩ = some (.func (.func 101) #[.pointer (some ⟨p, 0, none⟩)] #[]) := h.cell 0
  have K := matchP F w p l hP v hv R hR
  clear h hP hR hv
  go_enter Tryz.func127, Tryz.ntmps127
  go_wp2_with fail
  refine K.mono ?_
  rintro e w2 ⟨rfl, b2⟩
  have B2 := hidden b2
  clear b2 K
  go_wp2
  go_ret
  exact ⟨by first | rfl | simp, B2.out⟩
open Classical in
theorem callH {F : Nat → Prop} {w : World} {op : Int} {t n : ByteArray} {fv : Value} (h : Fv F w op t fv) : ∃ f fa fc, fv = .func (.func f) fa fc ∧ (∀ args w1, (callFunc f args).run Tryz.prog w1 = .ok (.enter f args) w1) ∧
    ∀ wx (r : ByteArray), Lat w wx → r.size ≤ 140737488355328 → Calls Tryz.prog f (fa.push (.string r) ++ fc) wx fun e w' => e = .returned (.bool (Mt.hold ⟨n, op, t⟩ r)) ∧ Lat wx w' := by
  have hk : ∀ wx, Lat w wx → Fv F wx op t fv := fun wx hl => h.keep (Chg.of_below (F := fun _ => False) hl) (fun _ _ e => e)
  rcases h with ⟨rfl, b, rfl, h1, h2⟩ | ⟨rfl, b, f, rfl, h1, h2, b3, rfl, h3, h4⟩ | ⟨rfl, p, l, k, rfl, h1, h2⟩ | ⟨rfl, b, f, rfl, h1, h2, p, l, k, rfl, h3, h4⟩
  · refine ⟨126, #[], #[.pointer (some ⟨b, 0, none⟩)], rfl, (fun _ _ => by kernel_rfl), fun wx r hl hr => ?_⟩
    refine (isC b t r wx (h2.later hl)).mono ?_
    rintro e w' ⟨rfl, hb⟩
    exact ⟨by rw [str_eqB (i := Classical.propDecidable _)]; unfold Mt.hold; rw [if_pos rfl]; congr 2; congr, hb⟩
  · refine ⟨127, #[], #[.pointer (some ⟨b, 0, none⟩)], rfl, (fun _ _ => by kernel_rfl), fun wx r hl hr => ?_⟩
    refine (notIsC b b3 t r wx (h2.later hl) (h4.later hl)).mono ?_
    rintro e w' ⟨rfl, hb⟩
    exact ⟨by rw [str_eqB (i := Classical.propDecidable _)]; unfold Mt.hold; rw [if_neg (by simp), if_pos rfl]; congr 3; congr, hb⟩
  · refine ⟨101, #[.pointer (some ⟨p, 0, none⟩)], #[], rfl, (fun _ _ => by kernel_rfl), fun wx r hl hr => ?_⟩
    refine (matchP F wx p l (h2.later hl) r hr (decide (Means l (bts r))) (by simp)).mono ?_
    rintro e w' ⟨rfl, hb⟩
    exact ⟨by unfold Mt.hold; rw [if_neg (by simp), if_neg (by simp), if_pos rfl, prsL_of h1], hb⟩
  · refine ⟨127, #[], #[.pointer (some ⟨b, 0, none⟩)], rfl, (fun _ _ => by kernel_rfl), fun wx r hl hr => ?_⟩
    refine (notPaC F b p l r wx (h2.later hl) (h4.later hl) hr (decide (Means l (bts r))) (by simp)).mono ?_
    rintro e w' ⟨rfl, hb⟩
    exact ⟨by unfold Mt.hold; rw [if_neg (by simp), if_neg (by simp), if_neg (by simp), prsL_of h3], hb⟩

/-- What labels tell of a name, as a text. -/
def gotL (l : List L.Lb) (n : ByteArray) : ByteArray := L.oft (L.getL l (bts n))
noncomputable def holdsL (l : List Mt) (lb : List L.Lb) : Bool := l.all fun x => x.hold (gotL lb x.n)
theorem getL_len {N : Nat} : ∀ (l : List L.Lb) (n : List UInt8), (∀ x ∈ l, x.v.size ≤ N) → (L.getL l n).length ≤ N
  | [], n, h => by simp [L.getL]
  | x :: t, n, h => by
    unfold L.getL
    split
    · have := h x (by simp)
      rwa [L.size_bts] at this
    · exact getL_len t n (fun y hy => h y (by simp [hy]))

set_option maxRecDepth 100000 in
set_option maxHeartbeats 4000000 in
theorem holdsP (F : Nat → Prop) (w : World) (s : Nat) (l : List Mt) (hS : StR F w s l) (hll : l.length ≤ 1000) (la : Option Addr) (lc : Nat) (lb : List L.Lb) (hB : L.Ls w la lb) (hbl : lb.length ≤ 9223372036854775807) (hbs : ∀ x ∈ lb, x.v.size ≤ 140737488355328) :
    Calls Tryz.prog 27 #[.pointer (some ⟨s, 0, none⟩), .slice la lb.length lc] w fun e w' => e = .returned (.bool (holdsL l lb)) ∧ Below w.heap.size w w' := by
  obtain ⟨v, R, h1, h2, h3, h4, h5, h6, h7⟩ := hS
  have HF := hidden h4
  have HO := hidden h2
  have HR := hidden h3
  have HLB := hidden hB
  obtain ⟨ad, c, rfl, -⟩ := owns_formS h2
  have c0 : w.cell? ⟨s, 0, none⟩ = some (.slice ad R.length c) := h1.cell 0
  obtain ⟨m, hm⟩ : ∃ m, lb.length = m := ⟨_, rfl⟩
  obtain ⟨n, hn⟩ : ∃ n, R.length = n := ⟨_, rfl⟩
  have HM := hidden hm
  have HN := hidden hn
  have hn1 : n ≤ 1000 := by rw [← hn, ← List.length_map (f := Prod.fst), h3]; exact hll
  have hbl' : m ≤ 9223372036854775807 := by omega
  have HBS := hidden hbs
  rw [hm]
  rw [hn] at c0
  clear h1 h2 h3 h4 h5 h6 h7 hB hm hn hbl hbs hll
  go_enter Tryz.func27, Tryz.ntmps27
  go_wp2_with fail
  go_loopw [6, 12] (fun v6 v12 wx => ∃ i : Nat, v12 = .int .i64 (i : Int) ∧ i ≤ n ∧ Hid ((l.take i).all (fun x => x.hold (gotL lb x.n)) = true) ∧ Hid (Below w.heap.size w wx)) (fun _ v12 _ => n - (intOf v12).toNat)
  case atStart => exact ⟨0, rfl, by omega, hidden (by simp), hidden (Below.refl _ _)⟩
  case round =>
    rename World => wx
    obtain ⟨i, rfl, hi, hA, hBl⟩ := hrel
    by_cases hlt : i < n
    · have hltz : (i : Int) < (n : Int) := by omega
      obtain ⟨p, hp⟩ : ∃ p, R[i]? = some p := ⟨R[i]'(by rw [HN.out]; exact hlt), by simp⟩
      obtain ⟨x, fv⟩ := p
      have hx : l[i]? = some x := by rw [← HR.out, List.getElem?_map, hp]; rfl
      have hfv := HF.out _ (List.mem_of_getElem? hp)
      obtain ⟨f, fa, fc, e, hen, hcl⟩ := callH (n := x.n) hfv
      simp only at e
      subst e
      obtain ⟨g, rfl⟩ : ∃ g, ad = some ⟨g, 0, none⟩ := by
        rcases HO.out.2 with ⟨_, e⟩ | ⟨g, cap, cur, e, _⟩
        · rw [HN.out] at e; omega
        · injection e with e; exact ⟨g, e⟩
      have hO := owl HO.out hBl.out
      obtain ⟨k0, k1, k2, k3⟩ := cR_get R i _ hp
      have d0 := hO.cells (g := g) rfl _ _ k0
      have d1 := hO.cells (g := g) rfl _ _ k1
      have d2 := hO.cells (g := g) rfl _ _ k2
      have d3 := hO.cells (g := g) rfl _ _ k3
      rw [Addr.add_lit, Nat.zero_add] at d0 d1 d2 d3
      have HX := hidden hx
      have HCL := hidden hcl
      have HEN := hidden hen
      clear hO hp hx hfv hcl hen k0 k1 k2 k3
      go_upto_region 4 with (refine wpList_new_var rfl rfl 126 6 (.tmp 15) rfl rfl rfl rfl 4 info56n (ruC x (.func (.func f) fa fc)) rfl (one_ruC rfl) (by simp) rfl ?_; intro w4 B4 bl4 hz4; have BL4 := hidden bl4; have HB4 := hidden B4; clear B4 bl4 hz4)
      have B4 : Hid (Below w.heap.size w w4) := hidden (hBl.out.trans (BL4.out.mono hBl.out.size))
      refine holds_r4 wx.heap.size m lc f fa fc la x.n (L.getL lb (bts x.n)) (x.hold (gotL lb x.n)) w4 _ _ (by rfl) (by rfl) (by rfl) HEN.out (fun w5 h5 => (HB4.out.later h5).cell 3) (fun w5 h5 => (HB4.out.later h5).cell 0) (fun w5 h5 => ?_) (fun w5 r h5 hr => ?_) ?_
      · have := L.getP la lc lb x.n w5 (HLB.out.later (B4.out.trans (h5.mono B4.out.size))) (by rw [HM.out]; exact hbl')
        rw [HM.out] at this
        exact this
      · have hrr : r = gotL lb x.n := L.bts_inj (by unfold gotL; rw [L.bts_oft]; exact hr)
        subst hrr
        refine HCL.out w5 _ (hBl.out.trans ((BL4.out.trans (h5.mono BL4.out.size)).mono hBl.out.size) |> fun h => h) ?_
        rw [L.size_bts]
        unfold gotL
        rw [L.bts_oft]
        exact getL_len lb _ HBS.out
      · intro v16 v17 v18 v19 v20 v21 v22 v23 v24 w6 hL6 h24
        subst h24
        have B6 : Hid (Below w.heap.size w w6) := hidden (B4.out.trans (hL6.mono B4.out.size))
        clear hL6 d0 d1 d2 d3
        simp only [Act.put, List.setIfInBounds_toArray, List.set_cons_succ, List.set_cons_zero]
        cases hh : x.hold (gotL lb x.n) with
        | false =>
          have HHF : Hid (holdsL l lb = false) := hidden (by
            unfold holdsL
            rw [List.all_eq_false]
            exact ⟨x, List.mem_of_getElem? HX.out, by rw [hh]; simp⟩)
          clear hh
          go_wp2
          go_ret
          exact ⟨by rw [HHF.out]; rfl, B6.out⟩
        | true =>
          have HA2 : Hid ((l.take (i + 1)).all (fun x => x.hold (gotL lb x.n)) = true) := hidden (by
            rw [take_next HX.out, List.all_append, hA.out, Bool.true_and]
            simp [hh])
          clear hh
          go_wp2_with fail
          exact ⟨⟨i + 1, by rw [Int.natCast_add]; rfl, by omega, HA2, B6⟩, by simp [intOf]; omega⟩
    · have hltz : ¬ (i : Int) < (n : Int) := by omega
      have HHT : Hid (holdsL l lb = true) := hidden (by
        unfold holdsL
        have := hA.out
        rwa [List.take_of_length_le (by rw [← HR.out, List.length_map, HN.out]; omega)] at this)
      go_wp2
      go_ret
      exact ⟨by rw [HHT.out]; rfl, hBl.out⟩

end Go.Proofs.YtgmdpbahcbhfjaaGreatDoor
/-
  The program's List. (Carried.)
-/
namespace Go.Proofs.YtgmdpbahcbhfjaaGreatDoor
open Go.RowKit

theorem ix_info_parts0 {P : Program} {ty : TypeId} {z : Option Value} {s b : Nat} (h : (P.info? ty).map (fun i => (i.zero, i.size, i.bytes)) = some (z, s, b)) : ∃ i, P.info? ty = some i ∧ i.zero = z ∧ i.size = s ∧ i.bytes = b := by
  cases e : P.info? ty with
  | none => rw [e] at h; cases h
  | some i =>
    rw [e] at h
    simp at h
    exact ⟨i, rfl, h.1, h.2.1, h.2.2⟩

def cM (l : List Mt) : List Value := l.flatMap mC
theorem cM_cons (x : Mt) (l : List Mt) : cM (x :: l) = mC x ++ cM l := by simp [cM]
theorem cM_append (l m : List Mt) : cM (l ++ m) = cM l ++ cM m := by simp [cM]
theorem cM_get : ∀ (L : List Mt) (i : Nat) (p : Mt), L[i]? = some p → (cM L)[i * 3]? = some (.string p.n) ∧ (cM L)[i * 3 + 1]? = some (.int .i64 p.op) ∧ (cM L)[i * 3 + 2]? = some (.string p.t)
  | [], i, p, h => by simp at h
  | q :: t, 0, p, h => by simp at h; subst h; rw [cM_cons]; exact ⟨rfl, rfl, rfl⟩
  | q :: t, i + 1, p, h => by
    have := cM_get t i p (by simpa using h)
    rw [cM_cons]
    have e : ∀ k, (mC q ++ cM t)[(i + 1) * 3 + k]? = (cM t)[i * 3 + k]? := fun k => by
      rw [List.getElem?_append_right (by simp [mC]; omega)]
      congr 1
      simp [mC]
      omega
    exact ⟨by rw [← this.1]; exact e 0, by rw [← this.2.1]; exact e 1, by rw [← this.2.2]; exact e 2⟩
theorem info31 : (Tryz.prog.info? 78).map (fun i => (i.zero, i.size, i.bytes)) = some (some (.agg #[.string ⟨#[]⟩, .int .i64 0, .string ⟨#[]⟩]), 3, 40) := by kernel_rfl
/-- A row of matchers of one's own, whatever they are. -/
def RV (base : Nat) (w : World) (g n c : Nat) : Prop := ∃ xs, w.ownsRow base 78 3 (.slice (some ⟨g, 0, none⟩) n c) n xs
theorem RV.spot {base : Nat} {w : World} {g n c : Nat} (h : RV base w g n c) {k : Nat} (hk : k < n) : g < w.heap.size ∧ base ≤ g ∧ (∃ u, w.cell? ⟨g, k * 3, none⟩ = some u) ∧ (∃ u, w.cell? ⟨g, k * 3 + 1, none⟩ = some u) ∧ (∃ u, w.cell? ⟨g, k * 3 + 2, none⟩ = some u) ∧ ∀ j, w.frozen? ⟨g, j, none⟩ = false := by
  obtain ⟨xs, h⟩ := h
  have hlt := h.lt g (by simp [Value.ownBlock])
  have hc : ∀ j, j < n * 3 → ∃ u, w.cell? ⟨g, j, none⟩ = some u := fun j hj => by
    have := h.cells (g := g) (by simp [Value.ownBlock]) j (xs[j]'(by rw [h.1]; exact hj)) (by simp)
    rw [Addr.add_lit, Nat.zero_add] at this
    exact ⟨_, this⟩
  refine ⟨owns_lt h g (by simp [Value.ownBlock]), hlt.1, hc _ (by omega), hc _ (by omega), hc _ (by omega), fun j => ?_⟩
  rcases h.2 with ⟨h0, _⟩ | ⟨g', cp, cur, hv, _, hh, _⟩
  · cases h0
  · simp only [Value.slice.injEq, Option.some.injEq, Addr.mk.injEq] at hv
    obtain ⟨⟨rfl, _⟩, _⟩ := hv
    exact frozen_of_row w g _ _ 78 hh
theorem set3_chg (w : World) (g k : Nat) (a b d : Value) : Chg (fun i => i = g) w (((w.setCell ⟨g, k, none⟩ a).setCell ⟨g, k + 1, none⟩ b).setCell ⟨g, k + 2, none⟩ d) :=
  ((Chg.set ⟨g, k, none⟩ a w).trans (Chg.set ⟨g, k + 1, none⟩ b _) (fun _ _ e => e)).trans (Chg.set ⟨g, k + 2, none⟩ d _) (fun _ _ e => e)

/-- 'make([]T, n)'. -/
theorem wpList_make_any {P : Program} (w : World) {ops : Array Oper} {rest : List Oper} {o : Oper} {a : Act} {Q : Exit → Act → World → Prop}
    (hg : o.guard = none) (l c : Operand) (t : TypeId) (hop : o.op = Op.makeSlice t l c) (e : TypeId) (z : Value) (s b : Nat) (h1 : P.underlying t = some (.slice e)) (h2 : (P.info? e).map (fun i => (i.zero, i.size, i.bytes)) = some (some z, s, b))
    (n : Nat) (hl : a.eval l = .int .i64 (n : Int)) (hc : a.eval c = .int .i64 (n : Int)) (hb : b * n ≤ 281474976710656) (hn : n ≤ 281474976710656)
    (hK : ∀ w', Blk w' w.heap.size e (madeCells z.cells (n * s)).toList → w'.heap.size = w.heap.size + 1 → Below w.heap.size w w' → wpList P ops Q rest (a.put o.dst (.slice (some ⟨w.heap.size, 0, none⟩) n n)) w') : wpList P ops Q (o :: rest) a w := by
  obtain ⟨i, hi, hz, hs, hby⟩ := ix_info_parts0 h2
  refine wpList_plain hg fun K hK' => ?_
  have hr := run_make (P := P) w t e i z h1 hi hz .i64 .i64 (n : Int) (n : Int) (by omega) (by omega) (by rw [hby, ← Int.natCast_mul]; omega) (by omega)
  rw [hs] at hr
  simp only [Int.toNat_natCast] at hr
  unfold Oper.wp
  simp [execOp, hop, hl, hc, hr, Result.andThen]
  refine hK' _ _ (hK _ ?_ (by simp) ((Below.refl _ _).alloc (Nat.le_refl _) _))
  unfold Blk
  rw [heap_alloc_new w]
theorem made_len (z : Array Value) (k : Nat) : (madeCells z k).toList.length = k := by simp [madeCells]
theorem owns_made {w : World} {g n base : Nat} {xs : List Value} (h : Blk w g 78 xs) (hl : xs.length = n * 3) (hb : base ≤ g) (hn : n ≤ 1000000) : w.ownsRow base 78 3 (.slice (some ⟨g, 0, none⟩) n n) n xs := by
  refine ⟨hl, .inr ⟨g, n, xs.toArray, rfl, hb, h, Nat.le_refl _, by unfold maxLen; omega, by simp [hl], ?_⟩⟩
  rw [List.take_of_length_le (by simp [hl])]
theorem set3_take (xs : List Value) (i : Nat) (a b c : Value) (h : (i + 1) * 3 ≤ xs.length) : (((xs.set (i * 3) a).set (i * 3 + 1) b).set (i * 3 + 2) c).take ((i + 1) * 3) = xs.take (i * 3) ++ [a, b, c] := by
  apply List.ext_getElem?
  intro j
  have hlt : (xs.take (i * 3)).length = i * 3 := by rw [List.length_take]; omega
  rw [List.getElem?_take]
  by_cases h0 : j < i * 3
  · rw [if_pos (by omega), List.getElem?_set_ne (by omega), List.getElem?_set_ne (by omega), List.getElem?_set_ne (by omega), List.getElem?_append_left (by omega), List.getElem?_take, if_pos h0]
  · rw [List.getElem?_append_right (by omega), hlt]
    by_cases h1 : j < (i + 1) * 3
    · rw [if_pos h1]
      rcases (show j = i * 3 ∨ j = i * 3 + 1 ∨ j = i * 3 + 2 by omega) with rfl | rfl | rfl
      · rw [List.getElem?_set_ne (by omega), List.getElem?_set_ne (by omega), List.getElem?_set_self (by omega), Nat.sub_self]
        rfl
      · rw [List.getElem?_set_ne (by omega), List.getElem?_set_self (by simp; omega), show i * 3 + 1 - i * 3 = 1 by omega]
        rfl
      · rw [List.getElem?_set_self (by simp; omega), show i * 3 + 2 - i * 3 = 2 by omega]
        rfl
    · rw [if_neg h1, List.getElem?_eq_none (by simp; omega)]
/-- A row of matchers that is being filled. -/
structure RT (base : Nat) (w : World) (g n i : Nat) (l : List Mt) : Prop where
  row : ∃ xs, w.ownsRow base 78 3 (.slice (some ⟨g, 0, none⟩) n n) n xs ∧ xs.take (i * 3) = cM (l.take i)
theorem RT.rv {base : Nat} {w : World} {g n i : Nat} {l : List Mt} (h : RT base w g n i l) : RV base w g n n := by
  obtain ⟨xs, h, _⟩ := h.row
  exact ⟨xs, h⟩
theorem RT.later {base : Nat} {w w' : World} {g n i : Nat} {l : List Mt} (h : RT base w g n i l) (hb : Below w.heap.size w w') : RT base w' g n i l := by
  obtain ⟨xs, h1, h2⟩ := h.row
  exact ⟨xs, owl h1 hb, h2⟩
theorem RT.put {base : Nat} {w : World} {g n i : Nat} {l : List Mt} {x : Mt} (h : RT base w g n i l) (hi : i < n) (hx : l[i]? = some x) :
    RT base (((w.setCell ⟨g, i * 3, none⟩ (.string x.n)).setCell ⟨g, i * 3 + 1, none⟩ (.int .i64 x.op)).setCell ⟨g, i * 3 + 2, none⟩ (.string x.t)) g n (i + 1) l := by
  obtain ⟨xs, h1, h2⟩ := h.row
  refine ⟨_, owns_setV (owns_setV (owns_setV h1 (i * 3) _) (i * 3 + 1) _) (i * 3 + 2) _, ?_⟩
  rw [set3_take xs i _ _ _ (by rw [h1.1]; omega), h2, take_next hx, cM_append]
  simp [cM, mC]
theorem RT.full {base : Nat} {w : World} {g n : Nat} {l : List Mt} (h : RT base w g n n l) (hl : l.length = n) : w.ownsRow base 78 3 (.slice (some ⟨g, 0, none⟩) n n) n (cM l) := by
  obtain ⟨xs, h1, h2⟩ := h.row
  rw [List.take_of_length_le (by rw [h1.1]; omega), List.take_of_length_le (by omega)] at h2
  rw [← h2]
  exact h1

set_option maxRecDepth 100000 in
set_option maxHeartbeats 4000000 in
theorem listP (F : Nat → Prop) (w : World) (s : Nat) (l : List Mt) (hS : StR F w s l) (hll : l.length ≤ 1000) :
    Calls Tryz.prog 53 #[.pointer (some ⟨s, 0, none⟩)] w fun e w' => e = .returned (.slice (some ⟨w.heap.size, 0, none⟩) l.length l.length) ∧ w'.ownsRow w.heap.size 78 3 (.slice (some ⟨w.heap.size, 0, none⟩) l.length l.length) l.length (cM l) ∧ Below w.heap.size w w' := by
  obtain ⟨v, R, h1, h2, h3, h4, h5, h6, h7⟩ := hS
  have HF := hidden h4
  have HO := hidden h2
  have HR := hidden h3
  obtain ⟨ad, c, rfl, -⟩ := owns_formS h2
  have hBS := h1
  obtain ⟨n, hn⟩ : ∃ n, R.length = n := ⟨_, rfl⟩
  have hln : l.length = n := by rw [← h3, List.length_map]; exact hn
  have HN := hidden hn
  have HLN := hidden hln
  rw [hln] at hll ⊢
  rw [hn] at hBS
  have HBS := hidden hBS
  have c0 : w.cell? ⟨s, 0, none⟩ = some (.slice ad n c) := hBS.cell 0
  clear h1 h2 h3 h4 h5 h6 h7 hn hln hBS
  go_enter Tryz.func53, Tryz.ntmps53
  go_upto_region 2 with (refine wpList_make_any _ rfl (.tmp 10) (.tmp 10) 37 rfl 78 _ 3 40 Tryz.underlying37 info31 n rfl rfl (by omega) (by omega) ?_; intro w1 hB hz bl; have HB := hidden hB; have BL := hidden bl; clear hB hz bl)
  have R0 : Hid (RT w.heap.size w1 w.heap.size n 0 l) := hidden ⟨_, owns_made HB.out (made_len _ _) (Nat.le_refl _) (by omega), by simp [cM]⟩
  have c1 : w1.cell? ⟨s, 0, none⟩ = some (.slice ad n c) := (HBS.out.later BL.out).cell 0
  clear c0 HB
  go_wp2_with fail
  go_loopw [4, 5, 17] (fun v4 v5 v17 wx => ∃ i : Nat, v17 = .int .i64 (i : Int) ∧ i ≤ n ∧ Hid (RT w.heap.size wx w.heap.size n i l) ∧ Hid (Below w.heap.size w wx)) (fun _ _ v17 _ => n - (intOf v17).toNat)
  case atStart => exact ⟨0, rfl, by omega, R0, BL⟩
  case round =>
    rename World => wx
    obtain ⟨i, rfl, hi, hRT, hBl⟩ := hrel
    clear R0 BL c1
    by_cases hlt : i < n
    · have hltz : (i : Int) < (n : Int) := by omega
      obtain ⟨p, hp⟩ : ∃ p, R[i]? = some p := ⟨R[i]'(by rw [HN.out]; exact hlt), by simp⟩
      obtain ⟨x, fv⟩ := p
      have hx : l[i]? = some x := by rw [← HR.out, List.getElem?_map, hp]; rfl
      have hfv := HF.out _ (List.mem_of_getElem? hp)
      obtain ⟨fn, xa, ya, e⟩ := hfv.func
      simp only at e
      subst e
      obtain ⟨g, rfl⟩ : ∃ g, ad = some ⟨g, 0, none⟩ := by
        rcases HO.out.2 with ⟨_, e⟩ | ⟨g, cap, cur, e, _⟩
        · rw [HN.out] at e; omega
        · injection e with e; exact ⟨g, e⟩
      have hO := owl HO.out hBl.out
      obtain ⟨k0, k1, k2, k3⟩ := cR_get R i _ hp
      have d0 := hO.cells (g := g) rfl _ _ k0
      have d1 := hO.cells (g := g) rfl _ _ k1
      have d2 := hO.cells (g := g) rfl _ _ k2
      have d3 := hO.cells (g := g) rfl _ _ k3
      rw [Addr.add_lit, Nat.zero_add] at d0 d1 d2 d3
      have HX := hidden hx
      clear hO hp hx hfv k0 k1 k2 k3
      go_upto_region 5 with (first
        | (refine wpList_alloc_blk rfl 126 rfl 5 rfl (ruC zM .nilFunc) info56z ?_; intro w3 B3 bl3 hz3; have HB3 := hidden B3; have BL3 := hidden bl3; clear B3 bl3 hz3)
        | (refine wpList_store_blk rfl 126 (.tmp 5) (.tmp 21) rfl rfl wx.heap.size (l := ruC x (.func fn xa ya)) HB3.out rfl rfl rfl size56 (one_ruC rfl) ?_))
      have hN := blk_stored (l := ruC x (.func fn xa ya)) HB3.out rfl
      have hcs := Chg.sets wx.heap.size (ruC x (.func fn xa ya)) 0 w3
      have hB4 : Below wx.heap.size wx (w3.setCells wx.heap.size 0 (ruC x (.func fn xa ya))) := BL3.out.trans (hcs.below BL3.out.size (fun j e => by have e' : j = wx.heap.size := e; omega))
      have HN4 := hidden hN
      have HB4 := hidden hB4
      clear d0 d1 d2 d3 hN hcs hB4 HB3 BL3
      generalize w3.setCells wx.heap.size 0 (ruC x (.func fn xa ya)) = w4 at *
      have R4 := hidden (hRT.out.later HB4.out)
      have B4w : Hid (Below w.heap.size w w4) := hidden (hBl.out.trans (HB4.out.mono hBl.out.size))
      have g0 : w4.cell? ⟨wx.heap.size, 0, none⟩ = some (.string x.n) := HN4.out.cell 0
      have g1 : w4.cell? ⟨wx.heap.size, 1, none⟩ = some (.int .i64 x.op) := HN4.out.cell 1
      have g2 : w4.cell? ⟨wx.heap.size, 2, none⟩ = some (.string x.t) := HN4.out.cell 2
      obtain ⟨hg, -, ⟨u0, q0⟩, ⟨u1, q1⟩, ⟨u2, q2⟩, hf⟩ := R4.out.rv.spot hlt
      have f0 := hf (i * 3)
      have f1 := hf (i * 3 + 1)
      have f2 := hf (i * 3 + 2)
      clear hf
      go_wp2
      refine ⟨⟨i + 1, by first | rfl | simp, by omega, hidden (R4.out.put hlt HX.out), hidden (B4w.out.trans ((set3_chg w4 w.heap.size (i * 3) _ _ _).below B4w.out.size (fun j e => by have e' : j = w.heap.size := e; omega)))⟩, ?_⟩
      simp [intOf]
      omega
    · have hltz : ¬ (i : Int) < (n : Int) := by omega
      obtain rfl : i = n := by omega
      go_wp2
      go_ret
      exact ⟨by first | rfl | simp, hRT.out.full HLN.out, hBl.out⟩

end Go.Proofs.YtgmdpbahcbhfjaaGreatDoor
