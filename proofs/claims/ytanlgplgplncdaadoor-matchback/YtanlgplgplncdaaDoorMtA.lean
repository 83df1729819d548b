import Derived.Test.YtanlgplgplncdaaDoorMtM
import Derived.Test.YtanlgplgplncdaaDoorLbV
/-
  A matcher's test as a function's value; isLabel, isText, testOf.
-/
namespace Go.Proofs.YtanlgplgplncdaaDoor
open Go.RowKit
set_option linter.unusedVariables false
set_option linter.unusedSimpArgs false

theorem built50 (a b : ByteArray) : Tryd.prog.built 50 [(0, .string a), (1, .string b)] = some #[.string a, .string b] := by kernel_rfl

theorem ls_one (w : World) (x : L.Lb) (h1 : x.n.size ≤ 9223372036854775807) (h2 : x.v.size ≤ 9223372036854775807) : L.Ls (w.alloc (.cells #[.string x.n, .string x.v] 50)) (some ⟨w.heap.size, 0, none⟩) [x] := by
  refine ⟨fun y hy => by rw [List.mem_singleton.1 hy]; exact ⟨h1, h2⟩, fun _ => ⟨w.heap.size, 0, rfl, by simp, fun i y hy => ?_⟩⟩
  have hi : i = 0 := by have := (List.getElem?_eq_some_iff.1 hy).1; simp at this; exact this
  subst hi
  obtain rfl : y = x := by simpa using hy.symm
  exact ⟨by simp, by simp⟩
theorem right_one (x : L.Lb) : L.right [x] = x.fits := by simp [L.right, L.rightFrom]
theorem errL_eq (b : Bool) : ((L.errL b) == 0) = b := by cases b <;> rfl

set_option maxRecDepth 100000 in
set_option maxHeartbeats 2000000 in
theorem isLabelP (B : Nat) (n v : ByteArray) (w : World) (hn : n.size ≤ 9223372036854775807) (hv : v.size ≤ 9223372036854775807) (hT : L.Tb B w) :
    Calls Tryd.prog 23 #[.string n, .string v] w fun e w' => e = .returned (.bool (L.isName (bts n) && L.isVal (bts v))) ∧ Below w.heap.size w w' := by
  have hal : Below w.heap.size w (w.alloc (.cells #[.string n, .string v] 50)) := (Below.refl _ _).alloc (Nat.le_refl _) _
  have K := L.rightP B (some ⟨w.heap.size, 0, none⟩) 1 [⟨n, v⟩] _ (ls_one w ⟨n, v⟩ hn hv) (by simp) (hT.later hal)
  rw [right_one] at K
  have hE : L.Lb.fits ⟨n, v⟩ = (L.isName (bts n) && L.isVal (bts v)) := rfl
  rw [hE] at K
  obtain ⟨R, hR⟩ : ∃ R, (L.isName (bts n) && L.isVal (bts v)) = R := ⟨_, rfl⟩
  rw [hR] at K ⊢
  have HA := hidden hal
  have he := errL_eq R
  clear hal hT hR hE
  simp only [List.length_singleton] at K
  go_enter Tryd.func23, Tryd.ntmps23
  go_wp2_with (refine wpList_build_to rfl 50 #[(0, .tmp 5), (1, .tmp 6)] rfl [(0, .string n), (1, .string v)] #[.string n, .string v] rfl (built50 _ _) ?_)
  refine K.mono ?_
  rintro e w2 ⟨rfl, b2⟩
  have B2 := hidden (HA.out.trans (b2.mono HA.out.size))
  clear b2 K
  generalize L.errL R = E at *
  go_wp2
  go_ret
  exact ⟨by first | rfl | simp [he], B2.out⟩

theorem bts_eq (s : ByteArray) : L.bts s = bts s := rfl
theorem x_name : L.isName (bts ⟨#[120]⟩) = true := by decide
set_option maxRecDepth 100000 in
set_option maxHeartbeats 2000000 in
theorem isTextP (B : Nat) (s : ByteArray) (w : World) (hs : s.size ≤ 9223372036854775807) (hT : L.Tb B w) :
    Calls Tryd.prog 33 #[.string s] w fun e w' => e = .returned (.bool (decide (bts s = []) || L.isVal (bts s))) ∧ Below w.heap.size w w' := by
  have K := isLabelP B ⟨#[120]⟩ s w (by show 1 ≤ _; omega) hs hT
  rw [x_name, Bool.true_and] at K
  have e0 : (s.toList == ([] : List UInt8)) = decide (bts s = []) := L.empty_bts s
  obtain ⟨R, hR⟩ : ∃ R, L.isVal (bts s) = R := ⟨_, rfl⟩
  rw [hR] at K ⊢
  clear hR hT
  by_cases h0 : bts s = []
  · rw [decide_eq_true h0] at e0 ⊢
    rw [Bool.true_or]
    clear h0 K
    go_enter Tryd.func33, Tryd.ntmps33
    go_wp2
    go_ret
    exact ⟨by first | rfl | simp, Below.refl _ _⟩
  · rw [decide_eq_false h0] at e0 ⊢
    rw [Bool.false_or]
    clear h0
    go_enter Tryd.func33, Tryd.ntmps33
    go_wp2_with fail
    refine K.mono ?_
    rintro e w2 ⟨rfl, b2⟩
    have B2 := hidden b2
    clear b2 K
    go_wp2
    go_ret
    exact ⟨by first | rfl | simp, B2.out⟩

end Go.Proofs.YtanlgplgplncdaaDoor

/-
  A matcher's test as a function's value; testOf.
-/
namespace Go.Proofs.YtanlgplgplncdaaDoor
open Go.RowKit
set_option linter.unusedVariables false
set_option linter.unusedSimpArgs false

/-- What asks for just this text. -/
def IsV (F : Nat → Prop) (w : World) (t : ByteArray) (fv : Value) : Prop := ∃ b, fv = .func (.func 43) #[] #[.pointer (some ⟨b, 0, none⟩)] ∧ F b ∧ Blk w b 9 [.string t]
/-- What asks a pattern. -/
def PaV (F : Nat → Prop) (w : World) (t : ByteArray) (fv : Value) : Prop := ∃ p l k, fv = .func (.func 36) #[.pointer (some ⟨p, 0, none⟩)] #[] ∧ prs (bts t) = .ok l k ∧ PaR F w p l
/-- What asks for the other answer. -/
def NoV (F : Nat → Prop) (w : World) (P : Value → Prop) (fv : Value) : Prop := ∃ b f, fv = .func (.func 44) #[] #[.pointer (some ⟨b, 0, none⟩)] ∧ F b ∧ Blk w b 54 [f] ∧ P f
/-- A matcher's test. -/
def Fv (F : Nat → Prop) (w : World) (op : Int) (t : ByteArray) (fv : Value) : Prop :=
  (op = 1 ∧ IsV F w t fv) ∨ (op = 2 ∧ NoV F w (IsV F w t) fv) ∨ (op = 3 ∧ PaV F w t fv) ∨ (op = 4 ∧ NoV F w (PaV F w t) fv)
theorem IsV.keep {F G : Nat → Prop} {w w' : World} {t : ByteArray} {fv : Value} (h : IsV F w t fv) (hc : Chg G w w') (hd : ∀ b, F b → ¬ G b) : IsV F w' t fv := by
  obtain ⟨b, e, hF, hB⟩ := h
  exact ⟨b, e, hF, hc.blk hB (hd b hF)⟩
theorem PaV.keep {F G : Nat → Prop} {w w' : World} {t : ByteArray} {fv : Value} (h : PaV F w t fv) (hc : Chg G w w') (hd : ∀ b, F b → ¬ G b) : PaV F w' t fv := by
  obtain ⟨p, l, k, e, h1, h2⟩ := h
  exact ⟨p, l, k, e, h1, h2.keep hc hd⟩
theorem Fv.keep {F G : Nat → Prop} {w w' : World} {op : Int} {t : ByteArray} {fv : Value} (h : Fv F w op t fv) (hc : Chg G w w') (hd : ∀ b, F b → ¬ G b) : Fv F w' op t fv := by
  rcases h with ⟨e, h⟩ | ⟨e, b, f, e2, h1, h2, h3⟩ | ⟨e, h⟩ | ⟨e, b, f, e2, h1, h2, h3⟩
  · exact .inl ⟨e, h.keep hc hd⟩
  · exact .inr (.inl ⟨e, b, f, e2, h1, hc.blk h2 (hd b h1), h3.keep hc hd⟩)
  · exact .inr (.inr (.inl ⟨e, h.keep hc hd⟩))
  · exact .inr (.inr (.inr ⟨e, b, f, e2, h1, hc.blk h2 (hd b h1), h3.keep hc hd⟩))
theorem PaR.mono {F F' : Nat → Prop} {w : World} {p : Nat} {l : List (List Pt)} (h : PaR F w p l) (hm : ∀ b, F b → F' b) (hl : ∀ b, F' b → b < w.heap.size) : PaR F' w p l := by
  obtain ⟨ad, c, b, off, sa, sc, vs, h⟩ := h
  exact ⟨ad, c, b, off, sa, sc, vs, h.blk, fun h0 => ⟨(h.at' h0).1, hm _ (h.at' h0).2⟩, RowsV.mono hm l b off h.rows, ⟨h.sp.own, h.sp.sp.mono hm, fun b hb => hm _ (h.sp.at' b hb), h.sp.b64⟩, hm _ h.fp, hl, h.fine, h.cnt⟩
theorem Fv.mono {F F' : Nat → Prop} {w : World} {op : Int} {t : ByteArray} {fv : Value} (h : Fv F w op t fv) (hm : ∀ b, F b → F' b) (hl : ∀ b, F' b → b < w.heap.size) : Fv F' w op t fv := by
  rcases h with ⟨e, b, e2, h1, h2⟩ | ⟨e, b, f, e2, h1, h2, b3, e3, h3, h4⟩ | ⟨e, p, l, k, e2, h1, h2⟩ | ⟨e, b, f, e2, h1, h2, p, l, k, e3, h3, h4⟩
  · exact .inl ⟨e, b, e2, hm _ h1, h2⟩
  · exact .inr (.inl ⟨e, b, f, e2, hm _ h1, h2, b3, e3, hm _ h3, h4⟩)
  · exact .inr (.inr (.inl ⟨e, p, l, k, e2, h1, h2.mono hm hl⟩))
  · exact .inr (.inr (.inr ⟨e, b, f, e2, hm _ h1, h2, p, l, k, e3, h3, h4.mono hm hl⟩))

theorem isP (t : ByteArray) (w : World) : Calls Tryd.prog 32 #[.string t] w fun e w' => e = .returned (.func (.func 43) #[] #[.pointer (some ⟨w.heap.size, 0, none⟩)]) ∧ w' = w.alloc (.cells #[.string t] 9) := by
  go_enter Tryd.func32, Tryd.ntmps32
  go_wp2
  go_ret
  exact ⟨by first | rfl | simp, by first | rfl | simp⟩
theorem notP (fn : Fn) (x y : Array Value) (w : World) : Calls Tryd.prog 34 #[.func fn x y] w fun e w' => e = .returned (.func (.func 44) #[] #[.pointer (some ⟨w.heap.size, 0, none⟩)]) ∧ w' = w.alloc (.cells #[.func fn x y] 54) := by
  go_enter Tryd.func34, Tryd.ntmps34
  go_wp2
  go_ret
  exact ⟨by first | rfl | simp, by first | rfl | simp⟩

/-- What testOf leaves. -/
def TeP (w : World) (op : Int) (t : ByteArray) (e : Ending) (w' : World) : Prop :=
  Below w.heap.size w w' ∧ ∃ fv, e = .returned (.tuple #[fv, .bool (txtOk op (bts t))]) ∧ (txtOk op (bts t) = true → ∃ F, Fv F w' op t fv ∧ ∀ b, F b → w.heap.size ≤ b ∧ b < w'.heap.size)

set_option maxRecDepth 100000 in
set_option maxHeartbeats 4000000 in
theorem testOfP (B : Nat) (op : Int) (t : ByteArray) (w : World) (ho : -9223372036854775808 ≤ op ∧ op ≤ 9223372036854775807) (ht : t.size ≤ 9223372036854775807) (hT : L.Tb B w) : Calls Tryd.prog 22 #[.int .i64 op, .string t] w (TeP w op t) := by
  unfold TeP
  by_cases h1 : op = 1
  · subst h1
    have hx : txtOk 1 (bts t) = (decide (bts t = []) || L.isVal (bts t)) := rfl
    rw [hx]
    have hal : Below w.heap.size w (w.alloc (.cells #[.string t] 9)) := (Below.refl _ _).alloc (Nat.le_refl _) _
    have K := isTextP B t _ ht (hT.later hal)
    generalize (decide (bts t = []) || L.isVal (bts t)) = R at *
    have HA := hidden hal
    clear hal hx hT
    go_enter Tryd.func22, Tryd.ntmps22
    go_wp2_with fail
    refine (isP t w).mono ?_
    rintro e w2 ⟨rfl, rfl⟩
    go_wp2_with fail
    refine K.mono ?_
    rintro e w3 ⟨rfl, b3⟩
    have B3 := hidden b3
    clear b3 K
    go_wp2
    go_ret2
    refine ⟨HA.out.trans (B3.out.mono HA.out.size), _, rfl, fun _ => ⟨fun b => b = w.heap.size, .inl ⟨rfl, w.heap.size, rfl, rfl, (Blk.new w 9 [.string t]).later B3.out⟩, fun b hb => ?_⟩⟩
    have := B3.out.size
    simp at this
    omega
  · have e1 : (op == 1) = false := by simpa using h1
    by_cases h2 : op = 2
    · subst h2
      have hx : txtOk 2 (bts t) = (decide (bts t = []) || L.isVal (bts t)) := rfl
      rw [hx]
      obtain ⟨W1, hW1⟩ : ∃ W1, w.alloc (.cells #[.string t] 9) = W1 := ⟨_, rfl⟩
      have hs1 : W1.heap.size = w.heap.size + 1 := by rw [← hW1]; simp
      have hal : Below w.heap.size w W1 := by rw [← hW1]; exact (Below.refl _ _).alloc (Nat.le_refl _) _
      have hbk : Blk W1 w.heap.size 9 [.string t] := by rw [← hW1]; exact Blk.new w 9 _
      obtain ⟨W2, hW2⟩ : ∃ W2, W1.alloc (.cells #[.func (.func 43) #[] #[.pointer (some ⟨w.heap.size, 0, none⟩)]] 54) = W2 := ⟨_, rfl⟩
      have hs2 : W2.heap.size = w.heap.size + 2 := by rw [← hW2]; simp; omega
      have hal2 : Below W1.heap.size W1 W2 := by rw [← hW2]; exact (Below.refl _ _).alloc (Nat.le_refl _) _
      have hbk2 : Blk W2 (w.heap.size + 1) 54 [.func (.func 43) #[] #[.pointer (some ⟨w.heap.size, 0, none⟩)]] := by rw [← hW2, ← hs1]; exact Blk.new W1 54 _
      have hbl := hal.trans (hal2.mono hal.size)
      have K := isTextP B t W2 ht (hT.later hbl)
      generalize (decide (bts t = []) || L.isVal (bts t)) = R at *
      have HA := hidden hbl
      have HK1 := hidden (hbk.later hal2)
      have HK2 := hidden hbk2
      have HW1 := hidden hW1
      have HW2 := hidden hW2
      have HS1 := hidden hs1
      have HS2 := hidden hs2
      clear hal hal2 hbl hbk hbk2 hx hT hW1 hW2 hs1 hs2 h1
      go_enter Tryd.func22, Tryd.ntmps22
      go_wp2_with fail
      refine (isP t w).mono ?_
      rintro e w2 ⟨rfl, rfl⟩
      rw [HW1.out]
      go_wp2_with fail
      refine (notP _ _ _ W1).mono ?_
      rintro e w3 ⟨rfl, rfl⟩
      rw [HW2.out, HS1.out]
      go_wp2_with fail
      refine K.mono ?_
      rintro e w4 ⟨rfl, b4⟩
      have B4 := hidden b4
      clear b4 K
      go_wp2
      go_ret2
      refine ⟨HA.out.trans (B4.out.mono HA.out.size), _, rfl, fun _ => ⟨fun b => b = w.heap.size ∨ b = w.heap.size + 1, .inr (.inl ⟨rfl, w.heap.size + 1, _, rfl, .inr rfl, HK2.out.later B4.out, w.heap.size, rfl, .inl rfl, HK1.out.later B4.out⟩), fun b hb => ?_⟩⟩
      have h3 := B4.out.size
      have h4 := HS2.out
      omega
    · have e2 : (op == 2) = false := by simpa using h2
      by_cases h34 : op = 3 ∨ op = 4
      · have hx : txtOk op (bts t) = prsOk (bts t) := by rcases h34 with rfl | rfl <;> rfl
        rw [hx]
        have K := parseP t w
        unfold ParseR at K
        have e34 : ((op == 3) = true ∧ (op == 4) = false ∧ op = 3) ∨ ((op == 3) = false ∧ (op == 4) = true ∧ op = 4) := by rcases h34 with rfl | rfl <;> simp
        clear h34 hx h1 h2 hT
        rcases e34 with ⟨e3, e4, e5⟩ | ⟨e3, e4, e5⟩
        all_goals have E5 := hidden e5
        all_goals clear e5
        all_goals
          go_enter Tryd.func22, Tryd.ntmps22
          go_wp2_with fail
          refine K.mono ?_
          rintro e w2 ⟨b2, ⟨p, F, l, ⟨k, hk⟩, rfl, hP, hF⟩ | ⟨k, g, hk, rfl, hB, hks⟩⟩
        · have HB := hidden b2
          have HP := hidden hP
          have HO : Hid (prsOk (bts t) = true) := hidden (by unfold prsOk; rw [hk])
          have HK := hidden hk
          have HF := hidden hF
          clear b2 hP hk hF K
          go_wp2
          go_ret2
          exact ⟨HB.out, .func (.func 36) #[.pointer (some ⟨p, 0, none⟩)] #[], by rw [HO.out]; rfl, fun _ => ⟨F, .inr (.inr (.inl ⟨E5.out, p, l, k, rfl, HK.out, HP.out⟩)), fun b hb => ⟨HF.out b hb, by obtain ⟨_, _, _, _, _, _, _, h⟩ := HP.out; exact h.lt b hb⟩⟩⟩
        · have HB := hidden b2
          have HO : Hid (prsOk (bts t) = false) := hidden (by unfold prsOk; rw [hk])
          clear b2 hk hB hks K
          go_wp2
          go_ret2
          exact ⟨HB.out, .nilFunc, by rw [HO.out]; rfl, fun h => by rw [HO.out] at h; cases h⟩
        · have HB := hidden b2
          have HP := hidden hP
          have HO : Hid (prsOk (bts t) = true) := hidden (by unfold prsOk; rw [hk])
          have HK := hidden hk
          have HF := hidden hF
          clear b2 hP hk hF K
          go_wp2_with fail
          refine (notP _ _ _ w2).mono ?_
          rintro e w3 ⟨rfl, rfl⟩
          go_wp2
          go_ret2
          have hal : Below w2.heap.size w2 (w2.alloc (.cells #[.func (.func 36) #[.pointer (some ⟨p, 0, none⟩)] #[]] 54)) := (Below.refl _ _).alloc (Nat.le_refl _) _
          have hlt : ∀ b, F b → b < w2.heap.size := by obtain ⟨_, _, _, _, _, _, _, h⟩ := HP.out; exact h.lt
          have hsz := HB.out.size
          refine ⟨HB.out.trans (hal.mono HB.out.size), .func (.func 44) #[] #[.pointer (some ⟨w2.heap.size, 0, none⟩)], by rw [HO.out]; rfl, fun _ => ⟨fun b => F b ∨ b = w2.heap.size, .inr (.inr (.inr ⟨E5.out, w2.heap.size, _, rfl, .inr rfl, Blk.new w2 54 _, p, l, k, rfl, HK.out, (HP.out.later hal).mono (fun _ h => .inl h) (fun b hb => ?_)⟩)), fun b hb => ?_⟩⟩
          · rcases hb with hb | hb
            · have := hlt b hb; simp; omega
            · simp; omega
          · rcases hb with hb | hb
            · have := hlt b hb; have := HF.out b hb; simp; omega
            · simp; omega
        · have HB := hidden b2
          have HO : Hid (prsOk (bts t) = false) := hidden (by unfold prsOk; rw [hk])
          clear b2 hk hB hks K
          go_wp2
          go_ret2
          exact ⟨HB.out, .nilFunc, by rw [HO.out]; rfl, fun h => by rw [HO.out] at h; cases h⟩
      · have e3 : (op == 3) = false := by simp; omega
        have e4 : (op == 4) = false := by simp; omega
        have hx : txtOk op (bts t) = false := by unfold txtOk; rw [if_neg h1, if_neg h2, if_neg (by omega), if_neg (by omega)]
        rw [hx]
        clear h34 hx h1 h2 hT
        go_enter Tryd.func22, Tryd.ntmps22
        go_wp2
        go_ret2
        exact ⟨Below.refl _ _, _, rfl, fun h => by cases h⟩

end Go.Proofs.YtanlgplgplncdaaDoor
