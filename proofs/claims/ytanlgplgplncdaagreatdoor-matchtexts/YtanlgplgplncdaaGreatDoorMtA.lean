import Derived.Test.YtanlgplgplncdaaGreatDoorPuN
import Derived.Test.YtanlgplgplncdaaGreatDoorLbS
import Derived.Test.YtanlgplgplncdaaGreatDoorPtE
/-
  A matcher's test as a function's value; isLabel, isText, testOf.
-/
namespace Go.Proofs.YtanlgplgplncdaaGreatDoor
open Go.RowKit
set_option linter.unusedVariables false
set_option linter.unusedSimpArgs false

theorem built50 (a b : ByteArray) : Tryz.prog.built 56 [(0, .string a), (1, .string b)] = some #[.string a, .string b] := by kernel_rfl

theorem ls_one (w : World) (x : L.Lb) (h1 : x.n.size ≤ 9223372036854775807) (h2 : x.v.size ≤ 9223372036854775807) : L.Ls (w.alloc (.cells #[.string x.n, .string x.v] 56)) (some ⟨w.heap.size, 0, none⟩) [x] := by
  refine ⟨fun y hy => by rw [List.mem_singleton.1 hy]; exact ⟨h1, h2⟩, fun _ => ⟨w.heap.size, 0, rfl, by simp, fun i y hy => ?_⟩⟩
  have hi : i = 0 := by have := (List.getElem?_eq_some_iff.1 hy).1; simp at this; exact this
  subst hi
  obtain rfl : y = x := by simpa using hy.symm
  exact ⟨by simp, by simp⟩
theorem right_one (x : L.Lb) : L.right [x] = x.fits := by simp [L.right, L.rightFrom]
theorem errL_eq (b : Bool) : ((L.errL b) == 0) = b := by cases b <;> rfl

set_option maxRecDepth 100000 in
set_option maxHeartbeats 2000000 in
theorem isLabelP (B : Nat) (n v : ByteArray) (w : World) (hn : n.size ≤ 9223372036854775807) (hv : v.size ≤ 9223372036854775807) (hT : L.Tb B w) :
    Calls Tryz.prog 58 #[.string n, .string v] w fun e w' => e = .returned (.bool (L.isName (bts n) && L.isVal (bts v))) ∧ Below w.heap.size w w' := by
  have hal : Below w.heap.size w (w.alloc (.cells #[.string n, .string v] 56)) := (Below.refl _ _).alloc (Nat.le_refl _) _
  have K := L.rightP B (some ⟨w.heap.size, 0, none⟩) 1 [⟨n, v⟩] _ (ls_one w ⟨n, v⟩ hn hv) (by simp) (hT.later hal)
  rw [right_one] at K
  have hE : L.Lb.fits ⟨n, v⟩ = (L.isName (bts n) && L.isVal (bts v)) := rfl
  rw [hE] at K
  obtain ⟨R, hR⟩ : ∃ R, (L.isName (bts n) && L.isVal (bts v)) = R := ⟨_, rfl⟩
  rw [hR] at K ⊢
  have HA := hidden hal
  have he := errL_eq R
  clear hal hT hR hE
  simp only [List.length_singleton] at K
  go_enter Tryz.func58, Tryz.ntmps58
  go_wp2_with (refine wpList_build_to rfl 56 #[(0, .tmp 5), (1, .tmp 6)] rfl [(0, .string n), (1, .string v)] #[.string n, .string v] rfl (built50 _ _) ?_)
  refine K.mono ?_
  rintro e w2 ⟨rfl, b2⟩
  have B2 := hidden (HA.out.trans (b2.mono HA.out.size))
  clear b2 K
  generalize L.errL R = E at *
  go_wp2
  go_ret
  exact ⟨by first | rfl | simp [he], B2.out⟩

theorem bts_eq (s : ByteArray) : L.bts s = bts s := rfl
theorem x_name : L.isName (bts ⟨#[120]⟩) = true := by decide
set_option maxRecDepth 100000 in
set_option maxHeartbeats 2000000 in
theorem isTextP (B : Nat) (s : ByteArray) (w : World) (hs : s.size ≤ 9223372036854775807) (hT : L.Tb B w) :
    Calls Tryz.prog 72 #[.string s] w fun e w' => e = .returned (.bool (decide (bts s = []) || L.isVal (bts s))) ∧ Below w.heap.size w w' := by
  have K := isLabelP B ⟨#[120]⟩ s w (by show 1 ≤ _; omega) hs hT
  rw [x_name, Bool.true_and] at K
  have e0 : (s.toList == ([] : List UInt8)) = decide (bts s = []) := L.empty_bts s
  obtain ⟨R, hR⟩ : ∃ R, L.isVal (bts s) = R := ⟨_, rfl⟩
  rw [hR] at K ⊢
  clear hR hT
  by_cases h0 : bts s = []
  · rw [decide_eq_true h0] at e0 ⊢
    rw [Bool.true_or]
    clear h0 K
    go_enter Tryz.func72, Tryz.ntmps72
    go_wp2
    go_ret
    exact ⟨by first | rfl | simp, Below.refl _ _⟩
  · rw [decide_eq_false h0] at e0 ⊢
    rw [Bool.false_or]
    clear h0
    go_enter Tryz.func72, Tryz.ntmps72
    go_wp2_with fail
    refine K.mono ?_
    rintro e w2 ⟨rfl, b2⟩
    have B2 := hidden b2
    clear b2 K
    go_wp2
    go_ret
    exact ⟨by first | rfl | simp, B2.out⟩

end Go.Proofs.YtanlgplgplncdaaGreatDoor

/-
  A matcher's test as a function's value; testOf.
-/
namespace Go.Proofs.YtanlgplgplncdaaGreatDoor
open Go.RowKit
set_option linter.unusedVariables false
set_option linter.unusedSimpArgs false

/-- What asks for just this text. -/
def IsV (F : Nat → Prop) (w : World) (t : ByteArray) (fv : Value) : Prop := ∃ b, fv = .func (.func 87) #[] #[.pointer (some ⟨b, 0, none⟩)] ∧ F b ∧ Blk w b 9 [.string t]
/-- What asks a pattern. -/
def PaV (F : Nat → Prop) (w : World) (t : ByteArray) (fv : Value) : Prop := ∃ p l k, fv = .func (.func 75) #[.pointer (some ⟨p, 0, none⟩)] #[] ∧ prs (bts t) = .ok l k ∧ PaR F w p l
/-- What asks for the other answer. -/
def NoV (F : Nat → Prop) (w : World) (P : Value → Prop) (fv : Value) : Prop := ∃ b f, fv = .func (.func 88) #[] #[.pointer (some ⟨b, 0, none⟩)] ∧ F b ∧ Blk w b 65 [f] ∧ P f
/-- A matcher's test. -/
def Fv (F : Nat → Prop) (w : World) (op : Int) (t : ByteArray) (fv : Value) : Prop :=
  (op = 1 ∧ IsV F w t fv) ∨ (op = 2 ∧ NoV F w (IsV F w t) fv) ∨ (op = 3 ∧ PaV F w t fv) ∨ (op = 4 ∧ NoV F w (PaV F w t) fv)
theorem IsV.keep {F G : Nat → Prop} {w w' : World} {t : ByteArray} {fv : Value} (h : IsV F w t fv) (hc : Chg G w w') (hd : ∀ b, F b → ¬ G b) : IsV F w' t fv := by
  obtain ⟨b, e, hF, hB⟩ := h
  exact ⟨b, e, hF, hc.blk hB (hd b hF)⟩
theorem PaV.keep {F G : Nat → Prop} {w w' : World} {t : ByteArray} {fv : Value} (h : PaV F w t fv) (hc : Chg G w w') (hd : ∀ b, F b → ¬ G b) : PaV F w' t fv := by
  obtain ⟨p, l, k, e, h1, h2⟩ := h
  exact ⟨p, l, k, e, h1, h2.keep hc hd⟩
theorem Fv.keep {F G : Nat → Prop} {w w' : World} {op : Int} {t : ByteArray} {fv : Value} (h : Fv F w op t fv) (hc : Chg G w w') (hd : ∀ b, F b → ¬ G b) : Fv F w' op t fv := by
  rcases h with ⟨e, h⟩ | ⟨e, b, f, e2, h1, h2, h3⟩ | ⟨e, h⟩ | ⟨e, b, f, e2, h1, h2, h3⟩
  · exact .inl ⟨e, h.keep hc hd⟩
  · exact .inr (.inl ⟨e, b, f, e2, h1, hc.blk h2 (hd b h1), h3.keep hc hd⟩)
  · exact .inr (.inr (.inl ⟨e, h.keep hc hd⟩))
  · exact .inr (.inr (.inr ⟨e, b, f, e2, h1, hc.blk h2 (hd b h1), h3.keep hc hd⟩))
theorem PaR.mono {F F' : Nat → Prop} {w : World} {p : Nat} {l : List (List Pt)} (h : PaR F w p l) (hm : ∀ b, F b → F' b) (hl : ∀ b, F' b → b < w.heap.size) : PaR F' w p l := by
  obtain ⟨ad, c, b, off, sa, sc, vs, h⟩ := h
  exact ⟨ad, c, b, off, sa, sc, vs, h.blk, fun h0 => ⟨(h.at' h0).1, hm _ (h.at' h0).2⟩, RowsV.mono hm l b off h.rows, ⟨h.sp.own, h.sp.sp.mono hm, fun b hb => hm _ (h.sp.at' b hb), h.sp.b64⟩, hm _ h.fp, hl, h.fine, h.cnt⟩
theorem Fv.mono {F F' : Nat → Prop} {w : World} {op : Int} {t : ByteArray} {fv : Value} (h : Fv F w op t fv) (hm : ∀ b, F b → F' b) (hl : ∀ b, F' b → b < w.heap.size) : Fv F' w op t fv := by
  rcases h with ⟨e, b, e2, h1, h2⟩ | ⟨e, b, f, e2, h1, h2, b3, e3, h3, h4⟩ | ⟨e, p, l, k, e2, h1, h2⟩ | ⟨e, b, f, e2, h1, h2, p, l, k, e3, h3, h4⟩
  · exact .inl ⟨e, b, e2, hm _ h1, h2⟩
  · exact .inr (.inl ⟨e, b, f, e2, hm _ h1, h2, b3, e3, hm _ h3, h4⟩)
  · exact .inr (.inr (.inl ⟨e, p, l, k, e2, h1, h2.mono hm hl⟩))
  · exact .inr (.inr (.inr ⟨e, b, f, e2, hm _ h1, h2, p, l, k, e3, h3, h4.mono hm hl⟩))

theorem isP (t : ByteArray) (w : World) : Calls Tryz.prog 71 #[.string t] w fun e w' => e = .returned (.func (.func 87) #[] #[.pointer (some ⟨w.heap.size, 0, none⟩)]) ∧ w' = w.alloc (.cells #[.string t] 9) := by
  go_enter Tryz.func71, Tryz.ntmps71
  go_wp2
  go_ret
  exact ⟨by first | rfl | simp, by first | rfl | simp⟩
theorem notP (fn : Fn) (x y : Array Value) (w : World) : Calls Tryz.prog 73 #[.func fn x y] w fun e w' => e = .returned (.func (.func 88) #[] #[.pointer (some ⟨w.heap.size, 0, none⟩)]) ∧ w' = w.alloc (.cells #[.func fn x y] 65) := by
  go_enter Tryz.func73, Tryz.ntmps73
  go_wp2
  go_ret
  exact ⟨by first | rfl | simp, by first | rfl | simp⟩

/-- What testOf leaves. -/
def TeP (w : World) (op : Int) (t : ByteArray) (e : Ending) (w' : World) : Prop :=
  Below w.heap.size w w' ∧ ∃ fv, e = .returned (.tuple #[fv, .bool (txtOk op (bts t))]) ∧ (txtOk op (bts t) = true → ∃ F, Fv F w' op t fv ∧ ∀ b, F b → w.heap.size ≤ b ∧ b < w'.heap.size)

set_option maxRecDepth 100000 in
set_option maxHeartbeats 4000000 in
theorem testOfP (B : Nat) (op : Int) (t : ByteArray) (w : World) (ho : -9223372036854775808 ≤ op ∧ op ≤ 9223372036854775807) (ht : t.size ≤ 9223372036854775807) (hT : L.Tb B w) : Calls Tryz.prog 57 #[.int .i64 op, .string t] w (TeP w op t) := by
  unfold TeP
  by_cases h1 : op = 1
  · subst h1
    have hx : txtOk 1 (bts t) = (decide (bts t = []) || L.isVal (bts t)) := rfl
    rw [hx]
    have hal : Below w.heap.size w (w.alloc (.cells #[.string t] 9)) := (Below.refl _ _).alloc (Nat.le_refl _) _
    have K := isTextP B t _ ht (hT.later hal)
    generalize (decide (bts t = []) || L.isVal (bts t)) = R at *
    have HA := hidden hal
    clear hal hx hT
    go_enter Tryz.func57, Tryz.ntmps57
    go_wp2_with fail
    refine (isP t w).mono ?_
    rintro e w2 ⟨rfl, rfl⟩
    go_wp2_with fail
    refine K.mono ?_
    rintro e w3 ⟨rfl, b3⟩
    have B3 := hidden b3
    clear b3 K
    go_wp2
    go_ret2
    refine ⟨HA.out.trans (B3.out.mono HA.out.size), _, rfl, fun _ => ⟨fun b => b = w.heap.size, .inl ⟨rfl, w.heap.size, rfl, rfl, (Blk.new w 9 [.string t]).later B3.out⟩, fun b hb => ?_⟩⟩
    have := B3.out.size
    simp at this
    omega
  · have e1 : (op == 1) = false := by simpa using h1
    by_cases h2 : op = 2
    · subst h2
      have hx : txtOk 2 (bts t) = (decide (bts t = []) || L.isVal (bts t)) := rfl
      rw [hx]
      obtain ⟨W1, hW1⟩ : ∃ W1, w.alloc (.cells #[.string t] 9) = W1 := ⟨_, rfl⟩
      have hs1 : W1.heap.size = w.heap.size + 1 := by rw [← hW1]; simp
      have hal : Below w.heap.size w W1 := by rw [← hW1]; exact (Below.refl _ _).alloc (Nat.le_refl _) _
      have hbk : Blk W1 w.heap.size 9 [.string t] := by rw [← hW1]; exact Blk.new w 9 _
      obtain ⟨W2, hW2⟩ : ∃ W2, W1.alloc (.cells #[.func (.func 87) #[] #[.pointer (some ⟨w.heap.size, 0, none⟩)]] 65) = W2 := ⟨_, rfl⟩
      have hs2 : W2.heap.size = w.heap.size + 2 := by rw [← hW2]; simp; omega
      have hal2 : Below W1.heap.size W1 W2 := by rw [← hW2]; exact (Below.refl _ _).alloc (Nat.le_refl _) _
      have hbk2 : Blk W2 (w.heap.size + 1) 65 [.func (.func 87) #[] #[.pointer (some ⟨w.heap.size, 0, none⟩)]] := by rw [← hW2, ← hs1]; exact Blk.new W1 65 _
      have hbl := hal.trans (hal2.mono hal.size)
      have K := isTextP B t W2 ht (hT.later hbl)
      generalize (decide (bts t = []) || L.isVal (bts t)) = R at *
      have HA := hidden hbl
      have HK1 := hidden (hbk.later hal2)
      have HK2 := hidden hbk2
      have HW1 := hidden hW1
      have HW2 := hidden hW2
      have HS1 := hidden hs1
      have HS2 := hidden hs2
      clear hal hal2 hbl hbk hbk2 hx hT hW1 hW2 hs1 hs2 h1
      go_enter Tryz.func57, Tryz.ntmps57
      go_wp2_with fail
      refine (isP t w).mono ?_
      rintro e w2 ⟨rfl, rfl⟩
      rw [HW1.out]
      go_wp2_with fail
      refine (notP _ _ _ W1).mono ?_
      rintro e w3 ⟨rfl, rfl⟩
      rw [HW2.out, HS1.out]
      go_wp2_with fail
      refine K.mono ?_
      rintro e w4 ⟨rfl, b4⟩
      have B4 := hidden b4
      clear b4 K
      go_wp2
      go_ret2
      refine ⟨HA.out.trans (B4.out.mono HA.out.size), _, rfl, fun _ => ⟨fun b => b = w.heap.size ∨ b = w.heap.size + 1, .inr (.inl ⟨rfl, w.heap.size + 1, _, rfl, .inr rfl, HK2.out.later B4.out, w.heap.size, rfl, .inl rfl, HK1.out.later B4.out⟩), fun b hb => ?_⟩⟩
      have h3 := B4.out.size
      have h4 := HS2.out
      omega
    · have e2 : (op == 2) = false := by simpa using h2
      by_cases h34 : op = 3 ∨ op = 4
      · have hx : txtOk op (bts t) = prsOk (bts t) := by rcases h34 with rfl | rfl <;> rfl
        rw [hx]
        have K := parseP t w
        unfold ParseR at K
        have e34 : ((op == 3) = true ∧ (op == 4) = false ∧ op = 3) ∨ ((op == 3) = false ∧ (op == 4) = true ∧ op = 4) := by rcases h34 with rfl | rfl <;> simp
        clear h34 hx h1 h2 hT
        rcases e34 with ⟨e3, e4, e5⟩ | ⟨e3, e4, e5⟩
        all_goals have E5 := hidden e5
        all_goals clear e5
        all_goals
          go_enter Tryz.func57, Tryz.ntmps57
          go_wp2_with fail
          refine K.mono ?_
          rintro e w2 ⟨b2, ⟨p, F, l, ⟨k, hk⟩, rfl, hP, hF⟩ | ⟨k, g, hk, rfl, hB, hks⟩⟩
        · have HB := hidden b2
          have HP := hidden hP
          have HO : Hid (prsOk (bts t) = true) := hidden (by unfold prsOk; rw [hk])
          have HK := hidden hk
          have HF := hidden hF
          clear b2 hP hk hF K
          go_wp2
          go_ret2
          exact ⟨HB.out, .func (.func 75) #[.pointer (some ⟨p, 0, none⟩)] #[], by rw [HO.out]; rfl, fun _ => ⟨F, .inr (.inr (.inl ⟨E5.out, p, l, k, rfl, HK.out, HP.out⟩)), fun b hb => ⟨HF.out b hb, by obtain ⟨_, _, _, _, _, _, _, h⟩ := HP.out; exact h.lt b hb⟩⟩⟩
        · have HB := hidden b2
          have HO : Hid (prsOk (bts t) = false) := hidden (by unfold prsOk; rw [hk])
          clear b2 hk hB hks K
          go_wp2
          go_ret2
          exact ⟨HB.out, .nilFunc, by rw [HO.out]; rfl, fun h => by rw [HO.out] at h; cases h⟩
        · have HB := hidden b2
          have HP := hidden hP
          have HO : Hid (prsOk (bts t) = true) := hidden (by unfold prsOk; rw [hk])
          have HK := hidden hk
          have HF := hidden hF
          clear b2 hP hk hF K
          go_wp2_with fail
          refine (notP _ _ _ w2).mono ?_
          rintro e w3 ⟨rfl, rfl⟩
          go_wp2
          go_ret2
          have hal : Below w2.heap.size w2 (w2.alloc (.cells #[.func (.func 75) #[.pointer (some ⟨p, 0, none⟩)] #[]] 65)) := (Below.refl _ _).alloc (Nat.le_refl _) _
          have hlt : ∀ b, F b → b < w2.heap.size := by obtain ⟨_, _, _, _, _, _, _, h⟩ := HP.out; exact h.lt
          have hsz := HB.out.size
          refine ⟨HB.out.trans (hal.mono HB.out.size), .func (.func 88) #[] #[.pointer (some ⟨w2.heap.size, 0, none⟩)], by rw [HO.out]; rfl, fun _ => ⟨fun b => F b ∨ b = w2.heap.size, .inr (.inr (.inr ⟨E5.out, w2.heap.size, _, rfl, .inr rfl, Blk.new w2 65 _, p, l, k, rfl, HK.out, (HP.out.later hal).mono (fun _ h => .inl h) (fun b hb => ?_)⟩)), fun b hb => ?_⟩⟩
          · rcases hb with hb | hb
            · have := hlt b hb; simp; omega
            · simp; omega
          · rcases hb with hb | hb
            · have := hlt b hb; have := HF.out b hb; simp; omega
            · simp; omega
        · have HB := hidden b2
          have HO : Hid (prsOk (bts t) = false) := hidden (by unfold prsOk; rw [hk])
          clear b2 hk hB hks K
          go_wp2
          go_ret2
          exact ⟨HB.out, .nilFunc, by rw [HO.out]; rfl, fun h => by rw [HO.out] at h; cases h⟩
      · have e3 : (op == 3) = false := by simp; omega
        have e4 : (op == 4) = false := by simp; omega
        have hx : txtOk op (bts t) = false := by unfold txtOk; rw [if_neg h1, if_neg h2, if_neg (by omega), if_neg (by omega)]
        rw [hx]
        clear h34 hx h1 h2 hT
        go_enter Tryz.func57, Tryz.ntmps57
        go_wp2
        go_ret2
        exact ⟨Below.refl _ _, _, rfl, fun h => by cases h⟩

end Go.Proofs.YtanlgplgplncdaaGreatDoor

/-
  ruleOf.
-/
namespace Go.Proofs.YtanlgplgplncdaaGreatDoor
open Go.RowKit
set_option linter.unusedVariables false
set_option linter.unusedSimpArgs false

def OkM (x : Mt) : Prop := x.n.size ≤ 9223372036854775807 ∧ x.t.size ≤ 9223372036854775807 ∧ -9223372036854775808 ≤ x.op ∧ x.op ≤ 9223372036854775807
/-- A matcher's cells, and its rule's. -/
def mC (x : Mt) : List Value := [.string x.n, .int .i64 x.op, .string x.t]
def ruC (x : Mt) (fv : Value) : List Value := [.string x.n, .int .i64 x.op, .string x.t, fv]
def zM : Mt := ⟨⟨#[]⟩, 0, ⟨#[]⟩⟩
theorem info56z : (Tryz.prog.info? 67).map (fun i => i.zero.map (·.cells)) = some (some (ruC zM .nilFunc).toArray) := by kernel_rfl
theorem size31 : (Tryz.prog.info? 58).map (·.size) = some 3 := by kernel_rfl
theorem size56 : (Tryz.prog.info? 67).map (·.size) = some 4 := by kernel_rfl
theorem built56 (x : Mt) (fv : Value) (h : fv.oneCell' = true) : Tryz.prog.built 67 [(0, .agg (mC x).toArray), (1, fv)] = some (ruC x fv).toArray := by
  cases fv <;> first | (cases h; done) | kernel_rfl
theorem built56z : Tryz.prog.built 67 [] = some (ruC zM .nilFunc).toArray := by kernel_rfl
theorem res_rule (tmps : Array Value) (w : World) (g : Nat) (x : Mt) (fv c : Value) (hp : tmps.getD 2 undef = .pointer (some ⟨g, 0, none⟩)) (h : Blk w g 67 (ruC x fv)) (h3 : tmps.getD 3 undef = c) :
    (results Tryz.f42 tmps).run Tryz.prog w = .ok (.tuple #[.agg (ruC x fv).toArray, c]) w := by
  have hr : Tryz.f42.results = #[.cell 2 67, .tmp 3] := by kernel_rfl
  have hp' : tmps[2]?.getD undef = .pointer (some ⟨g, 0, none⟩) := by simpa using hp
  have h3' : tmps[3]?.getD undef = c := by simpa using h3
  have c0 := h.cell 0
  have c1 := h.cell 1
  have c2 := h.cell 2
  have c3 := h.cell 3
  simp [ruC] at c0 c1 c2 c3
  simp [results, hr, hp', h3', asAddr, loadVar, c0, c1, c2, c3, ruC, go_sem]

theorem Fv.one {F : Nat → Prop} {w : World} {op : Int} {t : ByteArray} {fv : Value} (h : Fv F w op t fv) : fv.oneCell' = true := by
  rcases h with ⟨_, b, rfl, _⟩ | ⟨_, b, f, rfl, _⟩ | ⟨_, p, l, k, rfl, _⟩ | ⟨_, b, f, rfl, _⟩ <;> rfl

theorem Fv.func {F : Nat → Prop} {w : World} {op : Int} {t : ByteArray} {fv : Value} (h : Fv F w op t fv) : ∃ fn x y, fv = .func fn x y := by
  rcases h with ⟨_, b, rfl, _⟩ | ⟨_, b, f, rfl, _⟩ | ⟨_, p, l, k, rfl, _⟩ | ⟨_, b, f, rfl, _⟩ <;> exact ⟨_, _, _, rfl⟩
theorem x_val : L.isVal (bts ⟨#[120]⟩) = true := by kernel_rfl
theorem one_ruC {x : Mt} {fv : Value} (h : fv.oneCell' = true) : ∀ v ∈ ruC x fv, v.oneCell' = true := by
  intro v hv
  simp [ruC] at hv
  rcases hv with rfl | rfl | rfl | rfl
  · rfl
  · rfl
  · rfl
  · exact h
/-- What ruleOf leaves. -/
def RuP (w : World) (x : Mt) (e : Ending) (w' : World) : Prop :=
  Below w.heap.size w w' ∧ ∃ y fv, e = .returned (.tuple #[.agg (ruC y fv).toArray, .bool x.may]) ∧ fv.oneCell' = true ∧ (x.may = true → y = x ∧ ∃ F, Fv F w' x.op x.t fv ∧ ∀ b, F b → w.heap.size ≤ b ∧ b < w'.heap.size)

set_option maxRecDepth 100000 in
set_option maxHeartbeats 4000000 in
theorem ruleOfP (B : Nat) (x : Mt) (w : World) (hx : OkM x) (hT : L.Tb B w) : Calls Tryz.prog 42 #[.agg (mC x).toArray] w (RuP w x) := by
  obtain ⟨n, op, t⟩ := x
  obtain ⟨h1, h2, h3, h4⟩ := hx
  simp only at h1 h2 h3 h4
  have HT := hidden hT
  clear hT
  unfold RuP
  go_enter Tryz.func42, Tryz.ntmps42
  go_wp2_with (first
    | (refine wpList_box_blk rfl 58 (.tmp 0) rfl (mC ⟨n, op, t⟩) rfl ?_; intro w1 B1 bl1 hz1; have HB1 := hidden B1; have BL1 := hidden bl1; have HZ1 := hidden hz1; clear bl1 hz1; have c0 := B1.cell 0; have c1 := B1.cell 1; have c2 := B1.cell 2; simp [mC] at c0 c1 c2; clear B1)
    | (refine wpList_alloc_blk rfl 67 rfl 2 rfl (ruC zM .nilFunc) info56z ?_; intro w2 B2 bl2 hz2; have HB2 := hidden B2; have BL2 := hidden bl2; clear B2 bl2 hz2; have d0 : w2.cell? ⟨w.heap.size, 0, none⟩ = some (.string n) := (HB1.out.later BL2.out).cell 0; have d1 : w2.cell? ⟨w.heap.size, 1, none⟩ = some (.int .i64 op) := (HB1.out.later BL2.out).cell 1; have d2 : w2.cell? ⟨w.heap.size, 2, none⟩ = some (.string t) := (HB1.out.later BL2.out).cell 2; clear c0 c1 c2))
  have hs1 := BL1.out.size
  have hs2 := BL2.out.size
  have BW2 : Hid (Below w.heap.size w w2) := hidden (BL1.out.trans (BL2.out.mono hs1))
  refine (testOfP B op t w2 ⟨h3, h4⟩ h2 (HT.out.later BW2.out)).mono ?_
  rintro e w3 ⟨b3, fv, rfl, hfv⟩
  have B3 := hidden b3
  have BW3 : Hid (Below w.heap.size w w3) := hidden (BW2.out.trans (b3.mono BW2.out.size))
  have HB13 := hidden ((HB1.out.later BL2.out).later b3)
  have HB23 := hidden (HB2.out.later b3)
  have e0 : w3.cell? ⟨w.heap.size, 0, none⟩ = some (.string n) := HB13.out.cell 0
  have hs3 := b3.size
  have hlt2 := HB2.out.lt
  have HFV := hidden hfv
  clear b3 d0 d1 d2 hfv
  have HM : Hid (Mt.may ⟨n, op, t⟩ = (txtOk op (bts t) && L.isName (bts n))) := hidden rfl
  cases hk : txtOk op (bts t) with
  | false =>
    rw [hk] at HM HFV
    rw [Bool.false_and] at HM
    go_wp2_with (first
      | (refine wpList_build_to rfl 67 #[] rfl [] (ruC zM .nilFunc).toArray rfl built56z ?_)
      | (refine wpList_store_blk rfl 67 (.tmp 2) (.tmp 22) rfl rfl w1.heap.size (l := ruC zM .nilFunc) HB23.out rfl rfl rfl size56 (one_ruC rfl) ?_))
    have hN := blk_stored (l := ruC zM .nilFunc) HB23.out rfl
    have hcs := Chg.sets w1.heap.size (ruC zM .nilFunc) 0 w3
    refine bodyPost_ret (res_rule _ _ w1.heap.size _ _ _ rfl hN rfl) rfl ?_
    exact ⟨BW3.out.trans (hcs.below BW3.out.size (fun i hi => by omega)), zM, .nilFunc, by rw [HM.out]; rfl, rfl, fun h => by rw [HM.out] at h; cases h⟩
  | true =>
    rw [hk] at HM HFV
    rw [Bool.true_and] at HM
    obtain ⟨F, hF, hFb⟩ := HFV.out rfl
    obtain ⟨fn, xa, ya, rfl⟩ := hF.func
    have HF := hidden hF
    have HFb := hidden hFb
    have HONE := hidden hF.one
    have K := isLabelP B n ⟨#[120]⟩ w3 h1 (by show 1 ≤ _; omega) (HT.out.later BW3.out)
    rw [x_val, Bool.and_true] at K
    obtain ⟨R, hR⟩ : ∃ R, L.isName (bts n) = R := ⟨_, rfl⟩
    rw [hR] at K HM
    clear hF hFb HFV hR
    go_wp2_with fail
    refine K.mono ?_
    rintro e w4 ⟨rfl, b4⟩
    have B4 := hidden b4
    have BW4 : Hid (Below w.heap.size w w4) := hidden (BW3.out.trans (b4.mono BW3.out.size))
    have HB14 := hidden (HB13.out.later b4)
    have HB24 := hidden (HB23.out.later b4)
    have hs4 := b4.size
    clear b4 e0 K
    cases R with
    | false =>
      go_wp2_with (first
        | (refine wpList_build_to rfl 67 #[] rfl [] (ruC zM .nilFunc).toArray rfl built56z ?_)
        | (refine wpList_store_blk rfl 67 (.tmp 2) (.tmp 22) rfl rfl w1.heap.size (l := ruC zM .nilFunc) HB24.out rfl rfl rfl size56 (one_ruC rfl) ?_))
      have hN := blk_stored (l := ruC zM .nilFunc) HB24.out rfl
      have hcs := Chg.sets w1.heap.size (ruC zM .nilFunc) 0 w4
      refine bodyPost_ret (res_rule _ _ w1.heap.size _ _ _ rfl hN rfl) rfl ?_
      exact ⟨BW4.out.trans (hcs.below BW4.out.size (fun i hi => by omega)), zM, .nilFunc, by rw [HM.out]; rfl, rfl, fun h => by rw [HM.out] at h; cases h⟩
    | true =>
      have g0 : w4.cell? ⟨w.heap.size, 0, none⟩ = some (.string n) := HB14.out.cell 0
      have g1 : w4.cell? ⟨w.heap.size, 1, none⟩ = some (.int .i64 op) := HB14.out.cell 1
      have g2 : w4.cell? ⟨w.heap.size, 2, none⟩ = some (.string t) := HB14.out.cell 2
      go_wp2_with (refine wpList_store_blk rfl 67 (.tmp 2) (.tmp 25) rfl rfl w1.heap.size (l := ruC ⟨n, op, t⟩ (.func fn xa ya)) HB24.out rfl rfl rfl size56 (one_ruC HONE.out) ?_)
      have hN := blk_stored (l := ruC ⟨n, op, t⟩ (.func fn xa ya)) HB24.out rfl
      have hcs := Chg.sets w1.heap.size (ruC ⟨n, op, t⟩ (.func fn xa ya)) 0 w4
      refine bodyPost_ret (res_rule _ _ w1.heap.size _ _ _ rfl hN rfl) rfl ?_
      refine ⟨BW4.out.trans (hcs.below BW4.out.size (fun i hi => by omega)), ⟨n, op, t⟩, .func fn xa ya, by rw [HM.out]; rfl, HONE.out, fun _ => ⟨rfl, F, ?_, fun b hb => ?_⟩⟩
      · refine (HF.out.keep (Chg.of_below (F := fun _ => False) B4.out) (fun _ _ h => h)).keep hcs (fun b hb e => ?_)
        have := (HFb.out b hb).1
        omega
      · have h5 := HFb.out b hb
        have h6 := hcs.size
        omega

end Go.Proofs.YtanlgplgplncdaaGreatDoor

/-
  One element of so many cells behind a row that is owned. Nothing of the program.
-/
namespace Go.Proofs.YtanlgplgplncdaaGreatDoor
open Go.RowKit
set_option linter.unusedVariables false

theorem run_pushN {P : Program} (w : World) (t ty e : TypeId) (i : TypeInfo) (z : Value) (sz bytes : Nat) (ht : P.underlying t = some (.slice e)) (hi : P.info? e = some i) (hz : i.zero = some z)
    (hsize : i.size = sz) (hby : i.bytes = bytes) (hzs : z.cells.size = sz) (hp : 0 < sz) (base : Nat) (v : Value) (n : Nat) (xs : List Value) (hown : w.ownsRow base e sz v n xs)
    (ad : Addr) (news : List Value) (hl : news.length = sz) (hnews : ∀ j u, news[j]? = some u → w.cell? (ad.add j) = some u) (hone : ∀ x ∈ news, x.oneCell' = true) (h63 : n + 1 ≤ maxLen) (hbytes : (n + 1) * bytes ≤ 140737488355328) (hbase : base ≤ w.heap.size) :
    ∃ g' c' w', (Builtin.append_ #[t, t] ty #[v, .slice (some ad) 1 1]).run P w = .ok (.slice (some ⟨g', 0, none⟩) (n + 1) c') w' ∧
      w'.ownsRow base e sz (.slice (some ⟨g', 0, none⟩) (n + 1) c') (n + 1) (xs ++ news) ∧ Pushed w w' v g' := by
  have hl1 : news.length = 1 * sz := by omega
  rcases hown.2 with ⟨rfl, rfl⟩ | ⟨g, cap, cur, rfl, hbg, hg, hnc, hcm, hcs, htake⟩
  · have hxs : xs = [] := List.eq_nil_of_length_eq_zero (by simpa using hown.1)
    subst hxs
    obtain ⟨v', w', hr, ho, hgr, hiff⟩ := run_append_own (P := P) w w.heap.size t ty e i z sz bytes ht hi hz hsize hby hzs hp (.slice none 0 0) 0 [] (World.ownsRow_nil _ _ _ _) ad 1 1 news hl1 hnews hone h63 hbytes (Nat.le_refl _)
    rcases ho.2 with ⟨_, h0⟩ | ⟨g', c', cur', rfl, hb', hh, hrest⟩
    · omega
    · exact ⟨g', c', w', by simpa using hr, ⟨by simp [hl], .inr ⟨g', c', cur', rfl, by omega, hh, by simpa using hrest⟩⟩, .inr ⟨hb', by simpa [Value.ownBlock] using hgr⟩⟩
  · by_cases hroom : n + 1 ≤ cap
    · obtain ⟨w', hr, ho, hgr⟩ := run_append_fits (P := P) w base t ty e i sz ht hi hsize g n cap xs hown ad 1 1 news hl1 hnews hone hroom
      exact ⟨g, cap, w', hr, ho, .inl ⟨rfl, hgr⟩⟩
    · obtain ⟨v', w', hr, ho, hgr⟩ := run_append_arg_grows (P := P) w t ty e i z sz bytes ht hi hz hsize hby hzs hp ⟨g, 0, none⟩ n cap xs hown.1 (hown.cells rfl) ad 1 1 news hl1 hnews (by omega) h63 hbytes
      rcases ho.2 with ⟨_, h0⟩ | ⟨g', c', cur', rfl, hb', hh, hrest⟩
      · omega
      · exact ⟨g', c', w', hr, ⟨by rw [List.length_append, hown.1, hl, Nat.add_mul, Nat.one_mul], .inr ⟨g', c', cur', rfl, by omega, hh, hrest⟩⟩, .inr ⟨hb', hgr⟩⟩
theorem wp_pushN {P : Program} (w : World) {o : Oper} {a : Act} {K : Act → World → Prop} {Q : Exit → Act → World → Prop} (s x : Operand) (t : TypeId)
    (ho : o.op = .call { callee := .builtin .append, args := #[s, x], argTypes := #[t, t] }) (e : TypeId) (i : TypeInfo) (z : Value) (sz bytes : Nat) (ht : P.underlying t = some (.slice e)) (hi : P.info? e = some i) (hz : i.zero = some z)
    (hsize : i.size = sz) (hby : i.bytes = bytes) (hzs : z.cells.size = sz) (hp : 0 < sz) (base : Nat) (v : Value) (n : Nat) (xs : List Value) (hs : a.eval s = v) (hown : w.ownsRow base e sz v n xs)
    (ad : Addr) (news : List Value) (hx : a.eval x = .slice (some ad) 1 1) (hl : news.length = sz) (hnews : ∀ j u, news[j]? = some u → w.cell? (ad.add j) = some u) (hone : ∀ x ∈ news, x.oneCell' = true) (h63 : n + 1 ≤ maxLen) (hbytes : (n + 1) * bytes ≤ 140737488355328) (hbase : base ≤ w.heap.size)
    (h : ∀ g' c' w', w'.ownsRow base e sz (.slice (some ⟨g', 0, none⟩) (n + 1) c') (n + 1) (xs ++ news) → Pushed w w' v g' → K (a.put o.dst (.slice (some ⟨g', 0, none⟩) (n + 1) c')) w') : o.wp P a w K Q := by
  obtain ⟨g', c', w', hr, h2, h3⟩ := run_pushN (P := P) w t o.type e i z sz bytes ht hi hz hsize hby hzs hp base v n xs hown ad news hl hnews hone h63 hbytes hbase
  unfold Oper.wp
  simp [execOp, ho, resolve, invoke, builtin, hs, hx, hr, Result.andThen]
  exact h g' c' w' h2 h3
theorem wpList_pushN {P : Program} (w : World) {ops : Array Oper} {rest : List Oper} {o : Oper} {a : Act} {Q : Exit → Act → World → Prop} (hgd : o.guard = none) (s x : Operand) (t : TypeId)
    (ho : o.op = .call { callee := .builtin .append, args := #[s, x], argTypes := #[t, t] }) (e : TypeId) (i : TypeInfo) (z : Value) (sz bytes : Nat) (ht : P.underlying t = some (.slice e)) (hi : P.info? e = some i) (hz : i.zero = some z)
    (hsize : i.size = sz) (hby : i.bytes = bytes) (hzs : z.cells.size = sz) (hp : 0 < sz) (base : Nat) (v : Value) (n : Nat) (xs : List Value) (hs : a.eval s = v) (hown : w.ownsRow base e sz v n xs)
    (ad : Addr) (news : List Value) (hx : a.eval x = .slice (some ad) 1 1) (hl : news.length = sz) (hnews : ∀ j u, news[j]? = some u → w.cell? (ad.add j) = some u) (hone : ∀ x ∈ news, x.oneCell' = true) (h63 : n + 1 ≤ maxLen) (hbytes : (n + 1) * bytes ≤ 140737488355328) (hbase : base ≤ w.heap.size)
    (h : ∀ g' c' w', w'.ownsRow base e sz (.slice (some ⟨g', 0, none⟩) (n + 1) c') (n + 1) (xs ++ news) → Pushed w w' v g' → wpList P ops Q rest (a.put o.dst (.slice (some ⟨g', 0, none⟩) (n + 1) c')) w') : wpList P ops Q (o :: rest) a w :=
  wpList_plain hgd fun _ hK => wp_pushN w s x t ho e i z sz bytes ht hi hz hsize hby hzs hp base v n xs hs hown ad news hx hl hnews hone h63 hbytes hbase fun g' c' w' h2 h3 => hK _ _ (h g' c' w' h2 h3)
theorem step_pushN {P : Program} (w : World) {ops : Array Oper} {o : Oper} {a : Act} {K : Act → World → Prop} {Q : Exit → Act → World → Prop} {E : Prop} (hgd : o.guard = none) (s x : Operand) (t : TypeId)
    (ho : o.op = .call { callee := .builtin .append, args := #[s, x], argTypes := #[t, t] }) (e : TypeId) (i : TypeInfo) (z : Value) (sz bytes : Nat) (ht : P.underlying t = some (.slice e)) (hi : P.info? e = some i) (hz : i.zero = some z)
    (hsize : i.size = sz) (hby : i.bytes = bytes) (hzs : z.cells.size = sz) (hp : 0 < sz) (base : Nat) (v : Value) (n : Nat) (xs : List Value) (hs : a.eval s = v) (hown : w.ownsRow base e sz v n xs)
    (ad : Addr) (news : List Value) (hx : a.eval x = .slice (some ad) 1 1) (hl : news.length = sz) (hnews : ∀ j u, news[j]? = some u → w.cell? (ad.add j) = some u) (hone : ∀ x ∈ news, x.oneCell' = true) (h63 : n + 1 ≤ maxLen) (hbytes : (n + 1) * bytes ≤ 140737488355328) (hbase : base ≤ w.heap.size)
    (h : ∀ g' c' w', w'.ownsRow base e sz (.slice (some ⟨g', 0, none⟩) (n + 1) c') (n + 1) (xs ++ news) → Pushed w w' v g' → K (a.put o.dst (.slice (some ⟨g', 0, none⟩) (n + 1) c')) w') :
    if Region.wanted o (yielded ops a.tmps) = true then Oper.wp P o a w K Q else E := by
  have hw : Region.wanted o (yielded ops a.tmps) = true := by simp [Region.wanted, hgd]
  rw [if_pos hw]
  exact wp_pushN w s x t ho e i z sz bytes ht hi hz hsize hby hzs hp base v n xs hs hown ad news hx hl hnews hone h63 hbytes hbase h

end Go.Proofs.YtanlgplgplncdaaGreatDoor
