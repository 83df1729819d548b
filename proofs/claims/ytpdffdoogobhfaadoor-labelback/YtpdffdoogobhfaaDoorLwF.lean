/-
  LabelBack: the walk.
-/
import Derived.Test.YtpdffdoogobhfaaDoorLwD
namespace Go.Proofs.YtpdffdoogobhfaaDoor
open Go.RowKit
set_option linter.unusedVariables false
set_option linter.unusedSimpArgs false

theorem print_len (l : List Lb) : (printL l).length ≤ 2000 := by
  unfold printL
  split
  · rename_i h; exact prF_short h
  · simp
theorem Ar.print {w : World} {B : Nat} {ad : Option Addr} {c : Nat} {l : List Lb} (h : Ar w ad c l) (hT : Tb B w) : Calls Tryd.prog 20 #[.slice ad l.length c] w fun e w' => e = .returned (.string (oft (printL l))) ∧ Below w.heap.size w w' :=
  printP B ad c l w h.ls (by have := h.len; omega) hT
theorem Ar.right {w : World} {B : Nat} {ad : Option Addr} {c : Nat} {l : List Lb} (h : Ar w ad c l) (hT : Tb B w) : Calls Tryd.prog 14 #[.slice ad l.length c] w fun e w' => e = .returned (.int .i64 (errL (YtpdffdoogobhfaaDoor.right l))) ∧ Below w.heap.size w w' :=
  rightP B ad c l w h.ls (by have := h.len; omega) hT

/-- What Parse answers of a text, whatever it is. -/
inductive PaV (w : World) (s : ByteArray) (w' : World) : Value → Value → Prop where
  | no (p g : Nat) (h1 : parseL (bts s) = .inl p) (h2 : p ≤ s.size) (h3 : w.heap.size ≤ g) (h4 : Blk w' g 67 [.int .i64 (p : Int), .int .i64 70]) : PaV w s w' (.slice none 0 0) (.iface 64 (.pointer (some ⟨g, 0, none⟩)))
  | ok (l : List Lb) (ad : Option Addr) (c : Nat) (h1 : parseL (bts s) = .inr l) (h2 : w'.ownsRow w.heap.size 35 2 (.slice ad l.length c) l.length (cL l)) (h3 : Ar w' ad c l) : PaV w s w' (.slice ad l.length c) .nilIface
theorem parV (B0 : Nat) (s : ByteArray) (w : World) (hs : s.size ≤ 140737488355328) (hT : Tb B0 w) :
    Calls Tryd.prog 25 #[.string s] w fun e w' => ∃ v err, e = .returned (.tuple #[v, err]) ∧ PaV w s w' v err ∧ Below w.heap.size w w' := by
  refine (parseP B0 s w hs hT).mono ?_
  rintro e w' ⟨v, err, rfl, h, hb⟩
  refine ⟨v, err, rfl, ?_, hb⟩
  rcases h with ⟨p, g, h1, h2, rfl, rfl, h5, h6⟩ | ⟨l, h1, rfl, h3, h4⟩
  · exact .no p g h1 h2 h5 h6
  · obtain ⟨ad, c, rfl, _⟩ := owns_formL h3
    have := ((right_iff l).1 (parse_right h1)).2.1
    exact .ok l ad c h1 h3 (Ar.of h3 h4 (by omega))

set_option maxRecDepth 100000 in
set_option maxHeartbeats 8000000 in
theorem back_walk (a1 : Option Addr) (c1 : Nat) (l : List Lb) (s t : ByteArray) (w : World) (h1 : Ar w a1 c1 l) (hs : s.size ≤ 140737488355328) (ht : t.size ≤ 140737488355328) (hT : Tb w.heap.size w) :
    Calls Tryd.prog 5 #[.slice a1 l.length c1, .string s, .string t] w fun e w' => e = .returned (.bool true) ∧ Below w.heap.size w w' := by
  have kS := shownP w.heap.size w hT
  have H1 := hidden h1
  have HT : ∀ w1, Below w.heap.size w w1 → Tb w.heap.size w1 := fun w1 h => hT.later h
  have HX : ∀ w1 w2 : World, Below w.heap.size w w1 → Below w1.heap.size w1 w2 → Below w.heap.size w w2 := fun w1 w2 h k => h.trans (k.mono h.size)
  have KP : ∀ w1, Below w.heap.size w w1 → Calls Tryd.prog 20 #[.slice a1 l.length c1] w1 fun e w' => e = .returned (.string (oft (printL l))) ∧ Below w1.heap.size w1 w' := fun w1 h => (H1.out.later h).print (HT w1 h)
  have KR : ∀ w1, Below w.heap.size w w1 → Calls Tryd.prog 14 #[.slice a1 l.length c1] w1 fun e w' => e = .returned (.int .i64 (errL (right l))) ∧ Below w1.heap.size w1 w' := fun w1 h => (H1.out.later h).right (HT w1 h)
  have KQ : ∀ w1, Below w.heap.size w w1 → Calls Tryd.prog 25 #[.string (oft (printL l))] w1 fun e w' => ∃ v err, e = .returned (.tuple #[v, err]) ∧ PaV w1 (oft (printL l)) w' v err ∧ Below w1.heap.size w1 w' := fun w1 h => parV w.heap.size _ w1 (by rw [size_bts, bts_oft]; have := print_len l; omega) (HT w1 h)
  obtain ⟨P, hP⟩ : ∃ P, oft (printL l) = P := ⟨_, rfl⟩
  obtain ⟨R, hR⟩ : ∃ R, right l = R := ⟨_, rfl⟩
  obtain ⟨n1, hn1⟩ : ∃ n1, l.length = n1 := ⟨_, rfl⟩
  rw [hP] at KP KQ
  rw [hR] at KR
  rw [hn1] at KP KR ⊢
  have HP := hidden hP
  have HR := hidden hR
  have HN1 := hidden hn1
  have e0 : P.toList.isEmpty = !R := by
    rw [← hP, toList_bts, bts_oft, printL, hR]
    cases R with
    | false => rfl
    | true =>
      have := (right_iff l).1 hR
      cases l with
      | nil => have := this.1; simp at this
      | cons x t => rfl
  clear hP hR hn1 h1 hT
  go_enter Tryd.func5, Tryd.ntmps5
  go_upto_if 36 with (first
    | (go_at_call 7; refine kS.mono ?_; intro e w1 hX; obtain ⟨hv, B1⟩ := hX; subst hv; have k1 := KP w1 B1; clear kS)
    | (go_at_call 20; refine k1.mono ?_; intro e w2 hX; obtain ⟨hv, hb2⟩ := hX; subst hv; have B2 := HX _ _ B1 hb2; have k2 := KQ w2 B2; clear k1 KP)
    | (go_at_call 25; refine k2.mono ?_; intro e w3 hX; obtain ⟨v3, err3, hv, hp3, hb3⟩ := hX; subst hv; have B3 := HX _ _ B2 hb3; have k3 := KR w3 B3; clear k2 KQ)
    | (go_at_call 14; refine k3.mono ?_; intro e w4 hX; obtain ⟨hv, hb4⟩ := hX; subst hv; have B4 := HX _ _ B3 hb4; clear k3 KR))
  have hbo : (errL R == 0) = R := by cases R <;> rfl
  rw [hbo]
  have HP3 := hidden hp3
  have HB3 := hidden B3
  have HB34 := hidden hb4
  have BH4 := hidden B4
  clear hbo B1 hb2 B2 hp3 hb3 B3 hb4 B4
  go_cut [11] from 37 to 47 (fun s wx => Below w.heap.size w wx)
  case first =>
    cases R with
    | false =>
      have e1 : P.toList.isEmpty = true := e0
      clear e0
      go_wp2_with fail
      go_meet
      exact BH4.out
    | true =>
      clear e0
      have hpp : parseL (bts P) = .inr l := by rw [← HP.out, bts_oft]; exact parse_print HR.out
      have hc := HP3.out
      cases hc with
      | no p g q1 => rw [hpp] at q1; cases q1
      | ok l' ad c q1 q2 q3 =>
        rw [hpp] at q1
        injection q1 with q1
        subst q1
        have k5 := (q3.later HB34.out).same (H1.out.later BH4.out)
        rw [decide_eq_true rfl] at k5
        have k5' : Calls Tryd.prog 12 #[.slice ad l.length c, .slice a1 n1 c1] w4 fun e w' => e = .returned (.bool true) ∧ Below w4.heap.size w4 w' := by rw [← HN1.out]; exact k5
        clear k5
        go_wp2_with (go_at_call 12; refine k5'.mono ?_; intro e w5 hX; obtain ⟨hv, hb5⟩ := hX; subst hv; clear k5')
        go_meet
        exact HX _ _ BH4.out hb5
  case rest =>
    rename World => w5
    have BH5 := hidden hcut
    clear hcut
    have k6 := parV w.heap.size s w5 hs (HT w5 BH5.out)
    go_wp2_with (go_at_call 25; refine k6.mono ?_)
    intro e w6 hX
    obtain ⟨v6, err6, rfl, hc, hb6⟩ := hX
    have BH6 := hidden (HX _ _ BH5.out hb6)
    clear k6 hb6
    cases hc with
    | ok b ad c q1 q2 q3 =>
      have hrb := parse_right q1
      have Q3 := hidden q3
      have KP : ∀ w1, Below w6.heap.size w6 w1 → Calls Tryd.prog 20 #[.slice ad b.length c] w1 fun e w' => e = .returned (.string (oft (printL b))) ∧ Below w1.heap.size w1 w' := fun w1 h => (Q3.out.later h).print (HT w1 (HX _ _ BH6.out h))
      have KQ : ∀ w1, Below w6.heap.size w6 w1 → Calls Tryd.prog 25 #[.string (oft (printL b))] w1 fun e w' => ∃ a' c', e = .returned (.tuple #[.slice a' b.length c', .nilIface]) ∧ Ar w' a' c' b ∧ Below w1.heap.size w1 w' := by
        intro w1 h
        refine (par_ok w.heap.size (oft (printL b)) b w1 (by rw [size_bts, bts_oft]; have := print_len b; omega) (HT w1 (HX _ _ BH6.out h)) (by rw [bts_oft]; exact parse_print hrb)).mono ?_
        rintro e w' ⟨a', c', rfl, o1, o2, o3⟩
        have := ((right_iff b).1 hrb).2.1
        exact ⟨a', c', rfl, Ar.of o1 o2 (by omega), o3⟩
      have KR : ∀ w1, Below w6.heap.size w6 w1 → Calls Tryd.prog 14 #[.slice ad b.length c] w1 fun e w' => e = .returned (.int .i64 0) ∧ Below w1.heap.size w1 w' := fun w1 h => by have := (Q3.out.later h).right (HT w1 (HX _ _ BH6.out h)); rw [hrb] at this; exact this
      have KS : ∀ w1 a' c', Below w6.heap.size w6 w1 → Ar w1 a' c' b → Calls Tryd.prog 12 #[.slice a' b.length c', .slice ad b.length c] w1 fun e w' => e = .returned (.bool true) ∧ Below w1.heap.size w1 w' := fun w1 a' c' h k => by have := k.same (Q3.out.later h); rw [decide_eq_true rfl] at this; exact this
      have k7 := KP w6 (Below.refl _ _)
      obtain ⟨nb, hnb⟩ : ∃ nb, b.length = nb := ⟨_, rfl⟩
      rw [hnb] at k7 KQ KR KS
      rw [hnb]
      clear KP q1 q2 q3 hrb hnb
      go_wp2_with (first
        | (go_at_call 20; refine k7.mono ?_; intro e w7 hX; obtain ⟨hv, hb7⟩ := hX; subst hv; have k8 := KQ w7 hb7; clear k7)
        | (go_at_call 25; refine k8.mono ?_; intro e w8 hX; obtain ⟨a8, c8, hv, A8, hb8⟩ := hX; subst hv; have hb78 := hb7.trans (hb8.mono hb7.size); have k9 := KS w8 a8 c8 hb78 A8; clear k8)
        | (go_at_call 12; refine k9.mono ?_; intro e w9 hX; obtain ⟨hv, hb9⟩ := hX; subst hv; have hb79 := hb78.trans (hb9.mono hb78.size); have ka := KR w9 hb79; clear k9)
        | (go_at_call 14; refine ka.mono ?_; intro e wa hX; obtain ⟨hv, hba⟩ := hX; subst hv; have hb7a := hb79.trans (hba.mono hb79.size); clear ka))
      go_ret
      exact ⟨rfl, HX _ _ BH6.out hb7a⟩
    | no p g q1 q2 q3 q4 =>
      have hpf := parse_fault (bts s) p q1
      have k7 := faultF g (p : Int) w6 q4
      clear q4
      have z1 : ¬ (p : Int) < 0 := by omega
      have z2 : ¬ (s.size : Int) < (p : Int) := by omega
      by_cases hpe : p = s.size ∨ 536870912 < s.size ∨ 536870912 < t.size
      · have z3 : ((p : Int) == (s.size : Int)) = decide (p = s.size) := by rw [Bool.eq_iff_iff]; simp; omega
        by_cases e1 : p = s.size
        · rw [decide_eq_true e1] at z3
          clear hpe hpf e1
          go_wp2_with (go_at_call 23; refine k7.mono ?_; intro e w7 hX; obtain ⟨hv, hb7⟩ := hX; subst hv; clear k7)
          go_ret
          exact ⟨rfl, HX _ _ BH6.out hb7⟩
        · rw [decide_eq_false e1] at z3
          by_cases e2 : 536870912 < s.size
          · have z4 : (536870912 : Int) < (s.size : Int) := by omega
            clear hpe hpf e1
            go_wp2_with (go_at_call 23; refine k7.mono ?_; intro e w7 hX; obtain ⟨hv, hb7⟩ := hX; subst hv; clear k7)
            go_ret
            exact ⟨rfl, HX _ _ BH6.out hb7⟩
          · have z4 : ¬ (536870912 : Int) < (s.size : Int) := by omega
            have z5 : (536870912 : Int) < (t.size : Int) := by omega
            clear hpe hpf e1
            go_wp2_with (go_at_call 23; refine k7.mono ?_; intro e w7 hX; obtain ⟨hv, hb7⟩ := hX; subst hv; clear k7)
            go_ret
            exact ⟨rfl, HX _ _ BH6.out hb7⟩
      · have e1 : p < s.size := by omega
        have z3 : ((p : Int) == (s.size : Int)) = false := by simp; omega
        have z4 : ¬ (536870912 : Int) < (s.size : Int) := by omega
        have z5 : ¬ (536870912 : Int) < (t.size : Int) := by omega
        have z6 : (p : Int) < (s.size : Int) := by omega
        obtain ⟨x, hx, hx2, _⟩ := byte_at s e1
        have z7 : (p : Int) + 1 ≤ (s.size : Int) := by omega
        have z8 : (s.extract 0 (p + 1)).size + t.size ≤ 9223372036854775807 := by rw [size_bts, bts_extract, List.length_take, List.length_drop, ← size_bts]; omega
        go_wp2_with (go_at_call 23; refine k7.mono ?_; intro e w7 hX; obtain ⟨hv, hb7⟩ := hX; subst hv; have B7 := HX _ _ BH6.out hb7; clear k7)
        have hS' : bts (s.extract 0 (p + 1) ++ t) = (bts s).take (p + 1) ++ bts t := by
          rw [← show (bts (s.extract 0 (p + 1))) = (bts s).take (p + 1) from by rw [bts_extract]; simp]
          simp [bts]
        have hag : ∀ j, j ≤ p → (bts (s.extract 0 (p + 1) ++ t))[j]? = (bts s)[j]? := by
          intro j hj
          rw [hS', List.getElem?_append_left (by rw [List.length_take, ← size_bts]; omega), List.getElem?_take, if_pos (by omega)]
        have hz9 : (s.extract 0 (p + 1) ++ t).size ≤ 140737488355328 := by
          rw [size_bts, hS', List.length_append, List.length_take, ← size_bts, ← size_bts]; omega
        obtain ⟨x', hx', hdis⟩ := hpf.2 (by rw [← size_bts]; exact e1)
        rw [hx2] at hx'
        injection hx' with hx'
        subst hx'
        have k8 := parV w.heap.size (s.extract 0 (p + 1) ++ t) w7 hz9 (HT w7 B7)
        obtain ⟨S', hSS⟩ : ∃ S', s.extract 0 (p + 1) ++ t = S' := ⟨_, rfl⟩
        rw [hSS] at k8 hag ⊢
        have BH7 := hidden B7
        have HAG := hidden hag
        clear hSS hS' hag hz9 hpf hx2 hb7 B7 z8 q1
        refine k8.mono ?_
        intro e w8 hX
        obtain ⟨v8, err8, rfl, hc8, hb8⟩ := hX
        have BH8 := hidden (HX _ _ BH7.out hb8)
        clear k8 hb8
        cases hlx : lett x with
        | true =>
          cases hc8 with
          | no p2 g2 u1 u2 u3 u4 =>
            have k9 := faultF g2 (p2 : Int) w8 u4
            clear u1 u2 u3 u4 hdis HAG
            go_upto_region 22 with (go_at_call 23; refine k9.mono ?_; intro e w9 hX; obtain ⟨hv, hb9⟩ := hX; subst hv; have BH9 := hidden (HX _ _ BH8.out hb9); clear k9 hb9)
            go_upto_region 23 with fail
            go_cut [141] from 142 to 159 (fun s wx => s = .bool (lett x) ∧ wx = w9)
            case first =>
              have dd : lett x = ((decide (97 ≤ x.toNat) && decide (x.toNat ≤ 122)) || (decide (65 ≤ x.toNat) && decide (x.toNat ≤ 90)) || decide (x.toNat = 95)) := rfl
              clear hlx
              by_cases y1 : 97 ≤ x.toNat <;> by_cases y2 : x.toNat ≤ 122 <;> by_cases y3 : 65 ≤ x.toNat <;> by_cases y4 : x.toNat ≤ 90 <;> by_cases y5 : x.toNat = 95 <;> first
                | (exfalso; omega)
                | (have g1 : decide ((97 : Int) ≤ ((x.toNat : Nat) : Int)) = decide (97 ≤ x.toNat) := decide_eq_decide.2 (by omega)
                   have g2 : decide (((x.toNat : Nat) : Int) ≤ 122) = decide (x.toNat ≤ 122) := decide_eq_decide.2 (by omega)
                   have g3 : decide ((65 : Int) ≤ ((x.toNat : Nat) : Int)) = decide (65 ≤ x.toNat) := decide_eq_decide.2 (by omega)
                   have g4 : decide (((x.toNat : Nat) : Int) ≤ 90) = decide (x.toNat ≤ 90) := decide_eq_decide.2 (by omega)
                   have g5 : (((x.toNat : Nat) : Int) == 95) = decide (x.toNat = 95) := by rw [Bool.eq_iff_iff]; simp; omega
                   simp only [y1, y2, y3, y4, y5, decide_true, decide_false] at g1 g2 g3 g4 g5
                   go_wp2_with fail
                   go_meet
                   exact ⟨by rw [dd]; simp [y1, y2, y3, y4, y5], rfl⟩)
            case rest =>
              obtain ⟨rfl, hwc⟩ := hcut
              obtain rfl := hwc.symm
              clear hwc
              rw [hlx]
              go_wp2_with fail
              go_ret
              exact ⟨rfl, BH9.out⟩
          | ok l2 ad2 c2 u1 u2 u3 =>
            have k9 := faultN w8
            clear u1 u2 u3 hdis HAG
            go_upto_region 22 with (go_at_call 23; refine k9.mono ?_; intro e w9 hX; obtain ⟨hv, hb9⟩ := hX; subst hv; have BH9 := hidden (HX _ _ BH8.out hb9); clear k9 hb9)
            go_upto_region 23 with fail
            go_cut [141] from 142 to 159 (fun s wx => s = .bool (lett x) ∧ wx = w9)
            case first =>
              have dd : lett x = ((decide (97 ≤ x.toNat) && decide (x.toNat ≤ 122)) || (decide (65 ≤ x.toNat) && decide (x.toNat ≤ 90)) || decide (x.toNat = 95)) := rfl
              clear hlx
              by_cases y1 : 97 ≤ x.toNat <;> by_cases y2 : x.toNat ≤ 122 <;> by_cases y3 : 65 ≤ x.toNat <;> by_cases y4 : x.toNat ≤ 90 <;> by_cases y5 : x.toNat = 95 <;> first
                | (exfalso; omega)
                | (have g1 : decide ((97 : Int) ≤ ((x.toNat : Nat) : Int)) = decide (97 ≤ x.toNat) := decide_eq_decide.2 (by omega)
                   have g2 : decide (((x.toNat : Nat) : Int) ≤ 122) = decide (x.toNat ≤ 122) := decide_eq_decide.2 (by omega)
                   have g3 : decide ((65 : Int) ≤ ((x.toNat : Nat) : Int)) = decide (65 ≤ x.toNat) := decide_eq_decide.2 (by omega)
                   have g4 : decide (((x.toNat : Nat) : Int) ≤ 90) = decide (x.toNat ≤ 90) := decide_eq_decide.2 (by omega)
                   have g5 : (((x.toNat : Nat) : Int) == 95) = decide (x.toNat = 95) := by rw [Bool.eq_iff_iff]; simp; omega
                   simp only [y1, y2, y3, y4, y5, decide_true, decide_false] at g1 g2 g3 g4 g5
                   go_wp2_with fail
                   go_meet
                   exact ⟨by rw [dd]; simp [y1, y2, y3, y4, y5], rfl⟩)
            case rest =>
              obtain ⟨rfl, hwc⟩ := hcut
              obtain rfl := hwc.symm
              clear hwc
              rw [hlx]
              go_wp2_with fail
              go_ret
              exact ⟨rfl, BH9.out⟩
        | false =>
          obtain ⟨q, hq1, hq2⟩ := (hdis.resolve_left (by rw [hlx]; simp)) (bts S') HAG.out
          cases hc8 with
          | ok l2 ad2 c2 u1 u2 u3 => rw [hq1] at u1; cases u1
          | no p2 g2 u1 u2 u3 u4 =>
            rw [hq1] at u1
            injection u1 with u1
            subst u1
            have k9 := faultF g2 (q : Int) w8 u4
            have e125 := beq125 x
            clear u2 u3 u4 hdis HAG hq1
            go_upto_region 22 with (go_at_call 23; refine k9.mono ?_; intro e w9 hX; obtain ⟨hv, hb9⟩ := hX; subst hv; have BH9 := hidden (HX _ _ BH8.out hb9); clear k9 hb9)
            go_upto_region 23 with fail
            go_cut [141] from 142 to 159 (fun s wx => s = .bool (lett x) ∧ wx = w9)
            case first =>
              have dd : lett x = ((decide (97 ≤ x.toNat) && decide (x.toNat ≤ 122)) || (decide (65 ≤ x.toNat) && decide (x.toNat ≤ 90)) || decide (x.toNat = 95)) := rfl
              clear hlx e125 hq2
              by_cases y1 : 97 ≤ x.toNat <;> by_cases y2 : x.toNat ≤ 122 <;> by_cases y3 : 65 ≤ x.toNat <;> by_cases y4 : x.toNat ≤ 90 <;> by_cases y5 : x.toNat = 95 <;> first
                | (exfalso; omega)
                | (have g1 : decide ((97 : Int) ≤ ((x.toNat : Nat) : Int)) = decide (97 ≤ x.toNat) := decide_eq_decide.2 (by omega)
                   have g2 : decide (((x.toNat : Nat) : Int) ≤ 122) = decide (x.toNat ≤ 122) := decide_eq_decide.2 (by omega)
                   have g3 : decide ((65 : Int) ≤ ((x.toNat : Nat) : Int)) = decide (65 ≤ x.toNat) := decide_eq_decide.2 (by omega)
                   have g4 : decide (((x.toNat : Nat) : Int) ≤ 90) = decide (x.toNat ≤ 90) := decide_eq_decide.2 (by omega)
                   have g5 : (((x.toNat : Nat) : Int) == 95) = decide (x.toNat = 95) := by rw [Bool.eq_iff_iff]; simp; omega
                   simp only [y1, y2, y3, y4, y5, decide_true, decide_false] at g1 g2 g3 g4 g5
                   go_wp2_with fail
                   go_meet
                   exact ⟨by rw [dd]; simp [y1, y2, y3, y4, y5], rfl⟩)
            case rest =>
              obtain ⟨rfl, hwc⟩ := hcut
              obtain rfl := hwc.symm
              clear hwc
              rw [hlx]
              by_cases h125 : x = 125
              · rw [decide_eq_true h125] at e125
                clear hq2
                go_wp2_with fail
                go_ret
                exact ⟨rfl, BH9.out⟩
              · rw [decide_eq_false h125] at e125
                have hqp : q = p := hq2 h125
                subst hqp
                clear hq2
                go_wp2_with fail
                go_ret
                exact ⟨by simp, BH9.out⟩

end Go.Proofs.YtpdffdoogobhfaaDoor
