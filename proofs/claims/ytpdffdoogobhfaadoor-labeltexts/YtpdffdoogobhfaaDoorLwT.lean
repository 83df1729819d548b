/-
  LabelTexts: the walk.
-/
import Derived.Test.YtpdffdoogobhfaaDoorLwP
namespace Go.Proofs.YtpdffdoogobhfaaDoor
open Go.RowKit
set_option linter.unusedVariables false
set_option linter.unusedSimpArgs false

set_option maxRecDepth 100000 in
set_option maxHeartbeats 40000000 in
theorem texts_walk (a0 : Option Addr) (c0 : Nat) (l : List Lb) (s t : ByteArray) (W : World) (h0 : Ar W a0 c0 l) (s0 : Sm l) (hs : s.size ≤ 140737488355328) (ht : t.size ≤ 140737488355328) (hT : Tb W.heap.size W) :
    Calls Tryd.prog 4 #[.slice a0 l.length c0, .string s, .string t] W fun e w' => e = .returned (.bool true) ∧ Below W.heap.size W w' := by
  have kS := shownP W.heap.size W hT
  have HA0 := hidden h0
  have HS0 := hidden s0
  have HT := hidden hT
  obtain ⟨n0, hn0⟩ : ∃ n0, l.length = n0 := ⟨_, rfl⟩
  have hsm0 := h0.len
  rw [hn0] at hsm0
  rw [hn0]
  have HN0 := hidden hn0
  clear h0 s0 hT hn0
  go_enter Tryd.func4, Tryd.ntmps4
  go_wp2_with (go_at_call 7; refine kS.mono ?_; rintro e w1 ⟨rfl, hb1⟩; clear kS)
  have HB1 := hidden hb1
  clear hb1
  have k2 := LE.lent (HA0.out.later HB1.out) HS0.out HB1.out
  rw [HN0.out] at k2
  go_wp2_with (go_at_call 8; refine k2.mono ?_; rintro e w2 ⟨gx, cx, rfl, hle2, hb2⟩; clear k2)
  have HB2 := hidden (HB1.out.trans (hb2.mono HB1.out.size))
  have HX := hidden hle2
  have HTB : Hid (Tb W.heap.size w2) := hidden (HT.out.later HB2.out)
  clear hb2 hle2 HB1
  have HB : Hid (Below w2.heap.size w2 w2) := hidden (Below.refl _ _)
  obtain ⟨pr, hpr⟩ : ∃ pr, oft (printL l) = pr := ⟨_, rfl⟩
  have HPR := hidden hpr
  clear hpr
  have h8a := pls_len s
  have h8b := pls_len t
  obtain ⟨P, hP⟩ : ∃ P, pls s = P := ⟨_, rfl⟩
  obtain ⟨Q, hQ⟩ : ∃ Q, pls t = Q := ⟨_, rfl⟩
  obtain ⟨A, hA⟩ : ∃ A, pat s = A := ⟨_, rfl⟩
  obtain ⟨B, hB⟩ : ∃ B, pat t = B := ⟨_, rfl⟩
  obtain ⟨E, hE⟩ : ∃ E, per s = E := ⟨_, rfl⟩
  obtain ⟨F, hF⟩ : ∃ F, per t = F := ⟨_, rfl⟩
  obtain ⟨p, hp⟩ : ∃ p, P.length = p := ⟨_, rfl⟩
  obtain ⟨q, hq⟩ : ∃ q, Q.length = q := ⟨_, rfl⟩
  rw [hP, hp] at h8a
  rw [hQ, hq] at h8b
  have KS : Hid (∀ w1, Tb W.heap.size w1 → Calls Tryd.prog 22 #[.string s] w1 fun e w' => ∃ ad c err, e = .returned (.tuple #[.slice ad p c, err, .bool true]) ∧ w'.ownsRow w1.heap.size 35 2 (.slice ad p c) p (cL P) ∧ Szs P ∧ FaE w1.heap.size w' err A E ∧ Below w1.heap.size w1 w') := hidden (fun w1 h => by
    have := parsesP W.heap.size s w1 hs h
    rw [hP, hA, hE, hp] at this
    exact this)
  have KT : Hid (∀ w1, Tb W.heap.size w1 → Calls Tryd.prog 22 #[.string t] w1 fun e w' => ∃ ad c err, e = .returned (.tuple #[.slice ad q c, err, .bool true]) ∧ w'.ownsRow w1.heap.size 35 2 (.slice ad q c) q (cL Q) ∧ Szs Q ∧ FaE w1.heap.size w' err B F ∧ Below w1.heap.size w1 w') := hidden (fun w1 h => by
    have := parsesP W.heap.size t w1 ht h
    rw [hQ, hB, hF, hq] at this
    exact this)
  have RS : Hid (∀ w1, Calls Tryd.prog 24 #[.string s] w1 fun e w' => ∃ ad c, e = .returned (.tuple #[.slice ad p c, .int .i64 A, .int .i64 E]) ∧ w'.ownsRow w1.heap.size 35 2 (.slice ad p c) p (cL P) ∧ Below w1.heap.size w1 w') := hidden (fun w1 => by
    have := par24 s w1 hs
    rw [hP, hA, hE, hp] at this
    exact this)
  have RT : Hid (∀ w1, Calls Tryd.prog 24 #[.string t] w1 fun e w' => ∃ ad c, e = .returned (.tuple #[.slice ad q c, .int .i64 B, .int .i64 F]) ∧ w'.ownsRow w1.heap.size 35 2 (.slice ad q c) q (cL Q) ∧ Below w1.heap.size w1 w') := hidden (fun w1 => by
    have := par24 t w1 ht
    rw [hQ, hB, hF, hq] at this
    exact this)
  clear hP hQ hA hB hE hF hp hq
  have k3 := printP W.heap.size _ cx l _ (HX.out.later HB.out).arg.ls (by rw [HN0.out]; omega) (HTB.out.later HB.out)
  rw [HN0.out, HPR.out] at k3
  go_wp2_with (go_at_call 20; refine k3.mono ?_; rintro e w3 ⟨rfl, hb3⟩; clear k3)
  replace HB := hidden (HB.out.trans (hb3.mono HB.out.size))
  clear hb3
  have k4 := (HX.out.later HB.out).still
  rw [HN0.out] at k4
  go_wp2_with (go_at_call 10; refine k4.mono ?_; rintro e w4 ⟨rfl, hb4⟩; clear k4)
  replace HB := hidden (HB.out.trans (hb4.mono HB.out.size))
  clear hb4
  have SA : Hid (w2.heap.size ≤ w4.heap.size) := hidden HB.out.size
  have k5 := KS.out _ (HTB.out.later HB.out)
  go_wp2_with (go_at_call 22; refine k5.mono ?_; rintro e w5 ⟨a5, c5, err5, rfl, ho5, hz5, hf5, hb5⟩; clear k5)
  replace HB := hidden (HB.out.trans (hb5.mono HB.out.size))
  have HO5 := hidden ho5
  have HF5 := hidden hf5
  have HL5 : Hid (∀ g, (Value.slice a5 p c5).ownBlock = some g → g < w5.heap.size) := hidden (fun g hg => owns_lt HO5.out g hg)
  have SZ5 : Hid (w4.heap.size ≤ w5.heap.size) := hidden hb5.size
  clear ho5 hz5 hf5 hb5
  have k6 := KT.out _ (HTB.out.later HB.out)
  go_wp2_with (go_at_call 22; refine k6.mono ?_; rintro e w6 ⟨a6, c6, err6, rfl, ho6, hz6, hf6, hb6⟩; clear k6)
  replace HO5 := hidden (owl HO5.out hb6)
  replace HF5 := hidden (HF5.out.later hb6)
  replace HB := hidden (HB.out.trans (hb6.mono HB.out.size))
  have HO6 := hidden ho6
  have HF6 := hidden hf6
  have HL6 : Hid (∀ g, (Value.slice a6 q c6).ownBlock = some g → g < w6.heap.size) := hidden (fun g hg => owns_lt HO6.out g hg)
  have SZ6 : Hid (w5.heap.size ≤ w6.heap.size) := hidden hb6.size
  clear ho6 hz6 hf6 hb6
  have k7 := KS.out _ (HTB.out.later HB.out)
  go_wp2_with (go_at_call 22; refine k7.mono ?_; rintro e w7 ⟨a7, c7, err7, rfl, ho7, hz7, hf7, hb7⟩; clear k7)
  replace HO5 := hidden (owl HO5.out hb7)
  replace HO6 := hidden (owl HO6.out hb7)
  replace HF5 := hidden (HF5.out.later hb7)
  replace HF6 := hidden (HF6.out.later hb7)
  replace HB := hidden (HB.out.trans (hb7.mono HB.out.size))
  have HO7 := hidden ho7
  have HF7 := hidden hf7
  have HL7 : Hid (∀ g, (Value.slice a7 p c7).ownBlock = some g → g < w7.heap.size) := hidden (fun g hg => owns_lt HO7.out g hg)
  have SZ7 : Hid (w6.heap.size ≤ w7.heap.size) := hidden hb7.size
  clear ho7 hz7 hf7 hb7
  have k8 := rprintP _ c0 l _ (HX.out.later HB.out).ar.ls (by rw [HN0.out]; omega) HS0.out
  rw [HN0.out, HPR.out] at k8
  go_wp2_with (go_at_call 21; refine k8.mono ?_; rintro e w8 ⟨rfl, hb8⟩; clear k8)
  replace HO5 := hidden (owl HO5.out hb8)
  replace HO6 := hidden (owl HO6.out hb8)
  replace HO7 := hidden (owl HO7.out hb8)
  replace HF5 := hidden (HF5.out.later hb8)
  replace HF6 := hidden (HF6.out.later hb8)
  replace HF7 := hidden (HF7.out.later hb8)
  replace HB := hidden (HB.out.trans (hb8.mono HB.out.size))
  have HSO : Hid (w7.heap.size ≤ w8.heap.size) := hidden hb8.size
  clear hb8
  have k9 := ownedK2 w4.heap.size a5 a6 a7 p q p c5 c6 c7 w4.heap.size w5.heap.size w6.heap.size P Q P w8 HO5.out HO6.out HO7.out (Nat.le_refl _) SZ5.out SZ6.out HL5.out HL6.out (Nat.le_trans (Nat.le_trans SZ5.out SZ6.out) (by have := SZ7.out; have := HSO.out; omega)) h8a h8b h8a
  go_wp2_with (go_at_call 13; refine k9.mono ?_; rintro e w9 ⟨rfl, hc9⟩; clear k9)
  have HTG : Hid (∀ g, ((Value.slice a5 p c5).ownBlock = some g ∨ (Value.slice a6 q c6).ownBlock = some g ∨ (Value.slice a7 p c7).ownBlock = some g) → Tg w8 g 35) := hidden (fun g hg => by
    rcases hg with h | h | h
    · exact owns_tg HO5.out g h
    · exact owns_tg HO6.out g h
    · exact owns_tg HO7.out g h)
  have HG5 := hidden (HF5.out.chg hc9 HTG.out)
  have HG6 := hidden (HF6.out.chg hc9 HTG.out)
  replace HB : Hid (Below w2.heap.size w2 w9) := hidden (HB.out.trans (hc9.below HB.out.size (fun b e => by
    have q0 := SA.out
    have q1 := SZ5.out
    have q2 := SZ6.out
    rcases e with e | e | e
    · have := (HO5.out.lt b e).1; omega
    · have := (HO6.out.lt b e).1; omega
    · have := (HO7.out.lt b e).1; omega)))
  clear hc9 HO5 HO6 HO7 HF5 HF6 HF7 HTG
  have k10 := HG5.out.fault
  go_wp2_with (go_at_call 23; refine k10.mono ?_; rintro e w10 ⟨rfl, hb10⟩; clear k10)
  replace HG5 := hidden (HG5.out.later hb10)
  replace HG6 := hidden (HG6.out.later hb10)
  replace HB := hidden (HB.out.trans (hb10.mono HB.out.size))
  clear hb10
  have k11 := RS.out w10
  go_wp2_with (go_at_call 24; refine k11.mono ?_; rintro e w11 ⟨a11, c11, rfl, ho11, hb11⟩; clear k11)
  replace HG5 := hidden (HG5.out.later hb11)
  replace HG6 := hidden (HG6.out.later hb11)
  replace HB := hidden (HB.out.trans (hb11.mono HB.out.size))
  clear hb11 ho11
  have k12 := HG6.out.fault
  go_wp2_with (go_at_call 23; refine k12.mono ?_; rintro e w12 ⟨rfl, hb12⟩; clear k12)
  replace HG5 := hidden (HG5.out.later hb12)
  replace HG6 := hidden (HG6.out.later hb12)
  replace HB := hidden (HB.out.trans (hb12.mono HB.out.size))
  clear hb12
  have k13 := RT.out w12
  go_wp2_with (go_at_call 24; refine k13.mono ?_; rintro e w13 ⟨a13, c13, rfl, ho13, hb13⟩; clear k13)
  replace HG5 := hidden (HG5.out.later hb13)
  replace HG6 := hidden (HG6.out.later hb13)
  replace HB := hidden (HB.out.trans (hb13.mono HB.out.size))
  clear hb13 ho13
  go_ret
  exact ⟨rfl, HB2.out.trans (HB.out.mono HB2.out.size)⟩

end Go.Proofs.YtpdffdoogobhfaaDoor
