/-
  Scan: what it tells.
-/
import Derived.Test.YtnfjhdedcnbdbaaGreatFrE
import Derived.Test.YtnfjhdedcnbdbaaGreatFrA
import Derived.Test.YtnfjhdedcnbdbaaGreatRng
import Derived.RangeFuncNested
import Derived.RangeFuncBound
import Derived.Shelf.Abstract
import Derived.Shelf.RegionOpen
import Derived.OwnWalkIn
import Derived.TacticsInMore
import Derived.LoopNIn
import Derived.LoopIn
namespace Go.Proofs.YtnfjhdedcnbdbaaGreat
open Go Go.RowKit Go.Shelf
set_option linter.unusedVariables false
set_option linter.unusedSimpArgs false
attribute [local go_sem] Oper.semAt_some

/-- An element: its kind, its list, the list's bytes. -/
abbrev El := Int × Value × List Int
def fr (x : El) : Int × List Int := (x.1, x.2.2)
def encE (x : El) : Array Value := #[.int .u8 x.1, x.2.1]
def TellE (l : List Int) (B : Nat) (pre : List El) (x : El) (w : World) : Prop :=
  (∃ rest, frames l = pre.map fr ++ fr x :: rest) ∧ (∃ ad c, x.2.1 = .slice ad x.2.2.length c) ∧ w.ownsRow B 5 1 x.2.1 x.2.2.length (cells8 x.2.2)
def ReadE (B bx : Nat) (ad : Option Addr) (len cap : Nat) (l : List Int) (w : World) : Prop := w.cell? ⟨bx, 0, none⟩ = some (.slice ad len cap) ∧ Sl w ad len l ∧ B ≤ w.heap.size

set_option maxHeartbeats 2000000 in
set_option maxRecDepth 100000 in
theorem scan1_seqs (bx : Nat) (ad : Option Addr) (len cap : Nat) (l : List Int) (w : World) (hc : len ≤ cap) (hb : len ≤ 140737488355328) (hno : ad = none → cap = 0) :
    Seqs Tryz.prog 98 #[.pointer (some ⟨bx, 0, none⟩)] encE (ReadE w.heap.size bx ad len cap l) (TellE l) (fun xs => xs.map fr = frames l) (fun pre => ∃ rest, frames l = pre.map fr ++ rest) w := by
  intro n lp J Jx W hW hJ hJx hT hY h0
  have H0 := hT _ _ h0
  have c0 := H0.1
  have hlen := hidden H0.2.1.len
  have HY := hidden hY
  have HT := hidden hT
  have HJ := hidden hJ
  have HW := hidden hW.size
  clear hY hT hJ hW H0
  have hdp : Fence.wide.depth.isSome = false := rfl
  refine callsIn_of_wp Tryz.func98 rfl trivial ?_ rfl
  simp only [Tryz.ntmps98, List.size_toArray, List.length_cons, List.length_nil, Nat.reduceAdd, Nat.reduceSub, Array.replicate_succ, Array.replicate_zero, List.push_toArray, List.append_toArray, List.nil_append, List.cons_append]
  gi_wp2
  gi_loopw [3] (fun rv wr => ∃ (t : Nat) (pre : List El) (rest : List (Int × List Int)) (ax : Option Addr), rv = .slice ax (len - t) (cap - t) ∧ t ≤ len ∧ t = fsz (pre.map fr) ∧ (ax = none → cap - t = 0) ∧ frames l = pre.map fr ++ rest ∧ (0 < len - t → ∃ b off, ad = some ⟨b, off, none⟩ ∧ ax = some ⟨b, off + t, none⟩) ∧ J pre wr)
    (fun rv _ => match rv with | .slice _ m _ => m | _ => 0)
  case atStart =>
    refine ⟨0, [], frames l, ad, rfl, Nat.zero_le _, rfl, hno, rfl, fun hp => ?_, h0⟩
    obtain ⟨b, off, e, _⟩ := (HT.out _ _ h0).2.1.at (by omega)
    exact ⟨b, off, e, by simp [e]⟩
  case round =>
    obtain ⟨t, pre, rest, ax, rfl, htl, ht, hax, hfr, had, hj⟩ := hrel
    have HS : Hid (Sl wr ax (len - t) (l.drop t)) := by
      have h2 := (HT.out _ _ hj).2.1
      by_cases hp : 0 < len - t
      · obtain ⟨b, off, rfl, rfl⟩ := had hp
        exact h2.cutL htl
      · have e : l.drop t = [] := List.eq_nil_of_length_eq_zero (by rw [List.length_drop, hlen.out]; omega)
        rw [e, show len - t = 0 by omega]
        exact Sl.nil _ _
    have HJ1 := hidden hj
    have HFR := hidden hfr
    have HAD := hidden had
    have HTT := hidden ht
    have HAX := hidden hax
    have HWS := hidden (HT.out _ _ hj).2.2
    clear hj hfr had ht hax c0
    gi_wp2
    refine ⟨trivial, ?_⟩
    refine (callsIn_wide.2 (get_any ax (len - t) (cap - t) (l.drop t) wr HS.out (by omega) (by omega))).mono ?_
    rintro e w1 ⟨ag, c, rfl, hbd⟩
    have HB := hidden hbd
    have HJ2 := hidden (HJ.out _ _ _ HJ1.out hbd.bel)
    clear hbd
    have HP : Hid ((gett (l.drop t)).2.2 ≠ 0 → _) := @gett_pos (l.drop t)
    have HFN : Hid ((gett (l.drop t)).2.2 = 0 → _) := @frames_none (l.drop t)
    have HFS : Hid ((gett (l.drop t)).2.2 ≠ 0 → _) := @frames_some (l.drop t)
    have HFD := hidden (frames_drop l _ _ HFR.out)
    rw [← HTT.out] at HFD
    have HLD : Hid ((l.drop t).length = len - t) := by show _ = _; rw [List.length_drop, hlen.out]
    rw [HLD.out] at HP
    generalize gett (l.drop t) = G at *
    obtain ⟨k, d, m⟩ := G
    by_cases hm : m = 0
    · subst hm
      gi_wp2
      refine ⟨fun _ h => (by cases h), ?_⟩
      gi_wp2
      refine bodyPost_ret (results_none rfl _ _ _) rfl ?_
      refine ⟨⟨_, rfl⟩, .inl ⟨pre, ?_, HJ2.out⟩⟩
      have h1 := HFD.out.symm.trans (HFN.out trivial)
      rw [HFR.out, h1, List.append_nil]
    · have hm' : ((m : Int) == 0) = false := by simp; omega
      have hp := HP.out hm
      have hre := HFD.out.symm.trans (HFS.out hm)
      have HFR2 : Hid (frames l = pre.map fr ++ fr (k, .slice ag d.length c, d) :: frames ((l.drop t).drop m)) := by
        show _ = _
        rw [HFR.out, hre]
        rfl
      obtain ⟨fn, tmps, assign, body, hy, hR⟩ := HY.out wr.heap.size pre (k, .slice ag d.length c, d) w1 ⟨wr, HJ1.out, rfl⟩ HJ2.out ⟨⟨_, HFR2.out⟩, ⟨_, _, rfl⟩, owns_baseG HB.out.row (fun g hg => HB.out.new g hg)⟩
      dsimp only [encE] at hy
      dsimp only at hp
      have HR := hidden hR
      have HP2 := hidden hp
      have HRE := hidden hre
      clear hR HP HFN HFS hre hp HJ1 HB HJ2
      obtain ⟨b, off, rfl, rfl⟩ := HAD.out (by have := HP2.out; omega)
      have hle1 : m ≤ len - t := by have := HP2.out; omega
      gi_wp2
      refine HR.out.mono ?_
      rintro e w2 (⟨rfl, hj2⟩ | ⟨rfl, hjx⟩)
      · have hfs : fsz ((pre ++ [(k, Value.slice ag d.length c, d)]).map fr) = t + m := by
          rw [List.map_append, fsz_append, ← HTT.out]
          simp only [List.map_cons, List.map_nil, fsz, fr]
          have := HP2.out
          omega
        have hfr : frames l = (pre ++ [(k, Value.slice ag d.length c, d)]).map fr ++ frames ((l.drop t).drop m) := by
          rw [HFR2.out, List.map_append, List.append_assoc]
          rfl
        have HFS := hidden hfs
        have HFF := hidden hfr
        have h9 : 9 ≤ m := HP2.out.1
        clear hfs hfr
        by_cases hcm : cap - t = m
        · gi_wp2
          go_roundw
          case rel => exact ⟨t + m, _, _, _, by rw [show len - t - m = len - (t + m) by omega, show cap - (t + m) = 0 by omega], by omega, HFS.out.symm, (fun h => by cases h), HFF.out, (fun h => by omega), hj2⟩
          case measure => show len - t - m < len - t; omega
        · gi_wp2
          go_roundw
          case rel => exact ⟨t + m, _, _, some ⟨b, off + (t + m), none⟩, by rw [show len - t - m = len - (t + m) by omega, show cap - t - m = cap - (t + m) by omega, show off + t + m = off + (t + m) by omega], by omega, HFS.out.symm, (fun h => by cases h), HFF.out, (fun h => ⟨_, _, rfl, rfl⟩), hj2⟩
          case measure => show len - t - m < len - t; omega
      · gi_wp2
        refine bodyPost_ret (results_none rfl _ _ _) rfl ?_
        exact ⟨⟨_, rfl⟩, .inr ⟨_, ⟨_, by rw [HFR2.out, List.map_append, List.append_assoc]; rfl⟩, hjx⟩⟩

end Go.Proofs.YtnfjhdedcnbdbaaGreat
