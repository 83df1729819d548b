/-
  The document's Parse.
-/
import Derived.Test.YtpdffdoogobhfaaDoorReP
import Derived.Test.YtpdffdoogobhfaaDoorReF
import Derived.Test.YtpdffdoogobhfaaDoorPaH
namespace Go.Proofs.YtpdffdoogobhfaaDoor
open Go.RowKit
set_option linter.unusedVariables false
set_option linter.unusedSimpArgs false

/-- What the document's Parse answers. -/
def PeR (w : World) (s : ByteArray) (w' : World) (v : Value) (p k : Int) : Prop :=
  (∃ q : Nat, parseL (bts s) = .inl q ∧ v = .slice none 0 0 ∧ p = (q : Int) ∧ k = 70) ∨
  (∃ l, parseL (bts s) = .inr l ∧ p = 0 ∧ k = 0 ∧ w'.ownsRow w.heap.size 35 2 v l.length (cL l) ∧ Szs l)

/-- What is held while it reads. -/
structure PI (w0 wx : World) (s : ByteArray) (a : Nat) (z : Int) (al : Option Addr) (cl : Nat) (l : List Lb) : Prop where
  re : Re wx w0.heap.size s a z
  row : wx.ownsRow (w0.heap.size + 1) 35 2 (.slice al l.length cl) l.length (cL l)
  sm : Sm l
  bel : Below w0.heap.size w0 wx
  len8 : l.length ≤ 8
  le : a ≤ s.size
theorem PI.ble {w0 wx : World} {s : ByteArray} {a : Nat} {z : Int} {al : Option Addr} {cl : Nat} {l : List Lb} (h : PI w0 wx s a z al cl l) : a ≤ (bts s).length := by rw [← size_bts]; exact h.le
theorem PI.moved {w0 wx w' : World} {s : ByteArray} {a b : Nat} {z y : Int} {al : Option Addr} {cl : Nat} {l : List Lb} (h : PI w0 wx s a z al cl l) (hr : Re w' w0.heap.size s b y) (hc : Chg (fun i => i = w0.heap.size) wx w') (hb : b ≤ (bts s).length) : PI w0 w' s b y al cl l :=
  ⟨hr, hc.owns h.row (fun g hg e => by have := (h.row.lt g hg).1; have e' : g = w0.heap.size := e; omega), h.sm, h.bel.trans (hc.below h.bel.size (fun i e => by have e' : i = w0.heap.size := e; omega)), h.len8, by rw [size_bts]; exact hb⟩
theorem PI.lat {w0 wx w' : World} {s : ByteArray} {a : Nat} {z : Int} {al : Option Addr} {cl : Nat} {l : List Lb} (h : PI w0 wx s a z al cl l) (hl : Lat wx w') : PI w0 w' s a z al cl l :=
  ⟨Blk.later h.re hl, owl h.row hl, h.sm, h.bel.trans (hl.mono h.bel.size), h.len8, h.le⟩
theorem PI.push {w0 wx w' : World} {s : ByteArray} {a : Nat} {z : Int} {al : Option Addr} {cl : Nat} {l : List Lb} {x : Lb} {g c' : Nat} {ob : Obj} (h : PI w0 wx s a z al cl l) (h8 : l.length < 8) (hx : x.n.size ≤ 4611686018427387904 ∧ x.v.size ≤ 4611686018427387904)
    (ho : w'.ownsRow (w0.heap.size + 1) 35 2 (.slice (some ⟨g, 0, none⟩) (l.length + 1) c') (l.length + 1) (cL l ++ [.string x.n, .string x.v])) (hp : Pushed (wx.alloc ob) w' (.slice al l.length cl) g) : PI w0 w' s a z (some ⟨g, 0, none⟩) c' (lN l x) := by
  have hc := hp.chg.1
  have hF : ∀ g, (Value.slice al l.length cl).ownBlock = some g → w0.heap.size + 1 ≤ g := fun g hg => (h.row.lt g hg).1
  have e : lN l x = l ++ [x] := by rw [lN, if_pos h8]
  rw [e]
  refine ⟨hc.blk h.re (fun e => by have := hF _ e; omega), ?_, fun y hy => ?_, h.bel.trans (hc.below h.bel.size (fun i e => by have := hF _ e; omega)), by simp; omega, h.le⟩
  · rw [cL_append, List.length_append]
    exact ho
  · rcases List.mem_append.1 hy with hy | hy
    · exact h.sm y hy
    · rw [List.mem_singleton.1 hy]; exact hx

def rdZ (r : Nat) (w : World) : Int := ((w.cell? ⟨r, 2, none⟩).map intOf).getD 0
def rdM (n r : Nat) (w : World) : Nat := 2 * (n - rdAt r w) + (if rdZ r w < 0 then 1 else 0)
theorem Re.m {w : World} {r : Nat} {s : ByteArray} {a : Nat} {z : Int} (h : Re w r s a z) : rdM s.size r w = 2 * (s.size - a) + (if z < 0 then 1 else 0) := by
  have c2 : w.cell? ⟨r, 2, none⟩ = some (.int .i64 z) := h.cell 2
  rw [rdM, h.at', rdZ, c2]
  rfl
theorem pkne125 (o : Option UInt8) : (((pkC o : Nat) : Int) != 125) = !decide (o = some 125) := by
  cases o with
  | none => rfl
  | some x => rw [bne, show ((pkC (some x) : Nat) : Int) = ((x.toNat : Nat) : Int) from rfl, beq125]; simp
theorem pkeq44 (o : Option UInt8) : (((pkC o : Nat) : Int) == 44) = decide (o = some 44) := by
  cases o with
  | none => rfl
  | some x => rw [show ((pkC (some x) : Nat) : Int) = ((x.toNat : Nat) : Int) from rfl, beq44]; simp
theorem oft_sz (l : List UInt8) (n : Nat) (h : l.length ≤ n) : (oft l).size ≤ n := by rw [size_bts, bts_oft]; exact h

set_option maxRecDepth 100000 in
set_option maxHeartbeats 40000000 in
theorem rparseP (s : ByteArray) (w : World) (hs : s.size ≤ 140737488355328) :
    Calls Tryd.prog 24 #[.string s] w fun e w' => ∃ v p k, e = .returned (.tuple #[v, .int .i64 p, .int .i64 k]) ∧ PeR w s w' v p k ∧ Below w.heap.size w w' := by
  have hs2 : s.size ≤ 4611686018427387904 := by omega
  have hal : Below w.heap.size w (w.alloc (.cells #[.string s, .int .i64 0, .int .i64 (-1)] 70)) := (Below.refl _ _).alloc (Nat.le_refl _) _
  have P0 : Hid (PI w (w.alloc (.cells #[.string s, .int .i64 0, .int .i64 (-1)] 70)) s 0 (-1) none 0 []) := hidden ⟨Blk.new w 70 [.string s, .int .i64 0, .int .i64 (-1)], World.ownsRow_nil _ _ _ _, (fun x hx => by cases hx), hal, by simp, Nat.zero_le _⟩
  clear hal
  have kB : ∀ (wx : World) (a : Nat) (z : Int), Re wx w.heap.size s a z → a ≤ s.size → Calls Tryd.prog 40 #[.pointer (some ⟨w.heap.size, 0, none⟩)] wx fun e w' => e = .returned (.tuple #[]) ∧ Re w' w.heap.size s (skZ (bts s) a z) z ∧ Chg (fun i => i = w.heap.size) wx w' := fun wx a z h1 h2 => rblanksP _ s a z wx h1 h2 hs2
  have kT : ∀ (wx : World) (a : Nat) (z : Int) (c : UInt8), Re wx w.heap.size s a z → a ≤ s.size → Calls Tryd.prog 41 #[.pointer (some ⟨w.heap.size, 0, none⟩), .int .u8 (c.toNat : Int)] wx fun e w' => e = .returned (.tuple #[]) ∧ Re w' w.heap.size s (tkA (bts s) a z c) (tkZ (bts s) a z c) ∧ Chg (fun i => i = w.heap.size) wx w' := fun wx a z c h1 h2 => rtakeP _ s a z c wx h1 h2 hs2
  have kP : ∀ (wx : World) (a : Nat) (z : Int), Re wx w.heap.size s a z → Calls Tryd.prog 42 #[.pointer (some ⟨w.heap.size, 0, none⟩)] wx fun e w' => e = .returned (.tuple #[.int .u8 (pkC (pk (bts s) a z) : Int), .bool (pk (bts s) a z).isSome]) ∧ ∃ n, w' = wx.drewN n := fun wx a z h1 => rpeekP _ s a z wx h1 hs2
  have KB := hidden kB
  have KT := hidden kT
  have KP := hidden kP
  clear kB kT kP
  obtain ⟨a0, ha0⟩ : ∃ a0, skZ (bts s) 0 (-1) = a0 := ⟨_, rfl⟩
  obtain ⟨a1, ha1⟩ : ∃ a1, tkA (bts s) a0 (-1) 123 = a1 := ⟨_, rfl⟩
  obtain ⟨z1, hz1⟩ : ∃ z1, tkZ (bts s) a0 (-1) 123 = z1 := ⟨_, rfl⟩
  obtain ⟨a2, ha2⟩ : ∃ a2, skZ (bts s) a1 z1 = a2 := ⟨_, rfl⟩
  have HST := hidden (start_pure ha0 ha1 hz1 ha2)
  have hl0 : a0 ≤ (bts s).length := by rw [← ha0]; exact skZ_le (Nat.zero_le _) _
  have hl1 : a1 ≤ (bts s).length := by rw [← ha1]; exact tkA_le hl0 _ _
  have hl2 : a2 ≤ (bts s).length := by rw [← ha2]; exact skZ_le hl1 _
  have hm := pkne125 (pk (bts s) a2 z1)
  obtain ⟨m0, hm0⟩ : ∃ m0, (!decide (pk (bts s) a2 z1 = some 125)) = m0 := ⟨_, rfl⟩
  rw [hm0] at hm HST
  have k1 := KB.out _ 0 (-1) P0.out.re (Nat.zero_le _)
  rw [ha0] at k1
  have k2 : ∀ wx, PI w wx s a0 (-1) none 0 [] → Calls Tryd.prog 41 #[.pointer (some ⟨w.heap.size, 0, none⟩), .int .u8 123] wx fun e w' => e = .returned (.tuple #[]) ∧ Re w' w.heap.size s a1 z1 ∧ Chg (fun i => i = w.heap.size) wx w' := fun wx h => by
    have := KT.out wx a0 (-1) 123 h.re h.le
    rw [ha1, hz1] at this
    exact this
  have k3 : ∀ wx, PI w wx s a1 z1 none 0 [] → Calls Tryd.prog 40 #[.pointer (some ⟨w.heap.size, 0, none⟩)] wx fun e w' => e = .returned (.tuple #[]) ∧ Re w' w.heap.size s a2 z1 ∧ Chg (fun i => i = w.heap.size) wx w' := fun wx h => by
    have := KB.out wx a1 z1 h.re h.le
    rw [ha2] at this
    exact this
  have HL0 := hidden hl0
  have HL1 := hidden hl1
  have HL2 := hidden hl2
  clear ha0 ha1 hz1 ha2 hl0 hl1 hl2 hm0
  have K3 := hidden k3
  clear k3
  go_enter Tryd.func24, Tryd.ntmps24
  go_wp2_with (go_at_call 40; refine k1.mono ?_; rintro e w1 ⟨rfl, h1, hc1⟩; clear k1)
  have P1 := hidden (P0.out.moved h1 hc1 HL0.out)
  clear h1 hc1 P0
  have k2' := k2 _ P1.out
  clear k2
  go_wp2_with (go_at_call 41; refine k2'.mono ?_; rintro e w2 ⟨rfl, h2, hc2⟩; clear k2')
  have P2 := hidden (P1.out.moved h2 hc2 HL1.out)
  clear h2 hc2 P1
  have k3 := K3.out _ P2.out
  clear K3
  go_wp2_with (go_at_call 40; refine k3.mono ?_; rintro e w3 ⟨rfl, h3, hc3⟩; clear k3)
  have P3 := hidden (P2.out.moved h3 hc3 HL2.out)
  clear h3 hc3 P2
  have k4 := KP.out _ a2 z1 P3.out.re
  obtain ⟨o, ho⟩ : ∃ o, pk (bts s) a2 z1 = o := ⟨_, rfl⟩
  rw [ho] at k4 hm
  clear ho
  go_wp2_with (go_at_call 42; refine k4.mono ?_; rintro e w4 ⟨rfl, n4, rfl⟩; clear k4)
  have P4 := hidden (P3.out.lat (below_drewN (Below.refl _ _) n4))
  clear P3
  go_loopw [6, 7, 10] (fun s6 s7 s10 wx => ∃ (a : Nat) (z : Int) (al : Option Addr) (cl n : Nat) (l : List Lb) (pl : Int) (m : Bool), s6 = .slice al n cl ∧ s7 = .int .i64 pl ∧ s10 = .bool m ∧ n ≤ 8 ∧ Hid (l.length = n) ∧ Hid (PI w wx s a z al cl l) ∧ Hid (LI (bts s) a z m l pl)) (fun _ _ _ wx => rdM s.size w.heap.size wx)
  case atStart => exact ⟨a2, z1, none, 0, 0, [], -1, m0, rfl, rfl, rfl, by omega, hidden rfl, P4, HST⟩
  case round =>
    rename World => wr
    obtain ⟨a, z, al, cl, n, l, pl, m, rfl, rfl, rfl, hn8, hn, hPI, hLI⟩ := hrel
    clear P4 HST hm
    have kF : Calls Tryd.prog 43 #[.pointer (some ⟨w.heap.size, 0, none⟩)] wr fun e w' => e = .returned (.bool (decide (z < 0))) ∧ w' = wr := rfineP _ s a z wr hPI.out.re
    rcases hLI.out with ⟨kk, hz, hrun⟩ | ⟨hz, ⟨hm, h32, J, hJ, hrun⟩ | ⟨hm, hen⟩⟩
    · -- a fault stands
      have hz9 : decide (z < 0) = false := decide_eq_false (by omega)
      rw [hz9] at kF
      clear hz9 hLI
      cases m with
      | false =>
        clear kF
        have c1 : wr.cell? ⟨w.heap.size, 1, none⟩ = some (.int .i64 (a : Int)) := hPI.out.re.cell 1
        have hnE : Hid (n = 0 ↔ l = []) := hidden (by rw [← hn.out]; exact List.length_eq_zero_iff)
        go_upto_region 27 with (fail)
        go_cut [89] from 83 to 93 (fun s9 wx => s9 = .bool (decide (n = 0 ∧ pl < 0)) ∧ wx = wr)
        case first =>
          by_cases h0 : n = 0
          · subst h0
            by_cases hp : pl < 0
            · go_wp2
              go_meet
              case rel => exact ⟨by simp [hp], rfl⟩
            · have hp' : decide (pl < 0) = false := decide_eq_false hp
              go_wp2
              go_meet
              case rel => exact ⟨by simp [hp], rfl⟩
          · have h0z : ((n : Int) == 0) = false := by simp; omega
            go_wp2
            go_meet
            case rel => exact ⟨by simp [h0], rfl⟩
        case rest =>
          obtain ⟨rfl, hwc⟩ := hcut
          obtain rfl := hwc.symm
          clear hwc
          obtain ⟨pe, hpe⟩ : ∃ pe, plE l pl a = pe := ⟨_, rfl⟩
          have HPE := hidden hpe
          clear hpe
          go_upto_if 89 with fail
          go_cut [7] from 83 to 93 (fun s7 wx => s7 = .int .i64 pe ∧ wx = wr)
          case first =>
            by_cases h0 : n = 0 ∧ pl < 0
            · have e : plE l pl a = (a : Int) := by rw [plE, if_pos ⟨hnE.out.1 h0.1, h0.2⟩]
              rw [decide_eq_true h0]
              clear h0
              go_wp2
              go_meet
              case rel => exact ⟨by rw [← HPE.out, e], rfl⟩
            · have e : plE l pl a = pl := by rw [plE, if_neg (fun h => h0 ⟨hnE.out.2 h.1, h.2⟩)]
              rw [decide_eq_false h0]
              clear h0
              go_wp2
              go_meet
              case rel => exact ⟨by rw [← HPE.out, e], rfl⟩
          case rest =>
            obtain ⟨rfl, hwc⟩ := hcut
            obtain rfl := hwc.symm
            clear hwc c1 hnE
            have HRUN := hidden (end_fault hrun)
            have hz0 : (0 : Int) ≤ z := by omega
            have hz1 : ¬ z < 0 := by omega
            have e1 : tkA (bts s) a z 125 = a := by rw [tkA, if_neg (by rw [pk, if_neg hz1]; simp)]
            have e2 : tkZ (bts s) a z 125 = z := by rw [tkZ, if_neg (by rw [pk, if_neg hz1]; simp), failZ, if_neg hz1]
            have e3 : skZ (bts s) a z = a := by rw [skZ, if_neg hz1]
            have q1 := KT.out wr a z 125 hPI.out.re hPI.out.le
            rw [e1, e2] at q1
            have q1' : Calls Tryd.prog 41 #[.pointer (some ⟨w.heap.size, 0, none⟩), .int .u8 125] wr fun e w' => e = .returned (.tuple #[]) ∧ Re w' w.heap.size s a z ∧ Chg (fun i => i = w.heap.size) wr w' := q1
            have HZ := hidden hz
            clear q1 e1 e2 hz hrun
            go_wp2_with (go_at_call 41; refine q1'.mono ?_; rintro e w5 ⟨rfl, h5, hc5⟩; clear q1')
            have P5 := hidden (hPI.out.moved h5 hc5 hPI.out.ble)
            clear h5 hc5
            have q2 := KB.out w5 a z P5.out.re P5.out.le
            rw [e3] at q2
            clear e3
            go_wp2_with (go_at_call 40; refine q2.mono ?_; rintro e w6 ⟨rfl, h6, hc6⟩; clear q2)
            have P6 := hidden (P5.out.moved h6 hc6 P5.out.ble)
            clear h6 hc6
            have q3 : Calls Tryd.prog 43 #[.pointer (some ⟨w.heap.size, 0, none⟩)] w6 fun e w' => e = .returned (.bool (decide (z < 0))) ∧ w' = w6 := rfineP _ s a z w6 P6.out.re
            rw [decide_eq_false (show ¬ z < 0 by omega)] at q3
            have d2 : w6.cell? ⟨w.heap.size, 2, none⟩ = some (.int .i64 z) := P6.out.re.cell 2
            have HP6 := P6
            go_wp2_with (go_at_call 43; refine q3.mono ?_; rintro e w7 ⟨rfl, hw7⟩; obtain rfl := hw7.symm; clear q3 hw7)
            go_quiet (fail)
            go_wp2
            go_ret3
            exact ⟨_, _, _, rfl, Or.inl ⟨kk, HRUN.out, rfl, HZ.out, rfl⟩, below_drewN HP6.out.bel _⟩
      | true =>
        have c1 : wr.cell? ⟨w.heap.size, 1, none⟩ = some (.int .i64 (a : Int)) := hPI.out.re.cell 1
        have hnE : Hid (n = 0 ↔ l = []) := hidden (by rw [← hn.out]; exact List.length_eq_zero_iff)
        go_upto_region 27 with (go_at_call 43; refine kF.mono ?_; rintro e w9 ⟨rfl, hw9⟩; obtain rfl := hw9.symm; clear kF hw9)
        go_cut [89] from 83 to 93 (fun s9 wx => s9 = .bool (decide (n = 0 ∧ pl < 0)) ∧ wx = wr)
        case first =>
          by_cases h0 : n = 0
          · subst h0
            by_cases hp : pl < 0
            · go_wp2
              go_meet
              case rel => exact ⟨by simp [hp], rfl⟩
            · have hp' : decide (pl < 0) = false := decide_eq_false hp
              go_wp2
              go_meet
              case rel => exact ⟨by simp [hp], rfl⟩
          · have h0z : ((n : Int) == 0) = false := by simp; omega
            go_wp2
            go_meet
            case rel => exact ⟨by simp [h0], rfl⟩
        case rest =>
          obtain ⟨rfl, hwc⟩ := hcut
          obtain rfl := hwc.symm
          clear hwc
          obtain ⟨pe, hpe⟩ : ∃ pe, plE l pl a = pe := ⟨_, rfl⟩
          have HPE := hidden hpe
          clear hpe
          go_upto_if 89 with fail
          go_cut [7] from 83 to 93 (fun s7 wx => s7 = .int .i64 pe ∧ wx = wr)
          case first =>
            by_cases h0 : n = 0 ∧ pl < 0
            · have e : plE l pl a = (a : Int) := by rw [plE, if_pos ⟨hnE.out.1 h0.1, h0.2⟩]
              rw [decide_eq_true h0]
              clear h0
              go_wp2
              go_meet
              case rel => exact ⟨by rw [← HPE.out, e], rfl⟩
            · have e : plE l pl a = pl := by rw [plE, if_neg (fun h => h0 ⟨hnE.out.2 h.1, h.2⟩)]
              rw [decide_eq_false h0]
              clear h0
              go_wp2
              go_meet
              case rel => exact ⟨by rw [← HPE.out, e], rfl⟩
          case rest =>
            obtain ⟨rfl, hwc⟩ := hcut
            obtain rfl := hwc.symm
            clear hwc c1 hnE
            have HRUN := hidden (end_fault hrun)
            have hz0 : (0 : Int) ≤ z := by omega
            have hz1 : ¬ z < 0 := by omega
            have e1 : tkA (bts s) a z 125 = a := by rw [tkA, if_neg (by rw [pk, if_neg hz1]; simp)]
            have e2 : tkZ (bts s) a z 125 = z := by rw [tkZ, if_neg (by rw [pk, if_neg hz1]; simp), failZ, if_neg hz1]
            have e3 : skZ (bts s) a z = a := by rw [skZ, if_neg hz1]
            have q1 := KT.out wr a z 125 hPI.out.re hPI.out.le
            rw [e1, e2] at q1
            have q1' : Calls Tryd.prog 41 #[.pointer (some ⟨w.heap.size, 0, none⟩), .int .u8 125] wr fun e w' => e = .returned (.tuple #[]) ∧ Re w' w.heap.size s a z ∧ Chg (fun i => i = w.heap.size) wr w' := q1
            have HZ := hidden hz
            clear q1 e1 e2 hz hrun
            go_wp2_with (go_at_call 41; refine q1'.mono ?_; rintro e w5 ⟨rfl, h5, hc5⟩; clear q1')
            have P5 := hidden (hPI.out.moved h5 hc5 hPI.out.ble)
            clear h5 hc5
            have q2 := KB.out w5 a z P5.out.re P5.out.le
            rw [e3] at q2
            clear e3
            go_wp2_with (go_at_call 40; refine q2.mono ?_; rintro e w6 ⟨rfl, h6, hc6⟩; clear q2)
            have P6 := hidden (P5.out.moved h6 hc6 P5.out.ble)
            clear h6 hc6
            have q3 : Calls Tryd.prog 43 #[.pointer (some ⟨w.heap.size, 0, none⟩)] w6 fun e w' => e = .returned (.bool (decide (z < 0))) ∧ w' = w6 := rfineP _ s a z w6 P6.out.re
            rw [decide_eq_false (show ¬ z < 0 by omega)] at q3
            have d2 : w6.cell? ⟨w.heap.size, 2, none⟩ = some (.int .i64 z) := P6.out.re.cell 2
            have HP6 := P6
            go_wp2_with (go_at_call 43; refine q3.mono ?_; rintro e w7 ⟨rfl, hw7⟩; obtain rfl := hw7.symm; clear q3 hw7)
            go_quiet (fail)
            go_wp2
            go_ret3
            exact ⟨_, _, _, rfl, Or.inl ⟨kk, HRUN.out, rfl, HZ.out, rfl⟩, below_drewN HP6.out.bel _⟩
    · -- a label
      subst hz hm
      rw [decide_eq_true (show (-1 : Int) < 0 by omega)] at kF
      clear hLI
      have HJ := hidden hJ
      have HRUN := hidden hrun
      have H32 := hidden h32
      clear hJ hrun h32
      have c1 : wr.cell? ⟨w.heap.size, 1, none⟩ = some (.int .i64 (a : Int)) := hPI.out.re.cell 1
      have kW := rwordP w.heap.size s a (-1) wr hPI.out.re hPI.out.le hs2
      obtain ⟨n1, hn1⟩ : ∃ n1, wnZ (bts s) a (-1) true = n1 := ⟨_, rfl⟩
      obtain ⟨z1, hz1⟩ : ∃ z1, wdZ n1 a (-1) = z1 := ⟨_, rfl⟩
      obtain ⟨b2, hb2⟩ : ∃ b2, skZ (bts s) (a + n1) z1 = b2 := ⟨_, rfl⟩
      obtain ⟨b3, hb3⟩ : ∃ b3, tkA (bts s) b2 z1 61 = b3 := ⟨_, rfl⟩
      obtain ⟨z3, hz3⟩ : ∃ z3, tkZ (bts s) b2 z1 61 = z3 := ⟨_, rfl⟩
      obtain ⟨b4, hb4⟩ : ∃ b4, skZ (bts s) b3 z3 = b4 := ⟨_, rfl⟩
      rw [hn1, hz1] at kW
      have hl1 : a + n1 ≤ (bts s).length := by rw [← hn1]; exact wn_le hPI.out.ble _ _
      have hl2 : b2 ≤ (bts s).length := by rw [← hb2]; exact skZ_le hl1 _
      have hl3 : b3 ≤ (bts s).length := by rw [← hb3]; exact tkA_le hl2 _ _
      have hl4 : b4 ≤ (bts s).length := by rw [← hb4]; exact skZ_le hl3 _
      have HIT : Hid (∀ v b5 z5, Qe (bts s) b4 z3 v b5 z5 → It (bts s) a (((bts s).drop a).take n1) v (skZ (bts s) b5 z5) z5) := hidden (fun v b5 z5 hq => iter_pure hPI.out.ble H32.out hn1 hz1 hb2 hb3 hz3 hb4 hq)
      have H432 : Hid (z3 < 0 → (bts s)[b4]? ≠ some 32) := hidden (fun h => by rw [← hb4, skZ, if_pos h]; exact sk_next _ _)
      have q2 : Hid (∀ wx, PI w wx s (a + n1) z1 al cl l → Calls Tryd.prog 40 #[.pointer (some ⟨w.heap.size, 0, none⟩)] wx fun e w' => e = .returned (.tuple #[]) ∧ Re w' w.heap.size s b2 z1 ∧ Chg (fun i => i = w.heap.size) wx w') := hidden (fun wx h => by
        have := KB.out wx _ z1 h.re h.le
        rw [hb2] at this
        exact this)
      have q3 : Hid (∀ wx, PI w wx s b2 z1 al cl l → Calls Tryd.prog 41 #[.pointer (some ⟨w.heap.size, 0, none⟩), .int .u8 61] wx fun e w' => e = .returned (.tuple #[]) ∧ Re w' w.heap.size s b3 z3 ∧ Chg (fun i => i = w.heap.size) wx w') := hidden (fun wx h => by
        have := KT.out wx b2 z1 61 h.re h.le
        rw [hb3, hz3] at this
        exact this)
      have q4 : Hid (∀ wx, PI w wx s b3 z3 al cl l → Calls Tryd.prog 40 #[.pointer (some ⟨w.heap.size, 0, none⟩)] wx fun e w' => e = .returned (.tuple #[]) ∧ Re w' w.heap.size s b4 z3 ∧ Chg (fun i => i = w.heap.size) wx w') := hidden (fun wx h => by
        have := KB.out wx b3 z3 h.re h.le
        rw [hb4] at this
        exact this)
      obtain ⟨nm, hnm⟩ : ∃ nm, oft (((bts s).drop a).take n1) = nm := ⟨_, rfl⟩
      have HNM : Hid (oft (((bts s).drop a).take n1) = nm ∧ nm.size ≤ 4611686018427387904) := hidden ⟨hnm, by rw [← hnm]; exact Nat.le_trans (oft_sz _ s.size (by rw [List.length_take, List.length_drop, ← size_bts]; omega)) hs2⟩
      rw [hnm] at kW
      have HL1 := hidden hl1
      have HL2 := hidden hl2
      have HL3 := hidden hl3
      have HL4 := hidden hl4
      clear hn1 hz1 hb2 hb3 hz3 hb4 hnm hl1 hl2 hl3 hl4
      go_wp2_with (first
        | (go_at_call 43; refine kF.mono ?_; rintro e w9 ⟨rfl, hw9⟩; obtain rfl := hw9.symm; clear kF hw9)
        | (go_at_call 44; refine kW.mono ?_; rintro e w5 ⟨rfl, h5, hc5⟩; clear kW))
      have P5 := hidden (hPI.out.moved h5 hc5 HL1.out)
      have hal6 : Below w5.heap.size w5 (w5.alloc (.cells #[.string nm, .string ⟨#[]⟩] 35)) := (Below.refl _ _).alloc (Nat.le_refl _) _
      have P6 := hidden (P5.out.lat hal6)
      have HG : Hid (Blk (w5.alloc (.cells #[.string nm, .string ⟨#[]⟩] 35)) w5.heap.size 35 [.string nm, .string ⟨#[]⟩]) := hidden (Blk.new w5 35 _)
      have HGN : Hid (w5.heap.size ≠ w.heap.size) := hidden (by have := P5.out.re.lt; omega)
      clear h5 hc5 hal6
      have k6 := q2.out _ P6.out
      clear q2
      go_wp2_with (go_at_call 40; refine k6.mono ?_; rintro e w6 ⟨rfl, h6, hc6⟩; clear k6)
      have P7 := hidden (P6.out.moved h6 hc6 HL2.out)
      replace HG := hidden (hc6.blk HG.out HGN.out)
      clear h6 hc6 P6
      have k7 := q3.out _ P7.out
      clear q3
      go_wp2_with (go_at_call 41; refine k7.mono ?_; rintro e w7 ⟨rfl, h7, hc7⟩; clear k7)
      have P8 := hidden (P7.out.moved h7 hc7 HL3.out)
      replace HG := hidden (hc7.blk HG.out HGN.out)
      clear h7 hc7 P7
      have k8 := q4.out _ P8.out
      clear q4
      go_wp2_with (go_at_call 40; refine k8.mono ?_; rintro e w8 ⟨rfl, h8, hc8⟩; clear k8)
      have P9 := hidden (P8.out.moved h8 hc8 HL4.out)
      replace HG := hidden (hc8.blk HG.out HGN.out)
      clear h8 hc8 P8
      have k9 := rquotedP w.heap.size s b4 z3 w8 P9.out.re P9.out.le hs2 H432.out
      clear H432
      go_wp2_with (go_at_call 45; refine k9.mono ?_; rintro e w9 ⟨v, b5, z5, rfl, hQe, h9, hc9⟩; have HG9 := hc9.blk HG.out HGN.out; have g0 : w9.cell? ⟨w5.heap.size, 0, none⟩ = some (.string nm) := HG9.cell 0; have g1 : w9.cell? ⟨w5.heap.size, 1, none⟩ = some (.string ⟨#[]⟩) := HG9.cell 1; have f1 := HG9.frozen 1; clear k9)
      have P10 : Hid (PI w (w9.setCell ⟨w5.heap.size, 1, none⟩ (.string v)) s b5 z5 al cl l) := hidden (by
        have h1 := P9.out.moved h9 hc9 hQe.2.1
        have hcs := Chg.set ⟨w5.heap.size, 1, none⟩ (.string v) w9
        refine ⟨hcs.blk h1.re (fun e => HGN.out e.symm), hcs.owns h1.row (fun g hg e => ?_), h1.sm, h1.bel.trans (hcs.below h1.bel.size (fun i e => by have e' : i = w5.heap.size := e; have := P5.out.bel.size; omega)), h1.len8, h1.le⟩
        have e' : g = w5.heap.size := e
        have := owns_lt P5.out.row g hg
        omega)
      have HG10 : Hid (Blk (w9.setCell ⟨w5.heap.size, 1, none⟩ (.string v)) w5.heap.size 35 [.string nm, .string v]) := hidden (HG9.set 1 (.string v))
      have hIt := HIT.out v b5 z5 hQe
      have HVS : Hid (v.size ≤ 65) := hidden hQe.2.2.1
      have HB5 : Hid (b5 ≤ (bts s).length) := hidden hQe.2.1
      clear hQe h9 hc9 HG9 g0 g1 f1 HIT P9 HG P5
      obtain ⟨wy, hwy⟩ : ∃ wy, w9.setCell ⟨w5.heap.size, 1, none⟩ (.string v) = wy := ⟨_, rfl⟩
      have k10 := KB.out _ b5 z5 P10.out.re P10.out.le
      obtain ⟨b6, hb6⟩ : ∃ b6, skZ (bts s) b5 z5 = b6 := ⟨_, rfl⟩
      have hl6 : Hid (b6 ≤ (bts s).length) := hidden (by rw [← hb6]; exact skZ_le HB5.out _)
      rw [hb6] at k10 hIt
      have HIt := hidden hIt
      clear hb6 hIt hwy
      go_wp2_with (go_at_call 40; refine k10.mono ?_; rintro e w10 ⟨rfl, h10, hc10⟩; have P11 := hidden (P10.out.moved h10 hc10 hl6.out); have HG11 := hidden (hc10.blk HG10.out HGN.out); have g0 : w10.cell? ⟨w5.heap.size, 0, none⟩ = some (.string nm) := HG11.out.cell 0; have g1 : w10.cell? ⟨w5.heap.size, 1, none⟩ = some (.string v) := HG11.out.cell 1; clear k10 h10 hc10 P10 HG10)
      have k11 := rwrongP al cl l ⟨nm, v⟩ w10 (ls_of_owns P11.out.row P11.out.sm.szs) P11.out.len8 ⟨HNM.out.2, by have := HVS.out; show v.size ≤ _; omega⟩
      rw [hn.out] at k11
      obtain ⟨bb, hbb⟩ : ∃ bb, wrongL l ⟨nm, v⟩ = bb := ⟨_, rfl⟩
      rw [hbb] at k11
      have HBB := hidden hbb
      clear hbb
      go_upto_region 18 with (go_at_call 46; refine k11.mono ?_; rintro e w11 ⟨rfl, hb11⟩; have P12 := hidden (P11.out.lat hb11); have HG12 := hidden (HG11.out.later hb11); clear k11 g0 g1 P11 HG11 hb11)
      go_cut [62] from 32 to 82 (fun s9 wx => s9 = .bool (bb && decide (pl < 0)) ∧ wx = w11)
      case first =>
        cases bb with
        | false =>
          go_wp2
          go_meet
          case rel => exact ⟨rfl, rfl⟩
        | true =>
          by_cases hp : pl < 0
          · go_wp2
            go_meet
            case rel => exact ⟨by simp [hp], rfl⟩
          · have hp' : decide (pl < 0) = false := decide_eq_false hp
            go_wp2
            go_meet
            case rel => exact ⟨by simp [hp], rfl⟩
      case rest =>
        obtain ⟨rfl, hwc⟩ := hcut
        obtain rfl := hwc.symm
        clear hwc
        obtain ⟨pn, hpn⟩ : ∃ pn, plN bb pl a = pn := ⟨_, rfl⟩
        have HPN := hidden hpn
        clear hpn
        go_upto_if 62 with fail
        go_cut [7] from 32 to 82 (fun s7 wx => s7 = .int .i64 pn ∧ wx = w11)
        case first =>
          by_cases h0 : bb = true ∧ pl < 0
          · have e : plN bb pl a = (a : Int) := by rw [plN, if_pos h0]
            rw [show (bb && decide (pl < 0)) = true by rw [h0.1, decide_eq_true h0.2]; rfl]
            clear h0
            go_wp2
            go_meet
            case rel => exact ⟨by rw [← HPN.out, e], rfl⟩
          · have e : plN bb pl a = pl := by rw [plN, if_neg h0]
            have e2 : (bb && decide (pl < 0)) = false := by
              cases bb
              · rfl
              · simp only [Bool.true_and, decide_eq_false_iff_not]; exact fun h => h0 ⟨rfl, h⟩
            rw [e2]
            clear h0 e2
            go_wp2
            go_meet
            case rel => exact ⟨by rw [← HPN.out, e], rfl⟩
        case rest =>
          obtain ⟨rfl, hwc⟩ := hcut
          obtain rfl := hwc.symm
          clear hwc
          obtain ⟨i0, hi0, hz0, hz1', hz2⟩ := info_parts info35
          have HI := hidden hi0
          clear hi0
          have g0 : w11.cell? ⟨w5.heap.size, 0, none⟩ = some (.string nm) := HG12.out.cell 0
          have g1 : w11.cell? ⟨w5.heap.size, 1, none⟩ = some (.string v) := HG12.out.cell 1
          have k12 : Hid (∀ wx al' cl', PI w wx s b6 z5 al' cl' (lN l ⟨nm, v⟩) → Calls Tryd.prog 42 #[.pointer (some ⟨w.heap.size, 0, none⟩)] wx fun e w' => e = .returned (.tuple #[.int .u8 (pkC (pk (bts s) b6 z5) : Int), .bool (pk (bts s) b6 z5).isSome]) ∧ ∃ n, w' = wx.drewN n) := hidden (fun wx al' cl' h => KP.out wx b6 z5 h.re)
          have HNO : Hid (pk (bts s) b6 z5 ≠ some 44 → LI (bts s) b6 z5 false (lN l ⟨nm, v⟩) pn ∧ rdM s.size w.heap.size wr > 2 * (s.size - b6) + (if z5 < 0 then 1 else 0)) := hidden (fun h => by
            refine ⟨?_, ?_⟩
            · have := next_no HJ.out hPI.out.len8 HRUN.out HIt.out h
              rw [HNM.out.1, HBB.out, HPN.out] at this
              exact this
            · rw [Re.m hPI.out.re, if_pos (by omega)]
              obtain ⟨q1, q2, q3⟩ := HIt.out
              rw [← size_bts] at q2
              rcases q3 with ⟨kk, e, _⟩ | ⟨e, hlt, _⟩
              · rw [if_neg (by omega)]; omega
              · rw [if_pos (by omega)]; omega)
          have HYE : Hid (pk (bts s) b6 z5 = some 44 → z5 = -1 ∧ LI (bts s) (skZ (bts s) (b6 + 1) (-1)) (-1) true (lN l ⟨nm, v⟩) pn ∧ tkA (bts s) b6 z5 44 = b6 + 1 ∧ tkZ (bts s) b6 z5 44 = z5 ∧ rdM s.size w.heap.size wr > 2 * (s.size - skZ (bts s) (b6 + 1) (-1)) + 1 ∧ b6 + 1 ≤ (bts s).length) := hidden (fun h => by
            have := next_yes HJ.out hPI.out.len8 HRUN.out HIt.out h
            rw [HNM.out.1, HBB.out, HPN.out] at this
            refine ⟨this.1, this.2.2, by rw [tkA, if_pos h], by rw [tkZ, if_pos h], ?_, (pk_lt h).1⟩
            rw [Re.m hPI.out.re, if_pos (by omega)]
            have h1 := this.2.1
            have h2 := skZ_ge (bts s) (b6 + 1) (-1)
            have h3 := (pk_lt h).1
            rw [← size_bts] at h3
            omega)
          have HSX : Hid ((⟨nm, v⟩ : Lb).n.size ≤ 4611686018427387904 ∧ (⟨nm, v⟩ : Lb).v.size ≤ 4611686018427387904) := hidden ⟨HNM.out.2, by have := HVS.out; show v.size ≤ _; omega⟩
          clear HIt HRUN HJ
          by_cases hn7 : n < 8
          · have hn7z : (n : Int) < 8 := by omega
            have hrowL : Hid (w11.ownsRow (w.heap.size + 1) 35 2 (.slice al n cl) n (cL l)) := hidden (by have := P12.out.row; rw [hn.out] at this; exact this)
            have cellN : Hid (∀ jj u, [Value.string nm, Value.string v][jj]? = some u → (w11.alloc (.cells #[.string nm, .string v] 35)).cell? ((⟨w11.heap.size, 0, none⟩ : Addr).add jj) = some u) := hidden (fun jj u hu => by
              rw [Addr.add_lit, Nat.zero_add]
              have := (Blk.new w11 35 [.string nm, .string v]).cell jj
              rw [hu] at this
              exact this)
            have HSW : Hid (w.heap.size + 1 ≤ w11.heap.size) := hidden (by have := P12.out.re.lt; omega)
            have hPU : Hid (∀ w12 g c' ob, w12.ownsRow (w.heap.size + 1) 35 2 (.slice (some ⟨g, 0, none⟩) (n + 1) c') (n + 1) (cL l ++ [.string nm, .string v]) → Pushed (w11.alloc ob) w12 (.slice al n cl) g → PI w w12 s b6 z5 (some ⟨g, 0, none⟩) c' (lN l ⟨nm, v⟩)) := hidden (fun w12 g c' ob h1 h2 => by
              rw [← hn.out] at h1 h2
              exact P12.out.push (by rw [hn.out]; exact hn7) HSX.out h1 h2)
            have hlen : Hid ((lN l ⟨nm, v⟩).length = n + 1) := hidden (by rw [lN, if_pos (by rw [hn.out]; exact hn7), List.length_append, hn.out]; rfl)
            go_wp2_with (refine wpList_push2 _ rfl (.tmp 67) (.tmp 69) 22 rfl 35 i0 (.agg #[.string ⟨#[]⟩, .string ⟨#[]⟩]) 32 Tryd.underlying22 HI.out hz0 hz1' hz2 rfl (w.heap.size + 1) (.slice al n cl) n (cL l) rfl (hrowL.out.alloc _) ⟨w11.heap.size, 0, none⟩ [.string nm, .string v] rfl rfl cellN.out (by intro u hu; simp at hu; rcases hu with rfl | rfl <;> rfl) (by unfold maxLen; omega) (by omega) (by have := HSW.out; simp; omega) ?_; intro g12 c12 w12 ho12 hp12)
            have P13 := hidden (hPU.out _ _ _ _ ho12 hp12)
            clear hPU ho12 hp12 hrowL cellN g0 g1
            have k13 := k12.out _ _ _ P13.out
            obtain ⟨oo, hoo⟩ : ∃ oo, pk (bts s) b6 z5 = oo := ⟨_, rfl⟩
            have e44 := pkeq44 oo
            rw [hoo] at k13 HNO HYE
            by_cases h44 : oo = some 44
            · rw [decide_eq_true h44] at e44
              obtain ⟨y1, y2, y3, y4, y5, y6⟩ := HYE.out h44
              subst y1
              have HY2 := hidden y2
              have HY5 := hidden y5
              have HY6 := hidden y6
              have k14 : Hid (∀ wx, PI w wx s b6 (-1) (some ⟨g12, 0, none⟩) (c12) (lN l ⟨nm, v⟩) → Calls Tryd.prog 41 #[.pointer (some ⟨w.heap.size, 0, none⟩), .int .u8 44] wx fun e w' => e = .returned (.tuple #[]) ∧ Re w' w.heap.size s (b6 + 1) (-1) ∧ Chg (fun i => i = w.heap.size) wx w') := hidden (fun wx h => by
                have := KT.out wx b6 (-1) 44 h.re h.le
                rw [y3, y4] at this
                exact this)
              clear y2 y3 y4 y5 y6 HNO HYE hoo h44
              go_wp2_with (first
                | (go_at_call 42; refine k13.mono ?_; rintro e w14 ⟨rfl, n14, rfl⟩; have P14 := hidden (P13.out.lat (below_drewN (Below.refl _ _) n14)); have k15 := k14.out _ P14.out; clear k13 k14 P13)
                | (go_at_call 41; refine k15.mono ?_; rintro e w15 ⟨rfl, h15, hc15⟩; have P15 := hidden (P14.out.moved h15 hc15 HY6.out); have k16 := KB.out _ (b6 + 1) (-1) P15.out.re P15.out.le; clear k15 h15 hc15 P14)
                | (go_at_call 40; refine k16.mono ?_; rintro e w16 ⟨rfl, h16, hc16⟩; have P16 := hidden (P15.out.moved h16 hc16 (skZ_le HY6.out _)); clear k16 h16 hc16 P15))
              refine ⟨⟨_, -1, some ⟨g12, 0, none⟩, c12, n + 1, lN l ⟨nm, v⟩, pn, true, by first | rfl | simp, by first | rfl | simp, by first | rfl | simp, by omega, hlen, P16, HY2⟩, ?_⟩
              rw [Re.m P16.out.re]
              exact HY5.out
            · rw [decide_eq_false h44] at e44
              obtain ⟨y1, y2⟩ := HNO.out h44
              have HY1 := hidden y1
              have HY2 := hidden y2
              clear y1 y2 HNO HYE hoo h44
              go_wp2_with (go_at_call 42; refine k13.mono ?_; rintro e w14 ⟨rfl, n14, rfl⟩; have P14 := hidden (P13.out.lat (below_drewN (Below.refl _ _) n14)); clear k13 P13)
              refine ⟨⟨b6, z5, some ⟨g12, 0, none⟩, c12, n + 1, lN l ⟨nm, v⟩, pn, false, by first | rfl | simp, by first | rfl | simp, by first | rfl | simp, by omega, hlen, P14, HY1⟩, ?_⟩
              rw [Re.m P14.out.re]
              exact HY2.out
          · have hn7z : ¬ (n : Int) < 8 := by omega
            have e8 : Hid (lN l ⟨nm, v⟩ = l) := hidden (by rw [lN, if_neg (by rw [hn.out]; exact hn7)])
            have P13 : Hid (PI w w11 s b6 z5 al cl (lN l ⟨nm, v⟩)) := hidden (by rw [e8.out]; exact P12.out)
            have hlen : Hid ((lN l ⟨nm, v⟩).length = n) := hidden (by rw [e8.out]; exact hn.out)
            clear g0 g1
            have k13 := k12.out _ _ _ P13.out
            obtain ⟨oo, hoo⟩ : ∃ oo, pk (bts s) b6 z5 = oo := ⟨_, rfl⟩
            have e44 := pkeq44 oo
            rw [hoo] at k13 HNO HYE
            by_cases h44 : oo = some 44
            · rw [decide_eq_true h44] at e44
              obtain ⟨y1, y2, y3, y4, y5, y6⟩ := HYE.out h44
              subst y1
              have HY2 := hidden y2
              have HY5 := hidden y5
              have HY6 := hidden y6
              have k14 : Hid (∀ wx, PI w wx s b6 (-1) (al) (cl) (lN l ⟨nm, v⟩) → Calls Tryd.prog 41 #[.pointer (some ⟨w.heap.size, 0, none⟩), .int .u8 44] wx fun e w' => e = .returned (.tuple #[]) ∧ Re w' w.heap.size s (b6 + 1) (-1) ∧ Chg (fun i => i = w.heap.size) wx w') := hidden (fun wx h => by
                have := KT.out wx b6 (-1) 44 h.re h.le
                rw [y3, y4] at this
                exact this)
              clear y2 y3 y4 y5 y6 HNO HYE hoo h44
              go_wp2_with (first
                | (go_at_call 42; refine k13.mono ?_; rintro e w14 ⟨rfl, n14, rfl⟩; have P14 := hidden (P13.out.lat (below_drewN (Below.refl _ _) n14)); have k15 := k14.out _ P14.out; clear k13 k14 P13)
                | (go_at_call 41; refine k15.mono ?_; rintro e w15 ⟨rfl, h15, hc15⟩; have P15 := hidden (P14.out.moved h15 hc15 HY6.out); have k16 := KB.out _ (b6 + 1) (-1) P15.out.re P15.out.le; clear k15 h15 hc15 P14)
                | (go_at_call 40; refine k16.mono ?_; rintro e w16 ⟨rfl, h16, hc16⟩; have P16 := hidden (P15.out.moved h16 hc16 (skZ_le HY6.out _)); clear k16 h16 hc16 P15))
              refine ⟨⟨_, -1, al, cl, n, lN l ⟨nm, v⟩, pn, true, by first | rfl | simp, by first | rfl | simp, by first | rfl | simp, by omega, hlen, P16, HY2⟩, ?_⟩
              rw [Re.m P16.out.re]
              exact HY5.out
            · rw [decide_eq_false h44] at e44
              obtain ⟨y1, y2⟩ := HNO.out h44
              have HY1 := hidden y1
              have HY2 := hidden y2
              clear y1 y2 HNO HYE hoo h44
              go_wp2_with (go_at_call 42; refine k13.mono ?_; rintro e w14 ⟨rfl, n14, rfl⟩; have P14 := hidden (P13.out.lat (below_drewN (Below.refl _ _) n14)); clear k13 P13)
              refine ⟨⟨b6, z5, al, cl, n, lN l ⟨nm, v⟩, pn, false, by first | rfl | simp, by first | rfl | simp, by first | rfl | simp, by omega, hlen, P14, HY1⟩, ?_⟩
              rw [Re.m P14.out.re]
              exact HY2.out
    · -- no more labels
      subst hz hm
      clear hLI kF
      have HEN := hidden hen
      clear hen
      have c1 : wr.cell? ⟨w.heap.size, 1, none⟩ = some (.int .i64 (a : Int)) := hPI.out.re.cell 1
      have hnE : Hid (n = 0 ↔ l = []) := hidden (by rw [← hn.out]; exact List.length_eq_zero_iff)
      go_upto_region 27 with (fail)
      go_cut [89] from 83 to 93 (fun s9 wx => s9 = .bool (decide (n = 0 ∧ pl < 0)) ∧ wx = wr)
      case first =>
        by_cases h0 : n = 0
        · subst h0
          by_cases hp : pl < 0
          · go_wp2
            go_meet
            case rel => exact ⟨by simp [hp], rfl⟩
          · have hp' : decide (pl < 0) = false := decide_eq_false hp
            go_wp2
            go_meet
            case rel => exact ⟨by simp [hp], rfl⟩
        · have h0z : ((n : Int) == 0) = false := by simp; omega
          go_wp2
          go_meet
          case rel => exact ⟨by simp [h0], rfl⟩
      case rest =>
        obtain ⟨rfl, hwc⟩ := hcut
        obtain rfl := hwc.symm
        clear hwc
        obtain ⟨pe, hpe⟩ : ∃ pe, plE l pl a = pe := ⟨_, rfl⟩
        have HPE := hidden hpe
        clear hpe
        go_upto_if 89 with fail
        go_cut [7] from 83 to 93 (fun s7 wx => s7 = .int .i64 pe ∧ wx = wr)
        case first =>
          by_cases h0 : n = 0 ∧ pl < 0
          · have e : plE l pl a = (a : Int) := by rw [plE, if_pos ⟨hnE.out.1 h0.1, h0.2⟩]
            rw [decide_eq_true h0]
            clear h0
            go_wp2
            go_meet
            case rel => exact ⟨by rw [← HPE.out, e], rfl⟩
          · have e : plE l pl a = pl := by rw [plE, if_neg (fun h => h0 ⟨hnE.out.2 h.1, h.2⟩)]
            rw [decide_eq_false h0]
            clear h0
            go_wp2
            go_meet
            case rel => exact ⟨by rw [← HPE.out, e], rfl⟩
        case rest =>
          obtain ⟨rfl, hwc⟩ := hcut
          obtain rfl := hwc.symm
          clear hwc c1 hnE
          have hen := HEN.out
          clear HEN
          unfold En at hen
          rw [HPE.out] at hen
          obtain ⟨hyes, hno⟩ := hen
          by_cases h125 : (bts s)[a]? = some 125
          · obtain ⟨J, hJ, hrun⟩ := hyes h125
            have hpk : pk (bts s) a (-1) = some 125 := by rw [pk_neg]; exact h125
            have q1 := KT.out wr a (-1) 125 hPI.out.re hPI.out.le
            rw [tkA, if_pos hpk, tkZ, if_pos hpk] at q1
            have q1' : Calls Tryd.prog 41 #[.pointer (some ⟨w.heap.size, 0, none⟩), .int .u8 125] wr fun e w' => e = .returned (.tuple #[]) ∧ Re w' w.heap.size s (a + 1) (-1) ∧ Chg (fun i => i = w.heap.size) wr w' := q1
            have hla : Hid (a + 1 ≤ (bts s).length) := hidden (pk_lt hpk).1
            obtain ⟨a9, ha9⟩ : ∃ a9, sk (bts s) (a + 1) = a9 := ⟨_, rfl⟩
            have hl9 : Hid (a9 ≤ (bts s).length) := hidden (by rw [← ha9]; exact sk_le hla.out)
            have HMO : Hid (a9 < (bts s).length → parseL (bts s) = .inl a9) := hidden (fun h => by rw [← ha9] at h ⊢; exact end_more hrun h)
            have HDO : Hid (¬ a9 < (bts s).length → (0 ≤ pe → parseL (bts s) = .inl pe.toNat) ∧ (pe < 0 → parseL (bts s) = .inr (srt l) ∧ sortOk l = true)) := hidden (fun h => by rw [← ha9] at h; exact end_done hrun h hJ)
            have q2 : Hid (∀ wx, PI w wx s (a + 1) (-1) al cl l → Calls Tryd.prog 40 #[.pointer (some ⟨w.heap.size, 0, none⟩)] wx fun e w' => e = .returned (.tuple #[]) ∧ Re w' w.heap.size s a9 (-1) ∧ Chg (fun i => i = w.heap.size) wx w') := hidden (fun wx h => by
              have := KB.out wx (a + 1) (-1) h.re h.le
              rw [skZ, if_pos (by omega), ha9] at this
              exact this)
            clear q1 hpk hyes hno h125 hJ hrun ha9
            go_wp2_with (go_at_call 41; refine q1'.mono ?_; rintro e w5 ⟨rfl, h5, hc5⟩; clear q1')
            have P5 := hidden (hPI.out.moved h5 hc5 hla.out)
            clear h5 hc5
            have q3 := q2.out _ P5.out
            clear q2
            go_wp2_with (go_at_call 40; refine q3.mono ?_; rintro e w6 ⟨rfl, h6, hc6⟩; clear q3)
            have P6 := hidden (P5.out.moved h6 hc6 hl9.out)
            clear h6 hc6 P5
            have q4 : Calls Tryd.prog 43 #[.pointer (some ⟨w.heap.size, 0, none⟩)] w6 fun e w' => e = .returned (.bool (decide ((-1 : Int) < 0))) ∧ w' = w6 := rfineP _ s a9 (-1) w6 P6.out.re
            rw [decide_eq_true (show (-1 : Int) < 0 by omega)] at q4
            have d1 : w6.cell? ⟨w.heap.size, 1, none⟩ = some (.int .i64 (a9 : Int)) := P6.out.re.cell 1
            have d2 : w6.cell? ⟨w.heap.size, 2, none⟩ = some (.int .i64 (-1)) := P6.out.re.cell 2
            by_cases hlt : a9 < s.size
            · have hltz : (a9 : Int) < (s.size : Int) := by omega
              have HPL := hidden (HMO.out (by rw [← size_bts]; exact hlt))
              have q5 : Hid (Calls Tryd.prog 47 #[.pointer (some ⟨w.heap.size, 0, none⟩)] w6 fun e w' => e = .returned (.tuple #[]) ∧ Re w' w.heap.size s a9 (a9 : Int) ∧ Chg (fun i => i = w.heap.size) w6 w') := hidden (by
                have := rfailP w.heap.size s a9 (-1) w6 P6.out.re
                rw [failZ, if_pos (by omega)] at this
                exact this)
              clear HMO HDO
              have q6 := q5.out
              clear q5
              go_wp2_with (first
                | (go_at_call 43; refine q4.mono ?_; rintro e w7 ⟨rfl, hw7⟩; obtain rfl := hw7.symm; clear q4 hw7)
                | (go_at_call 47; refine q6.mono ?_; rintro e w8 ⟨rfl, h8, hc8⟩; have P8 := hidden (P6.out.moved h8 hc8 hl9.out); have d3 : w8.cell? ⟨w.heap.size, 2, none⟩ = some (.int .i64 (a9 : Int)) := P8.out.re.cell 2; clear q6 h8 hc8))
              go_quiet (fail)
              go_wp2
              go_ret3
              exact ⟨_, _, _, rfl, Or.inl ⟨a9, HPL.out, rfl, rfl, rfl⟩, below_drewN P8.out.bel _⟩
            · have hltz : ¬ (a9 : Int) < (s.size : Int) := by omega
              have hltz' : decide ((a9 : Int) < (s.size : Int)) = false := decide_eq_false hltz
              obtain ⟨HD1, HD2⟩ := HDO.out (by rw [← size_bts]; exact hlt)
              by_cases hpe : 0 ≤ pe
              · have HPL : Hid (∃ p : Nat, pe = (p : Int) ∧ parseL (bts s) = .inl p) := hidden ⟨pe.toNat, by omega, HD1 hpe⟩
                clear HMO HDO HD1 HD2
                go_wp2_with (go_at_call 43; refine q4.mono ?_; rintro e w7 ⟨rfl, hw7⟩; obtain rfl := hw7.symm; clear q4 hw7)
                go_ret3
                obtain ⟨p, hp, hpl⟩ := HPL.out
                exact ⟨_, _, _, rfl, Or.inl ⟨p, hpl, rfl, hp, rfl⟩, P6.out.bel⟩
              · have hpe' : ¬ (0 : Int) ≤ pe := hpe
                have HPL := hidden (HD2 (by omega))
                have kS := rsortP al cl l w6 (ls_of_owns P6.out.row P6.out.sm.szs) (by have := P6.out.len8; omega) P6.out.sm
                rw [HPL.out.2, hn.out] at kS
                simp only [cond_true] at kS
                clear HMO HDO HD1 HD2
                go_wp2_with (first
                  | (go_at_call 43; refine q4.mono ?_; rintro e w7 ⟨rfl, hw7⟩; obtain rfl := hw7.symm; clear q4 hw7)
                  | (go_at_call 11; refine kS.mono ?_; rintro e w8 ⟨v8, rfl, ho8, hb8⟩; clear kS))
                go_ret3
                refine ⟨_, _, _, rfl, Or.inr ⟨srt l, HPL.out.1, rfl, rfl, ?_, P6.out.sm.szs.perm (srt_perm l)⟩, P6.out.bel.trans (hb8.mono P6.out.bel.size)⟩
                rw [(srt_perm l).length_eq, hn.out]
                exact owns_base ho8 (fun g hg => Nat.le_trans P6.out.bel.size (ho8.lt g hg).1)
          · have HRUN := hidden (end_fault (hno h125))
            have hpk : pk (bts s) a (-1) ≠ some 125 := by rw [pk_neg]; exact h125
            have q1 := KT.out wr a (-1) 125 hPI.out.re hPI.out.le
            rw [tkA, if_neg hpk, tkZ, if_neg hpk, failZ, if_pos (by omega)] at q1
            have q1' : Calls Tryd.prog 41 #[.pointer (some ⟨w.heap.size, 0, none⟩), .int .u8 125] wr fun e w' => e = .returned (.tuple #[]) ∧ Re w' w.heap.size s a (a : Int) ∧ Chg (fun i => i = w.heap.size) wr w' := q1
            have e3 : skZ (bts s) a (a : Int) = a := by rw [skZ, if_neg (by omega)]
            clear q1 hpk hyes hno h125
            go_wp2_with (go_at_call 41; refine q1'.mono ?_; rintro e w5 ⟨rfl, h5, hc5⟩; clear q1')
            have P5 := hidden (hPI.out.moved h5 hc5 hPI.out.ble)
            clear h5 hc5
            have q2 := KB.out w5 a (a : Int) P5.out.re P5.out.le
            rw [e3] at q2
            clear e3
            go_wp2_with (go_at_call 40; refine q2.mono ?_; rintro e w6 ⟨rfl, h6, hc6⟩; clear q2)
            have P6 := hidden (P5.out.moved h6 hc6 P5.out.ble)
            clear h6 hc6 P5
            have q3 : Calls Tryd.prog 43 #[.pointer (some ⟨w.heap.size, 0, none⟩)] w6 fun e w' => e = .returned (.bool (decide ((a : Int) < 0))) ∧ w' = w6 := rfineP _ s a (a : Int) w6 P6.out.re
            rw [decide_eq_false (show ¬ (a : Int) < 0 by omega)] at q3
            have d2 : w6.cell? ⟨w.heap.size, 2, none⟩ = some (.int .i64 (a : Int)) := P6.out.re.cell 2
            go_wp2_with (go_at_call 43; refine q3.mono ?_; rintro e w7 ⟨rfl, hw7⟩; obtain rfl := hw7.symm; clear q3 hw7)
            go_quiet (fail)
            go_wp2
            go_ret3
            exact ⟨_, _, _, rfl, Or.inl ⟨a, HRUN.out, rfl, rfl, rfl⟩, below_drewN P6.out.bel _⟩

end Go.Proofs.YtpdffdoogobhfaaDoor
