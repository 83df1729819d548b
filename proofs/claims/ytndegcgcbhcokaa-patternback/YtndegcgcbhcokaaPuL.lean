/-
  A pattern in memory; Parse.
-/
import Derived.Test.YtndegcgcbhcokaaPuK
namespace Go.Proofs.Ytndegcgcbhcokaa
open Go.RowKit
set_option linter.unusedVariables false
set_option linter.unusedSimpArgs false

theorem SpM.keep {F G : Nat → Prop} {w w' : World} {sa : Option Addr} {c : Nat} {M : List Sp} {vs : List (Value × Nat)} (h : SpM F w sa c M vs) (hc : Chg G w w') (hd : ∀ b, F b → ¬ G b) : SpM F w' sa c M vs :=
  ⟨hc.owns h.own (fun g hg => hd g (h.at' g hg)), h.sp.keep hc hd, h.at', h.b64⟩

/-- A pattern: the tree l, and its machine; all of it lies in F. -/
structure PaC (F : Nat → Prop) (w : World) (p : Nat) (l : List (List Pt)) (ad : Option Addr) (c b off : Nat) (sa : Option Addr) (sc : Nat) (vs : List (Value × Nat)) : Prop where
  blk : Blk w p 57 [.slice ad l.length c, .slice sa (machL l).2.length sc, .int .u64 ((machL l).1.first : Int), .int .u64 ((machL l).1.last : Int), .bool (machL l).1.emp]
  at' : l ≠ [] → ad = some ⟨b, off, none⟩ ∧ F b
  rows : RowsV F w l b off
  sp : SpM F w sa sc (machL l).2 vs
  fp : F p
  lt : ∀ b, F b → b < w.heap.size
  fine : rowsFine l ∧ l ≠ [] ∧ l.length ≤ 1000
  cnt : rowsCnt l ≤ 64
def PaR (F : Nat → Prop) (w : World) (p : Nat) (l : List (List Pt)) : Prop := ∃ ad c b off sa sc vs, PaC F w p l ad c b off sa sc vs
theorem PaR.keep {F G : Nat → Prop} {w w' : World} {p : Nat} {l : List (List Pt)} (h : PaR F w p l) (hc : Chg G w w') (hd : ∀ b, F b → ¬ G b) : PaR F w' p l := by
  obtain ⟨ad, c, b, off, sa, sc, vs, h⟩ := h
  exact ⟨ad, c, b, off, sa, sc, vs, hc.blk h.blk (hd p h.fp), h.at', RowsV.keep hc hd l b off (fun h0 => (h.at' h0).2) h.rows, h.sp.keep hc hd, h.fp, fun b hb => Nat.lt_of_lt_of_le (h.lt b hb) hc.size, h.fine, h.cnt⟩
theorem PaR.later {F : Nat → Prop} {w w' : World} {p : Nat} {l : List (List Pt)} (h : PaR F w p l) (hb : Below w.heap.size w w') : PaR F w' p l :=
  h.keep (Chg.of_below (F := fun _ => False) hb) (fun _ _ h => h)

/-- Parse, as a function. -/
def endF (S : List UInt8) : Pr (List (List Pt)) → Pr (List (List Pt))
  | .ok l b => if b < S.length then .bad b else .ok l b
  | .bad k => .bad k
  | .out => .out
def prs (S : List UInt8) : Pr (List (List Pt)) := if 64 < S.length then .bad 64 else endF S (rowsF S (4 * S.length + 4) 0 0)
/-- What Parse answers. -/
def ParseR (s : ByteArray) (w : World) (e : Ending) (w' : World) : Prop :=
  Below w.heap.size w w' ∧ ((∃ p F l, (∃ b, prs (bts s) = .ok l b) ∧ e = .returned (.tuple #[.pointer (some ⟨p, 0, none⟩), .nilIface]) ∧ PaR F w' p l ∧ ∀ b, F b → w.heap.size ≤ b) ∨
    (∃ k g, prs (bts s) = .bad k ∧ e = .returned (.tuple #[.pointer none, .iface 39 (.pointer (some ⟨g, 0, none⟩))]) ∧ Blk w' g 41 [.int .i64 (k : Int), .int .i64 80] ∧ k ≤ s.size))

set_option maxRecDepth 100000 in
set_option maxHeartbeats 8000000 in
theorem parseP (s : ByteArray) (w : World) : Calls Try.prog 6 #[.string s] w (ParseR s w) := by
  have hsb := size_bts s
  unfold ParseR
  by_cases h64 : s.size ≤ 64
  · have h64z : ¬ (64 : Int) < (s.size : Int) := by omega
    obtain ⟨W, hW⟩ : ∃ W, w.alloc (.cells #[.string s, .int .i64 0, .int .i64 0] 43) = W := ⟨_, rfl⟩
    have hal : Below w.heap.size w W := by rw [← hW]; exact (Below.refl _ w).alloc (Nat.le_refl _) _
    have hrd : Rd W w.heap.size s 0 0 := by rw [← hW]; exact Blk.new w 43 [.string s, .int .i64 0, .int .i64 0]
    have hbd := (read_bd (bts s) (4 * (bts s).length + 4) 0 0 (by omega)).1
    have hno : rowsF (bts s) (4 * (bts s).length + 4) 0 0 ≠ .out := hbd.2 (by omega)
    have hcn := (read_cnt (bts s) (by omega) (4 * (bts s).length + 4) 0 0 (by omega)).1
    have k12 := (reads (4 * (bts s).length + 4)).1 w.heap.size s 0 0 W hrd (by omega) h64 (by omega) hno
    obtain ⟨R, hR⟩ : ∃ R, rowsF (bts s) (4 * (bts s).length + 4) 0 0 = R := ⟨_, rfl⟩
    have hps : prs (bts s) = endF (bts s) R := by unfold prs; rw [if_neg (by omega), hR]
    rw [hR] at k12 hbd hcn
    have HP := hidden hps
    have HBD := hidden hbd.1
    have HCN := hidden hcn
    have HAL := hidden hal
    have HSB := hidden hsb
    have HWL : Hid (w.heap.size < W.heap.size) := hidden hrd.lt
    rw [← hW] at k12
    have HW := hidden hW
    clear hal hrd hbd hno hcn hR hps hW hsb
    unfold RowsR at k12
    go_enter Try.func6, Try.ntmps6
    go_upto_region 5 with (go_at_call 12; refine k12.mono ?_; rintro e w2 ⟨ad, n, c, b, ok, rfl, hrd, hch, hbl, hres⟩; rw [HW.out] at hch hres; clear k12)
    have a1 : w2.cell? ⟨w.heap.size, 1, none⟩ = some (.int .i64 (b : Int)) := Blk.cell hrd 1
    have HB2 : Hid (Below w.heap.size w w2) := hidden (HAL.out.trans (hch.below HAL.out.size (fun i e => by have e' : i = w.heap.size := e; omega)))
    have hbz : b ≤ s.size := by rw [HSB.out]; exact hbl
    rcases hres with ⟨rfl, l, g, off, rfl, hRl, hlg, hrv⟩ | ⟨rfl, hRb⟩
    · subst hRl
      have hfi := HCN.out l b rfl
      by_cases hlt : b < s.size
      · have hltz : (b : Int) < (s.size : Int) := by omega
        have HPB : Hid (prs (bts s) = .bad b) := hidden (by rw [HP.out, endF, if_pos (by have := HSB.out; omega)])
        have HBX := hidden (HB2.out.alloc HB2.out.size (.cells #[.int .i64 (b : Int), .int .i64 80] 41))
        have HBN : Hid (Blk (w2.alloc (.cells #[.int .i64 (b : Int), .int .i64 80] 41)) w2.heap.size 41 [.int .i64 (b : Int), .int .i64 80]) := hidden (Blk.new w2 41 _)
        clear hrd hch hlg hrv hfi
        go_wp2_with fail
        go_region
        go_wp2
        go_ret2
        exact ⟨HBX.out.trans (below_drew _ _), Or.inr ⟨b, w2.heap.size, HPB.out, rfl, HBN.out.drew, by omega⟩⟩
      · have hltz : ¬ (b : Int) < (s.size : Int) := by omega
        have HPB : Hid (prs (bts s) = .ok l b) := hidden (by rw [HP.out, endF, if_neg (by have := HSB.out; omega)])
        have k13 := machineOfP l (FW W w2) w2 ad c g off hlg hrv (fun b hb => hb.2) (by omega) hfi.2.1 (by omega)
        have HFI := hidden hfi
        have HLG := hidden hlg
        have HRV := hidden hrv
        obtain ⟨nl, hnl⟩ : ∃ nl, l.length = nl := ⟨_, rfl⟩
        have HNL := hidden hnl
        obtain ⟨nm, hnm⟩ : ∃ nm, (machL l).2.length = nm := ⟨_, rfl⟩
        have HNM := hidden hnm
        have hcl : rowsCnt l ≤ 64 := by omega
        have HCL := hidden hcl
        rw [hnl, hnm] at k13
        rw [hnl]
        clear hrd hch hlg hrv hfi hnl hnm hcl
        go_wp2_with (go_at_call 13; refine k13.mono ?_; rintro e w3 ⟨sa, sc, vs, F', rfl, y1, y2, y3, y4⟩; have Y1 := hidden y1; have Y2 := hidden y2; have Y3 := hidden y3; have Y4 := hidden y4; clear k13 y1 y2 y3 y4; simp only [Z54])
        go_ret2
        have hbel := HB2.out.trans (Y4.out.mono HB2.out.size)
        have hl3 := hbel.alloc hbel.size (.cells #[.slice ad nl c, .slice sa nm sc, .int .u64 ((machL l).1.first : Int), .int .u64 ((machL l).1.last : Int), .bool (machL l).1.emp] 57)
        have hwl := HWL.out
        have hs2 := HB2.out.size
        have hs3 := Y4.out.size
        refine ⟨hl3, Or.inl ⟨w3.heap.size, fun b => F' b ∨ b = w3.heap.size, l, ⟨b, HPB.out⟩, rfl, ?_, ?_⟩⟩
        · have hc3 : Chg (fun _ => False) w2 w3 := Chg.of_below Y4.out
          have hc4 : Chg (fun _ => False) w3 (w3.alloc (.cells #[.slice ad nl c, .slice sa nm sc, .int .u64 ((machL l).1.first : Int), .int .u64 ((machL l).1.last : Int), .bool (machL l).1.emp] 57)) := Chg.alloc _ _ _
          have hsz : (w3.alloc (.cells #[.slice ad nl c, .slice sa nm sc, .int .u64 ((machL l).1.first : Int), .int .u64 ((machL l).1.last : Int), .bool (machL l).1.emp] 57)).heap.size = w3.heap.size + 1 := by simp
          have hsp := Y1.out.keep hc4 (fun _ _ h => h)
          refine ⟨ad, c, g, off, sa, sc, vs, ?_, fun h0 => ⟨(HLG.out h0).1, .inl (Y2.out _ (HLG.out h0).2)⟩, ?_, ⟨hsp.own, hsp.sp.mono (fun _ h => .inl h), fun b hb => .inl (hsp.at' b hb), hsp.b64⟩, .inr rfl, fun b hb => ?_, ⟨HFI.out.2.1, HFI.out.2.2.1, by have := HFI.out.2.2.2; omega⟩, HCL.out⟩
          · rw [HNL.out, HNM.out]
            exact Blk.new w3 57 _
          · exact RowsV.mono (fun b hb => .inl (Y2.out b hb)) l g off (RowsV.keep hc4 (fun _ _ h => h) l g off (fun h0 => (HLG.out h0).2) (RowsV.keep hc3 (fun _ _ h => h) l g off (fun h0 => (HLG.out h0).2) HRV.out))
          · rw [hsz]
            rcases hb with hb | hb
            · rcases Y3.out b hb with h | h
              · have := h.2; omega
              · omega
            · omega
        · intro b hb
          rcases hb with hb | hb
          · rcases Y3.out b hb with h | h
            · have := h.1; omega
            · omega
          · omega
    · subst hRb
      have HPB : Hid (prs (bts s) = .bad b) := hidden (by rw [HP.out, endF])
      have HBX := hidden (HB2.out.alloc HB2.out.size (.cells #[.int .i64 (b : Int), .int .i64 80] 41))
      have HBN : Hid (Blk (w2.alloc (.cells #[.int .i64 (b : Int), .int .i64 80] 41)) w2.heap.size 41 [.int .i64 (b : Int), .int .i64 80]) := hidden (Blk.new w2 41 _)
      clear hrd hch
      go_wp2_with fail
      go_region
      go_wp2
      go_ret2
      exact ⟨HBX.out.trans (below_drew _ _), Or.inr ⟨b, w2.heap.size, HPB.out, rfl, HBN.out.drew, by omega⟩⟩
  · have h64z : (64 : Int) < (s.size : Int) := by omega
    have HPB : Hid (prs (bts s) = .bad 64) := hidden (by unfold prs; rw [if_pos (by omega)])
    have HBX := hidden ((Below.refl w.heap.size w).alloc (Nat.le_refl _) (.cells #[.int .i64 64, .int .i64 80] 41))
    have HBN : Hid (Blk (w.alloc (.cells #[.int .i64 64, .int .i64 80] 41)) w.heap.size 41 [.int .i64 64, .int .i64 80]) := hidden (Blk.new w 41 _)
    clear hsb
    go_enter Try.func6, Try.ntmps6
    go_wp2
    go_ret2
    exact ⟨HBX.out, Or.inr ⟨64, w.heap.size, HPB.out, rfl, HBN.out, by omega⟩⟩

end Go.Proofs.Ytndegcgcbhcokaa
