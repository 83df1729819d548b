/-
  Scan, Whole.
-/
import Derived.Test.YtnfjhdedcnbdbaaGreatFrJ
namespace Go.Proofs.YtnfjhdedcnbdbaaGreat
open Go Go.RowKit Go.Shelf
set_option linter.unusedVariables false
set_option linter.unusedSimpArgs false
attribute [local go_sem] Oper.semAt_some

set_option maxHeartbeats 2000000 in
set_option maxRecDepth 100000 in
theorem scan_any (ad : Option Addr) (len cap : Nat) (l : List Int) (w : World) (hs : Sl w ad len l) (hno : ad = none → len = 0 ∧ cap = 0) (hb : len ≤ 140737488355328) :
    Calls Tryz.prog 91 #[.slice ad len cap] w fun e w' => ∃ bx ag c, e = .returned (.func (.func 98) #[] #[.pointer (some ⟨bx, 0, none⟩)]) ∧ Blk w' bx 28 [.slice ag len c] ∧ w.heap.size ≤ bx ∧
      w'.ownsRow w.heap.size 5 1 (.slice ag len c) len (cells8 l) ∧ Below w.heap.size w w' := by
  have HS := hidden hs
  have HN := hidden hno
  clear hs hno
  go_enter Tryz.func91, Tryz.ntmps91
  go_wp2_with fail
  refine (clone_any ad len cap l w HS.out HN.out hb).mono ?_
  rintro e w1 ⟨ag, c, rfl, ho, hbel, _⟩
  have HO := hidden ho
  have HB := hidden hbel
  clear ho hbel
  go_wp2_with fail
  go_ret
  exact ⟨_, ag, c, rfl, heap_alloc_new w1 _, HB.out.size, HO.out.alloc _, HB.out.alloc HB.out.size _⟩

theorem Chg.cellS {F : Nat → Prop} {a b : World} (h : Chg F a b) {p : Addr} {v : Value} (hc : a.cell? p = some v) (hF : ¬ F p.block) : b.cell? p = some v := by
  have hlt : p.block < a.heap.size := by
    rcases Nat.lt_or_ge p.block a.heap.size with hh | hh
    · exact hh
    · exfalso
      simp [World.cell?, Array.getElem?_eq_none hh] at hc
  unfold World.cell? at *
  rw [h.block _ hlt hF]
  exact hc
theorem ReadE.bk {B B' bx : Nat} {ad : Option Addr} {len cap : Nat} {l : List Int} {w w' : World} (h : ReadE B bx ad len cap l w) (hk : Bk B' w w') : ReadE B bx ad len cap l w' := ⟨hk.cell h.1, hk.sl h.2.1, Nat.le_trans h.2.2 hk.size⟩
theorem TellE.bk {B B' : Nat} {l : List Int} {pre : List El} {x : El} {w w' : World} (h : TellE l B pre x w) (hk : Bk B' w w') : TellE l B pre x w' := ⟨h.1, h.2.1, hk.owns h.2.2⟩

end Go.Proofs.YtnfjhdedcnbdbaaGreat
