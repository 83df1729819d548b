/-
  Package pool: Left, Used, Get, Put, release.
-/
import Derived.Test.YtjlpkgepiajapaaDoorPlC
import Derived.Lib.ConvBytes
import Derived.Lib.SmallJoins
namespace Go.Proofs.YtjlpkgepiajapaaDoor
open Go.RowKit
set_option linter.unusedVariables false
set_option linter.unusedSimpArgs false

theorem kyI : Ky Tryd.prog 3 K3 (.int .i64) := ky_int Tryd.underlying3
theorem kyS : Ky Tryd.prog 9 Value.string .string := ky_string Tryd.underlying9
theorem zero75 (w : World) : (zeroValue 75).run Tryd.prog w = .ok (leV ⟨#[]⟩ ⟨#[]⟩) w := by kernel_rfl
theorem zero77 (w : World) : (zeroValue 77).run Tryd.prog w = .ok (.map none) w := by kernel_rfl
theorem Pl.cells {w : World} {p n g tb ob : Nat} {ow : ByteArray → Option Nat} {st : Sx} (h : Pl w p n g tb ob ow st) :
    w.cell? ⟨p, 0, none⟩ = some (.int .i64 (n : Int)) ∧ w.cell? ⟨p, 1, none⟩ = some (.slice (some ⟨g, 0, none⟩) ((n + 63) / 64) ((n + 63) / 64)) ∧ w.cell? ⟨p, 2, none⟩ = some (.map (some tb)) ∧ w.cell? ⟨p, 3, none⟩ = some (.map (some ob)) :=
  ⟨h.blk.cell 0, h.blk.cell 1, h.blk.cell 2, h.blk.cell 3⟩
/-- What an owner's look-up tells. -/
theorem Pl.lookO {w : World} {p n g tb ob : Nat} {ow : ByteArray → Option Nat} {st : Sx} (h : Pl w p n g tb ob ow st) (o : ByteArray) : (Instr.lookup 61 (.map (some ob)) (.string o) false).run Tryd.prog w = .ok (.map (ow o)) w := by
  obtain ⟨lo, h1, h2⟩ := h.own
  have := h1.look kyS Tryd.underlying61 (zero77 w) o false
  rw [h2 o] at this
  rw [this]
  cases ow o <;> rfl
theorem Pl.lookT {w : World} {p n g tb ob : Nat} {ow : ByteArray → Option Nat} {st : Sx} (h : Pl w p n g tb ob ow st) (k : Int) : (Instr.lookup 60 (.map (some tb)) (.int .i64 k) true).run Tryd.prog w = .ok (.tuple #[(al (tkL st n) k).getD (leV ⟨#[]⟩ ⟨#[]⟩), .bool (al (tkL st n) k).isSome]) w := by
  have := h.tk.look kyI Tryd.underlying60 (zero75 w) k true
  rw [if_pos rfl] at this
  exact this
theorem Pl.lenS {w : World} {p n g tb ob : Nat} {ow : ByteArray → Option Nat} {st : Sx} (h : Pl w p n g tb ob ow st) (o : ByteArray) (ty : TypeId) : (Builtin.len_ #[77] ty #[.map (ow o)]).run Tryd.prog w = .ok (.int .i64 ((setL st n o).length : Int)) w := by
  cases e : ow o with
  | none =>
    rw [h.non o e]
    exact Maps.len_nil Tryd.underlying77 ty
  | some sb => exact (h.set o sb e).1.len Tryd.underlying77 ty
theorem tkL_len (st : Sx) (n : Nat) : (tkL st n).length ≤ n := by
  have := List.length_filterMap_le (fun i => (st i).map fun x => ((i : Int), leV x.1 x.2)) (List.range n)
  rw [List.length_range] at this
  exact this

theorem leftP (p n g tb ob : Nat) (ow : ByteArray → Option Nat) (st : Sx) (w : World) (h : Pl w p n g tb ob ow st) : Calls Tryd.prog 18 #[.pointer (some ⟨p, 0, none⟩)] w fun e w' => e = .returned (.int .i64 ((n - (tkL st n).length : Nat) : Int)) ∧ Below w.heap.size w w' := by
  obtain ⟨c0, c1, c2, c3⟩ := h.cells
  have hl := fun (w' : World) (hb : Below w.heap.size w w') (ty : TypeId) => (h.tk.later hb).len (P := Tryd.prog) Tryd.underlying60 ty
  have hn := h.n1
  have hle := tkL_len st n
  obtain ⟨T, hT⟩ : ∃ T, (tkL st n).length = T := ⟨_, rfl⟩
  rw [hT] at hl hle ⊢
  have e1 : (n : Int) - (T : Int) = ((n - T : Nat) : Int) := by omega
  have hl2 := hl w.drew (below_drewN (Below.refl _ _) 1) 3
  have hl1 := hl w (Below.refl _ _) 3
  clear h hT hl c1 c3
  go_enter Tryd.func18, Tryd.ntmps18
  go_wp2_with fail
  go_region
  all_goals
    go_wp2_with fail
    go_ret
    exact ⟨by first | rfl | (rw [← e1]), below_drewN (Below.refl _ _) 1⟩
theorem usedP (o : ByteArray) (p n g tb ob : Nat) (ow : ByteArray → Option Nat) (st : Sx) (w : World) (h : Pl w p n g tb ob ow st) : Calls Tryd.prog 16 #[.pointer (some ⟨p, 0, none⟩), .string o] w fun e w' => e = .returned (.int .i64 ((setL st n o).length : Int)) ∧ w' = w := by
  obtain ⟨c0, c1, c2, c3⟩ := h.cells
  have l1 := h.lookO o
  have l2 := h.lenS o 3
  clear h c0 c1 c2
  generalize ow o = x at *
  generalize ((setL st n o).length : Int) = T at *
  go_enter Tryd.func16, Tryd.ntmps16
  go_wp2_with fail
  go_ret
  exact ⟨rfl, rfl⟩

/-- Get. -/
theorem get_none (k : Int) (p n g tb ob : Nat) (ow : ByteArray → Option Nat) (st : Sx) (w : World) (h : Pl w p n g tb ob ow st) (hk : al (tkL st n) k = none) : Calls Tryd.prog 12 #[.pointer (some ⟨p, 0, none⟩), .int .i64 k] w fun e w' => e = .returned (.tuple #[.slice none 0 0, .int .i64 111]) ∧ Below w.heap.size w w' := by
  obtain ⟨c0, c1, c2, c3⟩ := h.cells
  have l1 := h.lookT k
  rw [hk] at l1
  simp only [Option.getD_none, Option.isSome_none, leV] at l1
  clear h hk c0 c1 c3
  go_enter Tryd.func12, Tryd.ntmps12
  go_wp2_with fail
  go_ret2
  exact ⟨rfl, (Below.refl _ _).alloc (Nat.le_refl _) _⟩
/-- The bytes of a text. -/
def bts (d : ByteArray) : List Int := d.data.toList.map fun (x : UInt8) => (x.toNat : Int)
theorem bts_length (d : ByteArray) : (bts d).length = d.size := by simp [bts]
theorem bts_byte (d : ByteArray) : Byte (bts d) := by
  intro n hn
  obtain ⟨x, _, rfl⟩ := List.mem_map.1 hn
  have := x.toNat_lt
  omega
theorem sl_bytes (w : World) (d : ByteArray) : Sl (Lib.bytesWorld w 5 d) (some ⟨w.heap.size, 0, none⟩) d.size (bts d) := by
  refine ⟨bts_length d, bts_byte d, fun j hj => ⟨_, rfl, ?_⟩⟩
  rw [Addr.add_lit, Nat.zero_add, Lib.bytesWorld_cell w 5 d j hj]
  congr 2
  have hl : j < d.data.size := hj
  simp only [bts, List.getD, List.getElem?_map, Array.getElem?_toList, Array.getElem?_eq_getElem hl]
  rfl
theorem tg_bytes (w : World) (d : ByteArray) : Tg (Lib.bytesWorld w 5 d) w.heap.size 5 := by
  have hz : w.drew.heap = w.heap := rfl
  have h : (w.heap.push (Obj.cells (Lib.bytesCells w 5 d) 5))[w.heap.size]? = some (Obj.cells (Lib.bytesCells w 5 d) 5) := by simp
  unfold Tg Lib.bytesWorld World.freeze
  rw [if_neg (by omega)]
  refine ⟨Lib.bytesCells w 5 d, ((Lib.bytesCells w 5 d).size, (Lib.bytesCells w 5 d).size + 1), ?_⟩
  simp [World.alloc, hz, Array.getElem_modify]
theorem get_some (k : Int) (o d : ByteArray) (p n g tb ob : Nat) (ow : ByteArray → Option Nat) (st : Sx) (w : World) (h : Pl w p n g tb ob ow st) (hk : al (tkL st n) k = some (leV o d)) : Calls Tryd.prog 12 #[.pointer (some ⟨p, 0, none⟩), .int .i64 k] w fun e w' => ∃ ga c, e = .returned (.tuple #[.slice (some ⟨ga, 0, none⟩) d.size c, .int .i64 0]) ∧ w.heap.size ≤ ga ∧ Sl w' (some ⟨ga, 0, none⟩) d.size (bts d) ∧ Below w.heap.size w w' ∧ Tg w' ga 5 := by
  obtain ⟨c0, c1, c2, c3⟩ := h.cells
  have l1 := h.lookT k
  rw [hk] at l1
  simp only [Option.getD_some, Option.isSome_some, leV] at l1
  have hcv := fun (w : World) => Lib.run_convert_string_bytes (P := Tryd.prog) w 9 40 5 d Tryd.underlying9 Tryd.underlying40 Tryd.underlying5
  have hs := fun (w : World) => sl_bytes w d
  have hbw := fun (w : World) => Go.Joins.below_bytesWorld w.heap.size w 5 d (Nat.le_refl _)
  have HS := hidden hs
  have HBW := hidden hbw
  clear h hk c0 c1 c3 hs hbw
  go_enter Tryd.func12, Tryd.ntmps12
  go_wp2_with fail
  go_ret2
  have hs9 := HS.out (w.alloc (Obj.cells #[.string o, .string d] 75))
  rw [World.size_alloc] at hs9
  have ht9 := tg_bytes (w.alloc (Obj.cells #[.string o, .string d] 75)) d
  rw [World.size_alloc] at ht9
  refine ⟨_, _, rfl, ?_, hs9, ?_, ht9⟩
  · simp
  · exact ((Below.refl _ _).alloc (Nat.le_refl _) _).trans ((HBW.out _).mono (by simp))

/-- release: what a caller leaves of the owners' sets is its own affair. -/
theorem releaseP (i p n g tb ob : Nat) (st : Sx) (w : World) (hi : i < n) (n1 : 1 ≤ n ∧ n ≤ 65536)
    (hB : Blk w p 63 [.int .i64 (n : Int), .slice (some ⟨g, 0, none⟩) ((n + 63) / 64) ((n + 63) / 64), .map (some tb), .map (some ob)]) (hF : Fr w g ((n + 63) / 64) (fun j => decide (j < n) && (st j).isNone)) (hT : Ml K3 w tb (tkL st n)) :
    Calls Tryd.prog 33 #[.pointer (some ⟨p, 0, none⟩), .int .i64 (i : Int)] w fun e w' => e = .returned (.tuple #[]) ∧ Fr w' g ((n + 63) / 64) (fun j => decide (j < n) && (upS st i none j).isNone) ∧ Ml K3 w' tb (tkL (upS st i none) n) ∧ Chg (fun j => j = g ∨ j = tb) w w' := by
  obtain ⟨m, hm⟩ : ∃ m, (n + 63) / 64 = m := ⟨_, rfl⟩
  have hmn : n ≤ 64 * m := by omega
  rw [hm] at hB hF ⊢
  clear hm
  have c1 := hB.cell 1
  have c2 := hB.cell 2
  simp only [List.getElem?_cons_zero, List.getElem?_cons_succ] at c1 c2
  obtain ⟨w1, r1, t1, k1, z1⟩ := hT.drop (P := Tryd.prog) (ty := 0) kyI Tryd.underlying60 (i : Int)
  have hpt : ¬ p = tb := fun e => hT.tg 63 (e ▸ hB.tg)
  have hgt : ¬ g = tb := fun e => hT.tg 87 (e ▸ hF.tg)
  have B1 := k1.blk hB hpt
  have d1 := B1.cell 1
  simp only [List.getElem?_cons_zero, List.getElem?_cons_succ] at d1
  have HA := hidden (addP g m m i _ w1 (hF.chg k1 hgt) (Nat.le_refl _) (by omega) (by omega))
  have T1 := hidden (t1.perm (tk_rm st n i))
  have K1 := hidden k1
  have HG := hidden hgt
  have hi2 := hidden hi
  unfold K3 at r1
  clear hB hF hT t1 k1 z1 hpt hgt B1 hi n1 hmn
  go_enter Tryd.func33, Tryd.ntmps33
  go_wp2_with (refine HA.out.mono ?_; clear HA; rintro e w3 ⟨rfl, f3, c3⟩; have F3 := hidden f3; have C3 := hidden c3; clear f3 c3)
  first
    | refine bodyPost_end (results_none rfl _ _ _) rfl ?_
    | refine bodyPost_ret (results_none rfl _ _ _) rfl ?_
  refine ⟨rfl, F3.out.mono (fun j _ => ?_), T1.out.chg C3.out (fun e => HG.out e.symm), (K1.out.mono (fun j _ hj => .inr hj)).trans C3.out (fun j _ hj => .inl hj)⟩
  unfold upS
  by_cases h : j = i
  · have := hi2.out
    simp [h, this]
  · simp [h]

end Go.Proofs.YtjlpkgepiajapaaDoor
