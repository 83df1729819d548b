/-
  Package pool: Put, Give.
-/
import Derived.Test.YtjlpkgepiajapaaDoorPlE
namespace Go.Proofs.YtjlpkgepiajapaaDoor
open Go.RowKit
set_option linter.unusedVariables false
set_option linter.unusedSimpArgs false

theorem put_none (k : Int) (ad : Option Addr) (len c : Nat) (p n g tb ob : Nat) (ow : ByteArray → Option Nat) (st : Sx) (w : World) (h : Pl w p n g tb ob ow st) (hk : al (tkL st n) k = none) :
    Calls Tryd.prog 13 #[.pointer (some ⟨p, 0, none⟩), .int .i64 k, .slice ad len c] w fun e w' => e = .returned (.int .i64 111) ∧ Below w.heap.size w w' := by
  obtain ⟨c0, c1, c2, c3⟩ := h.cells
  have l1 := h.lookT k
  rw [hk] at l1
  simp only [Option.getD_none, Option.isSome_none, leV] at l1
  clear h hk c0 c1 c3
  go_enter Tryd.func13, Tryd.ntmps13
  go_wp2_with fail
  go_ret
  exact ⟨rfl, (Below.refl _ _).alloc (Nat.le_refl _) _⟩
theorem put_long (i : Nat) (o d : ByteArray) (ad : Option Addr) (len c : Nat) (p n g tb ob : Nat) (ow : ByteArray → Option Nat) (st : Sx) (w : World) (h : Pl w p n g tb ob ow st) (hi : i < n) (hk : st i = some (o, d)) (hl : 128 < len) (hl2 : len ≤ 9223372036854775807) :
    Calls Tryd.prog 13 #[.pointer (some ⟨p, 0, none⟩), .int .i64 (i : Int), .slice ad len c] w fun e w' => e = .returned (.int .i64 1) ∧ Below w.heap.size w w' := by
  obtain ⟨c0, c1, c2, c3⟩ := h.cells
  have l1 := h.lookT (i : Int)
  rw [al_tk hi, hk] at l1
  simp only [Option.map_some, Option.getD_some, Option.isSome_some, leV] at l1
  have hlz : (128 : Int) < (len : Int) := by omega
  clear h hk c0 c1 c3 hi
  go_enter Tryd.func13, Tryd.ntmps13
  go_wp2_with fail
  go_ret
  exact ⟨rfl, (Below.refl _ _).alloc (Nat.le_refl _) _⟩
theorem upS_isNone {st : Sx} {i : Nat} {x y : ByteArray × ByteArray} (h : st i = some x) (j : Nat) : (upS st i (some y) j).isNone = (st j).isNone := by
  unfold upS
  split
  · next e => rw [e, h]; rfl
  · rfl
theorem set_keep (st : Sx) (n i : Nat) (o d d' o' : ByteArray) (hs : st i = some (o, d)) : (setL st n o').Perm (setL (upS st i (some (o, d'))) n o') := by
  rw [List.perm_ext_iff_of_nodup (nodup_keys_nodup (set_pw st n o')) (nodup_keys_nodup (set_pw _ n o'))]
  rintro ⟨k, v⟩
  rw [mem_setL, mem_setL]
  constructor
  · rintro ⟨j, hj, ⟨x, e⟩, rfl, rfl⟩
    by_cases hji : j = i
    · subst hji
      rw [hs] at e
      cases e
      exact ⟨j, hj, ⟨d', by simp [upS]⟩, rfl, rfl⟩
    · exact ⟨j, hj, ⟨x, by unfold upS; rw [if_neg hji]; exact e⟩, rfl, rfl⟩
  · rintro ⟨j, hj, ⟨x, e⟩, rfl, rfl⟩
    unfold upS at e
    split at e
    · next h =>
      subst h
      cases e
      exact ⟨j, hj, ⟨d, hs⟩, rfl, rfl⟩
    · exact ⟨j, hj, ⟨x, e⟩, rfl, rfl⟩
/-- What lies in a slot is laid anew. -/
theorem Pl.put {w w' : World} {p n g tb ob i : Nat} {ow : ByteArray → Option Nat} {st : Sx} {o d d' : ByteArray} (h : Pl w p n g tb ob ow st) (hi : i < n) (hk : st i = some (o, d)) (t : Ml K3 w' tb (((i : Int), leV o d') :: rm (tkL st n) (i : Int))) (k : Chg (fun j => j = tb) w w') : Pl w' p n g tb ob ow (upS st i (some (o, d'))) := by
  obtain ⟨lo, l1, l2⟩ := h.own
  refine ⟨k.blk h.blk (fun e => h.tk.tg 63 (e ▸ h.blk.tg)), h.n1, ?_, t.perm (tk_add st n i o d' hi), ⟨lo, l1.chg k (fun e => h.ne e.symm), l2⟩, fun o' sb e => ?_, fun o' e => ?_, h.inj, h.ne, fun j hj => ?_⟩
  · exact (h.fr.chg k (fun e => h.tk.tg 87 (e ▸ h.fr.tg))).mono (fun j _ => by rw [upS_isNone hk])
  · obtain ⟨u1, u2, u3, u4⟩ := h.set o' sb e
    have hp := set_keep st n i o d d' o' hk
    refine ⟨(u1.chg k u3).perm hp, fun e0 => u2 ?_, u3, u4⟩
    rw [e0] at hp
    exact hp.eq_nil
  · have hp := set_keep st n i o d d' o' hk
    rw [h.non o' e] at hp
    exact hp.symm.eq_nil
  · unfold upS
    rw [if_neg (by omega)]
    exact h.fin j hj

theorem put_ok (i : Nat) (o d : ByteArray) (ad : Option Addr) (len c : Nat) (l : List Int) (p n g tb ob : Nat) (ow : ByteArray → Option Nat) (st : Sx) (w : World) (h : Pl w p n g tb ob ow st) (hi : i < n) (hk : st i = some (o, d)) (hs : Sl w ad len l) (hl : len ≤ 128) :
    Calls Tryd.prog 13 #[.pointer (some ⟨p, 0, none⟩), .int .i64 (i : Int), .slice ad len c] w fun e w' => e = .returned (.int .i64 0) ∧ Pl w' p n g tb ob ow (upS st i (some (o, strOfNums l))) ∧ Chg (fun j => j = tb) w w' := by
  obtain ⟨c0, c1, c2, c3⟩ := h.cells
  have l1 := h.lookT (i : Int)
  rw [al_tk hi, hk] at l1
  simp only [Option.map_some, Option.getD_some, Option.isSome_some, leV] at l1
  have hpl := h.blk.lt
  have hcv : ∀ (ob : Obj), (convert 40 9 (.slice ad len c)).run Tryd.prog (w.alloc ob) = .ok (.string (strOfNums l)) (w.alloc ob) := fun ob => run_string_of 40 5 9 Tryd.underlying40 Tryd.underlying5 Tryd.underlying9 (hs.later ((Below.refl _ _).alloc (Nat.le_refl _) _))
  have HP := hidden h
  have HK := hidden (And.intro hi hk)
  have hlz : ¬ (128 : Int) < (len : Int) := by omega
  clear h hk c0 c1 c3 hs hi
  generalize strOfNums l = d' at *
  go_enter Tryd.func13, Tryd.ntmps13
  go_wp2_with fail
  obtain ⟨w5, hw5⟩ : ∃ w5, w.alloc (Obj.cells #[.string o, .string d'] 75) = w5 := ⟨_, rfl⟩
  have k5 : Blk w5 w.heap.size 75 [.string o, .string d'] := by rw [← hw5]; exact Blk.new w 75 [.string o, .string d']
  have b5 : Below w.heap.size w w5 := by rw [← hw5]; exact (Below.refl _ _).alloc (Nat.le_refl _) _
  first | rw [hw5] | skip
  clear hw5 hcv l1 c2 hlz
  have H5 := hidden (HP.out.later b5)
  have e2 := H5.out.cells.2.2.1
  have z0 := k5.cell 0
  have z1 := k5.cell 1
  simp only [List.getElem?_cons_zero, List.getElem?_cons_succ] at z0 z1
  obtain ⟨w6, r6, t6, k6, _⟩ := Ml.store (w := w5.drew) (P := Tryd.prog) H5.out.tk kyI Tryd.underlying60 (i : Int) (leV o d')
  have T6 := hidden t6
  have K6 := hidden k6
  unfold K3 leV at r6
  clear t6 k6
  go_region
  all_goals
    go_wp2_with fail
    go_ret
    have k7 : Chg (fun j => j = tb) w5 w6 := (Chg.drew _ _).trans K6.out (fun _ _ h => h)
    exact ⟨rfl, H5.out.put HK.out.1 HK.out.2 T6.out k7, (Chg.of_below b5).trans k7 (fun _ _ h => h)⟩

end Go.Proofs.YtjlpkgepiajapaaDoor
