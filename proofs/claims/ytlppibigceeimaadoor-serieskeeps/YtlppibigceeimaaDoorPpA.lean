import Derived.Test.YtlppibigceeimaaDoorPlG
import Derived.Test.YtlppibigceeimaaDoorChV
import Derived.BigQuiet
/-
  Package pool: its calls beside other pools: which blocks they may change.
-/
namespace Go.Proofs.YtlppibigceeimaaDoor.K
open Go.RowKit
set_option linter.unusedVariables false
set_option linter.unusedSimpArgs false

/-- A pool, and the blocks that its calls may change. -/
def PQ (F : Nat → Prop) (w : World) (p n : Nat) (st : Sx) : Prop := ∃ g tb ob ow, Pl w p n g tb ob ow st ∧ ∀ i, F i ↔ PF g tb ob ow i
/-- What may be changed later was so already, or is new. -/
def Nw (w : World) (F F' : Nat → Prop) : Prop := ∀ i, F' i → F i ∨ w.heap.size ≤ i
theorem Nw.refl (w : World) (F : Nat → Prop) : Nw w F F := fun i h => .inl h
theorem PQ.later {F : Nat → Prop} {w w' : World} {p n : Nat} {st : Sx} (h : PQ F w p n st) (k : Below w.heap.size w w') : PQ F w' p n st := by
  obtain ⟨g, tb, ob, ow, h3, h4⟩ := h
  exact ⟨g, tb, ob, ow, h3.later k, h4⟩
theorem PQ.tag {F : Nat → Prop} {w : World} {p n : Nat} {st : Sx} (h : PQ F w p n st) {i : Nat} (hi : F i) : ∀ t, Tg w i t → t = 33 := by
  obtain ⟨g, tb, ob, ow, h3, h4⟩ := h
  exact (h3.kf (base := 0) (fun _ _ => Nat.zero_le _) i ((h4 i).1 hi)).2
theorem PQ.own {F : Nat → Prop} {w : World} {p n : Nat} {st : Sx} (h : PQ F w p n st) : Tg w p 55 := by
  obtain ⟨g, tb, ob, ow, h3, h4⟩ := h
  exact h3.blk.tg
theorem PQ.n1 {F : Nat → Prop} {w : World} {p n : Nat} {st : Sx} (h : PQ F w p n st) : 1 ≤ n ∧ n ≤ 65536 := by
  obtain ⟨g, tb, ob, ow, h3, h4⟩ := h
  exact h3.n1
theorem PQ.fin {F : Nat → Prop} {w : World} {p n : Nat} {st : Sx} (h : PQ F w p n st) : ∀ i, n ≤ i → st i = none := by
  obtain ⟨g, tb, ob, ow, h3, h4⟩ := h
  exact h3.fin
theorem PQ.lt {F : Nat → Prop} {w : World} {p n : Nat} {st : Sx} (h : PQ F w p n st) {i : Nat} (hi : F i) : i < w.heap.size := by
  obtain ⟨g, tb, ob, ow, h3, h4⟩ := h
  obtain ⟨lo, l1, _⟩ := h3.own
  rcases (h4 i).1 hi with rfl | rfl | rfl | ⟨o, e⟩
  · exact h3.fr.tg.lt
  · exact h3.tk.lt
  · exact l1.lt
  · exact (h3.set o i e).1.lt
/-- Others change: the pool stays. -/
theorem PQ.chg {F G : Nat → Prop} {w w' : World} {p n : Nat} {st : Sx} (h : PQ F w p n st) (k : Chg G w w') (hG : ∀ i, F i → ¬ G i) (hp : ¬ G p) : PQ F w' p n st := by
  obtain ⟨g, tb, ob, ow, h3, h4⟩ := h
  obtain ⟨lo, l1, l2⟩ := h3.own
  have q : ∀ i, PF g tb ob ow i → ¬ G i := fun i hi => hG i ((h4 i).2 hi)
  exact ⟨g, tb, ob, ow, ⟨k.blk h3.blk hp, h3.n1, h3.fr.chg k (q g (.inl rfl)), h3.tk.chg k (q tb (.inr (.inl rfl))), ⟨lo, l1.chg k (q ob (.inr (.inr (.inl rfl)))), l2⟩, fun o sb e => ⟨(h3.set o sb e).1.chg k (q sb (.inr (.inr (.inr ⟨o, e⟩)))), (h3.set o sb e).2⟩, h3.non, h3.inj, h3.ne, h3.fin⟩, h4⟩
theorem tkp_pq {F : Nat → Prop} {w w' : World} {p n g tb ob : Nat} {ow : ByteArray → Option Nat} {st' : Sx} (h4 : ∀ i, F i ↔ PF g tb ob ow i) (k : TkP w p n g tb ob ow st' w') : ∃ F', PQ F' w' p n st' ∧ Chg F w w' ∧ Nw w F F' := by
  obtain ⟨ow', hp, hc, hm⟩ := k
  refine ⟨PF g tb ob ow', ⟨g, tb, ob, ow', hp, fun i => Iff.rfl⟩, hc.mono (fun i _ hi => (h4 i).2 hi), fun i hi => ?_⟩
  rcases hi with e | e | e | ⟨o, e⟩
  · exact .inl ((h4 i).2 (.inl e))
  · exact .inl ((h4 i).2 (.inr (.inl e)))
  · exact .inl ((h4 i).2 (.inr (.inr (.inl e))))
  · rcases hm o i e with e | e
    · exact .inl ((h4 i).2 (.inr (.inr (.inr ⟨o, e⟩))))
    · exact .inr e
theorem newX (n : Nat) (h1 : 1 ≤ n) (h2 : n ≤ 65536) (w : World) : Calls Tryd.prog 6 #[.int .i64 (n : Int)] w fun e w' => ∃ p F, e = .returned (.tuple #[.pointer (some ⟨p, 0, none⟩), .int .i64 0]) ∧ PQ F w' p n (fun _ => none) ∧ Below w.heap.size w w' ∧ w.heap.size ≤ p ∧ ∀ i, F i → w.heap.size ≤ i :=
  (newP n h1 h2 w).mono fun e w' ⟨p, g, tb, ob, he, hp, hb, hz, hf⟩ => ⟨p, _, he, ⟨g, tb, ob, _, hp, fun i => Iff.rfl⟩, hb, hz, hf⟩
theorem takeX (o : ByteArray) (F : Nat → Prop) (p n : Nat) (st : Sx) (w : World) (h : PQ F w p n st) (hG : Gv w) :
    Calls Tryd.prog 35 #[.pointer (some ⟨p, 0, none⟩), .string o] w fun e w' => e = .returned (takeV st n) ∧ ∃ F', PQ F' w' p n (takeS st n o) ∧ Chg F w w' ∧ Nw w F F' := by
  have h' := h
  obtain ⟨g, tb, ob, ow, h3, h4⟩ := h
  unfold takeV takeS
  cases hf : fst1 st n with
  | none => exact (take_none o p n g tb ob ow st w h3 hG hf).mono fun e w' ⟨e1, e2⟩ => ⟨e1, F, e2 ▸ h', e2 ▸ Chg.refl _ _, Nw.refl _ _⟩
  | some i =>
    cases ho : ow o with
    | none => exact (take_new o i p n g tb ob ow st w h3 hG hf ho).mono fun e w' ⟨e1, e2⟩ => ⟨e1, tkp_pq h4 e2⟩
    | some sb => exact (take_old o i sb p n g tb ob ow st w h3 hG hf ho).mono fun e w' ⟨e1, e2⟩ => ⟨e1, tkp_pq h4 e2⟩
theorem giveX (k : Int) (F : Nat → Prop) (p n : Nat) (st : Sx) (w : World) (h : PQ F w p n st) :
    Calls Tryd.prog 30 #[.pointer (some ⟨p, 0, none⟩), .int .i64 k] w fun e w' => e = .returned (.int .i64 (giveS st n k).1) ∧ ∃ F', PQ F' w' p n (giveS st n k).2 ∧ Chg F w w' ∧ Nw w F F' := by
  have h' := h
  obtain ⟨g, tb, ob, ow, h3, h4⟩ := h
  unfold giveS
  rcases atS_cases st n k with ⟨e1, e2⟩ | ⟨i, o, d, e1, rfl, hi, hs, e2⟩
  · rw [e1]
    exact (give_none k p n g tb ob ow st w h3 e2).mono fun e w' ⟨e3, b⟩ => ⟨e3, F, h'.later b, Chg.of_below b, Nw.refl _ _⟩
  · rw [e1]
    exact (give_ok i o d p n g tb ob ow st w h3 hi hs).mono fun e w' ⟨e3, e4⟩ => ⟨e3, tkp_pq h4 e4⟩
theorem putX (k : Int) (ad : Option Addr) (len c : Nat) (l : List Int) (F : Nat → Prop) (p n : Nat) (st : Sx) (w : World) (h : PQ F w p n st) (hs : Sl w ad len l) (hl : len ≤ 9223372036854775807) :
    Calls Tryd.prog 36 #[.pointer (some ⟨p, 0, none⟩), .int .i64 k, .slice ad len c] w fun e w' => e = .returned (.int .i64 (putS st n k l).1) ∧ ∃ F', PQ F' w' p n (putS st n k l).2 ∧ Chg F w w' ∧ Nw w F F' := by
  have h' := h
  obtain ⟨g, tb, ob, ow, h3, h4⟩ := h
  unfold putS
  rcases atS_cases st n k with ⟨e1, e2⟩ | ⟨i, o, d, e1, rfl, hi, hst, e2⟩
  · rw [e1]
    exact (put_none k ad len c p n g tb ob ow st w h3 e2).mono fun e w' ⟨e3, b⟩ => ⟨e3, F, h'.later b, Chg.of_below b, Nw.refl _ _⟩
  · rw [e1]
    simp only
    by_cases hlen : 128 < l.length
    · rw [if_pos hlen]
      exact (put_long i o d ad len c p n g tb ob ow st w h3 hi hst (by rw [← hs.len]; exact hlen) hl).mono fun e w' ⟨e3, b⟩ => ⟨e3, F, h'.later b, Chg.of_below b, Nw.refl _ _⟩
    · rw [if_neg hlen]
      exact (put_ok i o d ad len c l p n g tb ob ow st w h3 hi hst hs (by rw [← hs.len]; omega)).mono fun e w' ⟨e3, hp, hc⟩ => ⟨e3, F, ⟨g, tb, ob, ow, hp, h4⟩, hc.mono (fun j _ hj => (h4 j).2 (.inr (.inl hj))), Nw.refl _ _⟩
theorem leftX (F : Nat → Prop) (p n : Nat) (st : Sx) (w : World) (h : PQ F w p n st) : Calls Tryd.prog 11 #[.pointer (some ⟨p, 0, none⟩)] w fun e w' => e = .returned (.int .i64 ((n - (tkL st n).length : Nat) : Int)) ∧ Below w.heap.size w w' := by
  obtain ⟨g, tb, ob, ow, h3, h4⟩ := h
  exact leftP p n g tb ob ow st w h3
theorem usedX (o : ByteArray) (F : Nat → Prop) (p n : Nat) (st : Sx) (w : World) (h : PQ F w p n st) : Calls Tryd.prog 17 #[.pointer (some ⟨p, 0, none⟩), .string o] w fun e w' => e = .returned (.int .i64 ((setL st n o).length : Int)) ∧ w' = w := by
  obtain ⟨g, tb, ob, ow, h3, h4⟩ := h
  exact usedP o p n g tb ob ow st w h3
/-- A row, plain or marked as bytes of a text: its first cells. -/
def Rw (w : World) (t : TypeId) (v : Value) (xs : List Value) : Prop :=
  (v = .slice none 0 0 ∧ xs = []) ∨ ∃ g cap cur mk, v = .slice (some ⟨g, 0, none⟩) xs.length cap ∧ w.heap[g]? = some (.cells cur t mk) ∧ (mk = (0, 0) ∨ mk = (cap, cap + 1)) ∧ cur.size = cap ∧ xs.length ≤ cap ∧ cap ≤ maxLen ∧ cur.toList.take xs.length = xs
theorem rw_bytes (w : World) (d : ByteArray) (hd : d.size ≤ maxLen) : Rw (Lib.bytesWorld w 5 d) 5 (.slice (some ⟨w.heap.size, 0, none⟩) d.size (grownCap w d.size 0 5)) (cells8 (bts d)) := by
  have hz : w.drew.heap = w.heap := rfl
  have hcap := grownCap_ge w d.size 0 5
  have hsz : (Lib.bytesCells w 5 d).size = grownCap w d.size 0 5 := by
    unfold Lib.bytesCells
    simp
    omega
  have hl : (cells8 (bts d)).length = d.size := by rw [cells8_length, bts_length]
  refine .inr ⟨w.heap.size, grownCap w d.size 0 5, Lib.bytesCells w 5 d, (grownCap w d.size 0 5, grownCap w d.size 0 5 + 1), by rw [hl], ?_, .inr rfl, hsz, by rw [hl]; exact hcap, grownCap_le_maxLen w _ _ _ hd, ?_⟩
  · unfold Lib.bytesWorld World.freeze
    rw [if_neg (by omega)]
    simp [World.alloc, hz, Array.getElem_modify, hsz]
  · rw [hl]
    unfold Lib.bytesCells cells8 bts
    rw [Array.toList_append, List.take_append_of_le_length (by simp), List.take_of_length_le (by simp)]
    simp
theorem get_someX (k : Int) (o d : ByteArray) (p n g tb ob : Nat) (ow : ByteArray → Option Nat) (st : Sx) (w : World) (h : Pl w p n g tb ob ow st) (hk : al (tkL st n) k = some (leV o d)) (hd : d.size ≤ maxLen) : Calls Tryd.prog 41 #[.pointer (some ⟨p, 0, none⟩), .int .i64 k] w fun e w' => ∃ ga c, e = .returned (.tuple #[.slice (some ⟨ga, 0, none⟩) d.size c, .int .i64 0]) ∧ w.heap.size ≤ ga ∧ Sl w' (some ⟨ga, 0, none⟩) d.size (bts d) ∧ Below w.heap.size w w' ∧ Rw w' 5 (.slice (some ⟨ga, 0, none⟩) d.size c) (cells8 (bts d)) := by
  obtain ⟨c0, c1, c2, c3⟩ := h.cells
  have l1 := h.lookT k
  rw [hk] at l1
  simp only [Option.getD_some, Option.isSome_some, leV] at l1
  have hcv := fun (w : World) => Lib.run_convert_string_bytes (P := Tryd.prog) w 9 70 5 d Tryd.underlying9 Tryd.underlying70 Tryd.underlying5
  have hs := fun (w : World) => sl_bytes w d
  have hbw := fun (w : World) => Go.Joins.below_bytesWorld w.heap.size w 5 d (Nat.le_refl _)
  have HS := hidden hs
  have HBW := hidden hbw
  have HD := hidden hd
  clear h hk c0 c1 c3 hs hbw hd
  go_enter Tryd.func41, Tryd.ntmps41
  go_wp2_with fail
  go_ret2
  have hs9 := HS.out (w.alloc (Obj.cells #[.string o, .string d] 93))
  have hr9 := rw_bytes (w.alloc (Obj.cells #[.string o, .string d] 93)) d HD.out
  rw [World.size_alloc] at hs9 hr9
  refine ⟨_, _, rfl, ?_, hs9, ?_, hr9⟩
  · simp
  · exact ((Below.refl _ _).alloc (Nat.le_refl _) _).trans ((HBW.out _).mono (by simp))
/-- Get tells nothing, or a new row. -/
theorem getX (k : Int) (F : Nat → Prop) (p n : Nat) (st : Sx) (w : World) (h : PQ F w p n st) (hd : ∀ i o d, st i = some (o, d) → d.size ≤ 128) :
    Calls Tryd.prog 41 #[.pointer (some ⟨p, 0, none⟩), .int .i64 k] w fun e w' => Below w.heap.size w w' ∧ ((atS st n k = none ∧ e = .returned (.tuple #[.slice none 0 0, .int .i64 111])) ∨
      ∃ i o d ga c, atS st n k = some (i, o, d) ∧ e = .returned (.tuple #[.slice (some ⟨ga, 0, none⟩) d.size c, .int .i64 0]) ∧ w.heap.size ≤ ga ∧ Sl w' (some ⟨ga, 0, none⟩) d.size (bts d) ∧ Rw w' 5 (.slice (some ⟨ga, 0, none⟩) d.size c) (cells8 (bts d))) := by
  obtain ⟨g, tb, ob, ow, h3, h4⟩ := h
  rcases atS_cases st n k with ⟨e1, e2⟩ | ⟨i, o, d, e1, rfl, hi, hst, e2⟩
  · exact (get_none k p n g tb ob ow st w h3 e2).mono fun e w' ⟨e3, b⟩ => ⟨b, .inl ⟨e1, e3⟩⟩
  · exact (get_someX _ o d p n g tb ob ow st w h3 e2 (by have := hd i o d hst; unfold maxLen; omega)).mono fun e w' ⟨ga, c, e3, z, s, b, t⟩ => ⟨b, .inr ⟨i, o, d, ga, c, e1, e3, z, s, t⟩⟩

end Go.Proofs.YtlppibigceeimaaDoor.K

/-
  Package series: its takers: rise; bytesIn.
-/
namespace Go.Proofs.YtlppibigceeimaaDoor
open Go.RowKit
set_option linter.unusedVariables false
set_option linter.unusedSimpArgs false

/-- What rise holds. -/
def riC (s : Sm) (g : Bool) : List Value := [.int .i64 s.t, .int .u64 (s.v : Int), .bool g]
set_option maxHeartbeats 1000000 in
theorem riseNo (b : Nat) (s x : Sm) (w : World) (hB : Blk w b 75 (riC s true)) (hx : x.t ≤ s.t) :
    Calls Tryd.prog 29 #[.pointer (some ⟨b, 0, none⟩), .agg #[.int .i64 x.t, .int .u64 (x.v : Int)]] w fun e w' => e = .returned (.bool false) ∧ Below w.heap.size w w' := by
  have c0 : ∀ o, (w.alloc o).cell? ⟨b, 0, none⟩ = some (.int .i64 s.t) := fun o => (hB.alloc o).cell 0
  have c2 : ∀ o, (w.alloc o).cell? ⟨b, 2, none⟩ = some (.bool true) := fun o => (hB.alloc o).cell 2
  have hd : decide (x.t ≤ s.t) = true := by simpa using hx
  clear hB
  go_enter Tryd.func29, Tryd.ntmps29
  go_wp2_with fail
  go_quiet (fail)
  go_wp2_with fail
  go_ret
  exact ⟨rfl, below_drewN ((Below.refl _ _).alloc (Nat.le_refl _) _) _⟩
set_option maxHeartbeats 1000000 in
theorem riseYes (b : Nat) (s x : Sm) (g : Bool) (w : World) (hB : Blk w b 75 (riC s g)) (hx : g = true → s.t < x.t) :
    Calls Tryd.prog 29 #[.pointer (some ⟨b, 0, none⟩), .agg #[.int .i64 x.t, .int .u64 (x.v : Int)]] w fun e w' => e = .returned (.bool true) ∧ Blk w' b 75 (riC x true) ∧ Chg (fun i => i = b) w w' := by
  have c0 : ∀ o, (w.alloc o).cell? ⟨b, 0, none⟩ = some (.int .i64 s.t) := fun o => (hB.alloc o).cell 0
  have c1 : ∀ o, (w.alloc o).cell? ⟨b, 1, none⟩ = some (.int .u64 (s.v : Int)) := fun o => (hB.alloc o).cell 1
  have c2 : ∀ o, (w.alloc o).cell? ⟨b, 2, none⟩ = some (.bool g) := fun o => (hB.alloc o).cell 2
  have f0 : ∀ o j, (w.alloc o).frozen? ⟨b, j, none⟩ = false := fun o j => (hB.alloc o).frozen j
  have hlt := hB.lt
  have HB := hidden hB
  clear hB
  cases g with
  | false =>
    clear hx
    go_enter Tryd.func29, Tryd.ntmps29
    go_wp2_with fail
    go_quiet (fail)
    go_wp2_with fail
    go_ret
    refine ⟨rfl, ((((HB.out.alloc _).drewN _).set 0 _).set 1 _).set 2 _, ?_⟩
    exact (((Chg.alloc (fun i => i = b) w _).trans (Chg.drewN (fun i => i = b) _ _) (fun _ _ e => e)).trans (Chg.set ⟨b, 0, none⟩ _ _) (fun _ _ e => e)).trans ((Chg.set ⟨b, 1, none⟩ _ _).trans (Chg.set ⟨b, 2, none⟩ _ _) (fun _ _ e => e)) (fun _ _ e => e)
  | true =>
    have hd : decide (x.t ≤ s.t) = false := by have := hx rfl; simp; omega
    clear hx
    go_enter Tryd.func29, Tryd.ntmps29
    go_wp2_with fail
    go_quiet (fail)
    go_wp2_with fail
    go_ret
    refine ⟨rfl, ((((HB.out.alloc _).drewN _).set 0 _).set 1 _).set 2 _, ?_⟩
    exact (((Chg.alloc (fun i => i = b) w _).trans (Chg.drewN (fun i => i = b) _ _) (fun _ _ e => e)).trans (Chg.set ⟨b, 0, none⟩ _ _) (fun _ _ e => e)).trans ((Chg.set ⟨b, 1, none⟩ _ _).trans (Chg.set ⟨b, 2, none⟩ _ _) (fun _ _ e => e)) (fun _ _ e => e)

set_option maxHeartbeats 1000000 in
/-- bytesIn: what lies in a slot, or none. -/
theorem bytesInP (S : Nat) (V : Value) (k : Int) (F : Nat → Prop) (p n : Nat) (st : K.Sx) (w : World) (hS : Blk w S 58 [.pointer (some ⟨p, 0, none⟩), V]) (h : K.PQ F w p n st) (hd : ∀ i o d, st i = some (o, d) → d.size ≤ 128) :
    Calls Tryd.prog 26 #[.pointer (some ⟨S, 0, none⟩), .int .i64 k] w fun e w' => Below w.heap.size w w' ∧ ((K.atS st n k = none ∧ e = .returned (.slice none 0 0)) ∨ ∃ i o d ga c, K.atS st n k = some (i, o, d) ∧ e = .returned (.slice (some ⟨ga, 0, none⟩) d.size c) ∧ w.heap.size ≤ ga ∧ Sl w' (some ⟨ga, 0, none⟩) d.size (K.bts d) ∧ d.size ≤ c ∧ c ≤ 9223372036854775807) := by
  have c0 : w.cell? ⟨S, 0, none⟩ = some (.pointer (some ⟨p, 0, none⟩)) := hS.cell 0
  have HQ := hidden (K.getX k F p n st w h hd)
  clear hS h
  go_enter Tryd.func26, Tryd.ntmps26
  go_wp2_with fail
  refine HQ.out.mono ?_
  clear HQ
  rintro e w1 ⟨b1, h1⟩
  have B1 := hidden b1
  clear b1
  rcases h1 with ⟨h1, rfl⟩ | ⟨i, o, d, ga, c, h1, rfl, h2, h3, h4⟩
  · have H1 := hidden h1
    clear h1
    go_wp2_with fail
    go_ret
    exact ⟨B1.out, .inl ⟨H1.out, rfl⟩⟩
  · have H1 := hidden (And.intro h1 (And.intro h2 (And.intro h3 h4)))
    clear h1 h2 h3 h4
    obtain ⟨m, hm⟩ : ∃ m, d.size = m := ⟨_, rfl⟩
    have HM := hidden hm
    rw [hm]
    clear hm
    go_wp2_with fail
    go_ret
    refine ⟨B1.out, .inr ⟨i, o, d, ga, c, H1.out.1, by rw [HM.out]; rfl, H1.out.2.1, H1.out.2.2.1, ?_⟩⟩
    rcases H1.out.2.2.2 with ⟨h0, _⟩ | ⟨g', cap, cur, mk, hv, _, _, _, hl, hm, _⟩
    · cases h0
    · simp only [Value.slice.injEq] at hv
      rw [← hv.2.1, ← hv.2.2] at hl
      rw [← hv.2.2] at hm
      exact ⟨hl, by unfold maxLen at hm; omega⟩

/-- The samples that lie in a slot. -/
def samV (st : K.Sx) (n : Nat) (k : Int) : List Sm := match K.atS st n k with
  | some (_, _, d) => (rdR (K.bts d)).getD []
  | none => []
def SamP (l : List Sm) (w : World) (e : Ending) (w' : World) : Prop := ∃ ad c, e = .returned (.slice ad l.length c) ∧ w'.ownsRow w.heap.size 35 2 (.slice ad l.length c) l.length (cS l) ∧ (∀ x ∈ l, OkS x) ∧ Below w.heap.size w w'
theorem owns_base35 {w : World} {b b' : Nat} {v : Value} {m : Nat} {xs : List Value} (h : w.ownsRow b 35 2 v m xs) (hb : b' ≤ b) : w.ownsRow b' 35 2 v m xs := by
  refine ⟨h.1, ?_⟩
  rcases h.2 with h0 | ⟨g, cap, cur, h1, h2, h3⟩
  · exact .inl h0
  · exact .inr ⟨g, cap, cur, h1, Nat.le_trans hb h2, h3⟩
set_option maxHeartbeats 1000000 in
theorem samplesInP (S : Nat) (V : Value) (k : Int) (F : Nat → Prop) (p n : Nat) (st : K.Sx) (w : World) (hS : Blk w S 58 [.pointer (some ⟨p, 0, none⟩), V]) (h : K.PQ F w p n st) (hd : ∀ i o d, st i = some (o, d) → d.size ≤ 128) (hG : Gv w) (hlo : 2 ≤ w.heap.size) :
    Calls Tryd.prog 37 #[.pointer (some ⟨S, 0, none⟩), .int .i64 k] w fun e w' => SamP (samV st n k) w e w' := by
  have HQ := hidden (bytesInP S V k F p n st w hS h hd)
  have HG := hidden hG
  have HLO := hidden hlo
  have HD : Hid (∀ i o d, K.atS st n k = some (i, o, d) → d.size ≤ 128) := hidden (fun i o d hA => by
    rcases K.atS_cases st n k with ⟨e1, _⟩ | ⟨i', o', d', e1, _, _, hs, _⟩
    · rw [e1] at hA; cases hA
    · rw [e1] at hA
      simp only [Option.some.injEq, Prod.mk.injEq] at hA
      obtain ⟨_, _, rfl⟩ := hA
      exact hd i' o' d' hs)
  clear hS h hd hG hlo
  go_enter Tryd.func37, Tryd.ntmps37
  go_wp2_with fail
  refine HQ.out.mono ?_
  clear HQ
  rintro e w1 ⟨b1, h1⟩
  have B1 := hidden b1
  clear b1
  rcases h1 with ⟨h1, rfl⟩ | ⟨i, o, d, ga, c, h1, rfl, h2, h3, h4, h5⟩
  · have H1 := hidden h1
    have hq := readP w1 none 0 0 [] (Sl.nil w1 none) (HG.out.later B1.out) (by omega) (by omega) (by omega) (fun _ => ⟨rfl, rfl⟩) (Nat.le_trans HLO.out B1.out.size)
    have HQ := hidden hq
    clear h1 hq
    go_wp2_with fail
    refine HQ.out.mono ?_
    clear HQ
    rintro e w2 ⟨ad2, c2, l, ec, rfl, o2, k2, b2, hh⟩
    obtain rfl : l = [] := by
      rcases hh with ⟨e1, _⟩ | ⟨_, e1, _⟩
      · have : rdR [] = some [] := by unfold rdR; rw [if_pos rfl]
        rw [this] at e1; injection e1 with e1; exact e1.symm
      · exact e1
    have O2 := hidden (And.intro o2 (And.intro k2 b2))
    clear o2 k2 b2 hh
    go_wp2_with fail
    go_ret
    have e9 : samV st n k = [] := by unfold samV; rw [H1.out]
    rw [e9]
    exact ⟨ad2, c2, rfl, owns_base35 O2.out.1 B1.out.size, O2.out.2.1, B1.out.trans (O2.out.2.2.mono B1.out.size)⟩
  · have H1 := hidden h1
    have h128 := HD.out i o d h1
    have hq := readP w1 (some ⟨ga, 0, none⟩) d.size c (K.bts d) h3 (HG.out.later B1.out) (by omega) h4 h5 (fun e => by cases e) (Nat.le_trans HLO.out B1.out.size)
    have HQ := hidden hq
    clear h1 hq h2 h3 h4 h5 h128
    go_wp2_with fail
    refine HQ.out.mono ?_
    clear HQ
    rintro e w2 ⟨ad2, c2, l, ec, rfl, o2, k2, b2, hh⟩
    have e9 : samV st n k = l := by
      unfold samV
      rw [H1.out]
      simp only
      rcases hh with ⟨e1, _⟩ | ⟨e0, e1, _⟩
      · rw [e1]; rfl
      · rw [e0, e1]; rfl
    have E9 := hidden e9
    have O2 := hidden (And.intro o2 (And.intro k2 b2))
    clear o2 k2 b2 hh e9
    go_wp2_with fail
    go_ret
    rw [E9.out]
    exact ⟨ad2, c2, rfl, owns_base35 O2.out.1 B1.out.size, O2.out.2.1, B1.out.trans (O2.out.2.2.mono B1.out.size)⟩

end Go.Proofs.YtlppibigceeimaaDoor
