import Derived.Test.YtanlgplgplncdaaGreatDoorQaA
import Derived.Test.YtanlgplgplncdaaGreatDoorPtI
import Derived.BigQuiet
/-
  The document's reader in memory: place, fail, peek, sign.
-/
namespace Go.Proofs.YtanlgplgplncdaaGreatDoor
open Go.RowKit
set_option linter.unusedVariables false
set_option linter.unusedSimpArgs false

/-- What the reader reads: code points and places, where they lie. -/
structure Rx where
  ra : Option Addr
  rc : Nat
  ac : Nat
  rb : Nat
  ab : Nat
  rl : List Int
  al : List Nat
/-- The reader: where it stands, how many brackets are open, the fault's place. -/
structure Rr (w : World) (g : Nat) (X : Rx) (i d : Nat) (bad : Int) : Prop where
  blk : Blk w g 117 [.slice X.ra X.rl.length X.rc, .slice (some ⟨X.ab, 0, none⟩) X.al.length X.ac, .int .i64 (i : Int), .int .i64 (d : Int), .int .i64 bad]
  rs : ∀ (j : Nat) (c : Int), X.rl[j]? = some c → X.ra = some ⟨X.rb, 0, none⟩ ∧ w.cell? ⟨X.rb, j, none⟩ = some (.int .i32 c)
  asx : ∀ (j a : Nat), X.al[j]? = some a → w.cell? ⟨X.ab, j, none⟩ = some (.int .i64 (a : Int))
  nr : X.rb ≠ g ∧ X.ab ≠ g
  sz : X.rl.length ≤ 1000 ∧ X.al.length ≤ 1001 ∧ i ≤ 1001 ∧ d ≤ 1000
theorem Rr.chg {F : Nat → Prop} {w w' : World} {g : Nat} {X : Rx} {i d : Nat} {bad : Int} (h : Rr w g X i d bad) (hc : Chg F w w') (hg : ¬ F g) (hr : ¬ F X.rb) (ha : ¬ F X.ab) : Rr w' g X i d bad := by
  refine ⟨hc.blk h.blk hg, fun j c hj => ⟨(h.rs j c hj).1, ?_⟩, fun j a hj => ?_, h.nr, h.sz⟩
  · have := (h.rs j c hj).2
    rw [World.cell?_of_block (hc.block _ (cell_lt this) hr)]
    exact this
  · have := h.asx j a hj
    rw [World.cell?_of_block (hc.block _ (cell_lt this) ha)]
    exact this
theorem Rr.later {w w' : World} {g : Nat} {X : Rx} {i d : Nat} {bad : Int} (h : Rr w g X i d bad) (hb : Below w.heap.size w w') : Rr w' g X i d bad :=
  h.chg (Chg.of_below (F := fun _ => False) hb) (fun h => h) (fun h => h) (fun h => h)
theorem Rr.set {w : World} {g : Nat} {X : Rx} {i d : Nat} {bad : Int} (h : Rr w g X i d bad) (k : Nat) (v : Value) {i' d' : Nat} {bad' : Int} (hl : [.slice X.ra X.rl.length X.rc, .slice (some ⟨X.ab, 0, none⟩) X.al.length X.ac, .int .i64 (i : Int), .int .i64 (d : Int), .int .i64 bad].set k v = [.slice X.ra X.rl.length X.rc, .slice (some ⟨X.ab, 0, none⟩) X.al.length X.ac, .int .i64 (i' : Int), .int .i64 (d' : Int), .int .i64 bad']) (hi : i' ≤ 1001 ∧ d' ≤ 1000) :
    Rr (w.setCell ⟨g, k, none⟩ v) g X i' d' bad' := by
  refine ⟨by rw [← hl]; exact h.blk.set k v, fun j c hj => ⟨(h.rs j c hj).1, ?_⟩, fun j a hj => ?_, h.nr, ⟨h.sz.1, h.sz.2.1, hi.1, hi.2⟩⟩
  · have := (h.rs j c hj).2
    rw [World.cell?_of_block ((Chg.set ⟨g, k, none⟩ v w).block _ (cell_lt this) h.nr.1)]
    exact this
  · have := h.asx j a hj
    rw [World.cell?_of_block ((Chg.set ⟨g, k, none⟩ v w).block _ (cell_lt this) h.nr.2)]
    exact this
theorem Rr.setI {w : World} {g : Nat} {X : Rx} {i d : Nat} {bad : Int} (h : Rr w g X i d bad) (j : Nat) (hj : j ≤ 1001) : Rr (w.setCell ⟨g, 2, none⟩ (.int .i64 (j : Int))) g X j d bad := h.set 2 _ rfl ⟨hj, h.sz.2.2.2⟩
theorem Rr.setD {w : World} {g : Nat} {X : Rx} {i d : Nat} {bad : Int} (h : Rr w g X i d bad) (j : Nat) (hj : j ≤ 1000) : Rr (w.setCell ⟨g, 3, none⟩ (.int .i64 (j : Int))) g X i j bad := h.set 3 _ rfl ⟨h.sz.2.2.1, hj⟩
theorem Rr.setB {w : World} {g : Nat} {X : Rx} {i d : Nat} {bad : Int} (h : Rr w g X i d bad) (j : Int) : Rr (w.setCell ⟨g, 4, none⟩ (.int .i64 j)) g X i d j := h.set 4 _ rfl ⟨h.sz.2.2.1, h.sz.2.2.2⟩

set_option maxRecDepth 100000 in
set_option maxHeartbeats 4000000 in
theorem placeR {g : Nat} {X : Rx} {i d : Nat} {bad : Int} (a : Nat) (w : World) (h : Rr w g X i d bad) (ha : X.al[i]? = some a) :
    Calls Tryz.prog 62 #[.pointer (some ⟨g, 0, none⟩)] w fun e w' => e = .returned (.int .i64 (a : Int)) ∧ Below w.heap.size w w' := by
  have c1 : w.cell? ⟨g, 1, none⟩ = some (.slice (some ⟨X.ab, 0, none⟩) X.al.length X.ac) := h.blk.cell 1
  have c2 : w.cell? ⟨g, 2, none⟩ = some (.int .i64 (i : Int)) := h.blk.cell 2
  have c3 := h.asx i a ha
  have hl : i < X.al.length := (List.getElem?_eq_some_iff.1 ha).1
  generalize X.al.length = n at c1 hl
  have hlz : (i : Int) < (n : Int) := by omega
  have c3' : w.cell? ⟨X.ab, 0 + i, none⟩ = some (.int .i64 (a : Int)) := by rw [Nat.zero_add]; exact c3
  clear h ha
  go_enter Tryz.func62, Tryz.ntmps62
  go_wp2_with fail
  go_quiet (fail)
  go_wp2
  go_ret
  exact ⟨rfl, below_drewN (Below.refl _ _) _⟩

set_option maxRecDepth 100000 in
set_option maxHeartbeats 4000000 in
theorem failR {g : Nat} {X : Rx} {i d : Nat} {bad : Int} (k : Int) (w : World) (h : Rr w g X i d bad) :
    Calls Tryz.prog 61 #[.pointer (some ⟨g, 0, none⟩), .int .i64 k] w fun e w' => e = .returned (.tuple #[]) ∧ Rr w' g X i d (if bad < 0 then k else bad) ∧ Chg (fun b => b = g) w w' := by
  have c4 : w.cell? ⟨g, 4, none⟩ = some (.int .i64 bad) := h.blk.cell 4
  have f4 := h.blk.frozen 4
  have HH := hidden h
  clear h
  by_cases hb : bad < 0
  · rw [if_pos hb]
    go_enter Tryz.func61, Tryz.ntmps61
    go_wp2
    go_end0
    exact ⟨rfl, HH.out.setB k, Chg.set ⟨g, 4, none⟩ _ _⟩
  · rw [if_neg hb]
    go_enter Tryz.func61, Tryz.ntmps61
    go_wp2
    go_end0
    exact ⟨rfl, HH.out, Chg.refl _ _⟩

/-- What peek tells. -/
def pk (X : Rx) (i : Nat) (bad : Int) : Int := if 0 ≤ bad then -1 else X.rl[i]?.getD (-1)
set_option maxRecDepth 100000 in
set_option maxHeartbeats 4000000 in
theorem peekR {g : Nat} {X : Rx} {i d : Nat} {bad : Int} (w : World) (h : Rr w g X i d bad) (c : Int) (hc : pk X i bad = c) :
    Calls Tryz.prog 79 #[.pointer (some ⟨g, 0, none⟩)] w fun e w' => e = .returned (.int .i32 c) ∧ Below w.heap.size w w' := by
  subst hc
  unfold pk
  have c0 : w.cell? ⟨g, 0, none⟩ = some (.slice X.ra X.rl.length X.rc) := h.blk.cell 0
  have c2 : w.cell? ⟨g, 2, none⟩ = some (.int .i64 (i : Int)) := h.blk.cell 2
  have c4 : w.cell? ⟨g, 4, none⟩ = some (.int .i64 bad) := h.blk.cell 4
  by_cases hb : 0 ≤ bad
  · rw [if_pos hb]
    have hd : decide (0 ≤ bad) = true := decide_eq_true hb
    clear h c0 c2
    go_enter Tryz.func79, Tryz.ntmps79
    go_wp2_with fail
    go_quiet (fail)
    go_wp2
    go_ret
    exact ⟨rfl, below_drewN (Below.refl _ _) _⟩
  · rw [if_neg hb]
    have hd : decide (0 ≤ bad) = false := decide_eq_false hb
    obtain ⟨n, hn⟩ : ∃ n, X.rl.length = n := ⟨_, rfl⟩
    rw [hn] at c0
    by_cases hi : i < n
    · have hiz : ¬ (n : Int) ≤ (i : Int) := by omega
      have hiy : (i : Int) < (n : Int) := by omega
      have hdz : decide (n ≤ i) = false := decide_eq_false (by omega)
      obtain ⟨c, hc⟩ : ∃ c, X.rl[i]? = some c := ⟨_, List.getElem?_eq_getElem (by omega)⟩
      obtain ⟨e0, c3⟩ := h.rs i c hc
      rw [e0] at c0
      have c3' : w.cell? ⟨X.rb, 0 + i, none⟩ = some (.int .i32 c) := by rw [Nat.zero_add]; exact c3
      rw [hc, Option.getD_some]
      clear h hn hc e0
      go_enter Tryz.func79, Tryz.ntmps79
      go_wp2_with fail
      go_quiet (fail)
      rename_i nq
      have HB : Hid (Below w.heap.size w (w.drewN nq)) := hidden (below_drewN (Below.refl _ _) _)
      have c0' : (w.drewN nq).cell? ⟨g, 0, none⟩ = _ := c0
      have c2' : (w.drewN nq).cell? ⟨g, 2, none⟩ = _ := c2
      have c4' : (w.drewN nq).cell? ⟨X.rb, 0 + i, none⟩ = _ := c3'
      have c5' : (w.drewN nq).cell? ⟨X.rb, i, none⟩ = _ := c3
      generalize w.drewN nq = w1 at *
      go_wp2_with fail
      go_quiet (fail)
      go_wp2
      go_ret
      exact ⟨rfl, below_drewN HB.out _⟩
    · have hiz : (n : Int) ≤ (i : Int) := by omega
      have hdz : decide (n ≤ i) = true := decide_eq_true (by omega)
      rw [List.getElem?_eq_none (by omega), Option.getD_none]
      clear h hn
      go_enter Tryz.func79, Tryz.ntmps79
      go_wp2_with fail
      go_quiet (fail)
      go_wp2
      go_ret
      exact ⟨rfl, below_drewN (Below.refl _ _) _⟩

def sgL : List UInt8 := [92, 46, 91, 93, 40, 41, 124, 42, 43, 63, 94, 45]
/-- Is a code point (or -1, -2) a sign? -/
def sgZ (c : Int) : Bool := sgL.any (fun x => (x.toNat : Int) == c)
theorem sgZ_nat (c : Nat) : sgZ (c : Int) = isSg c := by
  unfold sgZ sgL isSg
  simp only [List.any_cons, List.any_nil, Bool.or_false, Bool.or_assoc]
  have key : ∀ n : Nat, ((n : Int) == (c : Int)) = (c == n) := fun n => by
    rw [Bool.eq_iff_iff]; simp; omega
  simp only [key]
  rfl
theorem sgZ_neg {c : Int} (h : c = -1 ∨ c = -2) : sgZ c = false := by
  rcases h with rfl | rfl <;> decide

set_option maxRecDepth 100000 in
set_option maxHeartbeats 4000000 in
theorem signR (c : Int) (w : World) (R : Bool) (hR : sgZ c = R) : Calls Tryz.prog 116 #[.int .i32 c] w fun e w' => e = .returned (.bool R) ∧ Below w.heap.size w w' := by
  obtain ⟨s, hs⟩ : ∃ s : ByteArray, s = { data := #[92, 46, 91, 93, 40, 41, 124, 42, 43, 63, 94, 45] } := ⟨_, rfl⟩
  have hb : bts s = sgL := by rw [hs]; rfl
  have hz : s.size = 12 := by rw [hs]; rfl
  have HR : Hid ((sgL.drop 0).any (fun x => (x.toNat : Int) == c) = R) := hidden hR
  clear hR
  go_enter Tryz.func116, Tryz.ntmps116
  go_wp2_with fail
  rw [← hs]
  have HB := hidden hb
  have HZ := hidden hz
  clear hs hb
  go_loopw [4] (fun s4 wx => ∃ i : Nat, s4 = .int .i64 (i : Int) ∧ i ≤ 12 ∧ Hid ((sgL.drop i).any (fun x => (x.toNat : Int) == c) = R) ∧ wx = w) (fun s4 _ => 12 - (intOf s4).toNat)
  case atStart => exact ⟨0, rfl, by omega, HR, rfl⟩
  case round =>
    rename World => wr
    obtain ⟨i, rfl, hi, hrel, rfl⟩ := hrel
    by_cases hlt : i < 12
    · have hls : i < s.size := by omega
      have hltz : (i : Int) < (s.size : Int) := by omega
      obtain ⟨x, hx, hx2⟩ := byte_at s hls
      have hd : Hid (sgL.drop i = x :: sgL.drop (i + 1)) := hidden (by
        rw [HB.out] at hx2
        obtain ⟨hl, e⟩ := List.getElem?_eq_some_iff.1 hx2
        rw [← e]; exact List.drop_eq_getElem_cons hl)
      have hx8 := x.toNat_lt
      clear hx2
      by_cases hc : (x.toNat : Int) = c
      · have hE : Hid (R = true) := hidden (by rw [← hrel.out, hd.out, List.any_cons]; simp [hc])
        clear hrel hd
        go_wp2
        go_ret
        exact ⟨by rw [hE.out]; rfl, Below.refl _ _⟩
      · have hE : Hid ((sgL.drop (i + 1)).any (fun x => (x.toNat : Int) == c) = R) := hidden (by rw [← hrel.out, hd.out, List.any_cons]; simp [hc])
        clear hrel hd
        go_wp2
        refine ⟨⟨i + 1, by first | rfl | simp, by omega, hE, by first | rfl | trivial⟩, ?_⟩
        simp [intOf]
        omega
    · have hltz : ¬ (i : Int) < (s.size : Int) := by omega
      have hE : Hid (R = false) := hidden (by rw [← hrel.out, List.drop_of_length_le (by simp [sgL]; omega)]; rfl)
      clear hrel
      go_wp2
      go_ret
      exact ⟨by rw [hE.out]; rfl, Below.refl _ _⟩

end Go.Proofs.YtanlgplgplncdaaGreatDoor

/-
  The document's reader: a character.
-/
namespace Go.Proofs.YtanlgplgplncdaaGreatDoor
open Go.RowKit
set_option linter.unusedVariables false
set_option linter.unusedSimpArgs false

/-- The reader stands at a place. -/
def At (X : Rx) (S : List UInt8) (i a : Nat) : Prop := Rn S a (X.rl.drop i) (X.al.drop i)
theorem At.al {X : Rx} {S : List UInt8} {i a : Nat} (h : At X S i a) : X.al[i]? = some a := by
  have := h.len.2.1
  rw [List.getElem?_drop] at this
  simpa using this
theorem At.lt {X : Rx} {S : List UInt8} {i a : Nat} (h : At X S i a) : i < X.al.length := (List.getElem?_eq_some_iff.1 h.al).1
theorem At.pk {X : Rx} {S : List UInt8} {i a : Nat} (h : At X S i a) : pk X i (-1) = hd (X.rl.drop i) := by
  unfold Go.Proofs.YtanlgplgplncdaaGreatDoor.pk hd
  rw [if_neg (by omega), List.head?_drop]
theorem At.pk_eq {X : Rx} {S : List UInt8} {i a : Nat} (h : At X S i a) (x : UInt8) (hx : x.toNat < 128) : Go.Proofs.YtanlgplgplncdaaGreatDoor.pk X i (-1) = (x.toNat : Int) ↔ S[a]? = some x := by
  rw [h.pk]; exact Rn.hd_eq h x hx
theorem At.next {X : Rx} {S : List UInt8} {i a : Nat} (h : At X S i a) (x : UInt8) (hx : x.toNat < 128) (e : S[a]? = some x) : At X S (i + 1) (a + 1) := by
  have := Rn.next h x hx e
  rw [List.drop_drop, List.drop_drop] at this
  exact this
theorem At.fp {X : Rx} {S : List UInt8} {i a : Nat} (h : At X S i a) : (∃ c k, Go.Proofs.YtanlgplgplncdaaGreatDoor.fp (S.drop a) = some (c, k) ∧ Go.Proofs.YtanlgplgplncdaaGreatDoor.pk X i (-1) = (c : Int) ∧ Vc c ∧ At X S (i + 1) (a + k)) ∨ (Go.Proofs.YtanlgplgplncdaaGreatDoor.fp (S.drop a) = none ∧ (Go.Proofs.YtanlgplgplncdaaGreatDoor.pk X i (-1) = -1 ∨ Go.Proofs.YtanlgplgplncdaaGreatDoor.pk X i (-1) = -2)) := by
  rw [h.pk]
  rcases Rn.fp h with ⟨c, k, h1, h2, h3, h4⟩ | h1
  · rw [List.drop_drop, List.drop_drop] at h4
    exact .inl ⟨c, k, h1, h2, h3, h4⟩
  · exact .inr h1

/-- What character leaves. -/
def CharP (X : Rx) (S : List UInt8) (i d g : Nat) (w : World) (R : Pr Nat) (e : Ending) (w' : World) : Prop :=
  Chg (fun b => b = g) w w' ∧ ((∃ c b j, R = .ok c b ∧ e = .returned (.int .i32 (c : Int)) ∧ Rr w' g X j d (-1) ∧ At X S j b ∧ Vc c ∧ i < j) ∨ (∃ k j : Nat, R = .bad k ∧ e = .returned (.int .i32 0) ∧ Rr w' g X j d (k : Int) ∧ j < X.al.length))

theorem Chg.bel {F : Nat → Prop} {a b c : World} (h : Chg F a b) (hb : Below b.heap.size b c) : Chg F a c := h.trans (Chg.of_below (F := fun _ => False) hb) (fun _ _ h => h.elim)
theorem Chg.put {g : Nat} {a b : World} (h : Chg (fun x => x = g) a b) (k : Nat) (v : Value) : Chg (fun x => x = g) a (b.setCell ⟨g, k, none⟩ v) := h.trans (Chg.set ⟨g, k, none⟩ v b) (fun _ _ h => h)
theorem Chg.seq {F : Nat → Prop} {a b c : World} (h : Chg F a b) (k : Chg F b c) : Chg F a c := h.trans k (fun _ _ h => h)

set_option maxRecDepth 100000 in
set_option maxHeartbeats 8000000 in
theorem charR {g : Nat} {X : Rx} {S : List UInt8} {i d a : Nat} (w : World) (h : Rr w g X i d (-1)) (hA : At X S i a) :
    Calls Tryz.prog 104 #[.pointer (some ⟨g, 0, none⟩)] w (CharP X S i d g w (charF S a)) := by
  have hi := h.sz.2.2.1
  have hal := hA.lt
  have hal2 := h.sz.2.1
  have HA := hidden hA
  have HH := hidden h
  obtain ⟨R, hR⟩ : ∃ R, charF S a = R := ⟨_, rfl⟩
  rw [hR]
  have HR := hidden hR
  clear hR
  have HPL : Hid (∀ wx j b, Rr wx g X j d (-1) → At X S j b → Calls Tryz.prog 62 #[.pointer (some ⟨g, 0, none⟩)] wx fun e w' => e = .returned (.int .i64 (b : Int)) ∧ Below wx.heap.size wx w') := hidden (fun wx j b hx hj => placeR b wx hx hj.al)
  have HFA : Hid (∀ wx j (b : Nat), Rr wx g X j d (-1) → Calls Tryz.prog 61 #[.pointer (some ⟨g, 0, none⟩), .int .i64 (b : Int)] wx fun e w' => e = .returned (.tuple #[]) ∧ Rr w' g X j d (b : Int) ∧ Chg (fun b => b = g) wx w') := hidden (fun wx j b hx => failR (b : Int) wx hx)
  by_cases hesc : S[a]? = some 92
  · have hpk : pk X i (-1) = 92 := (hA.pk_eq 92 (by decide)).2 hesc
    have k1 := peekR w h 92 hpk
    have hA2 := hA.next 92 (by decide) hesc
    have HS2 : Hid (∀ wx, Below w.heap.size w wx → Rr (wx.setCell ⟨g, 2, none⟩ (.int .i64 ((i : Int) + 1))) g X (i + 1) d (-1)) := hidden (fun wx hb => (HH.out.later hb).setI (i + 1) (by omega))
    have HC2 : Hid (∀ wx, Below w.heap.size w wx → wx.cell? ⟨g, 2, none⟩ = some (.int .i64 (i : Int)) ∧ wx.frozen? ⟨g, 2, none⟩ = false) := hidden (fun wx hb => ⟨(HH.out.later hb).blk.cell 2, (HH.out.later hb).blk.frozen 2⟩)
    have HA2 := hidden hA2
    have hal3 := hA2.lt
    rcases hA2.fp with ⟨c, k, h1, h2, h3, h4⟩ | ⟨h1, h2⟩
    · have HRR : Hid (R = if isSg c = true then .ok c (a + 1 + k) else .bad (a + 1)) := hidden (by rw [← HR.out]; unfold charF; simp only [hesc, decide_true, if_true]; rw [h1])
      have HK2 : Hid (∀ wx, Rr wx g X (i + 1) d (-1) → Calls Tryz.prog 79 #[.pointer (some ⟨g, 0, none⟩)] wx fun e w' => e = .returned (.int .i32 (c : Int)) ∧ Below wx.heap.size wx w') := hidden (fun wx hx => peekR wx hx c h2)
      have HSG := hidden (fun wx => signR (c : Int) wx (isSg c) (sgZ_nat c))
      have HV := hidden h3
      have H4 := hidden h4
      have hal4 := h4.lt
      have hcz : c ≤ 1114111 := by unfold Vc at h3; omega
      clear h h1 h2 h3 h4 hA2 hpk hA
      cases hsg : isSg c with
      | true =>
        have HE : Hid (R = .ok c (a + 1 + k)) := hidden (by rw [HRR.out, hsg]; rfl)
        rw [hsg] at HSG
        clear hsg HRR
        go_enter Tryz.func104, Tryz.ntmps104
        go_wp2_with (first
          | (go_at_call 79; refine k1.mono ?_; rintro e w1 ⟨rfl, g1⟩; have C1 := hidden ((Chg.of_below (F := fun x => x = g) g1).put 2 (.int .i64 ((i : Int) + 1))); obtain ⟨c2, f2⟩ := HC2.out _ g1; have R2 := hidden (HS2.out _ g1); have k2 := HK2.out _ R2.out; clear k1 g1)
          | (go_at_call 79; refine k2.mono ?_; rintro e w2 ⟨rfl, g2⟩; have R3 := hidden (R2.out.later g2); have C2 := hidden (C1.out.bel g2); have k3 := HSG.out w2; clear k2 g2 c2 f2)
          | (go_at_call 116; refine k3.mono ?_; rintro e w3 ⟨rfl, g3⟩; have R4 := hidden (R3.out.later g3); have C3 := hidden (C2.out.bel g3); have c2 : w3.cell? ⟨g, 2, none⟩ = some (.int .i64 ((i + 1 : Nat) : Int)) := R4.out.blk.cell 2; have f2 := R4.out.blk.frozen 2; clear k3 g3))
        go_ret
        exact ⟨C3.out.put 2 _, .inl ⟨c, a + 1 + k, i + 1 + 1, HE.out, rfl, R4.out.setI (i + 1 + 1) (by omega), H4.out, HV.out, by omega⟩⟩
      | false =>
        have HE : Hid (R = .bad (a + 1)) := hidden (by rw [HRR.out, hsg]; rfl)
        rw [hsg] at HSG
        clear hsg HRR
        go_enter Tryz.func104, Tryz.ntmps104
        go_wp2_with (first
          | (go_at_call 79; refine k1.mono ?_; rintro e w1 ⟨rfl, g1⟩; have C1 := hidden ((Chg.of_below (F := fun x => x = g) g1).put 2 (.int .i64 ((i : Int) + 1))); obtain ⟨c2, f2⟩ := HC2.out _ g1; have R2 := hidden (HS2.out _ g1); have k2 := HK2.out _ R2.out; clear k1 g1)
          | (go_at_call 79; refine k2.mono ?_; rintro e w2 ⟨rfl, g2⟩; have R3 := hidden (R2.out.later g2); have C2 := hidden (C1.out.bel g2); have k3 := HSG.out w2; clear k2 g2 c2 f2)
          | (go_at_call 116; refine k3.mono ?_; rintro e w3 ⟨rfl, g3⟩; have R4 := hidden (R3.out.later g3); have C3 := hidden (C2.out.bel g3); have k4 := HPL.out w3 (i + 1) (a + 1) R4.out HA2.out; clear k3 g3)
          | (go_at_call 62; refine k4.mono ?_; rintro e w4 ⟨rfl, g4⟩; have R5 := hidden (R4.out.later g4); have C4 := hidden (C3.out.bel g4); have k5 := HFA.out w4 (i + 1) (a + 1) R5.out; clear k4 g4)
          | (go_at_call 61; refine k5.mono ?_; rintro e w5 ⟨rfl, g5, d5⟩; have R6 := hidden g5; have C5 := hidden (C4.out.seq d5); clear k5 g5 d5))
        go_ret
        exact ⟨C5.out, .inr ⟨a + 1, i + 1, HE.out, rfl, R6.out, hal3⟩⟩
    · obtain ⟨c, hc⟩ : ∃ c, pk X (i + 1) (-1) = c := ⟨_, rfl⟩
      rw [hc] at h2
      have HE : Hid (R = .bad (a + 1)) := hidden (by rw [← HR.out]; unfold charF; simp only [hesc, decide_true, if_true]; rw [h1])
      have HK2 : Hid (∀ wx, Rr wx g X (i + 1) d (-1) → Calls Tryz.prog 79 #[.pointer (some ⟨g, 0, none⟩)] wx fun e w' => e = .returned (.int .i32 c) ∧ Below wx.heap.size wx w') := hidden (fun wx hx => peekR wx hx c hc)
      have HSG := hidden (fun wx => signR c wx false (sgZ_neg h2))
      clear h h1 h2 hc hA2 hpk hA
      go_enter Tryz.func104, Tryz.ntmps104
      go_wp2_with (first
        | (go_at_call 79; refine k1.mono ?_; rintro e w1 ⟨rfl, g1⟩; have C1 := hidden ((Chg.of_below (F := fun x => x = g) g1).put 2 (.int .i64 ((i : Int) + 1))); obtain ⟨c2, f2⟩ := HC2.out _ g1; have R2 := hidden (HS2.out _ g1); have k2 := HK2.out _ R2.out; clear k1 g1)
        | (go_at_call 79; refine k2.mono ?_; rintro e w2 ⟨rfl, g2⟩; have R3 := hidden (R2.out.later g2); have C2 := hidden (C1.out.bel g2); have k3 := HSG.out w2; clear k2 g2 c2 f2)
        | (go_at_call 116; refine k3.mono ?_; rintro e w3 ⟨rfl, g3⟩; have R4 := hidden (R3.out.later g3); have C3 := hidden (C2.out.bel g3); have k4 := HPL.out w3 (i + 1) (a + 1) R4.out HA2.out; clear k3 g3)
        | (go_at_call 62; refine k4.mono ?_; rintro e w4 ⟨rfl, g4⟩; have R5 := hidden (R4.out.later g4); have C4 := hidden (C3.out.bel g4); have k5 := HFA.out w4 (i + 1) (a + 1) R5.out; clear k4 g4)
        | (go_at_call 61; refine k5.mono ?_; rintro e w5 ⟨rfl, g5, d5⟩; have R6 := hidden g5; have C5 := hidden (C4.out.seq d5); clear k5 g5 d5))
      go_ret
      exact ⟨C5.out, .inr ⟨a + 1, i + 1, HE.out, rfl, R6.out, hal3⟩⟩
  · have hpk : ¬ pk X i (-1) = 92 := fun e => hesc ((hA.pk_eq 92 (by decide)).1 e)
    rcases hA.fp with ⟨c, k, h1, h2, h3, h4⟩ | ⟨h1, h2⟩
    · have HRR : Hid (R = if isSg c = false then .ok c (a + k) else .bad a) := hidden (by rw [← HR.out]; unfold charF; simp only [hesc, decide_false, Bool.false_eq_true, if_false]; rw [h1])
      have k1 := peekR w h c h2
      have HSG := hidden (fun wx => signR (c : Int) wx (isSg c) (sgZ_nat c))
      have HV := hidden h3
      have H4 := hidden h4
      have hal4 := h4.lt
      have hcz : c ≤ 1114111 := by unfold Vc at h3; omega
      have hc92 : ¬ (c : Int) = 92 := by rw [h2] at hpk; exact hpk
      have hc0 : ¬ (c : Int) < 0 := by omega
      clear h h1 h2 h3 h4 hpk hA
      cases hsg : isSg c with
      | false =>
        have HE : Hid (R = .ok c (a + k)) := hidden (by rw [HRR.out, hsg]; rfl)
        rw [hsg] at HSG
        clear hsg HRR
        go_enter Tryz.func104, Tryz.ntmps104
        go_wp2_with (first
          | (go_at_call 79; refine k1.mono ?_; rintro e w1 ⟨rfl, g1⟩; have C1 := hidden (Chg.of_below (F := fun x => x = g) g1); have R2 := hidden (HH.out.later g1); have k3 := HSG.out w1; clear k1 g1)
          | (go_at_call 116; refine k3.mono ?_; rintro e w3 ⟨rfl, g3⟩; have R4 := hidden (R2.out.later g3); have C3 := hidden (C1.out.bel g3); have c2 : w3.cell? ⟨g, 2, none⟩ = some (.int .i64 (i : Int)) := R4.out.blk.cell 2; have f2 := R4.out.blk.frozen 2; clear k3 g3))
        go_ret
        exact ⟨C3.out.put 2 _, .inl ⟨c, a + k, i + 1, HE.out, rfl, R4.out.setI (i + 1) (by omega), H4.out, HV.out, by omega⟩⟩
      | true =>
        have HE : Hid (R = .bad a) := hidden (by rw [HRR.out, hsg]; rfl)
        rw [hsg] at HSG
        clear hsg HRR
        go_enter Tryz.func104, Tryz.ntmps104
        go_wp2_with (first
          | (go_at_call 79; refine k1.mono ?_; rintro e w1 ⟨rfl, g1⟩; have C1 := hidden (Chg.of_below (F := fun x => x = g) g1); have R2 := hidden (HH.out.later g1); have k3 := HSG.out w1; clear k1 g1)
          | (go_at_call 116; refine k3.mono ?_; rintro e w3 ⟨rfl, g3⟩; have R4 := hidden (R2.out.later g3); have C3 := hidden (C1.out.bel g3); have k4 := HPL.out w3 i a R4.out HA.out; clear k3 g3)
          | (go_at_call 62; refine k4.mono ?_; rintro e w4 ⟨rfl, g4⟩; have R5 := hidden (R4.out.later g4); have C4 := hidden (C3.out.bel g4); have k5 := HFA.out w4 i a R5.out; clear k4 g4)
          | (go_at_call 61; refine k5.mono ?_; rintro e w5 ⟨rfl, g5, d5⟩; have R6 := hidden g5; have C5 := hidden (C4.out.seq d5); clear k5 g5 d5))
        go_ret
        exact ⟨C5.out, .inr ⟨a, i, HE.out, rfl, R6.out, hal⟩⟩
    · obtain ⟨c, hc⟩ : ∃ c, pk X i (-1) = c := ⟨_, rfl⟩
      rw [hc] at h2 hpk
      have HE : Hid (R = .bad a) := hidden (by rw [← HR.out]; unfold charF; simp only [hesc, decide_false, Bool.false_eq_true, if_false]; rw [h1])
      have k1 := peekR w h c hc
      have HSG := hidden (fun wx => signR c wx false (sgZ_neg h2))
      have hc0 : c < 0 := by omega
      clear h h1 h2 hc hA
      go_enter Tryz.func104, Tryz.ntmps104
      go_wp2_with (first
        | (go_at_call 79; refine k1.mono ?_; rintro e w1 ⟨rfl, g1⟩; have C1 := hidden (Chg.of_below (F := fun x => x = g) g1); have R2 := hidden (HH.out.later g1); have k3 := HSG.out w1; clear k1 g1)
        | (go_at_call 116; refine k3.mono ?_; rintro e w3 ⟨rfl, g3⟩; have R4 := hidden (R2.out.later g3); have C3 := hidden (C1.out.bel g3); have k4 := HPL.out w3 i a R4.out HA.out; clear k3 g3)
        | (go_at_call 62; refine k4.mono ?_; rintro e w4 ⟨rfl, g4⟩; have R5 := hidden (R4.out.later g4); have C4 := hidden (C3.out.bel g4); have k5 := HFA.out w4 i a R5.out; clear k4 g4)
        | (go_at_call 61; refine k5.mono ?_; rintro e w5 ⟨rfl, g5, d5⟩; have R6 := hidden g5; have C5 := hidden (C4.out.seq d5); clear k5 g5 d5))
      go_ret
      exact ⟨C5.out, .inr ⟨a, i, HE.out, rfl, R6.out, hal⟩⟩

end Go.Proofs.YtanlgplgplncdaaGreatDoor
