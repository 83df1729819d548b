/-
  What is meant by deeds; what is told of three files.
-/
import Derived.Test.YtgmcfejmhlglkaaKpB
import Derived.Test.YtgmcfejmhlglkaaKpR
namespace Go.Proofs.Ytgmcfejmhlglkaa
open Go.RowKit
set_option linter.unusedVariables false
set_option linter.unusedSimpArgs false

/-- Deeds that came in. -/
def Sd (w : World) (a : Option Addr) (len : Nat) (kd fd nd : Nat → Int) : Prop := 0 < len → ∃ b off, a = some ⟨b, off, none⟩ ∧ b < w.heap.size ∧ ∀ i, i < len → w.cell? ⟨b, off + i * 3, none⟩ = some (.int .i64 (kd i)) ∧ w.cell? ⟨b, off + i * 3 + 1, none⟩ = some (.int .i64 (fd i)) ∧ w.cell? ⟨b, off + i * 3 + 2, none⟩ = some (.int .i64 (nd i)) ∧ (-9223372036854775808 ≤ kd i ∧ kd i ≤ 9223372036854775807) ∧ (-9223372036854775808 ≤ fd i ∧ fd i ≤ 9223372036854775807) ∧ (-9223372036854775808 ≤ nd i ∧ nd i ≤ 9223372036854775807)

def pk (c : Int) (n : Nat) : Nat := ((if c < 0 then -(c + 1) else c) % (n : Int)).toNat
theorem pk_lt (c : Int) (n : Nat) (hn : 0 < n) : pk c n < n := by
  unfold pk
  have := Int.emod_lt_of_pos (if c < 0 then -(c + 1) else c) (by omega : (0 : Int) < (n : Int))
  have := Int.emod_nonneg (if c < 0 then -(c + 1) else c) (by omega : (n : Int) ≠ 0)
  omega
theorem pick_any (c : Int) (n : Nat) (w : World) (hc : -9223372036854775808 ≤ c ∧ c ≤ 9223372036854775807) (hn : 0 < n) (hn2 : n ≤ 1099511627776) : Calls Try.prog 11 #[.int .i64 c, .int .i64 (n : Int)] w fun e w' => e = .returned (.int .i64 (pk c n : Int)) ∧ w' = w := by
  have hpk : pk c n = ((if c < 0 then -(c + 1) else c) % (n : Int)).toNat := rfl
  have hpl := pk_lt c n hn
  obtain ⟨r, hr⟩ : ∃ r, pk c n = r := ⟨_, rfl⟩
  rw [hr] at hpk hpl ⊢
  clear hr
  by_cases h0 : c < 0
  · rw [if_pos h0] at hpk
    obtain ⟨k, hk⟩ : ∃ k : Nat, -(c + 1) = (k : Int) := ⟨(-(c + 1)).toNat, by omega⟩
    rw [hk] at hpk
    have hT : (k : Int).tmod (n : Int) = (r : Int) := by
      have := Int.emod_nonneg (k : Int) (by omega : (n : Int) ≠ 0)
      rw [Int.tmod_eq_emod_of_nonneg (by omega)]
      omega
    clear hpk
    go_enter Try.func11, Try.ntmps11
    go_wp2_with fail
    go_ret
    exact ⟨rfl, rfl⟩
  · rw [if_neg h0] at hpk
    obtain ⟨k, rfl⟩ : ∃ k : Nat, c = (k : Int) := ⟨c.toNat, by omega⟩
    have hT : (k : Int).tmod (n : Int) = (r : Int) := by
      have := Int.emod_nonneg (k : Int) (by omega : (n : Int) ≠ 0)
      rw [Int.tmod_eq_emod_of_nonneg (by omega)]
      omega
    clear hpk
    go_enter Try.func11, Try.ntmps11
    go_wp2_with fail
    go_ret
    exact ⟨rfl, rfl⟩

theorem refuse_ok {S : St} {i : Nat} {x : Fl} (hon : S.on = true) (hx : S.L[i]? = some x) : S.refuse (i : Int) = 0 := by
  have hi := (List.getElem?_eq_some_iff.1 hx).1
  unfold St.refuse
  rw [hon, if_neg (by decide), if_pos (by omega)]
theorem op_none {S : St} (h : S.fuse = none) : S.op = (0, S) := by
  unfold St.op
  rw [h]
theorem append_ok {S : St} {i : Nat} {x : Fl} {l : List Int} (hon : S.on = true) (hfu : S.fuse = none) (hx : S.L[i]? = some x) (hl : x.b.length + l.length ≤ 16777216) : S.append (i : Int) l = (0, { S with L := S.L.set i ⟨x.b ++ l, x.n⟩ }) := by
  unfold St.append
  rw [refuse_ok hon hx, if_neg (by simp), Int.toNat_natCast, hx]
  simp only
  rw [if_neg (by omega)]
  exact op_none hfu
theorem sync_ok {S : St} {i : Nat} {x : Fl} (hon : S.on = true) (hfu : S.fuse = none) (hx : S.L[i]? = some x) : S.sync (i : Int) = (0, { S with L := S.L.set i ⟨x.b, x.b.length⟩ }) := by
  unfold St.sync
  rw [refuse_ok hon hx, if_neg (by simp), op_none hfu, if_neg (by simp), Int.toNat_natCast]
  simp only [hx]
theorem truncate_ok {S : St} {i t : Nat} {x : Fl} (hon : S.on = true) (hfu : S.fuse = none) (hx : S.L[i]? = some x) (ht : t ≤ x.b.length) : S.truncate (i : Int) (t : Int) = (0, { S with L := S.L.set i ⟨x.b.take t, min x.n t⟩ }) := by
  unfold St.truncate
  rw [refuse_ok hon hx, if_neg (by simp), Int.toNat_natCast, hx]
  simp only
  rw [if_neg (by omega), op_none hfu, if_neg (by simp), Int.toNat_natCast]

theorem blk_s {w : World} {lb f : Nat} {L : List Fl} {x : Fl} (hB : Blk w lb 48 (tcells L)) (hx : L[f]? = some x) (b' : List Int) : Blk (w.setCell ⟨lb, f * 2, none⟩ (.string (strOfNums b'))) lb 48 (tcells (L.set f ⟨b', x.n⟩)) := by
  have := hB.set (f * 2) (.string (strOfNums b'))
  have e : tcells (L.set f ⟨b', x.n⟩) = (tcells L).set (f * 2) (.string (strOfNums b')) := by
    rw [tcells_set]
    exact set_self (by rw [List.getElem?_set, if_neg (by omega)]; exact tcells_n L f x hx)
  rw [e]
  exact this
theorem blk_n {w : World} {lb f : Nat} {L : List Fl} {x : Fl} (hB : Blk w lb 48 (tcells L)) (hx : L[f]? = some x) (s : Nat) : Blk (w.setCell ⟨lb, f * 2 + 1, none⟩ (.int .i64 (s : Int))) lb 48 (tcells (L.set f ⟨x.b, s⟩)) := by
  have := hB.set (f * 2 + 1) (.int .i64 (s : Int))
  have e : tcells (L.set f ⟨x.b, s⟩) = (tcells L).set (f * 2 + 1) (.int .i64 (s : Int)) := by
    rw [tcells_set, set_self (tcells_s L f x hx)]
  rw [e]
  exact this

/-- The disk, and what is told of it. -/
def KX (W wx : World) (p lb fl bnd : Nat) : Prop := ∃ S : St, NB W wx p S (fun i => i = lb) ∧ Blk wx lb 48 (tcells S.L) ∧ S.L.length = 3 ∧ S.on = true ∧ S.fuse = none ∧ S.falls = fl ∧ (∀ x ∈ S.L, x.b.length ≤ bnd) ∧ W.heap.size ≤ lb
theorem KX.later {W w w' : World} {p lb fl bnd : Nat} (h : KX W w p lb fl bnd) (hb : Below w.heap.size w w') : KX W w' p lb fl bnd := by
  obtain ⟨S, h1, h2, h3⟩ := h
  exact ⟨S, h1.later hb, h2.later hb, h3⟩
theorem info48 : (Try.prog.info? 48).map (fun i => i.zero.map (·.cells)) = some (some [Value.string ⟨#[]⟩, .int .i64 0, .string ⟨#[]⟩, .int .i64 0, .string ⟨#[]⟩, .int .i64 0].toArray) := by kernel_rfl
theorem size48 : (Try.prog.info? 48).map (·.size) = some 6 := by kernel_rfl
theorem mem_set {α : Type} {L : List α} {i : Nat} {y x : α} (h : x ∈ L.set i y) : x ∈ L ∨ x = y := List.mem_or_eq_of_mem_set h

/-- The first letters. -/
def abc : List Int := [97, 98, 99, 100, 101, 102, 103, 104, 105]
theorem abc_str : (⟨#[97, 98, 99, 100, 101, 102, 103, 104, 105]⟩ : ByteArray) = strOfNums abc := by decide
theorem abc_byte : Byte abc := fun n hn => by simp [abc] at hn; omega

end Go.Proofs.Ytgmcfejmhlglkaa
