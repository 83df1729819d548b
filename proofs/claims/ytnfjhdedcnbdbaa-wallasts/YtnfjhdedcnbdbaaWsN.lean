/-
  A log on a disk whose power stays.
-/
import Derived.Test.YtnfjhdedcnbdbaaWsM
namespace Go.Proofs.Ytnfjhdedcnbdbaa
open Go.RowKit
set_option linter.unusedVariables false
set_option linter.unusedSimpArgs false

theorem refuse_zero {S : St} {f : Nat} (hon : S.on = true) (hf : f < S.L.length) : S.refuse f = 0 := by
  unfold St.refuse
  rw [if_neg (by rw [hon]; simp), if_pos (by omega)]
theorem op_none {S : St} (h : S.fuse = none) : S.op = (0, S) := by unfold St.op; rw [h]
theorem at_lt {L : List Fl} {f : Nat} {x : Fl} (h : L[f]? = some x) : f < L.length := (List.getElem?_eq_some_iff.1 h).1
theorem truncate_q {S : St} {f n : Nat} {x : Fl} (hon : S.on = true) (hfu : S.fuse = none) (hx : S.L[f]? = some x) (hn : n ≤ x.b.length) : S.truncate f n = (0, { S with L := S.L.set f ⟨x.b.take n, min x.n n⟩ }) := by
  unfold St.truncate
  rw [refuse_zero hon (at_lt hx), if_neg (by simp), Int.toNat_natCast, hx]
  simp only
  rw [if_neg (by omega), op_none hfu]
  simp
theorem append_q {S : St} {f : Nat} {b : List Int} {x : Fl} (hon : S.on = true) (hfu : S.fuse = none) (hx : S.L[f]? = some x) (hn : x.b.length + b.length ≤ 16777216) : S.append f b = (0, { S with L := S.L.set f ⟨x.b ++ b, x.n⟩ }) := by
  unfold St.append
  rw [refuse_zero hon (at_lt hx), if_neg (by simp), Int.toNat_natCast, hx]
  simp only
  rw [if_neg (by omega)]
  exact op_none hfu
theorem sync_q {S : St} {f : Nat} {x : Fl} (hon : S.on = true) (hfu : S.fuse = none) (hx : S.L[f]? = some x) : S.sync f = (0, { S with L := S.L.set f ⟨x.b, x.b.length⟩ }) := by
  unfold St.sync
  rw [refuse_zero hon (at_lt hx), if_neg (by simp), op_none hfu, Int.toNat_natCast, if_neg (by simp), hx]
theorem put_q {S : St} {f : Nat} {k : Int} {l : List Int} {x : Fl} (hon : S.on = true) (hfu : S.fuse = none) (hx : S.L[f]? = some x) (hn : x.b.length + (l.length + 9) ≤ 16777216) : S.put f k l = (0, { S with L := S.L.set f ⟨x.b ++ made k l, (x.b ++ made k l).length⟩ }) := by
  have h1 := append_q (b := made k l) hon hfu hx (by rw [made_length]; exact hn)
  unfold St.put
  rw [h1, if_neg (by simp)]
  have h2 : ({ S with L := S.L.set f ⟨x.b ++ made k l, x.n⟩ } : St).L[f]? = some ⟨x.b ++ made k l, x.n⟩ := by
    show (S.L.set f _)[f]? = _
    rw [List.getElem?_set, if_pos rfl, if_pos (at_lt hx)]
  rw [sync_q (S := { S with L := S.L.set f ⟨x.b ++ made k l, x.n⟩ }) hon hfu h2]
  simp
/-- A log as it lies there. -/
def LS (falls live : Nat) (h : Hd) (st : List Int) (recs : List (List Int)) : St := ⟨two live ⟨laid h st recs, (laid h st recs).length⟩ ⟨[], 0⟩, true, falls, none⟩
theorem LS_len (falls live : Nat) (h : Hd) (st : List Int) (recs : List (List Int)) : (LS falls live h st recs).L.length = 2 := two_len _ _ _
theorem file_at {S : St} {f : Nat} {x : Fl} (hx : S.L[f]? = some x) : S.file f = x.b := by unfold St.file; rw [hx]
theorem size_at {S : St} {f : Nat} {x : Fl} (hx : S.L[f]? = some x) : S.size f = (x.b.length : Int) := by
  unfold St.size
  have := at_lt hx
  rw [if_pos (by omega), Int.toNat_natCast, hx]
theorem one_sub {live : Nat} (hl : live ≤ 1) : (1 - (live : Int)) = ((1 - live : Nat) : Int) := by omega
theorem headAt_nil : headAt [] = none := by unfold headAt; rw [frames_nil]
theorem opens_q {falls live : Nat} {h : Hd} {st : List Int} {recs : List (List Int)} (hl : live ≤ 1) (k : Lgok h st recs) : (LS falls live h st recs).opens = (.ok ⟨live, h, st, recs, (laid h st recs).length⟩, LS falls live h st recs) := by
  have h1 : (LS falls live h st recs).L[live]? = some ⟨laid h st recs, (laid h st recs).length⟩ := two_live hl _ _
  have h2 : (LS falls live h st recs).L[1 - live]? = some ⟨[], 0⟩ := two_other hl _ _
  have hf := find_log (S := LS falls live h st recs) (x := []) rfl (LS_len _ _ _ _ _) hl k (by rw [file_at h1]; simp) frames_nil (.inl (by rw [file_at h2]; exact headAt_nil))
  have hc : (LS falls live h st recs).cutRest live (laid h st recs).length = (0, LS falls live h st recs) := by
    have e1 : (LS falls live h st recs).cutLive live (laid h st recs).length = (0, LS falls live h st recs) := by
      unfold St.cutLive
      rw [size_at h1, if_neg (by simp)]
    unfold St.cutRest
    rw [e1, if_neg (by simp)]
    unfold St.cutOther
    rw [one_sub hl, size_at h2, if_neg (by simp)]
  unfold St.opens
  rw [hf]
  simp only
  rw [hc, if_neg (by simp)]
theorem bytes_q {falls live : Nat} {h h' : Hd} {st : List Int} {recs : List (List Int)} (hl : live ≤ 1) : (LS falls live h st recs).bytes ⟨falls, live, h'⟩ = ((laid h st recs).length : Int) := by
  unfold St.bytes
  rw [if_pos (show (LS falls live h st recs).falls = falls from rfl)]
  exact size_at (x := ⟨laid h st recs, (laid h st recs).length⟩) (two_live hl _ _)
theorem format_q {S : St} {cap slots : Nat} {st : List Int} {x y : Fl} (hon : S.on = true) (hfu : S.fuse = none) (hL : S.L = [x, y]) (hok : okH 1 cap slots = true) (hfit : st.length + 33 ≤ cap) : S.format cap slots st = (0, LS S.falls 0 ⟨1, cap, slots⟩ st []) := by
  have hk : 1024 ≤ cap ∧ cap ≤ 4194304 := by have := of_decide_eq_true hok; omega
  have hw : weight st.length = (st.length : Int) + 33 := by unfold weight; rw [if_neg (by omega)]
  unfold St.format
  rw [if_neg (by rw [hL, hok]; simp), if_neg (by unfold fitsU; rw [hw]; simp; omega)]
  have e1 : S.truncate 0 0 = (0, { S with L := [⟨[], 0⟩, y] }) := by
    have := truncate_q (S := S) (f := 0) (n := 0) hon hfu (by rw [hL]; rfl) (Nat.zero_le _)
    rw [hL] at this
    simpa using this
  rw [e1, if_neg (by simp)]
  have e2 : ({ S with L := [⟨[], 0⟩, y] } : St).truncate 1 0 = (0, { S with L := [⟨[], 0⟩, ⟨[], 0⟩] }) := by
    have := truncate_q (S := { S with L := [⟨[], 0⟩, y] }) (f := 1) (n := 0) hon hfu rfl (Nat.zero_le _)
    simpa using this
  rw [e2, if_neg (by simp)]
  have e3 := put_q (S := { S with L := [⟨[], 0⟩, ⟨[], 0⟩] }) (f := 0) (k := 1) (l := hdata ⟨1, cap, slots⟩ st) hon hfu rfl (by rw [hdata_length]; simp; omega)
  simp only [Int.toNat_natCast]
  refine Eq.trans e3 ?_
  simp [LS, two, laid_nil, hon, hfu]
theorem wappend_q {falls live : Nat} {h : Hd} {st : List Int} {recs : List (List Int)} {r : List Int} (hl : live ≤ 1) (hc : h.cap ≤ 4194304) (hfit : (laid h st recs).length + (r.length + 9) ≤ h.cap) : (LS falls live h st recs).wappend ⟨falls, live, h⟩ r = (0, LS falls live h st (recs ++ [r])) := by
  have hx : (LS falls live h st recs).L[live]? = some ⟨laid h st recs, (laid h st recs).length⟩ := two_live hl _ _
  unfold St.wappend
  rw [if_neg (by simp [LS]), if_neg (by unfold St.fits; rw [bytes_q hl]; simp; omega)]
  have := put_q (k := 2) (l := r) (S := LS falls live h st recs) rfl rfl hx (by simp; omega)
  refine Eq.trans this ?_
  simp only [LS, Prod.mk.injEq, true_and]
  rw [two_set hl, laid_snoc]
theorem wcheck_q {falls live : Nat} {h : Hd} {st st' : List Int} {recs : List (List Int)} (hl : live ≤ 1) (hc : h.cap ≤ 4194304) (hfit : st'.length + 33 ≤ h.cap) : (LS falls live h st recs).wcheck ⟨falls, live, h⟩ st' = (0, LS falls (1 - live) h.next st' [], ⟨falls, 1 - live, h.next⟩) := by
  have hw : weight st'.length = (st'.length : Int) + 33 := by unfold weight; rw [if_neg (by omega)]
  have hx : (LS falls live h st recs).L[live]? = some ⟨laid h st recs, (laid h st recs).length⟩ := two_live hl _ _
  have hy : (LS falls live h st recs).L[1 - live]? = some ⟨[], 0⟩ := two_other hl _ _
  have e1 : (LS falls live h st recs).check1 ⟨falls, live, h⟩ = (0, LS falls live h st recs) := by
    unfold St.check1
    rw [one_sub hl]
    have := truncate_q (S := LS falls live h st recs) (n := 0) rfl rfl hy (Nat.zero_le _)
    refine Eq.trans this ?_
    simp only [LS, Prod.mk.injEq, true_and]
    rw [two_seto hl]
    rfl
  have e2 : (LS falls live h st recs).check2 ⟨falls, live, h⟩ st' = (0, ⟨two live ⟨laid h st recs, (laid h st recs).length⟩ ⟨laid h.next st' [], (laid h.next st' []).length⟩, true, falls, none⟩) := by
    unfold St.check2
    rw [e1, one_sub hl]
    have := put_q (S := LS falls live h st recs) (k := 1) (l := hdata h.next st') rfl rfl hy (by rw [hdata_length]; simp; omega)
    refine Eq.trans this ?_
    simp only [LS, Prod.mk.injEq, true_and]
    rw [two_seto hl, laid_nil]
    rfl
  have e3 : (LS falls live h st recs).check3 ⟨falls, live, h⟩ st' = (0, LS falls (1 - live) h.next st' []) := by
    unfold St.check3
    rw [e2]
    have := truncate_q (S := ⟨two live ⟨laid h st recs, (laid h st recs).length⟩ ⟨laid h.next st' [], (laid h.next st' []).length⟩, true, falls, none⟩) (f := live) (n := 0) rfl rfl (two_live hl _ _) (Nat.zero_le _)
    refine Eq.trans this ?_
    simp only [LS, Prod.mk.injEq, true_and]
    rw [two_set hl, two_turn hl]
    simp
  unfold St.wcheck
  rw [if_neg (by simp [LS]), if_neg (by unfold fitsU; rw [hw]; simp; omega), e1, if_neg (by simp), e2, if_neg (by simp), e3, if_neg (by simp)]

end Go.Proofs.Ytnfjhdedcnbdbaa
