/-
  WalLasts: short, a copy of bytes, what Open leaves.
-/
import Derived.Test.YtnfjhdedcnbdbaaWtN
import Derived.Test.YtnfjhdedcnbdbaaWlF
import Derived.Test.YtnfjhdedcnbdbaaWlH
import Derived.Test.YtnfjhdedcnbdbaaWlK
import Derived.Test.YtnfjhdedcnbdbaaWaA
import Derived.Laws.IdiomStrings
namespace Go.Proofs.Ytnfjhdedcnbdbaa
open Go.RowKit
set_option linter.unusedVariables false
set_option linter.unusedSimpArgs false

/-- '[]byte(string(b))'. -/
theorem bytes_new (w : World) (l : List Int) (hb : Byte l) : ∃ c w', (convert 9 22 (.string (strOfNums l))).run Try.prog w = .ok (.slice (some ⟨w.heap.size, 0, none⟩) l.length c) w' ∧ Lat w w' ∧ Sl w' (some ⟨w.heap.size, 0, none⟩) l.length l := by
  have h := run_bytes_of_string (P := Try.prog) w 9 22 5 (strOfNums l) Try.underlying9 Try.underlying22 Try.underlying5
  rw [strOfNums_size] at h
  refine ⟨_, _, h, ?_, ⟨rfl, hb, fun j hj => ⟨_, rfl, ?_⟩⟩⟩
  · have q : Below w.heap.size w w.drew := ⟨rfl, rfl, rfl, Nat.le_refl _, fun _ _ => rfl⟩
    exact q.alloc (Nat.le_refl _) _
  · rw [Addr.add_lit, Nat.zero_add]
    have q := World.cell?_alloc_mark w.drew (bytesRow (strOfNums l) (grownCap w l.length 0 5)) 5 ((bytesRow (strOfNums l) (grownCap w l.length 0 5)).size, (bytesRow (strOfNums l) (grownCap w l.length 0 5)).size + 1) j
    refine Eq.trans q ?_
    have hs : (strOfNums l).data.size = l.length := strOfNums_size l
    rw [bytesRow_at _ _ j (by omega)]
    have hbj := hb _ (List.getElem_mem hj)
    have e : (strOfNums l).data[j]'(by omega) = UInt8.ofNat (l[j]).toNat := by simp [strOfNums]
    rw [e]
    simp only [UInt8.toNat_ofNat', Option.some.injEq, Value.int.injEq, true_and]
    have hd : l.getD j 0 = l[j] := by simp [List.getD, hj]
    rw [hd]
    omega

set_option maxRecDepth 100000 in
theorem shortP (a : Option Addr) (n c : Nat) (w : World) (hc : n ≤ c) (hno : a = none → n = 0 ∧ c = 0) (hb : c ≤ 9223372036854775807) : Calls Try.prog 12 #[.slice a n c] w fun e w' => e = .returned (.slice a (min n 3000) c) ∧ w' = w := by
  by_cases h : 3000 < n
  · have h' : (3000 : Int) < (n : Int) := by omega
    obtain ⟨⟨g, off, cp⟩, hg⟩ : ∃ z, a = some z := by
      cases a with
      | none => have := hno rfl; omega
      | some z => exact ⟨z, rfl⟩
    subst hg
    rw [show min n 3000 = 3000 by omega]
    go_enter Try.func12, Try.ntmps12
    go_wp2_with fail
    go_ret
    exact ⟨rfl, rfl⟩
  · have h' : ¬ (3000 : Int) < (n : Int) := by omega
    rw [show min n 3000 = n by omega]
    go_enter Try.func12, Try.ntmps12
    go_wp2_with fail
    go_ret
    exact ⟨rfl, rfl⟩

/-- A list of records in memory, outside of F. -/
structure RecM (F : Nat → Prop) (w : World) (rv : Value) (recs : List (List Int)) (els : List Value) : Prop where
  len : recs.length = els.length
  row : w.ownsRow 0 22 1 rv els.length els
  nf : ∀ g, rv.ownBlock = some g → ¬ F g
  el : ∀ (i : Nat) (v : Value) (r : List Int), els[i]? = some v → recs[i]? = some r → ∃ a c, v = .slice a r.length c ∧ Sl w a r.length r ∧ ∀ z, a = some z → 0 < r.length → ¬ F z.block
theorem RecM.chg {F G : Nat → Prop} {w w' : World} {rv : Value} {recs : List (List Int)} {els : List Value} (h : RecM F w rv recs els) (hc : Chg G w w') (hG : ∀ i, G i → F i) : RecM F w' rv recs els := by
  refine ⟨h.len, hc.owns h.row (fun g hg k => h.nf g hg (hG g k)), h.nf, fun i v r hv hr => ?_⟩
  obtain ⟨a, c, h1, h2, h3⟩ := h.el i v r hv hr
  exact ⟨a, c, h1, hc.sl h2 (fun z hz hp k => h3 z hz hp (hG _ k)), h3⟩
theorem RecM.new {F F' : Nat → Prop} {w : World} {rv : Value} {recs : List (List Int)} {els : List Value} (h : RecM F w rv recs els) (hn : New w F F') : RecM F' w rv recs els := by
  refine ⟨h.len, h.row, fun g hg k => ?_, fun i v r hv hr => ?_⟩
  · rcases hn g k with q | q
    · exact h.nf g hg q
    · have := owns_lt h.row g hg; omega
  · obtain ⟨a, c, h1, h2, h3⟩ := h.el i v r hv hr
    refine ⟨a, c, h1, h2, fun z hz hp k => ?_⟩
    rcases hn _ k with q | q
    · exact h3 z hz hp q
    · have := h2.lt z hz hp; omega
theorem RecM.mono {F G : Nat → Prop} {w : World} {rv : Value} {recs : List (List Int)} {els : List Value} (h : RecM F w rv recs els) (hs : ∀ i, G i → F i) : RecM G w rv recs els := by
  refine ⟨h.len, h.row, fun g hg k => h.nf g hg (hs g k), fun i v r hv hr => ?_⟩
  obtain ⟨a, c, h1, h2, h3⟩ := h.el i v r hv hr
  exact ⟨a, c, h1, h2, fun z hz hp k => h3 z hz hp (hs _ k)⟩
theorem RecM.nil (F : Nat → Prop) (w : World) : RecM F w (.slice none 0 0) [] [] := ⟨rfl, World.ownsRow_nil _ _ _ _, fun g hg => (by cases hg), fun i v r hv => (by cases hv)⟩
theorem RecM.form {F : Nat → Prop} {w : World} {rv : Value} {recs : List (List Int)} {els : List Value} (h : RecM F w rv recs els) : ∃ a c, rv = .slice a recs.length c := by
  obtain ⟨a, c, e⟩ := owns_formG h.row
  exact ⟨a, c, by rw [h.len]; exact e⟩
/-- Open, where it finds a log. -/
theorem OpenR.found {w w' : World} {p : Nat} {F : Nat → Prop} {S S' : St} {e : Ending} {f : Fnd} (h : OpenR w p F S e w') (ho : S.opens = (.ok f, S')) (hb : Byte f.state) (hbr : ∀ r ∈ f.recs, Byte r) :
    ∃ F', Dk 71 66 w' p F' S' ∧ Chg F w w' ∧ New w F F' ∧ ∃ lp sa sc ra rc els, e = .returned (.tuple #[.pointer (some ⟨lp, 0, none⟩), .slice sa f.state.length sc, .slice ra f.recs.length rc, .int .i64 0]) ∧
      Lg 94 w' lp p ⟨S.falls, f.live, f.h⟩ ∧ (⟨S.falls, f.live, f.h⟩ : Lw).fine ∧ w.heap.size ≤ lp ∧ Sl w' sa f.state.length f.state ∧ RecM (fun _ => False) w' (.slice ra f.recs.length rc) f.recs els := by
  obtain ⟨F', h1, h2, h3, hc⟩ := h
  rw [ho] at h1 hc
  refine ⟨F', h1, h2, h3, ?_⟩
  rcases hc with ⟨er, he, _⟩ | ⟨f', lp, x, r, sv, rv, he, _, hfn, _, hlg, hlp, hst, hrc, hfd, hap, rfl⟩
  · cases he
  · obtain rfl := Except.ok.inj he
    obtain ⟨sa, sn, sc, rfl, hsn, hsl, _⟩ := hfd.sl (by rw [← hst]; exact hb)
    rw [← hst] at hsl hsn
    subst hsn
    obtain ⟨q1, q2, q3, q4, ⟨ra, rn, rc, rfl⟩, q6⟩ := hfd
    have hrn : rn = r.length := by
      obtain ⟨_, _, e⟩ := owns_formG q6
      simp only [Value.slice.injEq] at e
      exact e.2.1
    have hlen : f.recs.length = r.length := by rw [hrc]; simp
    rw [hrn, ← hlen] at q6 ⊢
    refine ⟨lp, sa, sc, ra, rc, r.map (·.2.1), rfl, hlg, hfn, hlp, hsl, ⟨by rw [hlen]; simp, ?_, fun _ _ h => h, fun i v r' hv hr => ?_⟩⟩
    · have := owns_zero q6
      rw [List.length_map, ← hlen]
      exact this
    · rw [hrc] at hr
      rw [List.getElem?_map] at hv hr
      cases hy : r[i]? with
      | none => rw [hy] at hv; cases hv
      | some y =>
        rw [hy] at hv hr
        simp only [Option.map_some, Option.some.injEq] at hv hr
        subst hv hr
        have hm := List.mem_of_getElem? hy
        obtain ⟨⟨a, c, e⟩, ho⟩ := q2 y hm
        rw [e] at ho
        refine ⟨a, c, e, sl_of_owns ho (hbr _ (by rw [hrc]; exact List.mem_map.2 ⟨y, hm, rfl⟩)), fun _ _ _ h => h⟩

end Go.Proofs.Ytnfjhdedcnbdbaa
