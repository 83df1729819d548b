import Derived.Test.YtalmpmhnkilalaaGreatDoorRqB
import Derived.Test.YtalmpmhnkilalaaGreatDoorRrA
import Derived.Test.YtalmpmhnkilalaaGreatDoorBkB
import Derived.Laws.AppendOwnNone
import Derived.Deep.CutRange
import Derived.BigQuiet
import Derived.Test.YtalmpmhnkilalaaGreatDoorBkE
/-
  WireWrites: series to hand in. lentSeries.
-/
namespace Go.Proofs.YtalmpmhnkilalaaGreatDoor
open Go Go.RowKit
set_option linter.unusedVariables false
set_option linter.unusedSimpArgs false

/-- What comes in besides. -/
def WfS (x : Ser) : Prop := (x.la = none → x.lc = 0) ∧ (x.sa = none → x.sc = 0) ∧ x.ln ≤ 281474976710656
theorem flat_at {α : Type} {cells : α → List Value} {k : Nat} (hk : ∀ x, (cells x).length = k) (h0 : 0 < k) : ∀ (xs : List α) (j : Nat) (u : Value), (xs.flatMap cells)[j]? = some u → ∃ x, xs[j / k]? = some x ∧ (cells x)[j % k]? = some u
  | [], j, u, h => by simp at h
  | y :: r, j, u, h => by
    rw [List.flatMap_cons] at h
    by_cases hj : j < k
    · rw [List.getElem?_append_left (by rw [hk]; exact hj)] at h
      refine ⟨y, ?_, ?_⟩
      · rw [Nat.div_eq_of_lt hj]; rfl
      · rw [Nat.mod_eq_of_lt hj]; exact h
    · rw [List.getElem?_append_right (by rw [hk]; omega), hk] at h
      obtain ⟨x, h1, h2⟩ := flat_at hk h0 r (j - k) u h
      have e1 : j / k = (j - k) / k + 1 := by
        have : j = (j - k) + k := by omega
        conv => lhs; rw [this]
        rw [Nat.add_div_right _ h0]
      have e2 : j % k = (j - k) % k := by
        have : j = (j - k) + k := by omega
        conv => lhs; rw [this]
        rw [Nat.add_mod_right]
      refine ⟨x, ?_, ?_⟩
      · rw [e1]; simpa using h1
      · rw [e2]; exact h2
theorem es_flat {α : Type} {cells : α → List Value} {k : Nat} (hk : ∀ x, (cells x).length = k) (h0 : 0 < k) {w : World} {ad : Addr} {xs : List α} (h : Es w (some ad) k (xs.map cells)) (j : Nat) (u : Value) (hu : (xs.flatMap cells)[j]? = some u) : w.cell? (ad.add j) = some u := by
  obtain ⟨x, h1, h2⟩ := flat_at hk h0 xs j u hu
  obtain ⟨b, off, e, _, hc⟩ := h (by intro e; simp at e; rw [e] at h1; simp at h1)
  injection e with e
  subst e
  have := hc (j / k) (cells x) (by rw [List.getElem?_map, h1]; rfl) (j % k) u h2
  rw [Addr.add_lit]
  rw [Nat.add_assoc, Nat.mul_comm, Nat.div_add_mod] at this
  exact this
/-- Many elements behind nothing. -/
theorem wpList_appE (w : World) {ops : Array Oper} {rest : List Oper} {o : Oper} {a : Act} {Q : Exit → Act → World → Prop} (hgd : o.guard = none) (s x : Operand) (t e : TypeId)
    (ho : o.op = .call { callee := .builtin .append, args := #[s, x], argTypes := #[t, t] }) (i : TypeInfo) (z : Value) (sz bytes : Nat) (ht : Tryz.prog.underlying t = some (.slice e)) (hi : Tryz.prog.info? e = some i) (hz : i.zero = some z)
    (hsize : i.size = sz) (hby : i.bytes = bytes) (hzs : z.cells.size = sz) (hp : 0 < sz) (hs : a.eval s = .slice none 0 0) (ad : Option Addr) (m c : Nat) (news : List Value) (hx : a.eval x = .slice ad m c) (hl : news.length = m * sz)
    (hnews : ∀ ad', ad = some ad' → ∀ j u, news[j]? = some u → w.cell? (ad'.add j) = some u) (hone : ∀ u ∈ news, u.oneCell' = true) (hno : ad = none → m = 0 ∧ c = 0) (h63 : m ≤ maxLen) (hbytes : m * bytes ≤ 140737488355328)
    (h : ∀ a' c' w', w'.ownsRow w.heap.size e sz (.slice a' m c') m news → Below w.heap.size w w' → wpList Tryz.prog ops Q rest (a.put o.dst (.slice a' m c')) w') : wpList Tryz.prog ops Q (o :: rest) a w := by
  cases ad with
  | none =>
    obtain ⟨rfl, rfl⟩ := hno rfl
    have hn : news = [] := List.eq_nil_of_length_eq_zero (by omega)
    subst hn
    exact wpList_append_own_none hgd s x t ho w.heap.size e i sz ht hi (.slice none 0 0) 0 [] hs (World.ownsRow_nil _ _ _ _) hx (h none 0 w (World.ownsRow_nil _ _ _ _) (Below.refl _ _))
  | some ad =>
    refine wpList_append_own w hgd s x t ho w.heap.size e i z sz bytes ht hi hz hsize hby hzs hp (.slice none 0 0) 0 [] hs (World.ownsRow_nil _ _ _ _) ad m c news hx hl (hnews ad rfl) hone (by omega) (by simpa using hbytes) (Nat.le_refl _) ?_
    intro v' w' h1 h2 h3
    obtain ⟨a', c', rfl, _⟩ := owns_formS h1
    rw [Nat.zero_add, List.nil_append] at h1
    rw [Nat.zero_add]
    exact h a' c' w' h1 ((Below.refl _ _).grown h2 (Nat.le_refl _) (fun k hk => by cases hk))
def bhL : La := ⟨⟨#[98, 101, 104, 105, 110, 100]⟩, ⟨#[]⟩⟩
def bhS : Sm := ⟨-7, 0⟩
/-- A series with what stands behind its lists. -/
def Ser.plus (x : Ser) : Ser := { la := x.la, ln := x.ln + 1, lc := x.lc, L := x.L ++ [bhL], sa := x.sa, sn := x.sn + 1, sc := x.sc, S := x.S ++ [bhS] }
/-- A series that is lent. -/
def LnE (B : Nat) (w : World) (x : Ser) : Prop := SrO B x.plus w ∧ x.L.length = x.ln ∧ x.S.length = x.sn ∧ x.ln ≤ 1000000 ∧ x.sn ≤ 1000000 ∧ x.ln + 1 ≤ x.lc ∧ x.sn + 1 ≤ x.sc ∧ x.lc ≤ 9223372036854775807 ∧ x.sc ≤ 9223372036854775807
theorem built47b : Tryz.prog.built 47 [(0, .string ⟨#[98, 101, 104, 105, 110, 100]⟩)] = some #[.string ⟨#[98, 101, 104, 105, 110, 100]⟩, .string ⟨#[]⟩] := by kernel_rfl
theorem built50b : Tryz.prog.built 50 [(0, .int .i64 (-7))] = some #[.int .i64 (-7), .int .u64 0] := by kernel_rfl
theorem info47x : (Tryz.prog.info? 47).map (fun i => (i.zero.isSome, i.size, i.bytes)) = some (true, 2, 32) := by kernel_rfl

theorem wpList_pushLb (w : World) {ops : Array Oper} {rest : List Oper} {o : Oper} {a : Act} {Q : Exit → Act → World → Prop} (hgd : o.guard = none) (s x : Operand)
    (ho : o.op = .call { callee := .builtin .append, args := #[s, x], argTypes := #[42, 42] }) (base : Nat) (v : Value) (n : Nat) (L : List La) (hs : a.eval s = v) (w0 : World) (hown : w0.ownsRow base 47 2 v n (L.flatMap La.cells))
    (hw : w = w0.alloc (.cells #[.string ⟨#[98, 101, 104, 105, 110, 100]⟩, .string ⟨#[]⟩] 47)) (hx : a.eval x = .slice (some ⟨w0.heap.size, 0, none⟩) 1 1) (hn : n ≤ 1000000000) (hbase : base ≤ w0.heap.size)
    (h : ∀ g' c' w', w'.ownsRow base 47 2 (.slice (some ⟨g', 0, none⟩) (n + 1) c') (n + 1) ((L ++ [bhL]).flatMap La.cells) → Below base w0 w' → wpList Tryz.prog ops Q rest (a.put o.dst (.slice (some ⟨g', 0, none⟩) (n + 1) c')) w') : wpList Tryz.prog ops Q (o :: rest) a w := by
  subst hw
  obtain ⟨iL, zL, hiL, hzL0, hzL1, hzL2, hzL3⟩ := info_z infoL
  refine wpList_pushN _ hgd s x 42 ho 47 iL zL 2 32 Tryz.underlying42 hiL hzL0 hzL1 hzL2 hzL3 (by decide) base v n (L.flatMap La.cells) hs (hown.alloc _) ⟨w0.heap.size, 0, none⟩ bhL.cells hx rfl (fun j u hu => by
    have h9 := (Blk.new w0 47 bhL.cells).cell (0 + j)
    rw [Addr.add_lit]
    exact h9.trans (by rw [Nat.zero_add]; exact hu)) (by intro u hu; simp [La.cells] at hu; rcases hu with rfl | rfl <;> rfl) (by unfold maxLen; omega) (by omega) (by simp; omega) ?_
  intro g' c' w' h1 h2
  exact h g' c' w' (by rw [List.flatMap_append]; exact h1) (h2.chg.1.below hbase (fun q hq => (hown.lt q hq).1))
theorem wpList_pushSb (w : World) {ops : Array Oper} {rest : List Oper} {o : Oper} {a : Act} {Q : Exit → Act → World → Prop} (hgd : o.guard = none) (s x : Operand)
    (ho : o.op = .call { callee := .builtin .append, args := #[s, x], argTypes := #[43, 43] }) (base : Nat) (v : Value) (n : Nat) (S : List Sm) (hs : a.eval s = v) (w0 : World) (hown : w0.ownsRow base 50 2 v n (cS S))
    (hw : w = w0.alloc (.cells #[.int .i64 (-7), .int .u64 0] 50)) (hx : a.eval x = .slice (some ⟨w0.heap.size, 0, none⟩) 1 1) (hn : n ≤ 1000000000) (hbase : base ≤ w0.heap.size)
    (h : ∀ g' c' w', w'.ownsRow base 50 2 (.slice (some ⟨g', 0, none⟩) (n + 1) c') (n + 1) (cS (S ++ [bhS])) → Below base w0 w' → wpList Tryz.prog ops Q rest (a.put o.dst (.slice (some ⟨g', 0, none⟩) (n + 1) c')) w') : wpList Tryz.prog ops Q (o :: rest) a w := by
  subst hw
  obtain ⟨iS, hiS, hzS0, hzS1, hzS2⟩ := info_parts info32
  refine wpList_pushN _ hgd s x 43 ho 50 iS (.agg #[.int .i64 0, .int .u64 0]) 2 16 Tryz.underlying43 hiS hzS0 hzS1 hzS2 rfl (by decide) base v n (cS S) hs (hown.alloc _) ⟨w0.heap.size, 0, none⟩ (encS bhS) hx rfl (fun j u hu => by
    have h9 := (Blk.new w0 50 (encS bhS)).cell (0 + j)
    rw [Addr.add_lit]
    exact h9.trans (by rw [Nat.zero_add]; exact hu)) (by intro u hu; simp [encS] at hu; rcases hu with rfl | rfl <;> rfl) (by unfold maxLen; omega) (by omega) (by simp; omega) ?_
  intro g' c' w' h1 h2
  exact h g' c' w' (by rw [cS_append]; exact h1) (h2.chg.1.below hbase (fun q hq => (hown.lt q hq).1))
theorem step_pushEb (w : World) {ops : Array Oper} {o : Oper} {a : Act} {K : Act → World → Prop} {Q : Exit → Act → World → Prop} {E : Prop} (hgd : o.guard = none) (s x : Operand)
    (ho : o.op = .call { callee := .builtin .append, args := #[s, x], argTypes := #[23, 23] }) (base : Nat) (v : Value) (n : Nat) (ys : List Ser) (y : Ser) (hs : a.eval s = v) (w0 : World) (hown : w0.ownsRow base 45 2 v n (ys.flatMap Ser.cells))
    (hw : w = w0.alloc (.cells #[.slice y.la y.ln y.lc, .slice y.sa y.sn y.sc] 45)) (hx : a.eval x = .slice (some ⟨w0.heap.size, 0, none⟩) 1 1) (hn : n ≤ 1000000000) (hbase : base ≤ w0.heap.size)
    (h : ∀ g' c' w', w'.ownsRow base 45 2 (.slice (some ⟨g', 0, none⟩) (n + 1) c') (n + 1) ((ys ++ [y]).flatMap Ser.cells) → Chg (fun i => v.ownBlock = some i) w0 w' → K (a.put o.dst (.slice (some ⟨g', 0, none⟩) (n + 1) c')) w') :
    if Region.wanted o (yielded ops a.tmps) = true then Oper.wp Tryz.prog o a w K Q else E := by
  subst hw
  obtain ⟨iE, zE, hiE, hzE0, hzE1, hzE2, hzE3⟩ := info_z infoE
  refine step_pushN _ hgd s x 23 ho 45 iE zE 2 48 Tryz.underlying23 hiE hzE0 hzE1 hzE2 hzE3 (by decide) base v n (ys.flatMap Ser.cells) hs (hown.alloc _) ⟨w0.heap.size, 0, none⟩ y.cells hx rfl (fun j u hu => by
    have h9 := (Blk.new w0 45 y.cells).cell (0 + j)
    rw [Addr.add_lit]
    exact h9.trans (by rw [Nat.zero_add]; exact hu)) (by intro u hu; simp [Ser.cells] at hu; rcases hu with rfl | rfl <;> rfl) (by unfold maxLen; omega) (by omega) (by simp; omega) ?_
  intro g' c' w' h1 h2
  exact h g' c' w' (by rw [List.flatMap_append]; simpa using h1) h2.chg.1
theorem wpList_pushEb (w : World) {ops : Array Oper} {rest : List Oper} {o : Oper} {a : Act} {Q : Exit → Act → World → Prop} (hgd : o.guard = none) (s x : Operand)
    (ho : o.op = .call { callee := .builtin .append, args := #[s, x], argTypes := #[23, 23] }) (base : Nat) (v : Value) (n : Nat) (ys : List Ser) (y : Ser) (hs : a.eval s = v) (w0 : World) (hown : w0.ownsRow base 45 2 v n (ys.flatMap Ser.cells))
    (hw : w = w0.alloc (.cells #[.slice y.la y.ln y.lc, .slice y.sa y.sn y.sc] 45)) (hx : a.eval x = .slice (some ⟨w0.heap.size, 0, none⟩) 1 1) (hn : n ≤ 1000000000) (hbase : base ≤ w0.heap.size)
    (h : ∀ g' c' w', w'.ownsRow base 45 2 (.slice (some ⟨g', 0, none⟩) (n + 1) c') (n + 1) ((ys ++ [y]).flatMap Ser.cells) → Chg (fun i => v.ownBlock = some i) w0 w' → wpList Tryz.prog ops Q rest (a.put o.dst (.slice (some ⟨g', 0, none⟩) (n + 1) c')) w') : wpList Tryz.prog ops Q (o :: rest) a w := by
  subst hw
  obtain ⟨iE, zE, hiE, hzE0, hzE1, hzE2, hzE3⟩ := info_z infoE
  refine wpList_pushN _ hgd s x 23 ho 45 iE zE 2 48 Tryz.underlying23 hiE hzE0 hzE1 hzE2 hzE3 (by decide) base v n (ys.flatMap Ser.cells) hs (hown.alloc _) ⟨w0.heap.size, 0, none⟩ y.cells hx rfl (fun j u hu => by
    have h9 := (Blk.new w0 45 y.cells).cell (0 + j)
    rw [Addr.add_lit]
    exact h9.trans (by rw [Nat.zero_add]; exact hu)) (by intro u hu; simp [Ser.cells] at hu; rcases hu with rfl | rfl <;> rfl) (by unfold maxLen; omega) (by omega) (by simp; omega) ?_
  intro g' c' w' h1 h2
  exact h g' c' w' (by rw [List.flatMap_append]; simpa using h1) h2.chg.1
theorem encS_flat (l : List Sm) : l.flatMap encS = cS l := by
  unfold cS
  rfl
structure LI (w wx : World) (xs ys : List Ser) (i : Nat) (v : Value) : Prop where
  pr : ys.map prS = (xs.take i).map prS
  len : ys.length = i
  own : wx.ownsRow w.heap.size 45 2 v i (ys.flatMap Ser.cells)
  lent : ∀ y ∈ ys, LnE w.heap.size wx y
  bel : Below w.heap.size w wx

set_option maxHeartbeats 8000000 in
set_option maxRecDepth 8000 in
theorem lentP (ad : Option Addr) (N c : Nat) (xs : List Ser) (w : World) (hE : Es w ad 2 (xs.map Ser.cells)) (hM : ∀ x ∈ xs, SerN w x) (hW : ∀ x ∈ xs, WfS x ∧ x.ln ≤ 100000 ∧ x.sn ≤ 100000) (hN : xs.length = N) (hN9 : N ≤ 2000) :
    Calls Tryz.prog 11 #[.slice ad N c] w fun e w' => ∃ g c' ys bh, e = .returned (.slice (some ⟨g, 0, none⟩) N c') ∧ ys.map prS = xs.map prS ∧ w'.ownsRow w.heap.size 45 2 (.slice (some ⟨g, 0, none⟩) (N + 1) c') (N + 1) ((ys ++ [bh]).flatMap Ser.cells) ∧ (∀ y ∈ ys, LnE w.heap.size w' y) ∧ bh.ln = 1 ∧ N + 1 ≤ c' ∧ c' ≤ 9223372036854775807 ∧ Below w.heap.size w w' := by
  obtain ⟨iL, zL, hiL, hzL0, hzL1, hzL2, hzL3⟩ := info_z infoL
  obtain ⟨iE, zE, hiE, hzE0, hzE1, hzE2, hzE3⟩ := info_z infoE
  obtain ⟨iS, hiS, hzS0, hzS1, hzS2⟩ := info_parts info32
  have HE := hidden hE
  have HM := hidden hM
  have HW := hidden hW
  have HN := hidden hN
  clear hE hM hW hN
  go_enter Tryz.func11, Tryz.ntmps11
  go_wp2_with fail
  go_loopw [3, 4, 5, 6] (fun v3 v4 v5 v6 wx => ∃ (i : Nat) (ys : List Ser) (a3 : Option Addr) (c3 : Nat), v4 = .int .i64 (i : Int) ∧ v3 = .slice a3 i c3 ∧ i ≤ N ∧ Hid (LI w wx xs ys i (.slice a3 i c3))) (fun _ v4 _ _ _ => N - (intOf v4).toNat)
  case atStart => exact ⟨0, [], none, 0, rfl, rfl, by omega, hidden ⟨rfl, rfl, World.ownsRow_nil _ _ _ _, fun y hy => (by cases hy), Below.refl _ _⟩⟩
  case round =>
    obtain ⟨i, ys, a3, c3, rfl, rfl, hi, hI⟩ := hrel
    by_cases hin : i < N
    · obtain ⟨x, hx⟩ : ∃ x, xs[i]? = some x := ⟨xs[i]'(by have := HN.out; omega), by simp⟩
      have hmx := List.mem_of_getElem? hx
      have hxm : (xs.map Ser.cells)[i]? = some [.slice x.la x.ln x.lc, .slice x.sa x.sn x.sc] := by rw [List.getElem?_map, hx]; rfl
      have hin' : (i : Int) < (N : Int) := by omega
      have HX := hidden hx
      have HXM : Hid (∀ wx, Below w.heap.size w wx → SerN wx x) := hidden (fun wx hb => (HM.out x hmx).later hb)
      have hw := HW.out x hmx
      have hx0 := HM.out x hmx
      obtain ⟨b1, o1, hadd, _, _⟩ := HE.out (by intro h0; rw [h0] at hxm; simp at hxm)
      have HCEL : Hid (∀ wx, Below w.heap.size w wx → wx.cell? ⟨b1, o1 + i * 2, none⟩ = some (.slice x.la x.ln x.lc) ∧ wx.cell? ⟨b1, o1 + i * 2 + 1, none⟩ = some (.slice x.sa x.sn x.sc)) := hidden (fun wx hb => by
        obtain ⟨b2, o2, e, _, hcell⟩ := (HE.out.later hb) (by intro h0; rw [h0] at hxm; simp at hxm)
        rw [hadd] at e
        simp only [Option.some.injEq, Addr.mk.injEq, and_true] at e
        obtain ⟨rfl, rfl⟩ := e
        have e0 := hcell i _ hxm 0 _ rfl
        have e1 := hcell i _ hxm 1 _ rfl
        rw [Nat.add_zero] at e0
        exact ⟨e0, e1⟩)
      subst hadd
      have HL : Hid (x.L.length = x.ln ∧ x.S.length = x.sn) := hidden ⟨hx0.2.1, hx0.2.2.2.2.1⟩
      have HOK := hidden hx0.2.2.2.1.sz
      have hnol : x.la = none → x.ln = 0 := fun e => by
        by_cases h0 : x.L = []
        · rw [← hx0.2.1, h0]; rfl
        · obtain ⟨b, o, e2, _⟩ := hx0.1 (by simpa using h0)
          rw [e] at e2
          cases e2
      have hnos : x.sa = none → x.sn = 0 := fun e => by
        by_cases h0 : x.S = []
        · rw [← hx0.2.2.2.2.1, h0]; rfl
        · obtain ⟨b, o, e2, _⟩ := hx0.2.2.2.1.at' h0
          rw [e] at e2
          cases e2
      have HNO : Hid ((x.la = none → x.ln = 0 ∧ x.lc = 0) ∧ (x.sa = none → x.sn = 0 ∧ x.sc = 0)) := hidden ⟨fun e => ⟨hnol e, hw.1.1 e⟩, fun e => ⟨hnos e, hw.1.2.1 e⟩⟩
      have HXL : Hid (∀ wx, Below w.heap.size w wx → ∀ a', x.la = some a' → ∀ j u, (x.L.flatMap La.cells)[j]? = some u → wx.cell? (a'.add j) = some u) := hidden (fun wx hb a' ha j u hu => es_flat (cells := La.cells) (k := 2) (fun _ => rfl) (by omega) (by have := (HXM.out wx hb).1; rw [ha] at this; exact this) j u hu)
      have HXS : Hid (∀ wx, Below w.heap.size w wx → ∀ a', x.sa = some a' → ∀ j u, (cS x.S)[j]? = some u → wx.cell? (a'.add j) = some u) := hidden (fun wx hb a' ha j u hu => es_flat (cells := encS) (k := 2) (fun _ => rfl) (by omega) (by have := ss_es (HXM.out wx hb).2.2.2.1; rw [ha] at this; exact this) j u hu)
      clear hnol hnos HXM
      have hln := hw.2.1
      have hsn := hw.2.2
      obtain ⟨k0, k1⟩ := HCEL.out wr hI.out.bel
      clear hx hmx hxm hw hx0
      generalize x.la = xla at *
      generalize x.ln = xln at *
      generalize x.lc = xlc at *
      generalize x.sa = xsa at *
      generalize x.sn = xsn at *
      generalize x.sc = xsc at *
      have hlL : (x.L.flatMap La.cells).length = xln * 2 := by
        rw [← HL.out.1]
        generalize x.L = l
        induction l with
        | nil => rfl
        | cons y r ih => rw [List.flatMap_cons, List.length_append, ih, List.length_cons]; simp [La.cells]; omega
      have hlS : (cS x.S).length = xsn * 2 := by rw [cS_length, HL.out.2]
      have oneL : ∀ u ∈ x.L.flatMap La.cells, u.oneCell' = true := fun u hu => by
        obtain ⟨y, _, hy⟩ := List.mem_flatMap.1 hu
        simp [La.cells] at hy
        rcases hy with rfl | rfl <;> rfl
      have HLL := hidden (And.intro hlL (And.intro hlS oneL))
      clear hlL hlS oneL
      go_wp2_with (first
        | (at_builtin; refine wpList_appE wr rfl (.tmp 13) (.tmp 18) 42 47 rfl iL zL 2 32 Tryz.underlying42 hiL hzL0 hzL1 hzL2 hzL3 (by decide) rfl xla xln xlc (x.L.flatMap La.cells) rfl HLL.out.1 (HXL.out wr hI.out.bel) HLL.out.2.2 HNO.out.1 (by unfold maxLen; omega) (by omega) ?_; intro a1 c1 w1 ho1 hb1
           have HO1 := hidden ho1
           have H1 := hidden hb1
           clear ho1 hb1)
        | (at_builtin; refine wpList_pushLb _ rfl (.tmp 20) (.tmp 22) rfl wr.heap.size (.slice a1 xln c1) xln x.L rfl w1 HO1.out rfl rfl (by omega) H1.out.size ?_; intro g2 c2 w2 ho2 hb2
           have HO2 := hidden ho2
           have H2 : Hid (Below wr.heap.size wr w2) := hidden (H1.out.trans hb2)
           have HB2 := hidden (hI.out.bel.trans (H2.out.mono hI.out.bel.size))
           have k0' := (HCEL.out w2 HB2.out).1
           have k1' := (HCEL.out w2 HB2.out).2
           clear ho2 hb2)
        | (at_builtin; refine wpList_appE w2 rfl (.tmp 24) (.tmp 29) 43 50 rfl iS (.agg #[.int .i64 0, .int .u64 0]) 2 16 Tryz.underlying43 hiS hzS0 hzS1 hzS2 rfl (by decide) rfl xsa xsn xsc (cS x.S) rfl HLL.out.2.1 (HXS.out w2 HB2.out) (cS_one _) HNO.out.2 (by unfold maxLen; omega) (by omega) ?_; intro a3' c3' w3 ho3 hb3
           have HO3 := hidden ho3
           have H3 := hidden hb3
           clear ho3 hb3)
        | (at_builtin; refine wpList_pushSb _ rfl (.tmp 31) (.tmp 33) rfl w2.heap.size (.slice a3' xsn c3') xsn x.S rfl w3 HO3.out rfl rfl (by omega) H3.out.size ?_; intro g4 c4 w4 ho4 hb4
           have HO4 := hidden ho4
           have H4 : Hid (Below w2.heap.size w2 w4) := hidden (H3.out.trans hb4)
           have HB4 := hidden (HB2.out.trans (H4.out.mono HB2.out.size))
           clear ho4 hb4 k0' k1'))
      have HOUT : Hid (w4.ownsRow w.heap.size 45 2 (.slice a3 i c3) i (ys.flatMap Ser.cells)) := hidden (owl hI.out.own (H2.out.trans (H4.out.mono H2.out.size)))
      have hcp2 := owns_formS HO2.out
      have hcp4 := owns_formS HO4.out
      obtain ⟨c2n, c2m⟩ : xln + 1 ≤ c2 ∧ c2 ≤ 9223372036854775807 := by
        obtain ⟨_, _, e, _, _, h1, h2⟩ := hcp2
        injection e with _ _ e
        subst e
        unfold maxLen at h2
        omega
      obtain ⟨c4n, c4m⟩ : xsn + 1 ≤ c4 ∧ c4 ≤ 9223372036854775807 := by
        obtain ⟨_, _, e, _, _, h1, h2⟩ := hcp4
        injection e with _ _ e
        subst e
        unfold maxLen at h2
        omega
      clear hcp2 hcp4
      obtain ⟨y0, y1⟩ := HCEL.out w4 HB4.out
      have z0 : w4.drew.cell? ⟨b1, o1 + i * 2, none⟩ = some (.slice xla xln xlc) := y0
      have z1 : w4.drew.cell? ⟨b1, o1 + i * 2 + 1, none⟩ = some (.slice xsa xsn xsc) := y1
      have q1 : (xln : Int) ≤ (c2 : Int) := by omega
      have q2 : (xsn : Int) ≤ (c4 : Int) := by omega
      have q3 : ¬ c2 = 0 := by omega
      have q4 : ¬ c4 = 0 := by omega
      have q5 : xln ≤ c2 := by omega
      have q6 : xsn ≤ c4 := by omega
      have hsz4 := HB4.out.size
      have hi9 : i ≤ 2000 := by omega
      obtain ⟨y, hy⟩ : ∃ y : Ser, (⟨some ⟨g2, 0, none⟩, xln, c2, x.L, some ⟨g4, 0, none⟩, xsn, c4, x.S⟩ : Ser) = y := ⟨_, rfl⟩
      have HNEW : Hid (∀ (g5 c5 : Nat) (w5 : World), w5.ownsRow w.heap.size 45 2 (.slice (some ⟨g5, 0, none⟩) (i + 1) c5) (i + 1) ((ys ++ [y]).flatMap Ser.cells) → Chg (fun q => Value.ownBlock (.slice a3 i c3) = some q) w4 w5 → LI w w5 xs (ys ++ [y]) (i + 1) (.slice (some ⟨g5, 0, none⟩) (i + 1) c5)) := hidden (fun g5 c5 w5 ho5 hc5 => by
        have hty : ∀ q, Value.ownBlock (.slice a3 i c3) = some q → ¬ Ty w4 q 47 ∧ ¬ Ty w4 q 50 := fun q hq => ⟨fun h => absurd ((ty_owns HOUT.out hq).ne h) (by decide), fun h => absurd ((ty_owns HOUT.out hq).ne h) (by decide)⟩
        refine ⟨?_, ?_, ho5, fun u hu => ?_, HB4.out.trans (hc5.below HB4.out.size (fun q hq => (HOUT.out.lt q hq).1))⟩
        · rw [List.map_append, hI.out.pr, List.take_add_one, HX.out, List.map_append]
          rw [← hy]
          rfl
        · rw [List.length_append, hI.out.len]; rfl
        · rcases List.mem_append.1 hu with hu | hu
          · obtain ⟨l1, l2⟩ := hI.out.lent u hu
            refine ⟨SrO.chg ?_ hc5 hty, l2⟩
            obtain ⟨m1, m2, m3, m4, m5⟩ := l1
            exact ⟨m1, m2, owl m3 (H2.out.trans (H4.out.mono H2.out.size)), owl m4 (H2.out.trans (H4.out.mono H2.out.size)), m5⟩
          · simp at hu
            subst hu
            rw [← hy]
            have hbw : w.heap.size ≤ wr.heap.size := hI.out.bel.size
            have hbw2 : w.heap.size ≤ w2.heap.size := HB2.out.size
            refine ⟨SrO.chg ⟨?_, ?_, ?_, ?_, ?_⟩ hc5 hty, HL.out.1, HL.out.2, by simp only; omega, by simp only; omega, by simp only; omega, by simp only; omega, by simp only; omega, by simp only; omega⟩
            · simp [Ser.plus, HL.out.1]
            · simp [Ser.plus, HL.out.2]
            · exact owns_base (owl HO2.out H4.out) (fun g hg => by have := (HO2.out.lt g hg).1; omega)
            · exact owns_base HO4.out (fun g hg => by have := (HO4.out.lt g hg).1; omega)
            · intro u hu
              rcases List.mem_append.1 hu with hu | hu
              · exact HOK.out u hu
              · simp at hu
                subst hu
                exact ⟨⟨by decide, by decide⟩, by decide⟩)
      have HY := hidden hy
      clear hy HL HLL HXL HXS HNO HOK HX
      go_region_law (first
        | (refine step_pushEb _ (by rfl) (.tmp 35) (.tmp 53) (by rfl) w.heap.size (.slice a3 i c3) i ys y (by rfl) w4.drew HOUT.out.drew (by rw [← HY.out]; rfl) (by rfl) (by omega) (by exact hsz4) ?_
           intro g5 c5 w5 ho5 hc5
           have HI5 := hidden (HNEW.out g5 c5 w5 ho5 ((Chg.of_below ((Below.refl _ w4).drew)).trans hc5 (fun _ _ e => e)))
           clear ho5 hc5))
      all_goals
        go_wp2_with fail
        refine ⟨⟨i + 1, ys ++ [y], _, _, by first | rfl | simp, rfl, by omega, HI5⟩, ?_⟩
        show N - ((i : Int) + 1).toNat < N - (i : Int).toNat
        omega
    · obtain rfl : i = N := by omega
      have hszr := hI.out.bel.size
      go_wp2_with (first
        | (at_builtin; refine wpList_pushEb _ rfl (.tmp 55) (.tmp 59) rfl w.heap.size (.slice a3 i c3) i ys ⟨some ⟨wr.heap.size, 0, none⟩, 1, 1, [bhL], none, 0, 0, []⟩ rfl (wr.alloc (.cells #[.string ⟨#[98, 101, 104, 105, 110, 100]⟩, .string ⟨#[]⟩] 47)) (hI.out.own.alloc _) rfl (by simp [Act.eval]) (by omega) (by simp; omega) ?_
           intro g5 c5 w5 ho5 hc5
           have HO5 := hidden ho5
           have HC5 := hidden ((Chg.of_below ((Below.refl _ wr).alloc (Nat.le_refl _) _)).trans hc5 (fun _ _ e => e))
           obtain ⟨c5n, c5m⟩ : i + 1 ≤ c5 ∧ c5 ≤ 9223372036854775807 := by
             obtain ⟨_, _, e, _, _, h1, h2⟩ := owns_formS ho5
             injection e with _ _ e
             subst e
             unfold maxLen at h2
             omega
           have q1 : (i : Int) ≤ (c5 : Int) := by omega
           have q3 : ¬ c5 = 0 := by omega
           clear ho5 hc5))
      go_ret
      have hty : ∀ q, Value.ownBlock (.slice a3 i c3) = some q → ¬ Ty wr q 47 ∧ ¬ Ty wr q 50 := fun q hq => ⟨fun h => absurd ((ty_owns hI.out.own hq).ne h) (by decide), fun h => absurd ((ty_owns hI.out.own hq).ne h) (by decide)⟩
      refine ⟨g5, c5, ys, _, rfl, ?_, HO5.out, fun u hu => ?_, rfl, c5n, c5m, hI.out.bel.trans (HC5.out.below hI.out.bel.size (fun q hq => (hI.out.own.lt q hq).1))⟩
      · rw [hI.out.pr, ← HN.out, List.take_length]
      · obtain ⟨l1, l2⟩ := hI.out.lent u hu
        exact ⟨SrO.chg l1 HC5.out hty, l2⟩

end Go.Proofs.YtalmpmhnkilalaaGreatDoor

/-
  WireWrites: stillSeries.
-/
namespace Go.Proofs.YtalmpmhnkilalaaGreatDoor
open Go Go.RowKit
set_option linter.unusedVariables false
set_option linter.unusedSimpArgs false

theorem Es.left {w : World} {ad : Option Addr} {k : Nat} {L M : List (List Value)} (h : Es w ad k (L ++ M)) : Es w ad k L := by
  intro h0
  obtain ⟨b, off, e, hlt, hc⟩ := h (by simp [h0])
  exact ⟨b, off, e, hlt, fun i x hx j v hv => hc i x (by rw [List.getElem?_append_left (List.getElem?_eq_some_iff.1 hx).1]; exact hx) j v hv⟩
theorem Ss.left {w : World} {ad : Option Addr} {l m : List Sm} (h : Ss w ad (l ++ m)) : Ss w ad l := by
  refine ⟨fun x hx => h.sz x (List.mem_append_left _ hx), fun h0 => ?_⟩
  obtain ⟨b, off, e, hlt, hc⟩ := h.at' (by simp [h0])
  exact ⟨b, off, e, hlt, fun i x hx => hc i x (by rw [List.getElem?_append_left (List.getElem?_eq_some_iff.1 hx).1]; exact hx)⟩
theorem LnE.later {B : Nat} {w w' : World} {x : Ser} (h : LnE B w x) (hb : Below w.heap.size w w') : LnE B w' x := by
  obtain ⟨⟨m1, m2, m3, m4, m5⟩, h2⟩ := h
  exact ⟨⟨m1, m2, owl m3 hb, owl m4 hb, m5⟩, h2⟩
theorem LnE.labs {B : Nat} {w : World} {x : Ser} (h : LnE B w x) : ∃ g, x.la = some ⟨g, 0, none⟩ ∧ Es w (some ⟨g, 0, none⟩) 2 ((x.L ++ [bhL]).map La.cells) := by
  obtain ⟨⟨m1, m2, m3, m4, m5⟩, h2⟩ := h
  have hes := es_owns (cells := La.cells) (k := 2) (fun _ => rfl) m3 m1
  rcases m3.2 with ⟨e, h0⟩ | ⟨g, cap, cur, e, _⟩
  · exact absurd h0 (by simp [Ser.plus])
  · injection e with e1 e2 e3
    have e1 : x.la = some ⟨g, 0, none⟩ := e1
    refine ⟨g, e1, ?_⟩
    rw [← e1]
    exact hes
theorem LnE.sams {B : Nat} {w : World} {x : Ser} (h : LnE B w x) : ∃ g, x.sa = some ⟨g, 0, none⟩ ∧ Ss w (some ⟨g, 0, none⟩) (x.S ++ [bhS]) := by
  obtain ⟨⟨m1, m2, m3, m4, m5⟩, h2⟩ := h
  have hss := ss_of_owns m4 m5
  rcases m4.2 with ⟨e, h0⟩ | ⟨g, cap, cur, e, _⟩
  · exact absurd h0 (by simp [Ser.plus])
  · injection e with e1 e2 e3
    have e1 : x.sa = some ⟨g, 0, none⟩ := e1
    refine ⟨g, e1, ?_⟩
    rw [← e1]
    exact hss
theorem LnE.ser {B : Nat} {w : World} {x : Ser} (h : LnE B w x) : SerN w x := by
  obtain ⟨g, e, h1⟩ := h.labs
  obtain ⟨g2, e2, h3⟩ := h.sams
  obtain ⟨_, l1, l2, l3, l4, _⟩ := h
  rw [List.map_append] at h1
  refine ⟨by rw [e]; exact h1.left, l1, by omega, by rw [e2]; exact h3.left, l2, by omega⟩
/-- A list that is lent. -/
structure LL (B : Nat) (w : World) (g N c : Nat) (ys : List Ser) (bh : Ser) : Prop where
  own : w.ownsRow B 45 2 (.slice (some ⟨g, 0, none⟩) (N + 1) c) (N + 1) ((ys ++ [bh]).flatMap Ser.cells)
  len : ys.length = N
  lent : ∀ y ∈ ys, LnE B w y
  bhl : bh.ln = 1
  cap : N + 1 ≤ c ∧ c ≤ 9223372036854775807
theorem LL.later {B : Nat} {w w' : World} {g N c : Nat} {ys : List Ser} {bh : Ser} (h : LL B w g N c ys bh) (hb : Below w.heap.size w w') : LL B w' g N c ys bh := ⟨owl h.own hb, h.len, fun y hy => (h.lent y hy).later hb, h.bhl, h.cap⟩
theorem LL.es {B : Nat} {w : World} {g N c : Nat} {ys : List Ser} {bh : Ser} (h : LL B w g N c ys bh) : Es w (some ⟨g, 0, none⟩) 2 ((ys ++ [bh]).map Ser.cells) := es_owns (cells := Ser.cells) (k := 2) (fun _ => rfl) h.own (by rw [List.length_append, h.len]; rfl)

set_option maxHeartbeats 8000000 in
set_option maxRecDepth 8000 in
theorem stillP (B g N c1 : Nat) (ys : List Ser) (bh : Ser) (ad : Option Addr) (c : Nat) (xs : List Ser) (w : World) (hL : LL B w g N c1 ys bh) (hE : Es w ad 2 (xs.map Ser.cells)) (hM : ∀ x ∈ xs, SerN w x) (hpr : ys.map prS = xs.map prS) (hN : xs.length = N) (hN9 : N ≤ 2000) :
    Calls Tryz.prog 14 #[.slice (some ⟨g, 0, none⟩) N c1, .slice ad N c] w (YesP w) := by
  have HL := hidden hL
  have HE := hidden hE
  have HM := hidden hM
  have HP := hidden hpr
  have HN := hidden hN
  have hcap := hL.cap
  have hcap1 : ((N : Int) + 1) ≤ (c1 : Int) := by omega
  have HSAME := hidden (sameSeriesY (some ⟨g, 0, none⟩) ad N c1 c ys xs w (by have := hL.es; rw [List.map_append] at this; exact this.left) hE (fun y hy => (hL.lent y hy).ser) hM hpr hL.len (by omega))
  clear hL hE hM hpr hN
  go_enter Tryz.func14, Tryz.ntmps14
  go_wp2_with fail
  refine HSAME.out.mono ?_
  rintro e w1 ⟨rfl, b1⟩
  have HB1 := hidden b1
  clear b1
  go_wp2_with fail
  go_loopw [5, 6, 7, 8] (fun v5 v6 v7 v8 wx => ∃ i : Nat, v6 = .int .i64 (i : Int) ∧ v5 = .bool true ∧ i ≤ N ∧ Hid (Below w.heap.size w wx)) (fun _ v6 _ _ _ => N - (intOf v6).toNat)
  case atStart => exact ⟨0, rfl, rfl, by omega, HB1⟩
  case round =>
    obtain ⟨i, rfl, rfl, hi, hI⟩ := hrel
    by_cases hin : i < N
    · obtain ⟨x, hx⟩ : ∃ x, xs[i]? = some x := ⟨xs[i]'(by have := HN.out; omega), by simp⟩
      obtain ⟨y, hy, hxy⟩ := map_at HP.out.symm hx
      have hxm : (xs.map Ser.cells)[i]? = some [.slice x.la x.ln x.lc, .slice x.sa x.sn x.sc] := by rw [List.getElem?_map, hx]; rfl
      have hym : ((ys ++ [bh]).map Ser.cells)[i]? = some [.slice y.la y.ln y.lc, .slice y.sa y.sn y.sc] := by rw [List.getElem?_map, List.getElem?_append_left (List.getElem?_eq_some_iff.1 hy).1, hy]; rfl
      have hyl := HL.out.lent y (List.mem_of_getElem? hy)
      have hxl := HM.out x (List.mem_of_getElem? hx)
      have hL' : y.L = x.L := congrArg Prod.fst hxy
      have hS' : y.S = x.S := congrArg Prod.snd hxy
      have hln : y.ln = x.ln := by rw [← hyl.2.1, ← hxl.2.1, hL']
      have hsn : y.sn = x.sn := by rw [← hyl.2.2.1, ← hxl.2.2.2.2.1, hS']
      obtain ⟨gl, el, hesl⟩ := hyl.labs
      obtain ⟨gs, es, hess⟩ := hyl.sams
      have HCEL : Hid (∀ wx, Below w.heap.size w wx → ∃ b1 o1, ad = some ⟨b1, o1, none⟩ ∧ wx.cell? ⟨b1, o1 + i * 2, none⟩ = some (.slice x.la x.ln x.lc) ∧ wx.cell? ⟨b1, o1 + i * 2 + 1, none⟩ = some (.slice x.sa x.sn x.sc) ∧ wx.cell? ⟨g, i * 2, none⟩ = some (.slice (some ⟨gl, 0, none⟩) x.ln y.lc) ∧ wx.cell? ⟨g, i * 2 + 1, none⟩ = some (.slice (some ⟨gs, 0, none⟩) x.sn y.sc)
          ∧ wx.cell? ⟨gl, x.ln * 2, none⟩ = some (.string ⟨#[98, 101, 104, 105, 110, 100]⟩) ∧ wx.cell? ⟨gl, x.ln * 2 + 1, none⟩ = some (.string ⟨#[]⟩) ∧ wx.cell? ⟨gs, x.sn * 2, none⟩ = some (.int .i64 (-7)) ∧ wx.cell? ⟨gs, x.sn * 2 + 1, none⟩ = some (.int .u64 0)) := hidden (fun wx hb => by
        obtain ⟨b1, o1, ea, _, hc1⟩ := (HE.out.later hb) (by intro h0; rw [h0] at hxm; simp at hxm)
        obtain ⟨b2, o2, eb, _, hc2⟩ := (HL.out.es.later hb) (by intro h0; rw [h0] at hym; simp at hym)
        obtain ⟨b3, o3, ec, _, hc3⟩ := (hesl.later hb) (by simp)
        obtain ⟨b4, o4, ed, _, hc4⟩ := ((ss_es hess).later hb) (by simp)
        simp only [Option.some.injEq, Addr.mk.injEq, and_true] at eb ec ed
        obtain ⟨rfl, rfl⟩ := eb
        obtain ⟨rfl, rfl⟩ := ec
        obtain ⟨rfl, rfl⟩ := ed
        have m1 : ((y.L ++ [bhL]).map La.cells)[x.ln]? = some bhL.cells := by rw [List.getElem?_map, List.getElem?_append_right (by rw [hyl.2.1]; omega), hyl.2.1, hln]; simp
        have m2 : ((y.S ++ [bhS]).map encS)[x.sn]? = some (encS bhS) := by rw [List.getElem?_map, List.getElem?_append_right (by rw [hyl.2.2.1]; omega), hyl.2.2.1, hsn]; simp
        have r1 := hc1 i _ hxm 0 _ rfl
        have r2 := hc1 i _ hxm 1 _ rfl
        have r3 := hc2 i _ hym 0 _ rfl
        have r4 := hc2 i _ hym 1 _ rfl
        have r5 := hc3 _ _ m1 0 _ rfl
        have r6 := hc3 _ _ m1 1 _ rfl
        have r7 := hc4 _ _ m2 0 _ rfl
        have r8 := hc4 _ _ m2 1 _ rfl
        rw [el, hln] at r3
        rw [es, hsn] at r4
        simp only [Nat.add_zero, Nat.zero_add] at r1 r3 r4 r5 r6 r7 r8
        exact ⟨b1, o1, ea, r1, r2, r3, r4, r5, r6, r7, r8⟩)
      have hlc : x.ln + 1 ≤ y.lc := by have := hyl.2.2.2.2.2.1; omega
      have hsc : x.sn + 1 ≤ y.sc := by have := hyl.2.2.2.2.2.2.1; omega
      have hln9 : x.ln ≤ 1000000 := by have := hyl.2.2.2.1; omega
      have hsn9 : x.sn ≤ 1000000 := by have := hyl.2.2.2.2.1; omega
      have hlc9 := hyl.2.2.2.2.2.2.2.1
      have hsc9 := hyl.2.2.2.2.2.2.2.2
      have hin' : (i : Int) < (N : Int) := by omega
      obtain ⟨b1, o1, rfl, r1, r2, r3, r4, r5, r6, r7, r8⟩ := HCEL.out wr hI.out
      clear hx hy hxm hym hyl hxl hL' hS' hln hsn el es hesl hess hxy
      generalize x.la = xla at *
      generalize x.ln = xln at *
      generalize x.lc = xlc at *
      generalize x.sa = xsa at *
      generalize x.sn = xsn at *
      generalize x.sc = xsc at *
      generalize y.lc = ylc at *
      generalize y.sc = ysc at *
      have q1 : ((xln : Int) + 1) ≤ (ylc : Int) := by omega
      have q2 : ((xsn : Int) + 1) ≤ (ysc : Int) := by omega
      have q3 : ¬ ylc = 0 := by omega
      have q4 : ¬ ysc = 0 := by omega
      go_wp2_with fail
      go_quiet (fail)
      have HA : Hid (Below w.heap.size w (wr.drewN nq)) := hidden (below_drewN hI.out nq)
      obtain ⟨wA, hwA⟩ : ∃ wz, wr.drewN nq = wz := ⟨_, rfl⟩
      rw [hwA] at HA
      rw [hwA]
      clear hwA r1 r2 r3 r4 r5 r6 r7 r8 nq
      obtain ⟨bz, oz, hbe, r1, r2, r3, r4, r5, r6, r7, r8⟩ := HCEL.out wA HA.out
      simp only [Option.some.injEq, Addr.mk.injEq, and_true] at hbe
      obtain ⟨rfl, rfl⟩ := hbe
      go_wp2_with fail
      go_quiet (fail)
      have HB : Hid (Below w.heap.size w (wA.drewN nq)) := hidden (below_drewN HA.out nq)
      obtain ⟨wB, hwB⟩ : ∃ wz, wA.drewN nq = wz := ⟨_, rfl⟩
      rw [hwB] at HB
      rw [hwB]
      clear hwB r1 r2 r3 r4 r5 r6 r7 r8 nq
      obtain ⟨bz, oz, hbe, r1, r2, r3, r4, r5, r6, r7, r8⟩ := HCEL.out wB HB.out
      simp only [Option.some.injEq, Addr.mk.injEq, and_true] at hbe
      obtain ⟨rfl, rfl⟩ := hbe
      go_wp2_with fail
      refine ⟨⟨i + 1, by first | rfl | simp, by first | rfl | simp, by omega, HB⟩, ?_⟩
      show N - ((i : Int) + 1).toNat < N - (i : Int).toNat
      omega
    · obtain rfl : i = N := by omega
      have hes := HL.out.es
      have hbm : ((ys ++ [bh]).map Ser.cells)[i]? = some [.slice bh.la bh.ln bh.lc, .slice bh.sa bh.sn bh.sc] := by rw [List.getElem?_map, List.getElem?_append_right (by rw [HL.out.len]; omega), HL.out.len]; simp [Ser.cells]
      obtain ⟨b2, o2, eb, _, hc2⟩ := (hes.later hI.out) (by simp)
      simp only [Option.some.injEq, Addr.mk.injEq, and_true] at eb
      obtain ⟨rfl, rfl⟩ := eb
      have r3 := hc2 i _ hbm 0 _ rfl
      rw [HL.out.bhl] at r3
      simp only [Nat.add_zero, Nat.zero_add] at r3
      clear hes hbm hc2
      generalize bh.la = bla at *
      generalize bh.lc = blc at *
      have q3 : ¬ c1 = 0 := by omega
      go_wp2_with fail
      go_ret
      exact ⟨by first | rfl | simp, hI.out⟩

end Go.Proofs.YtalmpmhnkilalaaGreatDoor

/-
  WireWrites, WireAnswers: what comes in, with more told of its lists; heavy. By genltc20.py.
-/
namespace Go.Proofs.YtalmpmhnkilalaaGreatDoor
open Go Go.RowKit
set_option linter.unusedVariables false
set_option linter.unusedSimpArgs false

def WfF : FM → Prop
  | .ws _ _ l => ∀ x ∈ l, WfS x
  | .se _ _ l => ∀ x ∈ l, WfS x
  | _ => True
section
variable {H : Type} {enc : TypeId × Value → H} {w : World} {base : Nat}
theorem rd_serW {n : Nat} {cs : List Value} (hl : cs.length = 2) (h : Rd enc w base n 45 cs) : ∃ s : Ser, cs = s.cells ∧ SerN w s ∧ WfS s := by
  obtain ⟨_, m, hf⟩ := h.one Tryz.underlying45 (by kernel_rfl) (by kernel_rfl)
  obtain ⟨v0, c0, g0⟩ := hf 0 _ rfl
  obtain ⟨v1, c1, g1⟩ := hf 1 _ rfl
  obtain ⟨a, cap, l, rfl, h1, h2, h3, h4, h5, h6⟩ := g0.list La.cells (fun _ => True) Tryz.underlying42 (by kernel_rfl) (by omega) (fun _ => rfl) (fun m cs hl hr => rd_label hl hr)
  obtain ⟨a', cap', l', e', h1', h2', h3', _⟩ := g1.list smC OkS Tryz.underlying43 (by kernel_rfl) (by omega) (fun _ => rfl) (fun m cs hl hr => rd_sample hl hr)
  obtain ⟨a1, k1, l1, e1, b1, s1⟩ := rd_samples g1
  have e2 := e'.symm.trans e1
  injection e2 with e2 e3 e4
  subst e2 e4 e1
  rw [show Tryz.prog.bytesOf 47 = 32 by kernel_rfl] at h6
  simp only [reachBytes] at h6
  exact ⟨⟨a, l.length, cap, l, a', l1.length, cap', l1⟩, two hl c0 c1, ⟨h4, rfl, Nat.le_trans h1 h2, s1, rfl, b1⟩, fun e => (h3 e).2, fun e => (h3' e).2, by simp only; omega⟩
def In2 (w : World) (v : Value) (k : Kd) : Prop := ∃ m : FM, v = m.val ∧ m.fv.kd = k ∧ m.mem w ∧ WfF m
theorem in_wsW {n : Nat} {v : Value} (h : Rd enc w base n 23 [v]) : In2 w v .ws := by
  obtain ⟨a, cap, l, rfl, h1, h2, h3, h4, h5, h6⟩ := h.list Ser.cells (fun s => SerN w s ∧ WfS s) Tryz.underlying23 (by kernel_rfl) (by omega) (fun _ => rfl) (fun m cs hl hr => rd_serW hl hr)
  exact ⟨.ws a cap l, rfl, rfl, ⟨by omega, h4, fun x hx => (h5 x hx).1⟩, fun x hx => (h5 x hx).2⟩
theorem in_seW {n : Nat} {v : Value} (h : Rd enc w base n 23 [v]) : In2 w v .se := by
  obtain ⟨a, cap, l, rfl, h1, h2, h3, h4, h5, h6⟩ := h.list Ser.cells (fun s => SerN w s ∧ WfS s) Tryz.underlying23 (by kernel_rfl) (by omega) (fun _ => rfl) (fun m cs hl hr => rd_serW hl hr)
  exact ⟨.se a cap l, rfl, rfl, ⟨by omega, h4, fun x hx => (h5 x hx).1⟩, fun x hx => (h5 x hx).2⟩
/-- A request that came in. -/
theorem open_requestW {n : Nat} {cs : List Value} (h : Rd enc w base n 26 cs) : ∃ k fm, cs = cQ k fm ∧ RqM w k fm ∧ WfF (fm 2) := by
  obtain ⟨hl, m, hf⟩ := h.one Tryz.underlying26 (by kernel_rfl) (by kernel_rfl)
  obtain ⟨v0, c0, g0⟩ := hf 0 _ rfl
  obtain ⟨v1, c1, g1⟩ := hf 1 _ rfl
  obtain ⟨v2, c2, g2⟩ := hf 2 _ rfl
  obtain ⟨v3, c3, g3⟩ := hf 3 _ rfl
  obtain ⟨v4, c4, g4⟩ := hf 4 _ rfl
  obtain ⟨v5, c5, g5⟩ := hf 5 _ rfl
  obtain ⟨v6, c6, g6⟩ := hf 6 _ rfl
  obtain ⟨v7, c7, g7⟩ := hf 7 _ rfl
  obtain ⟨v8, c8, g8⟩ := hf 8 _ rfl
  obtain ⟨v9, c9, g9⟩ := hf 9 _ rfl
  obtain ⟨v10, c10, g10⟩ := hf 10 _ rfl
  obtain ⟨v11, c11, g11⟩ := hf 11 _ rfl
  obtain ⟨v12, c12, g12⟩ := hf 12 _ rfl
  obtain ⟨k, rfl, bk⟩ := g0.int Tryz.underlying3
  obtain ⟨m1, rfl, k1, e1⟩ := in_tx g1
  obtain ⟨m2, rfl, k2, e2⟩ := in_tk g2
  obtain ⟨m3, rfl, k3, e3, wf3⟩ := in_wsW g3
  obtain ⟨m4, rfl, k4, e4⟩ := in_ms g4
  obtain ⟨m5, rfl, k5, e5⟩ := in_tm g5
  obtain ⟨m6, rfl, k6, e6⟩ := in_tm g6
  obtain ⟨m7, rfl, k7, e7⟩ := in_qu g7
  obtain ⟨m8, rfl, k8, e8⟩ := in_tx g8
  obtain ⟨m9, rfl, k9, e9⟩ := in_am g9
  obtain ⟨m10, rfl, k10, e10⟩ := in_am g10
  obtain ⟨m11, rfl, k11, e11⟩ := in_am g11
  obtain ⟨m12, rfl, k12, e12⟩ := in_tk g12
  let L := [m1, m2, m3, m4, m5, m6, m7, m8, m9, m10, m11, m12]
  refine ⟨k, fun i => if h : i < 12 then L[i]'h else zM (kdQ i), ?_, ⟨?_, ?_, bnds_i64 bk, fun i hi => by rw [dif_neg (by omega)]⟩, wf3⟩
  · match cs, hl with
    | [u0, u1, u2, u3, u4, u5, u6, u7, u8, u9, u10, u11, u12], _ =>
      simp only [List.getElem?_cons_zero, List.getElem?_cons_succ, Option.some.injEq] at c0 c1 c2 c3 c4 c5 c6 c7 c8 c9 c10 c11 c12
      subst c0 c1 c2 c3 c4 c5 c6 c7 c8 c9 c10 c11 c12
      rfl
  · intro i hi
    rcases (show i = 0 ∨ i = 1 ∨ i = 2 ∨ i = 3 ∨ i = 4 ∨ i = 5 ∨ i = 6 ∨ i = 7 ∨ i = 8 ∨ i = 9 ∨ i = 10 ∨ i = 11 by omega) with rfl | rfl | rfl | rfl | rfl | rfl | rfl | rfl | rfl | rfl | rfl | rfl
    all_goals first | exact k1 | exact k2 | exact k3 | exact k4 | exact k5 | exact k6 | exact k7 | exact k8 | exact k9 | exact k10 | exact k11 | exact k12
  · intro i hi
    rcases (show i = 0 ∨ i = 1 ∨ i = 2 ∨ i = 3 ∨ i = 4 ∨ i = 5 ∨ i = 6 ∨ i = 7 ∨ i = 8 ∨ i = 9 ∨ i = 10 ∨ i = 11 by omega) with rfl | rfl | rfl | rfl | rfl | rfl | rfl | rfl | rfl | rfl | rfl | rfl
    all_goals first | exact e1 | exact e2 | exact e3 | exact e4 | exact e5 | exact e6 | exact e7 | exact e8 | exact e9 | exact e10 | exact e11 | exact e12
/-- A response that came in. -/
theorem open_responseW {n : Nat} {cs : List Value} (h : Rd enc w base n 57 cs) : ∃ e k fm, cs = cA e k fm ∧ RsM w e k fm ∧ WfF (fm 0) := by
  obtain ⟨hl, m, hf⟩ := h.one Tryz.underlying57 (by kernel_rfl) (by kernel_rfl)
  obtain ⟨v0, c0, g0⟩ := hf 0 _ rfl
  obtain ⟨v1, c1, g1⟩ := hf 1 _ rfl
  obtain ⟨v2, c2, g2⟩ := hf 2 _ rfl
  obtain ⟨v3, c3, g3⟩ := hf 3 _ rfl
  obtain ⟨v4, c4, g4⟩ := hf 4 _ rfl
  obtain ⟨v5, c5, g5⟩ := hf 5 _ rfl
  obtain ⟨e, rfl, be⟩ := g0.int Tryz.underlying30
  obtain ⟨k, rfl, bk⟩ := g1.int Tryz.underlying3
  obtain ⟨m1, rfl, k1, e1, wf1⟩ := in_seW g2
  obtain ⟨m2, rfl, k2, e2⟩ := in_ro g3
  obtain ⟨m3, rfl, k3, e3⟩ := in_nu g4
  obtain ⟨m4, rfl, k4, e4⟩ := in_ts g5
  let L := [m1, m2, m3, m4]
  refine ⟨e, k, fun i => if h : i < 4 then L[i]'h else zM (kdA i), ?_, ⟨?_, ?_, bnds_i64 be, bnds_i64 bk, fun i hi => by rw [dif_neg (by omega)]⟩, wf1⟩
  · match cs, hl with
    | [u0, u1, u2, u3, u4, u5], _ =>
      simp only [List.getElem?_cons_zero, List.getElem?_cons_succ, Option.some.injEq] at c0 c1 c2 c3 c4 c5
      subst c0 c1 c2 c3 c4 c5
      rfl
  · intro i hi
    rcases (show i = 0 ∨ i = 1 ∨ i = 2 ∨ i = 3 by omega) with rfl | rfl | rfl | rfl
    all_goals first | exact k1 | exact k2 | exact k3 | exact k4
  · intro i hi
    rcases (show i = 0 ∨ i = 1 ∨ i = 2 ∨ i = 3 by omega) with rfl | rfl | rfl | rfl
    all_goals first | exact e1 | exact e2 | exact e3 | exact e4
end

theorem heavyS (ad : Option Addr) (N c : Nat) (most : Nat) (l : List Ser) (w : World) (hE : Es w ad 2 (l.map Ser.cells)) (hN : l.length = N) (hN9 : N ≤ 9223372036854775807) (hB : ∀ x ∈ l, x.ln ≤ 281474976710656 ∧ x.sn ≤ 281474976710656) :
    Calls Tryz.prog 10 #[.slice ad N c, .int .i64 (most : Int)] w fun e w' => ∃ z : Bool, e = .returned (.bool z) ∧ (z = false → N ≤ most ∧ ∀ x ∈ l, x.ln ≤ 100000 ∧ x.sn ≤ 100000) ∧ Below w.heap.size w w' := by
  have HE := hidden hE
  have HN := hidden hN
  have HB := hidden hB
  clear hE hN hB
  by_cases hm : (N : Int) > (most : Int)
  · go_enter Tryz.func10, Tryz.ntmps10
    go_wp2_with fail
    go_ret
    exact ⟨true, rfl, fun h => (by cases h), Below.refl _ _⟩
  go_enter Tryz.func10, Tryz.ntmps10
  go_wp2_with fail
  go_loopw [5, 6] (fun v5 v6 wx => ∃ i z : Nat, v6 = .int .i64 (i : Int) ∧ v5 = .int .i64 (z : Int) ∧ i ≤ N ∧ z ≤ 100000 ∧ Hid (∀ x ∈ l.take i, x.ln ≤ 100000 ∧ x.sn ≤ 100000) ∧ Hid (Below w.heap.size w wx)) (fun _ v6 _ => N - (intOf v6).toNat)
  case atStart => exact ⟨0, 0, rfl, rfl, by omega, by omega, hidden (by simp), hidden (Below.refl _ _)⟩
  case round =>
    obtain ⟨i, z, rfl, rfl, hi, hz9, hA, hI⟩ := hrel
    by_cases hin : i < N
    · obtain ⟨x, hx⟩ : ∃ x, l[i]? = some x := ⟨l[i]'(by have := HN.out; omega), by simp⟩
      have hxm : (l.map Ser.cells)[i]? = some [.slice x.la x.ln x.lc, .slice x.sa x.sn x.sc] := by rw [List.getElem?_map, hx]; rfl
      obtain ⟨b1, o1, rfl, hb1, hcell1⟩ := (HE.out.later hI.out) (by intro h0; rw [h0] at hxm; simp at hxm)
      have c0 := hcell1 i _ hxm 0 _ rfl
      have c1 := hcell1 i _ hxm 1 _ rfl
      rw [Nat.add_zero] at c0
      have hin' : (i : Int) < (N : Int) := by omega
      have hxb := HB.out x (List.mem_of_getElem? hx)
      have HNX : Hid (x.ln ≤ 100000 → x.sn ≤ 100000 → ∀ y ∈ l.take (i + 1), y.ln ≤ 100000 ∧ y.sn ≤ 100000) := hidden (fun g1 g2 y hy => by
        rw [List.take_add_one, hx] at hy
        rcases List.mem_append.1 hy with hy | hy
        · exact hA.out y hy
        · simp at hy
          subst hy
          exact ⟨g1, g2⟩)
      clear hcell1 hx hb1 hxm
      generalize x.ln = ln at *
      generalize x.sn = sn at *
      obtain ⟨z2, hz2⟩ : ∃ z2 : Nat, z + ln + sn = z2 := ⟨_, rfl⟩
      have hz3 : wrap64 (wrap64 ((z : Int) + (ln : Int)) + (sn : Int)) = (z2 : Int) := by
        have e1 : wrap64 ((z : Int) + (ln : Int)) = (z : Int) + (ln : Int) := by unfold wrap64; omega
        rw [e1]
        unfold wrap64
        omega
      go_wp2_with fail
      go_quiet (fail)
      try rw [hz3]
      by_cases hbig : z2 > 100000
      · have hbig' : (z2 : Int) > 100000 := by omega
        go_wp2_with fail
        go_ret
        exact ⟨true, rfl, fun h => (by cases h), below_drewN hI.out nq⟩
      · have hbig' : ¬ (z2 : Int) > 100000 := by omega
        go_wp2_with fail
        refine ⟨⟨i + 1, z2, by first | rfl | simp, by rw [← hz2]; first | rfl | simp, by omega, by omega, hidden (HNX.out (by omega) (by omega)), hidden (below_drewN hI.out nq)⟩, ?_⟩
        show N - ((i : Int) + 1).toNat < N - (i : Int).toNat
        omega
    · obtain rfl : i = N := by omega
      go_wp2_with fail
      go_ret
      exact ⟨false, rfl, fun _ => ⟨by omega, by have := hA.out; rw [← HN.out, List.take_length] at this; exact this⟩, hI.out⟩

end Go.Proofs.YtalmpmhnkilalaaGreatDoor
