import Derived.Test.YtanlgplgplncdaaGreatDoorTxD
import Derived.Test.YtanlgplgplncdaaGreatDoorQaZ
import Derived.Test.YtanlgplgplncdaaGreatDoorMtG
/-
  The document's Parse of matchers: what it holds.
-/
namespace Go.Proofs.YtanlgplgplncdaaGreatDoor.L
open Go.RowKit
set_option linter.unusedVariables false
set_option linter.unusedSimpArgs false

/-- What the document's Parse answers. -/
def PeR (w : World) (s : ByteArray) (w' : World) (v : Value) (p k : Int) : Prop :=
  (∃ q : Nat, parseM (bts s) = .inl q ∧ v = .slice none 0 0 ∧ p = (q : Int) ∧ k = 90) ∨
  (∃ l, parseM (bts s) = .inr l ∧ p = 0 ∧ k = 0 ∧ w'.ownsRow w.heap.size 58 3 v l.length (cM l) ∧ ∀ x ∈ l, OkM x)

/-- A matcher behind a row of matchers. -/
theorem wpList_pushM (w : World) {ops : Array Oper} {rest : List Oper} {o : Oper} {a : Act} {Q : Exit → Act → World → Prop} (hgd : o.guard = none) (s x : Operand)
    (ho : o.op = .call { callee := .builtin .append, args := #[s, x], argTypes := #[22, 22] }) (base : Nat) (v : Value) (n : Nat) (xs : List Value) (hs : a.eval s = v) (w0 : World) (hown : w0.ownsRow base 58 3 v n xs) (y : Mt)
    (hw : w = w0.alloc (.cells #[.string y.n, .int .i64 y.op, .string y.t] 58)) (hx : a.eval x = .slice (some ⟨w0.heap.size, 0, none⟩) 1 1) (hn : n ≤ 1000000000) (hbase : base ≤ w0.heap.size)
    (h : ∀ g' c' w', w'.ownsRow base 58 3 (.slice (some ⟨g', 0, none⟩) (n + 1) c') (n + 1) (xs ++ mC y) → Chg (fun i => v.ownBlock = some i) w0 w' → Moved w0 v.ownBlock (some g') → wpList Tryz.prog ops Q rest (a.put o.dst (.slice (some ⟨g', 0, none⟩) (n + 1) c')) w') :
    wpList Tryz.prog ops Q (o :: rest) a w := by
  subst hw
  obtain ⟨i0, hi0, hz0, hz1, hz2⟩ := info_parts info31
  refine wpList_pushN _ hgd s x 22 ho 58 i0 (.agg #[.string ⟨#[]⟩, .int .i64 0, .string ⟨#[]⟩]) 3 40 Tryz.underlying22 hi0 hz0 hz1 hz2 rfl (by omega) base v n xs hs (hown.alloc _) ⟨w0.heap.size, 0, none⟩ (mC y) hx rfl (fun j u hu => by
    have := (Blk.new w0 58 (mC y)).cell (0 + j)
    rw [Addr.add_lit]
    refine this.trans ?_
    rw [Nat.zero_add]
    exact hu) (one_mC y) (by unfold maxLen; omega) (by omega) (by simp; omega) ?_
  intro g' c' w' ho' hp'
  exact h g' c' w' ho' hp'.chg2.1 hp'.chg2.2

/-- What is held while it reads. -/
structure PI (w0 wx : World) (s : ByteArray) (a : Nat) (z : Int) (al : Option Addr) (cl : Nat) (l : List Mt) : Prop where
  re : Re wx w0.heap.size s a z
  row : wx.ownsRow (w0.heap.size + 1) 58 3 (.slice al l.length cl) l.length (cM l)
  ok : ∀ x ∈ l, OkM x
  bel : Below w0.heap.size w0 wx
  len8 : l.length ≤ 8
  le : a ≤ s.size
theorem PI.ble {w0 wx : World} {s : ByteArray} {a : Nat} {z : Int} {al : Option Addr} {cl : Nat} {l : List Mt} (h : PI w0 wx s a z al cl l) : a ≤ (bts s).length := by rw [← size_bts]; exact h.le
theorem PI.moved {w0 wx w' : World} {s : ByteArray} {a b : Nat} {z y : Int} {al : Option Addr} {cl : Nat} {l : List Mt} (h : PI w0 wx s a z al cl l) (hr : Re w' w0.heap.size s b y) (hc : Chg (fun i => i = w0.heap.size) wx w') (hb : b ≤ (bts s).length) : PI w0 w' s b y al cl l :=
  ⟨hr, hc.owns h.row (fun g hg e => by have := (h.row.lt g hg).1; have e' : g = w0.heap.size := e; omega), h.ok, h.bel.trans (hc.below h.bel.size (fun i e => by have e' : i = w0.heap.size := e; omega)), h.len8, by rw [size_bts]; exact hb⟩
theorem PI.lat {w0 wx w' : World} {s : ByteArray} {a : Nat} {z : Int} {al : Option Addr} {cl : Nat} {l : List Mt} (h : PI w0 wx s a z al cl l) (hl : Below wx.heap.size wx w') : PI w0 w' s a z al cl l :=
  ⟨h.re.later hl, owl h.row hl, h.ok, h.bel.trans (hl.mono h.bel.size), h.len8, h.le⟩

/-- .. beside the matcher at hand. -/
structure MI (w0 wx : World) (gm : Nat) (s : ByteArray) (a : Nat) (z : Int) (al : Option Addr) (cl : Nat) (l : List Mt) (m : Mt) : Prop where
  p : PI w0 wx s a z al cl l
  mb : Blk wx gm 58 (mC m)
  ne : gm ≠ w0.heap.size
  nr : ∀ g, (Value.slice al l.length cl).ownBlock = some g → g ≠ gm
  ge : w0.heap.size ≤ gm
theorem PI.fresh {w0 wx w' : World} {s : ByteArray} {a : Nat} {z : Int} {al : Option Addr} {cl : Nat} {l : List Mt} (h : PI w0 wx s a z al cl l) (hl : Below wx.heap.size wx w') (hb : Blk w' wx.heap.size 58 (mC zM)) : MI w0 w' wx.heap.size s a z al cl l zM :=
  ⟨h.lat hl, hb, fun e => by have := Blk.lt h.re; omega, fun g hg e => by have := owns_lt h.row g hg; omega, h.bel.size⟩
theorem MI.moved {w0 wx w' : World} {gm : Nat} {s : ByteArray} {a b : Nat} {z y : Int} {al : Option Addr} {cl : Nat} {l : List Mt} {m : Mt} (h : MI w0 wx gm s a z al cl l m) (hr : Re w' w0.heap.size s b y) (hc : Chg (fun i => i = w0.heap.size) wx w') (hb : b ≤ (bts s).length) : MI w0 w' gm s b y al cl l m :=
  ⟨h.p.moved hr hc hb, hc.blk h.mb h.ne, h.ne, h.nr, h.ge⟩
theorem MI.lat {w0 wx w' : World} {gm : Nat} {s : ByteArray} {a : Nat} {z : Int} {al : Option Addr} {cl : Nat} {l : List Mt} {m : Mt} (h : MI w0 wx gm s a z al cl l m) (hl : Below wx.heap.size wx w') : MI w0 w' gm s a z al cl l m :=
  ⟨h.p.lat hl, h.mb.later hl, h.ne, h.nr, h.ge⟩
theorem MI.set {w0 wx : World} {gm : Nat} {s : ByteArray} {a : Nat} {z : Int} {al : Option Addr} {cl : Nat} {l : List Mt} {m m' : Mt} (h : MI w0 wx gm s a z al cl l m) (k : Nat) (v : Value) (hm : (mC m).set k v = mC m') : MI w0 (wx.setCell ⟨gm, k, none⟩ v) gm s a z al cl l m' := by
  have hc := Chg.set ⟨gm, k, none⟩ v wx
  refine ⟨⟨hc.blk h.p.re (fun e => h.ne e.symm), hc.owns h.p.row (fun g hg e => h.nr g hg e), h.p.ok, h.p.bel.trans (hc.below h.p.bel.size (fun i e => by have e' : i = gm := e; rw [e']; exact h.ge)), h.p.len8, h.p.le⟩, ?_, h.ne, h.nr, h.ge⟩
  have := h.mb.set k v
  rw [hm] at this
  exact this
theorem MI.push {w0 wx w' : World} {gm : Nat} {s : ByteArray} {a : Nat} {z : Int} {al : Option Addr} {cl : Nat} {l : List Mt} {m : Mt} {g c' : Nat} (h : MI w0 wx gm s a z al cl l m) (h8 : l.length < 8) (hm : OkM m)
    (ho : w'.ownsRow (w0.heap.size + 1) 58 3 (.slice (some ⟨g, 0, none⟩) (l.length + 1) c') (l.length + 1) (cM l ++ mC m)) (hc : Chg (fun i => (Value.slice al l.length cl).ownBlock = some i) wx w') : PI w0 w' s a z (some ⟨g, 0, none⟩) c' (lN l m) := by
  have hF : ∀ g, (Value.slice al l.length cl).ownBlock = some g → w0.heap.size + 1 ≤ g := fun g hg => (h.p.row.lt g hg).1
  have e : lN l m = l ++ [m] := by rw [lN, if_pos h8]
  rw [e]
  refine ⟨hc.blk h.p.re (fun e => by have := hF _ e; omega), ?_, fun y hy => ?_, h.p.bel.trans (hc.below h.p.bel.size (fun i e => by have := hF _ e; omega)), by simp; omega, h.p.le⟩
  · rw [cM_append, List.length_append, show cM [m] = mC m by simp [cM]]
    exact ho
  · rcases List.mem_append.1 hy with hy | hy
    · exact h.p.ok y hy
    · rw [List.mem_singleton.1 hy]; exact hm

def rdZ (r : Nat) (w : World) : Int := ((w.cell? ⟨r, 2, none⟩).map intOf).getD 0
def rdM (n r : Nat) (w : World) : Nat := 2 * (n - rdAt r w) + (if rdZ r w < 0 then 1 else 0)
theorem Re.m {w : World} {r : Nat} {s : ByteArray} {a : Nat} {z : Int} (h : Re w r s a z) : rdM s.size r w = 2 * (s.size - a) + (if z < 0 then 1 else 0) := by
  have c2 : w.cell? ⟨r, 2, none⟩ = some (.int .i64 z) := h.cell 2
  rw [rdM, h.at', rdZ, c2]
  rfl
theorem oft_sz (l : List UInt8) (n : Nat) (h : l.length ≤ n) : (oft l).size ≤ n := by rw [size_bts, bts_oft]; exact h
theorem built89 (s : ByteArray) : Tryz.prog.built 89 [(0, .string s), (2, .int .i64 (-1))] = some #[.string s, .int .i64 0, .int .i64 (-1)] := by kernel_rfl

end Go.Proofs.YtanlgplgplncdaaGreatDoor.L

/-
  What matchers hold, reckoned; opposites; the statements' own examples, purely.
-/
namespace Go.Proofs.YtanlgplgplncdaaGreatDoor
open Go.RowKit
set_option linter.unusedVariables false
set_option linter.unusedSimpArgs false

/-- What the machine takes, reckoned. -/
def takesF (E : Es) (M : List Sp) : Nat → Nat → Bool → List UInt8 → Bool
  | 0, _, _, _ => false
  | f + 1, op, en, L => if L = [] then en else match fp L with
    | none => false
    | some (c, k) => takesF E M f (stF E.last op c 0 M 0 false).1 (stF E.last op c 0 M 0 false).2 (L.drop k)
theorem takesF_iff (E : Es) (M : List Sp) : ∀ (f op : Nat) (en : Bool) (L : List UInt8), L.length < f → (takesF E M f op en L = true ↔ OpB E M op en L)
  | 0, op, en, L, h => by omega
  | f + 1, op, en, L, h => by
    rw [takesF]
    by_cases h0 : L = []
    · rw [if_pos h0, h0, opb_nil]
    · rw [if_neg h0]
      cases h1 : fp L with
      | none =>
        simp only [Bool.false_eq_true, false_iff]
        exact opb_none h0 h1
      | some ck =>
        obtain ⟨c, k⟩ := ck
        simp only
        have hk := fp_len h1
        rw [takesF_iff E M f _ _ (L.drop k) (by rw [List.length_drop]; omega), ← opb_step h1]
theorem means_takes (l : List (List Pt)) (L : List UInt8) : Means l L ↔ takesF (machL l).1 (machL l).2 (L.length + 1) (machL l).1.first (machL l).1.emp L = true := by
  rw [takesF_iff _ _ _ _ _ _ (by omega), opb_means]


def takB (s v : List UInt8) : Bool := takesF (machL (prsL s)).1 (machL (prsL s)).2 (v.length + 1) (machL (prsL s)).1.first (machL (prsL s)).1.emp v
def holdB (op : Int) (t v : List UInt8) : Bool := if op = 1 then decide (v = t) else if op = 2 then !decide (v = t) else if op = 3 then takB t v else !takB t v
theorem bts_eq_iff {a b : ByteArray} : a = b ↔ bts a = bts b := ⟨fun h => by rw [h], fun h => L.bts_inj h⟩
open Classical in
theorem hold_B (x : Mt) (v : ByteArray) : x.hold v = holdB x.op (bts x.t) (bts v) := by
  have e1 : ∀ {i : Decidable (v = x.t)}, @decide (v = x.t) i = decide (bts v = bts x.t) := fun {i} => by
    rw [Bool.eq_iff_iff, decide_eq_true_iff, decide_eq_true_iff]; exact bts_eq_iff
  have e2 : ∀ {i : Decidable (Means (prsL (bts x.t)) (bts v))}, @decide (Means (prsL (bts x.t)) (bts v)) i = takB (bts x.t) (bts v) := fun {i} => by
    rw [Bool.eq_iff_iff, decide_eq_true_iff]; exact means_takes _ _
  unfold Mt.hold holdB
  rw [e1, e2]
def holdsB (l : List Mt) (lb : List L.Lb) : Bool := l.all fun x => holdB x.op (bts x.t) (L.getL lb (bts x.n))
theorem holds_B (l : List Mt) (lb : List L.Lb) : holdsL l lb = holdsB l lb := by
  unfold holdsL holdsB
  congr 1
  funext x
  rw [hold_B, show bts (gotL lb x.n) = L.getL lb (bts x.n) from L.bts_oft _]

def cA : ByteArray := ⟨#[97]⟩
def cB : ByteArray := ⟨#[98]⟩
def cC : ByteArray := ⟨#[99]⟩
def hl : List Mt := [⟨⟨#[97]⟩, 1, ⟨#[120]⟩⟩, ⟨⟨#[97]⟩, 2, ⟨#[]⟩⟩, ⟨⟨#[99]⟩, 1, ⟨#[]⟩⟩, ⟨⟨#[98]⟩, 3, ⟨#[120, 124, 121]⟩⟩, ⟨⟨#[99]⟩, 3, ⟨#[122, 42]⟩⟩, ⟨⟨#[97]⟩, 4, ⟨#[121, 46, 42]⟩⟩]
def h2 : List Mt := [⟨⟨#[99]⟩, 2, ⟨#[]⟩⟩]
def h3 : List Mt := [⟨⟨#[49, 97]⟩, 1, ⟨#[120]⟩⟩]
def h4 : List Mt := [⟨⟨#[97]⟩, 3, ⟨#[40]⟩⟩]
def h5 : List Mt := [⟨⟨#[97]⟩, 1, ⟨#[120, 34]⟩⟩, ⟨⟨#[98]⟩, 4, ⟨#[91, 94, 121, 93]⟩⟩]
def lbx : List L.Lb := [⟨⟨#[97]⟩, ⟨#[120]⟩⟩, ⟨⟨#[98]⟩, ⟨#[121]⟩⟩]
def tx1 : ByteArray := ⟨#[32, 123, 32, 98, 32, 33, 126, 32, 34, 121, 42, 34, 44, 97, 61, 34, 34, 32, 125, 32]⟩
def tx2 : ByteArray := ⟨#[123, 97, 61, 32, 126, 34, 120, 34, 125]⟩
def h6 : List Mt := [⟨L.oft [98], 4, L.oft [121, 42]⟩, ⟨L.oft [97], 1, L.oft []⟩]
theorem nk1 : newOk hl = true := by kernel_rfl
theorem nk2 : newOk h2 = true := by kernel_rfl
theorem nk3 : newOk h3 = false := by kernel_rfl
theorem nk4 : newOk h4 = false := by kernel_rfl
theorem hk1 : holdsL hl lbx = true := by rw [holds_B]; kernel_rfl
theorem hk2 : holdsL h2 lbx = false := by rw [holds_B]; kernel_rfl
theorem hk3 : holdsL (hl ++ h2) lbx = false := by rw [holds_B]; kernel_rfl
theorem pk1 : printM h5 = [123, 97, 61, 34, 120, 92, 34, 34, 44, 32, 98, 33, 126, 34, 91, 94, 121, 93, 34, 125] := by kernel_rfl
theorem pp1 : parseM (bts tx1) = .inr h6 := by kernel_rfl
theorem pp2 : parseM (bts tx2) = .inl 4 := by kernel_rfl

/-! ### opposites -/
def opp (o : Int) : Int := if o = 1 then 2 else if o = 2 then 1 else if o = 3 then 4 else 3
theorem may_op {x : Mt} (h : x.may = true) : x.op = 1 ∨ x.op = 2 ∨ x.op = 3 ∨ x.op = 4 := by
  unfold Mt.may txtOk at h
  by_cases h1 : x.op = 1
  · exact .inl h1
  · by_cases h2 : x.op = 2
    · exact .inr (.inl h2)
    · by_cases h3 : x.op = 3
      · exact .inr (.inr (.inl h3))
      · by_cases h4 : x.op = 4
        · exact .inr (.inr (.inr h4))
        · rw [if_neg h1, if_neg h2, if_neg h3, if_neg h4] at h; cases h
theorem opp_may {x : Mt} (h : x.may = true) : Mt.may ⟨x.n, opp x.op, x.t⟩ = true := by
  have ho := may_op h
  obtain ⟨n, o, t⟩ := x
  rcases ho with ho | ho | ho | ho
  all_goals
    simp only at ho
    subst ho
    exact h
theorem opp_hold {x : Mt} (h : x.may = true) (v : ByteArray) : Mt.hold ⟨x.n, opp x.op, x.t⟩ v = !x.hold v := by
  have ho := may_op h
  rw [hold_B, hold_B]
  obtain ⟨n, o, t⟩ := x
  rcases ho with ho | ho | ho | ho
  all_goals
    simp only at ho
    subst ho
    simp [opp, holdB]
theorem newOk_may {l : List Mt} (h : newOk l = true) {x : Mt} (hx : x ∈ l) : x.may = true := by
  unfold newOk at h
  rw [Bool.and_eq_true] at h
  exact List.all_eq_true.1 h.2 x hx
theorem newOk_one {x : Mt} (h : x.may = true) : newOk [x] = true := by unfold newOk; simp [h]
theorem newOk_rev {l : List Mt} (h : newOk l = true) : newOk l.reverse = true := by
  unfold newOk at h ⊢
  rw [List.length_reverse, List.all_reverse]
  exact h
theorem holds_rev (l : List Mt) (lb : List L.Lb) : holdsL l.reverse lb = holdsL l lb := by unfold holdsL; rw [List.all_reverse]
theorem holds_app (l m : List Mt) (lb : List L.Lb) : holdsL (l ++ m) lb = (holdsL l lb && holdsL m lb) := by unfold holdsL; rw [List.all_append]
theorem holds_one (x : Mt) (lb : List L.Lb) : holdsL [x] lb = x.hold (gotL lb x.n) := by unfold holdsL; simp

/-! ### New, told which way -/
theorem newOkP (B : Nat) (ad : Option Addr) (c n : Nat) (l : List Mt) (w : World) (hn : l.length = n) (hL : Ms w ad l) (hlen : n ≤ 9223372036854775807) (hT : L.Tb B w) (hk : newOk l = true) : Calls Tryz.prog 21 #[.slice ad n c] w fun e w' => ∃ s F, e = .returned (.tuple #[.pointer (some ⟨s, 0, none⟩), .int .i64 0]) ∧ StR F w' s l ∧ Below w.heap.size w w' := by
  subst hn
  refine (newP B ad c l w hL hlen hT).mono ?_
  rintro e w' ⟨hb, ⟨-, s, F, rfl, hS, -⟩ | ⟨hf, -⟩⟩
  · exact ⟨s, F, rfl, hS, hb⟩
  · rw [hk] at hf; cases hf
theorem newNoP (B : Nat) (ad : Option Addr) (c n : Nat) (l : List Mt) (w : World) (hn : l.length = n) (hL : Ms w ad l) (hlen : n ≤ 9223372036854775807) (hT : L.Tb B w) (hk : newOk l = false) : Calls Tryz.prog 21 #[.slice ad n c] w fun e w' => e = .returned (.tuple #[.pointer none, .int .i64 90]) ∧ Below w.heap.size w w' := by
  subst hn
  refine (newP B ad c l w hL hlen hT).mono ?_
  rintro e w' ⟨hb, ⟨hf, -⟩ | ⟨-, rfl⟩⟩
  · rw [hk] at hf; cases hf
  · exact ⟨rfl, hb⟩
theorem ms_blk {w : World} {g : Nat} {l : List Mt} (h : Blk w g 58 (L.cM l)) (hz : ∀ x ∈ l, OkM x) : Ms w (some ⟨g, 0, none⟩) l := by
  refine ⟨hz, fun h0 => ⟨g, 0, rfl, h.lt, fun i x hx => ?_⟩⟩
  have hc := L.cM_get l i x hx
  rw [Nat.zero_add, h.cell, h.cell, h.cell]
  exact hc
theorem ls_blk {w : World} {g : Nat} {l : List L.Lb} (h : Blk w g 56 (l.flatMap fun x => [.string x.n, .string x.v])) (hz : ∀ x ∈ l, x.n.size ≤ 9223372036854775807 ∧ x.v.size ≤ 9223372036854775807) : L.Ls w (some ⟨g, 0, none⟩) l := by
  refine ⟨hz, fun h0 => ⟨g, 0, rfl, h.lt, fun i x hx => ?_⟩⟩
  rw [Nat.zero_add, h.cell, h.cell]
  clear h hz h0
  induction l generalizing i with
  | nil => simp at hx
  | cons y t ih =>
    cases i with
    | zero => simp at hx; subst hx; exact ⟨rfl, rfl⟩
    | succ i =>
      have := ih i (by simpa using hx)
      rw [show (i + 1) * 2 = i * 2 + 1 + 1 by omega, show i * 2 + 1 + 1 + 1 = (i * 2 + 1) + 1 + 1 by omega]
      simpa using this

set_option maxRecDepth 100000 in
set_option maxHeartbeats 2000000 in
theorem fewP (ad : Option Addr) (n c : Nat) (w : World) (hnc : n ≤ c) (hc : c ≤ 9223372036854775807) (hno : ad = none → n = 0 ∧ c = 0) : Calls Tryz.prog 7 #[.slice ad n c] w fun e w' => e = .returned (.slice ad (min n 30) c) ∧ w' = w := by
  by_cases h : 30 < n
  · have hz : (30 : Int) < (n : Int) := by omega
    have hz2 : (30 : Int) ≤ (c : Int) := by omega
    rw [show min n 30 = 30 by omega]
    cases ad with
    | none => obtain ⟨rfl, rfl⟩ := hno rfl; omega
    | some x =>
      go_enter Tryz.func7, Tryz.ntmps7
      go_wp2
      go_ret
      exact ⟨by first | rfl | simp, rfl⟩
  · have hz : ¬ (30 : Int) < (n : Int) := by omega
    rw [show min n 30 = n by omega]
    go_enter Tryz.func7, Tryz.ntmps7
    go_wp2
    go_ret
    exact ⟨by first | rfl | simp, rfl⟩

end Go.Proofs.YtanlgplgplncdaaGreatDoor

/-
  The document's New.
-/
namespace Go.Proofs.YtanlgplgplncdaaGreatDoor
open Go.RowKit
set_option linter.unusedVariables false
set_option linter.unusedSimpArgs false

/-- Texts that are no longer than a machine's. -/
def Tz (l : List Mt) : Prop := ∀ x ∈ l, x.t.size ≤ 4611686018427387904
/-- The document's set in memory. -/
def StN (F : Nat → Prop) (w : World) (p : Nat) (l : List Mt) : Prop :=
  ∃ v, F p ∧ (∀ g, v.ownBlock = some g → F g) ∧ Blk w p 37 [v] ∧ w.ownsRow 0 58 3 v l.length (L.cM l) ∧ ∀ x ∈ l, OkM x
theorem StN.keep {F G : Nat → Prop} {w w' : World} {s : Nat} {l : List Mt} (h : StN F w s l) (hc : Chg G w w') (hd : ∀ b, F b → ¬ G b) : StN F w' s l := by
  obtain ⟨v, h1, h2, h3, h4, h5⟩ := h
  exact ⟨v, h1, h2, hc.blk h3 (hd _ h1), hc.owns h4 (fun g hg => hd _ (h2 g hg)), h5⟩
theorem StN.later {F : Nat → Prop} {w w' : World} {s : Nat} {l : List Mt} (h : StN F w s l) (hb : Below w.heap.size w w') : StN F w' s l := h.keep (Chg.of_below (F := fun _ => False) hb) (fun _ _ e => e)
/-- What a round of New holds. -/
structure NN (w wx : World) (v : Value) (l : List Mt) : Prop where
  blk : Blk wx w.heap.size 37 [v]
  own : wx.ownsRow w.heap.size 58 3 v l.length (L.cM l)
  ne : ¬ v.ownBlock = some w.heap.size
  bel : Below w.heap.size w wx
theorem NN.later {w wx wy : World} {v : Value} {l : List Mt} (h : NN w wx v l) (hb : Below wx.heap.size wx wy) : NN w wy v l := ⟨h.blk.later hb, owl h.own hb, h.ne, h.bel.trans (hb.mono h.bel.size)⟩
theorem NN.push {w wx wy w' : World} {v : Value} {l : List Mt} {x : Mt} {g' c' : Nat} (h : NN w wx v l) (hb : Below wx.heap.size wx wy)
    (ho : w'.ownsRow w.heap.size 58 3 (.slice (some ⟨g', 0, none⟩) (l.length + 1) c') (l.length + 1) (L.cM l ++ mC x)) (hc : Chg (fun i => v.ownBlock = some i) wy w') (hm : Moved wy v.ownBlock (some g')) :
    NN w (w'.setCell ⟨w.heap.size, 0, none⟩ (.slice (some ⟨g', 0, none⟩) (l.length + 1) c')) (.slice (some ⟨g', 0, none⟩) (l.length + 1) c') (l ++ [x]) := by
  have h2 := h.later hb
  have hlt := h2.blk.lt
  have hg : g' ≠ w.heap.size := by
    rcases hm with h | ⟨g, e, hg⟩
    · intro e
      exact h2.ne (by rw [← h, e])
    · injection e with e; subst e; omega
  have hcs := Chg.set ⟨w.heap.size, 0, none⟩ (.slice (some ⟨g', 0, none⟩) (l.length + 1) c') w'
  have hbk := hc.blk h2.blk h2.ne
  refine ⟨hbk.set 0 _, ?_, fun e => hg (by simpa [Value.ownBlock] using e), (h2.bel.trans (hc.below h2.bel.size (fun i e => (h2.own.lt i e).1))).trans (hcs.below (Nat.le_trans h2.bel.size hc.size) (fun i e => by have e' : i = w.heap.size := e; omega))⟩
  rw [L.cM_append, List.length_append, show L.cM [x] = mC x by simp [L.cM]]
  refine hcs.owns ho (fun i hi e => hg ?_)
  have e' : i = w.heap.size := e
  rw [← e']
  have : some g' = some i := by simpa [Value.ownBlock] using hi
  injection this
/-- What New answers. -/
def NewN (w : World) (l : List Mt) (e : Ending) (w' : World) : Prop :=
  Below w.heap.size w w' ∧ ((newOk l = true ∧ ∃ p F, e = .returned (.tuple #[.pointer (some ⟨p, 0, none⟩), .int .i64 0]) ∧ StN F w' p l ∧ ∀ b, F b → w.heap.size ≤ b) ∨ (newOk l = false ∧ e = .returned (.tuple #[.pointer none, .int .i64 90])))
theorem built37z : Tryz.prog.built 37 [] = some #[.slice none 0 0] := by kernel_rfl

set_option maxRecDepth 100000 in
set_option maxHeartbeats 8000000 in
theorem rnewP (B : Nat) (ad : Option Addr) (c : Nat) (l : List Mt) (w : World) (hL : Ms w ad l) (hlen : l.length ≤ 9223372036854775807) (hz : Tz l) (hT : L.Tb B w) : Calls Tryz.prog 22 #[.slice ad l.length c] w (NewN w l) := by
  obtain ⟨n, hn⟩ : ∃ n, l.length = n := ⟨_, rfl⟩
  have HN := hidden hn
  have HL := hidden hL
  have HT := hidden hT
  have HZ := hidden hz
  rw [hn] at hlen ⊢
  clear hn hL hT hz
  unfold NewN
  by_cases h8 : n ≤ 8
  · have h8z : ¬ (8 : Int) < (n : Int) := by omega
    have h8d : decide ((8 : Int) < (n : Int)) = false := decide_eq_false h8z
    have N0 : Hid (NN w (w.alloc (.cells #[.slice none 0 0] 37)) (.slice none 0 0) []) := hidden ⟨Blk.new w 37 [.slice none 0 0], World.ownsRow_nil _ _ _ _, by simp [Value.ownBlock], (Below.refl _ _).alloc (Nat.le_refl _) _⟩
    go_enter Tryz.func22, Tryz.ntmps22
    go_wp2_with fail
    go_loopw [5] (fun s5 wx => ∃ (i : Nat) (v : Value), s5 = .int .i64 (i : Int) ∧ i ≤ n ∧ Hid ((l.take i).all Mt.may = true) ∧ Hid (NN w wx v (l.take i))) (fun s5 _ => n - (intOf s5).toNat)
    case atStart => exact ⟨0, _, rfl, by omega, hidden rfl, N0⟩
    case round =>
      rename World => wx
      obtain ⟨i, v, rfl, hi, hall, hNN⟩ := hrel
      clear N0
      by_cases hlt : i < n
      · have hltz : (i : Int) < (n : Int) := by omega
        obtain ⟨bb, off, x, rfl, hbb, hx, c0, c1, c2, hok⟩ := (HL.out.below (Nat.le_refl _) hNN.out.bel).get (i := i) (by rw [HN.out]; exact hlt)
        have HX := hidden hx
        have hmem : x ∈ l := List.mem_of_getElem? hx
        have k := rmayP B x wx hok (HZ.out x hmem) (HT.out.later hNN.out.bel)
        have HTI : Hid ((l.take i).length = i) := hidden (by rw [List.length_take, HN.out]; omega)
        have k' : Calls Tryz.prog 38 #[.agg #[.string x.n, .int .i64 x.op, .string x.t]] wx fun e w' => e = .returned (.bool x.may) ∧ Below wx.heap.size wx w' := k
        clear hx hok k
        cases hmay : x.may with
        | false =>
          rw [hmay] at k'
          have HO : Hid (newOk l = false) := hidden (by
            unfold newOk
            rw [Bool.and_eq_false_iff]
            right
            rw [List.all_eq_false]
            exact ⟨x, hmem, by rw [hmay]; simp⟩)
          clear hmay hmem
          go_wp2_with (go_at_call 38; refine k'.mono ?_; rintro e w3 ⟨rfl, b3⟩; have B3 := hidden b3; clear k' b3)
          go_ret2
          exact ⟨hNN.out.bel.trans (B3.out.mono hNN.out.bel.size), .inr ⟨HO.out, rfl⟩⟩
        | true =>
          rw [hmay] at k'
          have HMAY := hidden hmay
          clear hmay hmem
          go_upto_region 10 with (go_at_call 38; refine k'.mono ?_; rintro e w3 ⟨rfl, b3⟩; have B3 := hidden b3; clear k' b3)
          have N3 := hidden (hNN.out.later B3.out)
          have d0 : w3.cell? ⟨bb, off + i * 3, none⟩ = some (.string x.n) := by rw [B3.out.cell (p := ⟨bb, off + i * 3, none⟩) hbb]; exact c0
          have d1 : w3.cell? ⟨bb, off + i * 3 + 1, none⟩ = some (.int .i64 x.op) := by rw [B3.out.cell (p := ⟨bb, off + i * 3 + 1, none⟩) hbb]; exact c1
          have d2 : w3.cell? ⟨bb, off + i * 3 + 2, none⟩ = some (.string x.t) := by rw [B3.out.cell (p := ⟨bb, off + i * 3 + 2, none⟩) hbb]; exact c2
          have cs : w3.cell? ⟨w.heap.size, 0, none⟩ = some v := N3.out.blk.cell 0
          have fs : w3.frozen? ⟨w.heap.size, 0, none⟩ = false := N3.out.blk.frozen 0
          have hlt4 : w.heap.size < w3.heap.size := N3.out.blk.lt
          have hbb3 : bb < w3.heap.size := Nat.lt_of_lt_of_le hbb B3.out.size
          have OW3 : Hid (w3.ownsRow w.heap.size 58 3 v i (L.cM (l.take i))) := hidden (by have := N3.out.own; rw [HTI.out] at this; exact this)
          have hle4 : w.heap.size ≤ w3.heap.size := by omega
          clear c0 c1 c2 hbb
          go_region_law (refine L.step_pushT _ (by rfl) (.tmp 29) (.tmp 34) (by rfl) w.heap.size v i (L.cM (l.take i)) (by rfl) w3.drew OW3.out x (by rfl) (by rfl) (by omega) hle4 ?_
                         intro g9 c9 w9 o9 ch9 mv9
                         have bk9 : Blk w9 w.heap.size 37 [v] := ch9.blk N3.out.blk N3.out.ne
                         have cs9 : w9.cell? ⟨w.heap.size, 0, none⟩ = some v := bk9.cell 0
                         have fs9 : w9.frozen? ⟨w.heap.size, 0, none⟩ = false := bk9.frozen 0
                         have O9 := hidden o9
                         have CH9 : Hid (Chg (fun i => v.ownBlock = some i) w3 w9) := hidden ((Chg.drew _ w3).trans ch9 (fun _ _ e => e))
                         have MV9 : Hid (Moved w3 v.ownBlock (some g9)) := hidden mv9
                         clear o9 ch9 mv9 bk9)
          all_goals
            have N9 := hidden (hNN.out.push (x := x) (g' := g9) (c' := c9) B3.out (by rw [HTI.out]; exact O9.out) CH9.out MV9.out)
            rw [HTI.out] at N9
            go_wp2_with fail
            refine ⟨⟨i + 1, _, by rw [Int.natCast_add]; rfl, by omega, hidden ?_, hidden (by rw [take_next HX.out]; exact N9.out)⟩, by simp [intOf]; omega⟩
            rw [take_next HX.out, List.all_append, hall.out, Bool.true_and]
            simp [HMAY.out]
      · have hltz : ¬ (i : Int) < (n : Int) := by omega
        obtain rfl : i = n := by omega
        have HO : Hid (newOk l = true) := hidden (by
          unfold newOk
          rw [HN.out, decide_eq_true (by omega), Bool.true_and]
          have := hall.out
          rwa [List.take_of_length_le (by rw [HN.out]; exact Nat.le_refl _)] at this)
        have HS : Hid (StN (fun b => w.heap.size ≤ b) wx w.heap.size l) := hidden (by
          have := hNN.out
          rw [List.take_of_length_le (by rw [HN.out]; exact Nat.le_refl _)] at this
          exact ⟨v, Nat.le_refl _, fun g hg => (this.own.lt g hg).1, this.blk, owns_low this.own (Nat.zero_le _), HL.out.sz⟩)
        go_wp2
        go_ret2
        exact ⟨hNN.out.bel, .inl ⟨HO.out, w.heap.size, by first | rfl | simp, fun b => w.heap.size ≤ b, HS.out, fun b hb => hb⟩⟩
  · have h8z : (8 : Int) < (n : Int) := by omega
    have HO : Hid (newOk l = false) := hidden (by
      unfold newOk
      rw [HN.out, decide_eq_false h8, Bool.false_and])
    go_enter Tryz.func22, Tryz.ntmps22
    go_wp2
    go_ret2
    exact ⟨Below.refl _ _, .inr ⟨HO.out, rfl⟩⟩

end Go.Proofs.YtanlgplgplncdaaGreatDoor
