import Derived.Test.YtlppibigceeimaaDoorSeN
/-
  Package series: region 7 of keep.
-/
namespace Go.Proofs.YtlppibigceeimaaDoor
open Go.RowKit
set_option linter.unusedVariables false
set_option linter.unusedSimpArgs false

set_option maxRecDepth 100000 in
set_option maxHeartbeats 2000000 in
theorem keep_r7 (S p g N cc s m c : Nat) (ad : Option Addr) (I : Nat → World → Prop) (w : World) (a0 : Act) (Q : Exit → Act → World → Prop) (hsz : a0.tmps.size = 82)
    (s0 : a0.tmps.getD 0 undef = .pointer (some ⟨S, 0, none⟩))
    (s8 : a0.tmps.getD 8 undef = .slice (some ⟨g, 0, none⟩) (N + 1) cc)
    (s10 : a0.tmps.getD 10 undef = .slice ad m c)
    (hN1 : IntKind.i64.wrap (N : Int) = (N : Int)) (hN2 : ¬ (N : Int) < 0) (hN3 : (N : Int) < (N : Int) + 1) (hN4 : N < N + 1)
    (cp : ∀ w1, (∃ k, k ≤ 1 ∧ I k w1) → w1.cell? ⟨S, 0, none⟩ = some (.pointer (some ⟨p, 0, none⟩)))
    (cs : ∀ w1, (∃ k, k ≤ 1 ∧ I k w1) → w1.cell? ⟨g, N, none⟩ = some (.int .i64 (s : Int)))
    (h0 : I 0 { w with drawn := w.drawn + 1 })
    (hC0 : ∀ w1, I 0 w1 → Calls Tryd.prog 36 #[.pointer (some ⟨p, 0, none⟩), .int .i64 (s : Int), .slice ad m c] w1 fun e w2 => e = .returned (.int .i64 0) ∧ I 1 w2)
    (hQ : ∀ (v48 v49 v50 v51 v52 v53 v54 v55 v56 v57 v58 : Value) (w2 : World), I 1 w2 → Q .normal ((((((((((((a0.put (some 48) v48).put (some 49) v49).put (some 50) v50).put (some 51) v51).put (some 52) v52).put (some 53) v53).put (some 54) v54).put (some 55) v55).put (some 56) v56).put (some 57) v57).put (some 58) v58).put (some 59) (.int .i64 0)) w2) :
    Code.wp Tryd.prog ((Tryd.f22.body.bind (findRegion 7)).getD .skip) Q a0 w := by
  conv => arg 2; whnf
  refine wp_region_calls (fun i => ([.pointer (some ⟨S, 0, none⟩), .pointer (some ⟨S, 0, none⟩), .pointer (some ⟨S, 0, none⟩), .pointer (some ⟨p, 0, none⟩), .slice (some ⟨g, 0, none⟩) (N + 1) cc, .slice (some ⟨g, 0, none⟩) (N + 1) cc, .int .i64 ((N : Int) + 1), .int .i64 (N : Int), .pointer (some ⟨g, N, none⟩), .int .i64 (s : Int), .slice ad m c, .int .i64 0] : List Value).getD i undef) I (fun j => ([11] : List Nat).getD j 0) 1 (by kernel_rfl) (by kernel_rfl) (by kernel_rfl) (by rw [hsz]; kernel_rfl) ?hinj ?hqs ?hwait h0 ?hop ?hcA ?hdone
  case hinj =>
    intro j k hj hk h
    rcases (show j = 0 by omega) with rfl <;> rcases (show k = 0 by omega) with rfl <;> first | rfl | exact absurd h (by decide)
  case hqs =>
    intro j hj
    rcases (show j = 0 by omega) with rfl <;> exact of_decide_eq_true (by kernel_rfl)
  case hwait =>
    intro j hj
    omega
  case hdone =>
    intro a w1 hI hS hT
    have kl : a.tmps.getD 59 undef = .int .i64 0 := hT 11 _ rfl
    have he := same_puts hS
    have hQ2 := hQ (a.tmps.getD 48 undef) (a.tmps.getD 49 undef) (a.tmps.getD 50 undef) (a.tmps.getD 51 undef) (a.tmps.getD 52 undef) (a.tmps.getD 53 undef) (a.tmps.getD 54 undef) (a.tmps.getD 55 undef) (a.tmps.getD 56 undef) (a.tmps.getD 57 undef) (a.tmps.getD 58 undef) w1 hI
    rw [← kl] at hQ2
    rw [he]
    exact hQ2
  case hcA =>
    intro k hk o ho
    rcases (show k = 0 by omega) with rfl
    · obtain rfl := Option.some.inj ho
      intro a w1 hI hS hD
      have d3 : a.tmps.getD 51 undef = .pointer (some ⟨p, 0, none⟩) := hD ⟨3, .data⟩ (by simp) rfl _ rfl
      have d9 : a.tmps.getD 57 undef = .int .i64 (s : Int) := hD ⟨9, .data⟩ (by simp) rfl _ rfl
      have d10 : a.tmps.getD 58 undef = .slice ad m c := hD ⟨10, .data⟩ (by simp) rfl _ rfl
      refine ⟨rfl, ?_⟩
      refine wp_callr (f := 36) (args := #[.pointer (some ⟨p, 0, none⟩), .int .i64 (s : Int), .slice ad m c]) (by simp [execOp, resolve, Act.eval, d3, d9, d10, go_sem]) ?_
      refine (hC0 w1 hI).mono ?_
      rintro e w2 ⟨rfl, h2⟩
      exact ⟨_, rfl, _, rfl, h2, rfl⟩
  case hop =>
    intro i o hi hn
    have hlt : i < 12 := (Array.getElem?_eq_some_iff.1 hi).1
    rcases (show i = 0 ∨ i = 1 ∨ i = 2 ∨ i = 3 ∨ i = 4 ∨ i = 5 ∨ i = 6 ∨ i = 7 ∨ i = 8 ∨ i = 9 ∨ i = 10 ∨ i = 11 by omega) with rfl | rfl | rfl | rfl | rfl | rfl | rfl | rfl | rfl | rfl | rfl | rfl
    · obtain rfl := Option.some.inj hi
      clear hi hlt hn
      intro a w1 hI hS hD
      have e0 : a.tmps.getD 0 undef = .pointer (some ⟨S, 0, none⟩) := (hS.slot 0 (by kernel_rfl)).trans s0
      exact ⟨rfl, .pointer (some ⟨S, 0, none⟩), by simp [execOp, Act.eval, e0, go_sem], rfl⟩
    · obtain rfl := Option.some.inj hi
      clear hi hlt hn
      intro a w1 hI hS hD
      have d0 : a.tmps.getD 48 undef = .pointer (some ⟨S, 0, none⟩) := hD ⟨0, .data⟩ (by simp) rfl _ rfl
      exact ⟨rfl, .pointer (some ⟨S, 0, none⟩), by simp [execOp, Act.eval, d0, go_sem], rfl⟩
    · obtain rfl := Option.some.inj hi
      clear hi hlt hn
      intro a w1 hI hS hD
      have d1 : a.tmps.getD 49 undef = .pointer (some ⟨S, 0, none⟩) := hD ⟨1, .data⟩ (by simp) rfl _ rfl
      exact ⟨rfl, .pointer (some ⟨S, 0, none⟩), by simp [execOp, Act.eval, d1, go_sem], rfl⟩
    · obtain rfl := Option.some.inj hi
      clear hi hlt hn
      intro a w1 hI hS hD
      have d2 : a.tmps.getD 50 undef = .pointer (some ⟨S, 0, none⟩) := hD ⟨2, .data⟩ (by simp) rfl _ rfl
      exact ⟨rfl, .pointer (some ⟨p, 0, none⟩), by simp [execOp, Act.eval, d2, cp w1 hI, go_sem], rfl⟩
    · obtain rfl := Option.some.inj hi
      clear hi hlt hn
      intro a w1 hI hS hD
      have e8 : a.tmps.getD 8 undef = .slice (some ⟨g, 0, none⟩) (N + 1) cc := (hS.slot 8 (by kernel_rfl)).trans s8
      exact ⟨rfl, .slice (some ⟨g, 0, none⟩) (N + 1) cc, by simp [execOp, Act.eval, e8, go_sem], rfl⟩
    · obtain rfl := Option.some.inj hi
      clear hi hlt hn
      intro a w1 hI hS hD
      have e8 : a.tmps.getD 8 undef = .slice (some ⟨g, 0, none⟩) (N + 1) cc := (hS.slot 8 (by kernel_rfl)).trans s8
      exact ⟨rfl, .slice (some ⟨g, 0, none⟩) (N + 1) cc, by simp [execOp, Act.eval, e8, go_sem], rfl⟩
    · obtain rfl := Option.some.inj hi
      clear hi hlt hn
      intro a w1 hI hS hD
      have d5 : a.tmps.getD 53 undef = .slice (some ⟨g, 0, none⟩) (N + 1) cc := hD ⟨5, .data⟩ (by simp) rfl _ rfl
      exact ⟨rfl, .int .i64 ((N : Int) + 1), by simp [execOp, Act.eval, d5, resolve, invoke, builtin, go_sem], rfl⟩
    · obtain rfl := Option.some.inj hi
      clear hi hlt hn
      intro a w1 hI hS hD
      have d6 : a.tmps.getD 54 undef = .int .i64 ((N : Int) + 1) := hD ⟨6, .data⟩ (by simp) rfl _ rfl
      exact ⟨rfl, .int .i64 (N : Int), by simp [execOp, Act.eval, d6, hN1, go_sem], rfl⟩
    · obtain rfl := Option.some.inj hi
      clear hi hlt hn
      intro a w1 hI hS hD
      have d4 : a.tmps.getD 52 undef = .slice (some ⟨g, 0, none⟩) (N + 1) cc := hD ⟨4, .data⟩ (by simp) rfl _ rfl
      have d7 : a.tmps.getD 55 undef = .int .i64 (N : Int) := hD ⟨7, .data⟩ (by simp) rfl _ rfl
      exact ⟨rfl, .pointer (some ⟨g, N, none⟩), by simp [execOp, Act.eval, d4, d7, hN2, hN3, hN4, go_sem], rfl⟩
    · obtain rfl := Option.some.inj hi
      clear hi hlt hn
      intro a w1 hI hS hD
      have d8 : a.tmps.getD 56 undef = .pointer (some ⟨g, N, none⟩) := hD ⟨8, .data⟩ (by simp) rfl _ rfl
      exact ⟨rfl, .int .i64 (s : Int), by simp [execOp, Act.eval, d8, cs w1 hI, go_sem], rfl⟩
    · obtain rfl := Option.some.inj hi
      clear hi hlt hn
      intro a w1 hI hS hD
      have e10 : a.tmps.getD 10 undef = .slice ad m c := (hS.slot 10 (by kernel_rfl)).trans s10
      exact ⟨rfl, .slice ad m c, by simp [execOp, Act.eval, e10, go_sem], rfl⟩
    · exact absurd rfl (hn 0 (by omega))


end Go.Proofs.YtlppibigceeimaaDoor

/-
  Package series: what the rounds of keep hold.
-/
namespace Go.Proofs.YtlppibigceeimaaDoor
open Go.RowKit
set_option linter.unusedVariables false
set_option linter.unusedSimpArgs false

theorem Gv.chg {F : Nat → Prop} {w w' : World} (h : Gv w) (hc : Chg F w w') (hF : ∀ i, F i → 2 ≤ i) : Gv w' :=
  ⟨fun j hj => by
    rw [← h.wid j hj]
    exact World.cell?_of_block (hc.block 1 (by have := World.block_lt_of_cell? w _ (h.wid 0 (by omega)); simpa using this) (fun e => by have := hF 1 e; omega)),
   fun j hj => by
    rw [← h.tab j hj]
    exact World.cell?_of_block (hc.block 0 (by have := World.block_lt_of_cell? w _ (h.tab 0 (by omega)); simpa using this) (fun e => by have := hF 0 e; omega))⟩
theorem Gv.k {w : World} (h : Gv w) : K.Gv w := ⟨h.tab⟩
theorem put_last {sti : K.Sx} {n s : Nat} {o d0 : ByteArray} {b : List Int} (hn : s < n) (hs : sti s = some (o, d0)) (hb : b.length ≤ 128) : K.putS sti n (s : Int) b = (0, K.upS sti s (some (o, strOfNums b))) := by
  unfold K.putS K.atS
  rw [if_pos ⟨by omega, by omega⟩, Int.toNat_natCast, hs]
  simp only [Option.map_some]
  rw [if_neg (by omega)]
theorem str_size {b : List Int} (h : Byte b) : (strOfNums b).size = b.length := by
  rw [← K.bts_length, bts_str b h]
theorem upS_twice (st : K.Sx) (i : Nat) (x y : Option (ByteArray × ByteArray)) : K.upS (K.upS st i x) i y = K.upS st i y := by
  funext j
  unfold K.upS
  split <;> rfl
theorem SZ.few {n : Nat} {st : K.Sx} {Z : ByteArray → List En} (h : SZ n st Z) (o : ByteArray) (k : Int) : (enL (Z o) k).1.length ≤ n := by
  have h1 := h.used o
  have h2 := (perm_en k (h.key o)).length_eq
  rw [List.length_append] at h2
  have h3 : (K.setL st n o).length ≤ n := by
    unfold K.setL
    have := List.length_filterMap_le (fun i => match st i with | some x => if x.1 = o then some ((i : Int), K.uV) else none | none => none) (List.range n)
    rw [List.length_range] at this
    exact this
  omega
/-- The pool and the row of slots, in keep's rounds. -/
structure KM (w : World) (p n : Nat) (G : Nat → Prop) (rb : Option Nat) (tot : List Nat) (sti : K.Sx) (v : Value) (wx : World) : Prop where
  pool : ∃ Gx, K.PQ Gx wx p n sti ∧ K.Nw w G Gx
  own : wx.ownsRow 0 3 1 v tot.length (cI tot)
  mv : ∀ g, v.ownBlock = some g → rb = some g ∨ w.heap.size ≤ g
  chg : Chg (fun j => G j ∨ rb = some j) w wx
theorem KM.later {w : World} {p n : Nat} {G : Nat → Prop} {rb : Option Nat} {tot : List Nat} {sti : K.Sx} {v : Value} {wx wy : World} (h : KM w p n G rb tot sti v wx) (hb : Below wx.heap.size wx wy) : KM w p n G rb tot sti v wy := by
  obtain ⟨Gx, h1, h2⟩ := h.pool
  exact ⟨⟨Gx, h1.later hb, h2⟩, owl h.own hb, h.mv, h.chg.trans (Chg.of_below (F := fun j => G j ∨ rb = some j) hb) (fun _ _ e => e)⟩
theorem KM.call {w : World} {p n : Nat} {G : Nat → Prop} {rb : Option Nat} {tot : List Nat} {sti sti' : K.Sx} {v : Value} {wx wy : World} (h : KM w p n G rb tot sti v wx) {Gx F' : Nat → Prop} (hp : K.PQ Gx wx p n sti) (hn : K.Nw w G Gx) (h1 : K.PQ F' wy p n sti') (h2 : Chg Gx wx wy) (h3 : K.Nw wx Gx F') : KM w p n G rb tot sti' v wy := by
  refine ⟨⟨F', h1, fun i hi => ?_⟩, h2.owns h.own (fun g hg e => ?_), h.mv, h.chg.trans h2 (fun i hi e => ?_)⟩
  · rcases h3 i hi with e | e
    · exact hn i e
    · exact .inr (Nat.le_trans h.chg.size e)
  · have := hp.tag e 3 (owns_tg h.own g hg)
    cases this
  · rcases hn i e with e | e
    · exact .inl e
    · omega
theorem KM.push {w : World} {p n : Nat} {G : Nat → Prop} {rb : Option Nat} {tot : List Nat} {sti : K.Sx} {v : Value} {wx w6 : World} {ob : Obj} (h : KM w p n G rb tot sti v wx) (s : Nat) {g' c' : Nat} (ho : w6.ownsRow 0 3 1 (.slice (some ⟨g', 0, none⟩) (tot.length + 1) c') (tot.length + 1) (cI tot ++ [.int .i64 (s : Int)])) (hp : Pushed (wx.alloc ob) w6 v g') :
    KM w p n G rb (tot ++ [s]) sti (.slice (some ⟨g', 0, none⟩) (tot.length + 1) c') w6 := by
  obtain ⟨k1, k2⟩ := hp.chg
  obtain ⟨Gx, h1, h2⟩ := h.pool
  refine ⟨⟨Gx, h1.chg k1 (fun i hi e => ?_) (fun e => ?_), h2⟩, ?_, ?_, h.chg.trans k1 (fun i hi e => ?_)⟩
  · have := h1.tag hi 3 (owns_tg h.own i e)
    cases this
  · have := (owns_tg h.own p e).one h1.own
    cases this
  · have e : cI (tot ++ [s]) = cI tot ++ [.int .i64 (s : Int)] := by simp [cI]
    rw [e, List.length_append]
    exact ho
  · intro g hg
    obtain rfl : g' = g := by simpa [Value.ownBlock] using hg
    rcases k2 with e | ⟨g2, e, hg2⟩
    · exact h.mv _ e.symm
    · cases e
      exact .inr (Nat.le_trans h.chg.size hg2)
  · rcases h.mv i e with e | e
    · exact .inr e
    · omega
/-- There is a free slot. -/
theorem KI.room {n : Nat} {o : ByteArray} {st : K.Sx} {sl : List Nat} {C : List (List Sm)} {i : Nat} {news : List Nat} {sti : K.Sx} (h : KI n o st sl C i news sti) (hi : i < C.length) (hw : 0 < i ∨ sl = []) (hr : C.length - hadL sl + (K.tkL st n).length ≤ n) : ∃ j, K.fst1 sti n = some j := by
  cases e : K.fst1 sti n with
  | some j => exact ⟨j, rfl⟩
  | none =>
    have h1 := full_len e
    rw [h.cnt, h.len] at h1
    have : i - hadL sl < C.length - hadL sl := by
      unfold hadL
      rcases hw with hw | rfl
      · omega
      · simp; omega
    omega
/-- What keep leaves. -/
def KpP (F : Nat → Prop) (w : World) (S p n : Nat) (st : K.Sx) (Z : ByteArray → List En) (o : ByteArray) (k : Int) (m : List Sm) (X : Nat) (w' : World) : Prop :=
  ∃ F' st' news, SQ F' w' S p n st' (setZ Z o k ((enL (Z o) k).1 ++ news, (enL (Z o) k).2 ++ m)) ∧ Chg F w w' ∧ K.Nw w F F' ∧ (K.tkL st' n).length = (K.tkL st n).length + (X - hadL (enL (Z o) k).1) ∧ news.length = X - hadL (enL (Z o) k).1
def upR (R : ByteArray → Int → Value) (o : ByteArray) (k : Int) (v : Value) : ByteArray → Int → Value := fun o' k' => if o' = o ∧ k' = k then v else R o' k'
theorem upR_self (R : ByteArray → Int → Value) (o : ByteArray) (k : Int) (v : Value) : upR R o k v o k = v := by unfold upR; rw [if_pos ⟨rfl, rfl⟩]
theorem upR_off {R : ByteArray → Int → Value} {o o' : ByteArray} {k k' : Int} (v : Value) (h : ¬ (o' = o ∧ k' = k)) : upR R o k v o' k' = R o' k' := by unfold upR; rw [if_neg h]
theorem rm_map (l : List En) (f : En → Value) (k : Int) : rm (l.map fun e => (e.1, f e)) k = (rmE l k).map fun e => (e.1, f e) := by
  unfold rm rmE
  rw [List.filter_map]
  rfl
/-- The last of keep: its row goes into the shelf. -/
theorem kp_end {F : Nat → Prop} {w wx wz : World} {S p n T sb : Nat} {st sti : K.Sx} {Z : ByteArray → List En} {sh sh' : ByteArray → Option Nat} {R : ByteArray → Int → Value} {G : Nat → Prop} {o : ByteArray} {k : Int} {m : List Sm} {news : List Nat} {v : Value}
    (hst : Stm w S p T sh R Z) (hG : ∀ i, G i → ¬ SFp T sh R Z i) (hF : ∀ i, F i ↔ (SFp T sh R Z i ∨ G i)) (hZ : SZ n st Z) (hk : 0 ≤ k) (hm : m ≠ []) (hr : Ris ((enL (Z o) k).2 ++ m)) (hok : ∀ x ∈ m, OkS x)
    (hK : KI n o st (enL (Z o) k).1 (gO (gB (enL (Z o) k).2 m)) (gO (gB (enL (Z o) k).2 m)).length news sti) (hM : KM w p n G (slV R Z o k).ownBlock ((enL (Z o) k).1 ++ news) sti v wx) (hP0 : K.PQ G w p n st)
    (hsho : sh' o = some sb) (hsh : ∀ o', ¬ o' = o → sh' o' = sh o') (hsb : sh o = some sb ∨ (sh o = none ∧ wx.heap.size ≤ sb)) (htop : ∃ lo : List (ByteArray × Value), Ml Value.string wz T lo ∧ ∀ o, al lo o = (sh' o).map fun sb => Value.map (some sb))
    (hset : Ml K.K3 wz sb ((k, v) :: rm ((Z o).map fun e => (e.1, R o e.1)) k)) (hcz : Chg (fun i => i = T ∨ i = sb) wx wz) : KpP F w S p n st Z o k m (gO (gB (enL (Z o) k).2 m)).length wz := by
  obtain ⟨Gx, hp, hnw⟩ := hM.pool
  have hcx := hM.chg
  have hszx := hcx.size
  have hstg := fun {i} (hi : SFp T sh R Z i) => hst.tag hi
  have hrb : ∀ j, (slV R Z o k).ownBlock = some j → SFp T sh R Z j ∧ Tg w j 3 := by
    intro j hj
    rcases enL_mem (l := Z o) (k := k) with hmm | ⟨_, hmm⟩
    · rw [slV_in hst (hZ.key o) hmm] at hj
      exact ⟨.inr (.inr ⟨o, _, hmm, hj⟩), owns_tg (hst.row o _ hmm) j hj⟩
    · rw [slV_out hmm] at hj; cases hj
  have hTlt : T < w.heap.size := (hstg (.inl rfl)).1
  have hTtag : ∀ t, ¬ Tg w T t := by obtain ⟨lo, l1, _⟩ := hst.top; exact l1.tg
  have hshlt : ∀ o' b, sh o' = some b → b < w.heap.size ∧ ∀ t, ¬ Tg w b t := fun o' b e => ⟨(hst.set o' b e).1.lt, (hst.set o' b e).1.tg⟩
  have hGxT : ∀ i, Gx i → ¬ (i = T ∨ i = sb) := by
    rintro i hi (rfl | rfl)
    · rcases hnw i hi with e | e
      · exact hG i e (.inl rfl)
      · omega
    · rcases hsb with e2 | ⟨_, e2⟩
      · rcases hnw i hi with e | e
        · exact hG i e (.inr (.inl ⟨o, e2⟩))
        · have := (hshlt o i e2).1; omega
      · have := hp.lt hi; omega
  have hnotT : ∀ j, (G j ∨ (slV R Z o k).ownBlock = some j) → ¬ j = T := by
    rintro j (e | e) rfl
    · exact hG j e (.inl rfl)
    · exact hTtag 3 (hrb j e).2
  have hnotS : ∀ o' b, sh o' = some b → ¬ (G b ∨ (slV R Z o k).ownBlock = some b) := by
    rintro o' b e (e2 | e2)
    · exact hG b e2 (.inr (.inl ⟨o', e⟩))
    · exact (hshlt o' b e).2 3 (hrb b e2).2
  have hvtag : ∀ g, v.ownBlock = some g → Tg wx g 3 ∧ g < wx.heap.size := fun g hg => ⟨owns_tg hM.own g hg, owns_lt hM.own g hg⟩
  have hTx : ∀ t, ¬ Tg wx T t := by
    rintro t ⟨cs, fr, e⟩
    rw [hcx.block T hTlt (fun e2 => hnotT T e2 rfl)] at e
    exact hTtag t ⟨cs, fr, e⟩
  have hSx : ∀ o' b, sh o' = some b → ∀ t, ¬ Tg wx b t := by
    rintro o' b e0 t ⟨cs, fr, e⟩
    rw [hcx.block b (hshlt o' b e0).1 (hnotS o' b e0)] at e
    exact (hshlt o' b e0).2 t ⟨cs, fr, e⟩
  have hvz : ∀ g, v.ownBlock = some g → ¬ (g = T ∨ g = sb) := by
    rintro g hg (rfl | rfl)
    · exact hTx 3 (hvtag g hg).1
    · rcases hsb with e2 | ⟨_, e2⟩
      · exact hSx o g e2 3 (hvtag g hg).1
      · have := (hvtag g hg).2; omega
  -- rows of others
  have hoth : ∀ o' e, e ∈ Z o' → ¬ (o' = o ∧ e.1 = k) → wz.ownsRow 0 3 1 (R o' e.1) e.2.1.length (cI e.2.1) := by
    intro o' e he hne
    have h1 := hst.row o' e he
    refine hcz.owns (hcx.owns h1 (fun g hg => ?_)) (fun g hg => ?_)
    · rintro (e2 | e2)
      · exact hG g e2 (.inr (.inr ⟨o', e, he, hg⟩))
      · rcases enL_mem (l := Z o) (k := k) with hmm | ⟨_, hmm⟩
        · rw [slV_in hst (hZ.key o) hmm] at e2
          have := hst.rin o' e o _ g he hmm hg e2
          exact hne ⟨this.1, this.2⟩
        · rw [slV_out hmm] at e2; cases e2
    · have ht : Tg w g 3 := owns_tg h1 g hg
      have hgl := owns_lt h1 g hg
      rintro (rfl | rfl)
      · exact hTtag 3 ht
      · rcases hsb with e2 | ⟨_, e2⟩
        · exact (hshlt o g e2).2 3 ht
        · omega
  have hvoth : ∀ o' e g, e ∈ Z o' → ¬ (o' = o ∧ e.1 = k) → (R o' e.1).ownBlock = some g → v.ownBlock ≠ some g := by
    intro o' e g he hne hg hv
    have hgl := owns_lt (hst.row o' e he) g hg
    rcases hM.mv g hv with e2 | e2
    · rcases enL_mem (l := Z o) (k := k) with hmm | ⟨_, hmm⟩
      · rw [slV_in hst (hZ.key o) hmm] at e2
        have := hst.rin o' e o _ g he hmm hg e2
        exact hne ⟨this.1, this.2⟩
      · rw [slV_out hmm] at e2; cases e2
    · omega
  have hZ' := hZ.keep hk hm hr hok hK
  have hmemZ : ∀ o' e, e ∈ setZ Z o k ((enL (Z o) k).1 ++ news, (enL (Z o) k).2 ++ m) o' → (o' = o ∧ e = (k, ((enL (Z o) k).1 ++ news, (enL (Z o) k).2 ++ m))) ∨ (e ∈ Z o' ∧ ¬ (o' = o ∧ e.1 = k)) := by
    intro o' e he
    unfold setZ at he
    split at he
    · next ho =>
      rcases List.mem_cons.1 he with rfl | he
      · exact .inl ⟨ho, rfl⟩
      · obtain ⟨a, b⟩ := mem_rmE.1 he
        exact .inr ⟨by rw [ho]; exact a, fun e2 => b e2.2⟩
    · next ho => exact .inr ⟨he, fun e2 => ho e2.1⟩
  have hSblk : Blk wz S 58 [.pointer (some ⟨p, 0, none⟩), .map (some T)] := by
    have ht := hst.blk.tg
    refine hcz.blk (hcx.blk hst.blk ?_) ?_
    · rintro (e | e)
      · have := hP0.tag e 58 ht; cases this
      · have := (hrb S e).2.one ht; cases this
    · rintro (rfl | rfl)
      · exact hTtag 58 ht
      · rcases hsb with e2 | ⟨_, e2⟩
        · exact (hshlt o S e2).2 58 ht
        · have := hst.blk.lt; omega
  have hpT : ¬ (p = T ∨ p = sb) := by
    have hp0 := hP0.own
    rintro (e | e)
    · rw [e] at hp0; exact hTtag 55 hp0
    · rw [e] at hp0
      rcases hsb with e2 | ⟨_, e2⟩
      · exact (hshlt o sb e2).2 55 hp0
      · have := hp0.lt; omega
  have hsbT : sb ≠ T := by
    rcases hsb with e2 | ⟨_, e2⟩
    · exact (hst.set o sb e2).2
    · omega
  have hsbo : ∀ o' sb', ¬ o' = o → sh o' = some sb' → sb' ≠ sb := by
    intro o' sb' ho e e2
    rcases hsb with e3 | ⟨_, e3⟩
    · exact ho (hst.inj o' o sb' e (by rw [e2]; exact e3))
    · have := (hshlt o' sb' e).1; omega
  have hmapo : (setZ Z o k ((enL (Z o) k).1 ++ news, (enL (Z o) k).2 ++ m) o).map (fun e => (e.1, upR R o k v o e.1)) = (k, v) :: rm ((Z o).map fun e => (e.1, R o e.1)) k := by
    unfold setZ
    rw [if_pos rfl, List.map_cons, upR_self, rm_map (Z o) (fun e => R o e.1) k]
    congr 1
    refine List.map_congr_left (fun e he => ?_)
    rw [upR_off v (fun e2 => (mem_rmE.1 he).2 e2.2)]
  have hmapx : ∀ o', ¬ o' = o → (setZ Z o k ((enL (Z o) k).1 ++ news, (enL (Z o) k).2 ++ m) o').map (fun e => (e.1, upR R o k v o' e.1)) = (Z o').map fun e => (e.1, R o' e.1) := by
    intro o' ho
    unfold setZ
    rw [if_neg ho]
    refine List.map_congr_left (fun e he => ?_)
    rw [upR_off v (fun e2 => ho e2.1)]
  have hrow : ∀ o' e, e ∈ setZ Z o k ((enL (Z o) k).1 ++ news, (enL (Z o) k).2 ++ m) o' → wz.ownsRow 0 3 1 (upR R o k v o' e.1) e.2.1.length (cI e.2.1) := by
    intro o' e he
    rcases hmemZ o' e he with ⟨rfl, rfl⟩ | ⟨h1, h2⟩
    · rw [upR_self]
      exact hcz.owns hM.own hvz
    · rw [upR_off v h2]
      exact hoth o' e h1 h2
  have hStm : Stm wz S p T sh' (upR R o k v) (setZ Z o k ((enL (Z o) k).1 ++ news, (enL (Z o) k).2 ++ m)) := by
    refine ⟨hSblk, htop, ?_, ?_, ?_, hrow, ?_⟩
    · intro o' sb' e
      by_cases ho : o' = o
      · subst ho
        rw [hsho] at e
        cases e
        rw [hmapo]
        exact ⟨hset, hsbT⟩
      · rw [hsh o' ho] at e
        rw [hmapx o' ho]
        refine ⟨((hst.set o' sb' e).1.chg hcx (hnotS o' sb' e)).chg hcz ?_, (hst.set o' sb' e).2⟩
        rintro (e2 | e2)
        · exact (hst.set o' sb' e).2 e2
        · exact hsbo o' sb' ho e e2
    · intro o' e
      by_cases ho : o' = o
      · subst ho; rw [hsho] at e; cases e
      · rw [hsh o' ho] at e
        unfold setZ
        rw [if_neg ho]
        exact hst.non o' e
    · intro a b sb' ea eb
      by_cases ha : a = o
      · by_cases hb : b = o
        · rw [ha, hb]
        · rw [ha, hsho] at ea
          cases ea
          rw [hsh b hb] at eb
          exact absurd rfl (hsbo b _ hb eb)
      · rw [hsh a ha] at ea
        by_cases hb : b = o
        · rw [hb, hsho] at eb
          cases eb
          exact absurd rfl (hsbo a _ ha ea)
        · rw [hsh b hb] at eb
          exact hst.inj a b sb' ea eb
    · intro a ea b eb g h1 h2 h3 h4
      rcases hmemZ a ea h1 with ⟨rfl, rfl⟩ | ⟨p1, p2⟩
      · rcases hmemZ b eb h2 with ⟨rfl, rfl⟩ | ⟨q1, q2⟩
        · exact ⟨rfl, rfl⟩
        · rw [upR_self] at h3
          rw [upR_off v q2] at h4
          exact absurd h3 (hvoth b eb g q1 q2 h4)
      · rw [upR_off v p2] at h3
        rcases hmemZ b eb h2 with ⟨rfl, rfl⟩ | ⟨q1, q2⟩
        · rw [upR_self] at h4
          exact absurd h4 (hvoth a ea g p1 p2 h3)
        · rw [upR_off v q2] at h4
          exact hst.rin a ea b eb g p1 q1 h3 h4
  refine ⟨fun i => SFp T sh' (upR R o k v) (setZ Z o k ((enL (Z o) k).1 ++ news, (enL (Z o) k).2 ++ m)) i ∨ Gx i, sti, news, ⟨T, sh', upR R o k v, Gx, hStm, hp.chg hcz hGxT hpT, hZ', ?_, fun i => Iff.rfl⟩, ?_, ?_, ?_, hK.len⟩
  · intro i hi hs
    rcases hs with rfl | ⟨o', e⟩ | ⟨o', e, he, hg⟩
    · exact hGxT i hi (.inl rfl)
    · by_cases ho : o' = o
      · subst ho; rw [hsho] at e; cases e
        exact hGxT _ hi (.inr rfl)
      · rw [hsh o' ho] at e
        rcases hnw i hi with e2 | e2
        · exact hG i e2 (.inr (.inl ⟨o', e⟩))
        · have := (hshlt o' i e).1; omega
    · have ht := owns_tg (hrow o' e he) i hg
      have := (hp.chg hcz hGxT hpT).tag hi 3 ht
      cases this
  · refine (hcx.mono (fun i hi e => ?_)).trans hcz (fun i hi e => ?_)
    · rcases e with e | e
      · exact (hF i).2 (.inr e)
      · exact (hF i).2 (.inl (hrb i e).1)
    · rcases e with rfl | rfl
      · exact (hF i).2 (.inl (.inl rfl))
      · rcases hsb with e2 | ⟨_, e2⟩
        · exact (hF i).2 (.inl (.inr (.inl ⟨o, e2⟩)))
        · omega
  · rintro i ((rfl | ⟨o', e⟩ | ⟨o', e, he, hg⟩) | hi)
    · exact .inl ((hF i).2 (.inl (.inl rfl)))
    · by_cases ho : o' = o
      · subst ho; rw [hsho] at e; cases e
        rcases hsb with e2 | ⟨_, e2⟩
        · exact .inl ((hF _).2 (.inl (.inr (.inl ⟨o', e2⟩))))
        · exact .inr (by omega)
      · rw [hsh o' ho] at e
        exact .inl ((hF i).2 (.inl (.inr (.inl ⟨o', e⟩))))
    · rcases hmemZ o' e he with ⟨rfl, rfl⟩ | ⟨p1, p2⟩
      · rw [upR_self] at hg
        rcases hM.mv i hg with e2 | e2
        · exact .inl ((hF i).2 (.inl (hrb i e2).1))
        · exact .inr e2
      · rw [upR_off v p2] at hg
        exact .inl ((hF i).2 (.inl (.inr (.inr ⟨o', e, p1, hg⟩))))
    · rcases hnw i hi with e | e
      · exact .inl ((hF i).2 (.inr e))
      · exact .inr e
  · rw [hK.cnt, hK.len]

end Go.Proofs.YtlppibigceeimaaDoor
