/-
  Matchers and rules in memory; New.
-/
import Derived.Test.YtanlgplgplncdaaGreatDoorMtA
namespace Go.Proofs.YtanlgplgplncdaaGreatDoor
open Go.RowKit
set_option linter.unusedVariables false
set_option linter.unusedSimpArgs false

/-- A slice's matchers: where they lie. -/
structure Ms (w : World) (ad : Option Addr) (l : List Mt) : Prop where
  sz : ∀ x ∈ l, OkM x
  at' : l ≠ [] → ∃ b off, ad = some ⟨b, off, none⟩ ∧ b < w.heap.size ∧ ∀ i x, l[i]? = some x → w.cell? ⟨b, off + i * 3, none⟩ = some (.string x.n) ∧ w.cell? ⟨b, off + i * 3 + 1, none⟩ = some (.int .i64 x.op) ∧ w.cell? ⟨b, off + i * 3 + 2, none⟩ = some (.string x.t)
theorem Ms.later {w w' : World} {ad : Option Addr} {l : List Mt} (h : Ms w ad l) (hb : Below w.heap.size w w') : Ms w' ad l := by
  refine ⟨h.sz, fun h0 => ?_⟩
  obtain ⟨b, off, e, hlt, hc⟩ := h.at' h0
  refine ⟨b, off, e, Nat.lt_of_lt_of_le hlt hb.size, fun i x hx => ?_⟩
  rw [hb.cell (p := ⟨b, off + i * 3, none⟩) hlt, hb.cell (p := ⟨b, off + i * 3 + 1, none⟩) hlt, hb.cell (p := ⟨b, off + i * 3 + 2, none⟩) hlt]
  exact hc i x hx
theorem Ms.nil (w : World) (ad : Option Addr) : Ms w ad [] := ⟨by simp, fun h => absurd rfl h⟩
theorem Ms.get {w : World} {ad : Option Addr} {l : List Mt} (h : Ms w ad l) {i : Nat} (hi : i < l.length) : ∃ b off x, ad = some ⟨b, off, none⟩ ∧ b < w.heap.size ∧ l[i]? = some x ∧ w.cell? ⟨b, off + i * 3, none⟩ = some (.string x.n) ∧ w.cell? ⟨b, off + i * 3 + 1, none⟩ = some (.int .i64 x.op) ∧ w.cell? ⟨b, off + i * 3 + 2, none⟩ = some (.string x.t) ∧ OkM x := by
  obtain ⟨b, off, e, hlt, hc⟩ := h.at' (by intro h0; rw [h0] at hi; simp at hi)
  have hx : l[i]? = some l[i] := by simp [hi]
  exact ⟨b, off, l[i], e, hlt, hx, (hc i _ hx).1, (hc i _ hx).2.1, (hc i _ hx).2.2, h.sz _ (by simp)⟩
theorem Ms.below {w w' : World} {ad : Option Addr} {l : List Mt} {B : Nat} (h : Ms w ad l) (hB : w.heap.size ≤ B) (hb : Below B w w') : Ms w' ad l := h.later (hb.mono hB)

/-- Rules, as their cells. -/
def cR (L : List (Mt × Value)) : List Value := L.flatMap fun p => ruC p.1 p.2
theorem cR_cons (p : Mt × Value) (L : List (Mt × Value)) : cR (p :: L) = ruC p.1 p.2 ++ cR L := by simp [cR]
theorem cR_length : ∀ L : List (Mt × Value), (cR L).length = L.length * 4
  | [] => rfl
  | p :: t => by rw [cR_cons, List.length_append, cR_length t]; simp [ruC]; omega
theorem cR_append (L M : List (Mt × Value)) : cR (L ++ M) = cR L ++ cR M := by simp [cR]
theorem cR_get : ∀ (L : List (Mt × Value)) (i : Nat) (p : Mt × Value), L[i]? = some p → (cR L)[i * 4]? = some (.string p.1.n) ∧ (cR L)[i * 4 + 1]? = some (.int .i64 p.1.op) ∧ (cR L)[i * 4 + 2]? = some (.string p.1.t) ∧ (cR L)[i * 4 + 3]? = some p.2
  | [], i, p, h => by simp at h
  | q :: t, 0, p, h => by simp at h; subst h; rw [cR_cons]; exact ⟨rfl, rfl, rfl, rfl⟩
  | q :: t, i + 1, p, h => by
    have := cR_get t i p (by simpa using h)
    rw [cR_cons]
    have e : ∀ k, (ruC q.1 q.2 ++ cR t)[(i + 1) * 4 + k]? = (cR t)[i * 4 + k]? := fun k => by
      rw [List.getElem?_append_right (by simp [ruC]; omega)]
      congr 1
      simp [ruC]
      omega
    exact ⟨by rw [← this.1]; exact e 0, by rw [← this.2.1]; exact e 1, by rw [← this.2.2.1]; exact e 2, by rw [← this.2.2.2]; exact e 3⟩

/-- What a set of rules holds while it grows: its header's block, its rules' row, what their tests lie in. -/
structure NL (w wx : World) (s : Nat) (v : Value) (L : List (Mt × Value)) (F : Nat → Prop) : Prop where
  blk : Blk wx s 69 [v]
  own : wx.ownsRow w.heap.size 67 4 v L.length (cR L)
  fv : ∀ p ∈ L, Fv F wx p.1.op p.1.t p.2
  fr : ∀ b, F b → w.heap.size ≤ b ∧ b < wx.heap.size ∧ b ≠ s ∧ ¬ v.ownBlock = some b
  ne : ¬ v.ownBlock = some s
  bel : Below w.heap.size w wx
  sb : w.heap.size ≤ s
theorem NL.later {w wx wy : World} {s : Nat} {v : Value} {L : List (Mt × Value)} {F : Nat → Prop} (h : NL w wx s v L F) (hb : Below wx.heap.size wx wy) : NL w wy s v L F :=
  ⟨h.blk.later hb, owl h.own hb, fun p hp => (h.fv p hp).keep (Chg.of_below (F := fun _ => False) hb) (fun _ _ e => e), fun b hb2 => ⟨(h.fr b hb2).1, Nat.lt_of_lt_of_le (h.fr b hb2).2.1 hb.size, (h.fr b hb2).2.2⟩, h.ne, h.bel.trans (hb.mono h.bel.size), h.sb⟩
/-- One rule more. -/
theorem NL.push {w wx wy w' : World} {s g' c' : Nat} {v : Value} {L : List (Mt × Value)} {F F2 : Nat → Prop} {p : Mt × Value} (h : NL w wx s v L F) (hb : Below wx.heap.size wx wy) (hf : Fv F2 wy p.1.op p.1.t p.2) (hF2 : ∀ b, F2 b → wx.heap.size ≤ b ∧ b < wy.heap.size)
    (ho : w'.ownsRow w.heap.size 67 4 (.slice (some ⟨g', 0, none⟩) (L.length + 1) c') (L.length + 1) (cR L ++ ruC p.1 p.2)) (hc : Chg (fun i => v.ownBlock = some i) wy w') (hm : Moved wy v.ownBlock (some g')) :
    NL w (w'.setCell ⟨s, 0, none⟩ (.slice (some ⟨g', 0, none⟩) (L.length + 1) c')) s (.slice (some ⟨g', 0, none⟩) (L.length + 1) c') (L ++ [p]) (fun b => F b ∨ F2 b) := by
  have h2 := h.later hb
  have hcs := Chg.set ⟨s, 0, none⟩ (.slice (some ⟨g', 0, none⟩) (L.length + 1) c') w'
  have hsb : Blk w' s 69 [v] := hc.blk h2.blk h2.ne
  have hsl : s < wx.heap.size := h.blk.lt
  have hsz := hb.size
  have hgs : ¬ g' = s := by
    rintro rfl
    rcases hm with e2 | ⟨q, e2, hq⟩
    · exact h.ne e2.symm
    · injection e2 with e2; omega
  have hFg : ∀ b, F b ∨ F2 b → ¬ v.ownBlock = some b := by
    rintro b (hb2 | hb2)
    · exact (h.fr b hb2).2.2.2
    · intro e
      have h3 := (h.own.lt b e).2
      have := (hF2 b hb2).1
      omega
  have hFs : ∀ b, F b ∨ F2 b → ¬ b = s := by
    rintro b (hb2 | hb2)
    · exact (h.fr b hb2).2.2.1
    · have := (hF2 b hb2).1; omega
  have hFl : ∀ b, F b ∨ F2 b → w.heap.size ≤ b ∧ b < wy.heap.size := by
    rintro b (hb2 | hb2)
    · have := h.fr b hb2; omega
    · have h3 := hF2 b hb2; have := h.bel.size; omega
  have hgl : ∀ b, F b ∨ F2 b → ¬ g' = b := by
    rintro b hb2 rfl
    rcases hm with e2 | ⟨q, e2, hq⟩
    · exact hFg g' hb2 e2.symm
    · injection e2 with e2
      have := (hFl g' hb2).2
      omega
  refine ⟨Blk.set hsb 0 _, ?_, ?_, fun b hb2 => ⟨(hFl b hb2).1, ?_, hFs b hb2, ?_⟩, ?_, (h2.bel.trans (hc.below h2.bel.size (fun i hi => (h.own.lt i hi).1))).trans (hcs.below (Nat.le_trans h2.bel.size hc.size) (fun i hi => by simp only at hi; rw [hi]; exact h.sb)), h.sb⟩
  · have := hcs.owns ho (fun g hg e => by simp [Value.ownBlock] at hg; simp only at e; omega)
    rw [List.length_append, cR_append]
    simpa [cR] using this
  · intro q hq
    have key : Fv (fun b => F b ∨ F2 b) wy q.1.op q.1.t q.2 := by
      rcases List.mem_append.1 hq with hq | hq
      · exact (h2.fv q hq).mono (fun _ hh => .inl hh) (fun b hh => (hFl b hh).2)
      · rw [List.mem_singleton.1 hq]
        exact hf.mono (fun _ hh => .inr hh) (fun b hh => (hFl b hh).2)
    exact (key.keep hc hFg).keep hcs (fun b hh e => by simp only at e; exact hFs b hh e)
  · have h3 := (hFl b hb2).2
    have h4 := hc.size
    have h5 := hcs.size
    omega
  · simp [Value.ownBlock]
    exact fun e => hgl b hb2 e
  · simp [Value.ownBlock]
    exact fun e => hgs e

/-- What ruleOf leaves, its cells written out. -/
theorem ruleOfL (B : Nat) (x : Mt) (w : World) (hx : OkM x) (hT : L.Tb B w) : Calls Tryz.prog 42 #[.agg #[.string x.n, .int .i64 x.op, .string x.t]] w fun e w' =>
    Below w.heap.size w w' ∧ ∃ (y : Mt) (fv : Value), e = .returned (.tuple #[.agg #[.string y.n, .int .i64 y.op, .string y.t, fv], .bool x.may]) ∧ fv.oneCell' = true ∧ (x.may = true → y = x ∧ ∃ F, Fv F w' x.op x.t fv ∧ ∀ b, F b → w.heap.size ≤ b ∧ b < w'.heap.size) := ruleOfP B x w hx hT

/-- A set of matchers. -/
def StR (F : Nat → Prop) (w : World) (s : Nat) (l : List Mt) : Prop :=
  ∃ v L, Blk w s 69 [v] ∧ w.ownsRow 0 67 4 v L.length (cR L) ∧ L.map Prod.fst = l ∧ (∀ p ∈ L, Fv F w p.1.op p.1.t p.2) ∧ F s ∧ (∀ g, v.ownBlock = some g → F g) ∧ (∀ b, F b → b < w.heap.size)
theorem StR.keep {F G : Nat → Prop} {w w' : World} {s : Nat} {l : List Mt} (h : StR F w s l) (hc : Chg G w w') (hd : ∀ b, F b → ¬ G b) : StR F w' s l := by
  obtain ⟨v, L, h1, h2, h3, h4, h5, h6, h7⟩ := h
  exact ⟨v, L, hc.blk h1 (hd s h5), hc.owns h2 (fun g hg => hd g (h6 g hg)), h3, fun p hp => (h4 p hp).keep hc hd, h5, h6, fun b hb => Nat.lt_of_lt_of_le (h7 b hb) hc.size⟩
theorem StR.later {F : Nat → Prop} {w w' : World} {s : Nat} {l : List Mt} (h : StR F w s l) (hb : Below w.heap.size w w') : StR F w' s l := h.keep (Chg.of_below (F := fun _ => False) hb) (fun _ _ e => e)
theorem NL.set {w wx : World} {s : Nat} {v : Value} {L : List (Mt × Value)} {F : Nat → Prop} (h : NL w wx s v L F) : ∃ F', StR F' wx s (L.map Prod.fst) ∧ ∀ b, F' b → w.heap.size ≤ b := by
  have hlt : ∀ b, (F b ∨ b = s ∨ v.ownBlock = some b) → b < wx.heap.size := by
    rintro b (hb | hb | hb)
    · exact (h.fr b hb).2.1
    · rw [hb]; exact h.blk.lt
    · exact (h.own.lt b hb).2
  refine ⟨fun b => F b ∨ b = s ∨ v.ownBlock = some b, ⟨v, L, h.blk, ⟨h.own.1, ?_⟩, rfl, fun p hp => (h.fv p hp).mono (fun _ hh => .inl hh) hlt, .inr (.inl rfl), fun g hg => .inr (.inr hg), hlt⟩, ?_⟩
  · rcases h.own.2 with hh | ⟨g, cap, cur, e, _, r⟩
    · exact .inl hh
    · exact .inr ⟨g, cap, cur, e, Nat.zero_le _, r⟩
  · rintro b (hb | hb | hb)
    · exact (h.fr b hb).1
    · rw [hb]; exact h.sb
    · exact (h.own.lt b hb).1

theorem info56 : (Tryz.prog.info? 67).map (fun i => (i.zero, i.size, i.bytes)) = some (some (.agg #[.string ⟨#[]⟩, .int .i64 0, .string ⟨#[]⟩, .nilFunc]), 4, 48) := by kernel_rfl
theorem Pushed.chg2 {w w6 : World} {v : Value} {g6 : Nat} {o : Obj} (hp : Pushed (w.alloc o) w6 v g6) : Chg (fun i => v.ownBlock = some i) w w6 ∧ Moved w v.ownBlock (some g6) := by
  have hA : Chg (fun i => v.ownBlock = some i) w (w.alloc o) := Chg.of_below ((Below.refl _ _).alloc (Nat.le_refl _) o)
  rcases hp with ⟨h1, h2⟩ | ⟨h1, h2⟩
  · exact ⟨hA.trans (Chg.of_grown (F := fun i => v.ownBlock = some i) h2 (fun i hi => by rw [h1]; exact hi)) (fun i _ hi => hi), .inl h1.symm⟩
  · exact ⟨hA.trans (Chg.of_grown (F := fun i => v.ownBlock = some i) h2 (fun i hi => by cases hi)) (fun i _ hi => hi), .inr ⟨g6, rfl, by simp at h1; omega⟩⟩
/-- A rule behind a row of rules. -/
theorem step_pushR (w : World) {ops : Array Oper} {o : Oper} {a : Act} {K : Act → World → Prop} {Q : Exit → Act → World → Prop} {E : Prop} (hgd : o.guard = none) (s x : Operand)
    (ho : o.op = .call { callee := .builtin .append, args := #[s, x], argTypes := #[63, 63] }) (base : Nat) (v : Value) (n : Nat) (xs : List Value) (hs : a.eval s = v) (w0 : World) (hown : w0.ownsRow base 67 4 v n xs) (y : Mt) (fv : Value) (h1 : fv.oneCell' = true)
    (hw : w = w0.alloc (.cells #[.string y.n, .int .i64 y.op, .string y.t, fv] 67)) (hx : a.eval x = .slice (some ⟨w0.heap.size, 0, none⟩) 1 1) (hn : n ≤ 1000000000) (hbase : base ≤ w0.heap.size)
    (h : ∀ g' c' w', w'.ownsRow base 67 4 (.slice (some ⟨g', 0, none⟩) (n + 1) c') (n + 1) (xs ++ ruC y fv) → Chg (fun i => v.ownBlock = some i) w0 w' → Moved w0 v.ownBlock (some g') → K (a.put o.dst (.slice (some ⟨g', 0, none⟩) (n + 1) c')) w') :
    if Region.wanted o (yielded ops a.tmps) = true then Oper.wp Tryz.prog o a w K Q else E := by
  subst hw
  obtain ⟨i0, hi0, hz0, hz1, hz2⟩ := info_parts info56
  refine step_pushN _ hgd s x 63 ho 67 i0 (.agg #[.string ⟨#[]⟩, .int .i64 0, .string ⟨#[]⟩, .nilFunc]) 4 48 Tryz.underlying63 hi0 hz0 hz1 hz2 rfl (by omega) base v n xs hs (hown.alloc _) ⟨w0.heap.size, 0, none⟩ (ruC y fv) hx rfl (fun j u hu => by
    have := (Blk.new w0 67 (ruC y fv)).cell (0 + j)
    rw [Addr.add_lit]
    refine this.trans ?_
    rw [Nat.zero_add]
    exact hu) (one_ruC h1) (by unfold maxLen; omega) (by omega) (by simp; omega) ?_
  intro g' c' w' ho' hp'
  exact h g' c' w' ho' hp'.chg2.1 hp'.chg2.2

/-- What New answers. -/
def NewR (w : World) (l : List Mt) (e : Ending) (w' : World) : Prop :=
  Below w.heap.size w w' ∧ ((newOk l = true ∧ ∃ s F, e = .returned (.tuple #[.pointer (some ⟨s, 0, none⟩), .int .i64 0]) ∧ StR F w' s l ∧ ∀ b, F b → w.heap.size ≤ b) ∨ (newOk l = false ∧ e = .returned (.tuple #[.pointer none, .int .i64 90])))

theorem info56n : (Tryz.prog.info? 67).map (fun i => (i.zero.map (·.cells.size), i.size)) = some (some 4, 4) := by kernel_rfl
theorem take_next {l : List Mt} {i : Nat} {x : Mt} (h : l[i]? = some x) : l.take (i + 1) = l.take i ++ [x] := by
  rw [List.take_add_one, h]; rfl

set_option maxRecDepth 100000 in
set_option maxHeartbeats 4000000 in
theorem newP (B : Nat) (ad : Option Addr) (c : Nat) (l : List Mt) (w : World) (hL : Ms w ad l) (hlen : l.length ≤ 9223372036854775807) (hT : L.Tb B w) : Calls Tryz.prog 21 #[.slice ad l.length c] w (NewR w l) := by
  obtain ⟨n, hn⟩ : ∃ n, l.length = n := ⟨_, rfl⟩
  rw [hn] at hlen ⊢
  have HN := hidden hn
  have HL := hidden hL
  have HT := hidden hT
  clear hn hL hT
  unfold NewR
  by_cases h8 : 8 < n
  · have h8z : (8 : Int) < (n : Int) := by omega
    have HO : Hid (newOk l = false) := hidden (by unfold newOk; rw [HN.out, decide_eq_false (by omega), Bool.false_and])
    go_enter Tryz.func21, Tryz.ntmps21
    go_wp2
    go_ret2
    exact ⟨Below.refl _ _, .inr ⟨HO.out, rfl⟩⟩
  · have h8z : ¬ (8 : Int) < (n : Int) := by omega
    have hal : Below w.heap.size w (w.alloc (.cells #[.slice none 0 0] 69)) := (Below.refl _ _).alloc (Nat.le_refl _) _
    have N0 : Hid (NL w (w.alloc (.cells #[.slice none 0 0] 69)) w.heap.size (.slice none 0 0) [] (fun _ => False)) := hidden ⟨Blk.new w 69 _, World.ownsRow_nil _ _ _ _, by simp, fun _ h => h.elim, by simp [Value.ownBlock], hal, Nat.le_refl _⟩
    clear hal
    go_enter Tryz.func21, Tryz.ntmps21
    go_wp2_with fail
    go_loopw [6, 7, 8, 16] (fun v6 v7 v8 v16 wx => ∃ (i : Nat) (v : Value) (R : List (Mt × Value)) (F : Nat → Prop), v16 = .int .i64 (i : Int) ∧ i ≤ n ∧ Hid (R.map Prod.fst = l.take i ∧ (l.take i).all Mt.may = true) ∧ Hid (NL w wx w.heap.size v R F)) (fun _ _ _ v16 _ => n - (intOf v16).toNat)
    case atStart => exact ⟨0, _, [], _, rfl, by omega, hidden ⟨by simp, by simp⟩, N0⟩
    case round =>
      rename World => wx
      obtain ⟨i, v, R, F, rfl, hi, hR, hN⟩ := hrel
      clear N0
      by_cases hlt : i < n
      · have hltz : (i : Int) < (n : Int) := by omega
        obtain ⟨bb, off, x, rfl, hbb, hx, c0, c1, c2, hok⟩ := (HL.out.below (Nat.le_refl _) hN.out.bel).get (i := i) (by rw [HN.out]; exact hlt)
        have HX := hidden hx
        have HOK := hidden hok
        clear hx hok
        have hal : Below wx.heap.size wx (wx.alloc (.cells #[.string x.n, .int .i64 x.op, .string x.t] 58)) := (Below.refl _ _).alloc (Nat.le_refl _) _
        have HAL := hidden hal
        clear hal
        go_wp2_with fail
        refine (ruleOfL B x _ HOK.out (HT.out.later (hN.out.bel.trans (HAL.out.mono hN.out.bel.size)))).mono ?_
        rintro e w3 ⟨b3, y, fv, rfl, hone, hm⟩
        have B3 : Hid (Below wx.heap.size wx w3) := hidden (HAL.out.trans (b3.mono HAL.out.size))
        have HS3 : Hid (wx.heap.size ≤ (wx.alloc (.cells #[.string x.n, .int .i64 x.op, .string x.t] 58)).heap.size) := hidden HAL.out.size
        have HM := hidden hm
        have HONE := hidden hone
        clear b3 hm c0 c1 c2 hone HAL
        cases hmay : x.may with
        | false =>
          have HO : Hid (newOk l = false) := hidden (by
            unfold newOk
            rw [Bool.and_eq_false_iff]
            right
            rw [List.all_eq_false]
            exact ⟨x, List.mem_of_getElem? HX.out, by rw [hmay]; simp⟩)
          clear hmay HM
          go_wp2_with (refine wpList_new_var rfl rfl 67 7 (.tmp 23) rfl rfl rfl rfl 4 info56n (ruC y fv) rfl (one_ruC HONE.out) (by simp) rfl ?_; intro w4 B4 bl4 hz4; have BL4 := hidden bl4; clear B4 bl4 hz4)
          go_ret2
          have b4 := B3.out.trans (BL4.out.mono B3.out.size)
          exact ⟨hN.out.bel.trans (b4.mono hN.out.bel.size), .inr ⟨HO.out, rfl⟩⟩
        | true =>
          obtain ⟨rfl, F2, hF2, hF2b⟩ := HM.out hmay
          obtain ⟨fn, xa, ya, rfl⟩ := hF2.func
          have HF2 := hidden hF2
          have HF2b := hidden hF2b
          have HMAY := hidden hmay
          have HRl : Hid (R.length = i) := hidden (by have := congrArg List.length hR.out.1; simp at this; rw [HN.out] at this; omega)
          clear hF2 hF2b hmay
          go_upto_region 10 with (refine wpList_new_var rfl rfl 67 7 (.tmp 23) rfl rfl rfl rfl 4 info56n (ruC y (.func fn xa ya)) rfl (one_ruC rfl) (by simp) rfl ?_; intro w4 B4 bl4 hz4; have BL4 := hidden bl4; have HB4 := hidden B4; clear B4 bl4 hz4)
          have B34 : Hid (Below wx.heap.size wx w4) := hidden (B3.out.trans (BL4.out.mono B3.out.size))
          have hblk : Blk w4 w.heap.size 69 [v] := hN.out.blk.later B34.out
          have cs : w4.cell? ⟨w.heap.size, 0, none⟩ = some v := hblk.cell 0
          have fs : w4.frozen? ⟨w.heap.size, 0, none⟩ = false := hblk.frozen 0
          have hlt4 : w.heap.size < w4.heap.size := hblk.lt
          have g0 : w4.cell? ⟨w3.heap.size, 0, none⟩ = some (.string y.n) := HB4.out.cell 0
          have g1 : w4.cell? ⟨w3.heap.size, 1, none⟩ = some (.int .i64 y.op) := HB4.out.cell 1
          have g2 : w4.cell? ⟨w3.heap.size, 2, none⟩ = some (.string y.t) := HB4.out.cell 2
          have g3 : w4.cell? ⟨w3.heap.size, 3, none⟩ = some (.func fn xa ya) := HB4.out.cell 3
          have hlt3 : w3.heap.size < w4.heap.size := HB4.out.lt
          have OW4 : Hid (w4.ownsRow w.heap.size 67 4 v R.length (cR R)) := hidden (owl hN.out.own B34.out)
          have HF4 : Hid (Fv F2 w4 y.op y.t (.func fn xa ya)) := hidden (HF2.out.keep (Chg.of_below (F := fun _ => False) BL4.out) (fun _ _ e => e))
          have hle4 : w.heap.size ≤ w4.heap.size := by omega
          have HBLK := hidden hblk
          clear hblk
          go_region_law (refine step_pushR _ (by rfl) (.tmp 31) (.tmp 33) (by rfl) w.heap.size v R.length (cR R) (by rfl) w4.drew OW4.out y (.func fn xa ya) rfl (by rfl) (by rfl) (by have := HRl.out; omega) hle4 ?_
                         intro g9 c9 w9 o9 ch9 mv9
                         have bk9 : Blk w9 w.heap.size 69 [v] := ch9.blk HBLK.out hN.out.ne
                         have cs9 : w9.cell? ⟨w.heap.size, 0, none⟩ = some v := bk9.cell 0
                         have fs9 : w9.frozen? ⟨w.heap.size, 0, none⟩ = false := bk9.frozen 0
                         have O9 := hidden o9
                         have CH9 : Hid (Chg (fun i => v.ownBlock = some i) w4 w9) := hidden ((Chg.drew _ w4).trans ch9 (fun _ _ e => e))
                         have MV9 : Hid (Moved w4 v.ownBlock (some g9)) := hidden mv9
                         clear o9 ch9 mv9 bk9)
          all_goals
            have N9 := hidden (hN.out.push (p := (y, .func fn xa ya)) B34.out HF4.out (fun b hb => ⟨Nat.le_trans HS3.out (HF2b.out b hb).1, Nat.lt_trans (HF2b.out b hb).2 hlt3⟩) O9.out CH9.out MV9.out)
            go_wp2_with fail
            refine ⟨⟨i + 1, _, _, _, by rw [Int.natCast_add]; rfl, by omega, hidden ⟨?_, ?_⟩, N9⟩, by simp [intOf]; omega⟩
            · rw [List.map_append, hR.out.1, take_next HX.out]
              rfl
            · rw [take_next HX.out, List.all_append, hR.out.2, Bool.true_and]
              simp [HMAY.out]
      · have hltz : ¬ (i : Int) < (n : Int) := by omega
        obtain rfl : i = n := by omega
        have HO : Hid (newOk l = true) := hidden (by
          unfold newOk
          rw [HN.out, decide_eq_true (by omega), Bool.true_and]
          have := hR.out.2
          rwa [List.take_of_length_le (by rw [HN.out]; exact Nat.le_refl _)] at this)
        obtain ⟨F', hF', hFb⟩ := hN.out.set
        have HF' : Hid (StR F' wx w.heap.size l) := hidden (by
          have := hF'
          rwa [hR.out.1, List.take_of_length_le (by rw [HN.out]; exact Nat.le_refl _)] at this)
        have HFb := hidden hFb
        clear hF' hFb
        go_wp2
        go_ret2
        exact ⟨hN.out.bel, .inl ⟨HO.out, w.heap.size, by first | rfl | simp, F', HF'.out, HFb.out⟩⟩

end Go.Proofs.YtanlgplgplncdaaGreatDoor
