/-
  The document's Match: ends.
-/
import Derived.Test.YtndegcgcbhcokaaDoorQaO
import Derived.Deep.CutRange
namespace Go.Proofs.YtndegcgcbhcokaaDoor
open Go.RowKit
set_option linter.unusedVariables false
set_option linter.unusedSimpArgs false

/-- What ends answers. -/
def EnR (L : Tx → Prop) (t : Tx) (fb : List Bool) (n : Nat) (w : World) (e : Ending) (w' : World) : Prop :=
  ∃ a' c' ob, e = .returned (.slice a' (n + 1) c') ∧ BlV w' a' ob ∧ ob.length = n + 1 ∧ (∀ j, j ≤ n → (ob[j]? = some true ↔ En1 L t (fun i => fb[i]? = some true) j)) ∧ Below w.heap.size w w'
/-- What ends is handed. -/
structure EnA (w : World) (va fa : Option Addr) (t : Tx) (fb : List Bool) (n : Nat) : Prop where
  cp : CpV w va t
  bl : BlV w fa fb
  tl : t.length = n
  fl : fb.length = n + 1
  nl : n ≤ 900
  vc : ∀ c ∈ t, c ≤ 1114111
theorem EnA.later {w w' : World} {va fa : Option Addr} {t : Tx} {fb : List Bool} {n : Nat} (h : EnA w va fa t fb n) (hb : Below w.heap.size w w') : EnA w' va fa t fb n := ⟨h.cp.later hb, h.bl.later hb, h.tl, h.fl, h.nl, h.vc⟩
def EnC (p : Pt) : Prop := ∀ (F : Nat → Prop) (w : World) (u : List Value) (va fa : Option Addr) (vc fc : Nat) (t : Tx) (fb : List Bool) (n : Nat), NdV F w p u → EnA w va fa t fb n → Calls Tryd.prog 33 #[.agg (List.toArray u), .slice va n vc, .slice fa (n + 1) fc] w (EnR p.has t fb n w)
def EnRow (r : List Pt) : Prop := ∀ (F : Nat → Prop) (w : World) (u : List Value) (va fa : Option Addr) (vc fc : Nat) (t : Tx) (fb : List Bool) (n : Nat), RwV F w r u → r.length ≤ 1000 → EnA w va fa t fb n → Calls Tryd.prog 33 #[.agg (List.toArray u), .slice va n vc, .slice fa (n + 1) fc] w (EnR (rowHas r) t fb n w)
def EnAny (l : List (List Pt)) : Prop := ∀ (F : Nat → Prop) (w : World) (u : List Value) (va fa : Option Addr) (vc fc : Nat) (t : Tx) (fb : List Bool) (n : Nat), AnV F w l u → l.length ≤ 1000 → EnA w va fa t fb n → Calls Tryd.prog 33 #[.agg (List.toArray u), .slice va n vc, .slice fa (n + 1) fc] w (EnR (rowsHas l) t fb n w)

theorem leaf_has {F : Nat → Prop} {w : World} {p : Pt} {u : List Value} (hp : Leaf p) (h : NdV F w p u) (c : Nat) (hc : c ≤ 1114111) : p.has [c] ↔ lfB p c = true := by
  cases p with
  | grp l => exact hp.elim
  | rep a s => exact hp.elim
  | chr d =>
    simp only [Pt.has, lfB, beq_iff_eq]
    constructor
    · rintro ⟨x, e, hx⟩
      injection e with e
      subst e
      rw [inS_cons, inS_nil] at hx
      simp at hx
      omega
    · rintro rfl
      exact ⟨c, rfl, by rw [inS_cons]; simp⟩
  | any =>
    simp only [Pt.has, lfB, iff_true]
    exact ⟨c, rfl, by rw [othS, if_pos (by omega), inS_cons]; simp; omega⟩
  | cls neg l =>
    simp only [NdV] at h
    obtain ⟨ad, c1, raw, rfl, hss, hf, hfold, hok, hne, hlen⟩ := h
    have ht : Tidy l := by rw [← hfold]; exact (fold_tidy raw.length raw rfl hok).1
    simp only [Pt.has, lfB]
    have key : inS (if neg = true then othS 0 l else l) c = true ↔ (inS l c != neg) = true := by
      cases neg with
      | false => simp
      | true =>
        rw [if_pos rfl, inS_oth l 0 c ht (fun o _ => Nat.zero_le _) (Nat.zero_le _) hc]
        cases inS l c <;> simp
    constructor
    · rintro ⟨x, e, hx⟩
      injection e with e
      subst e
      exact key.1 hx
    · intro hx
      exact ⟨c, rfl, key.2 hx⟩
theorem leaf_one {p : Pt} (hp : Leaf p) {v : Tx} (h : p.has v) : ∃ x, v = [x] := by
  cases p with
  | grp l => exact hp.elim
  | rep a s => exact hp.elim
  | chr d => simp only [Pt.has] at h; obtain ⟨x, e, _⟩ := h; exact ⟨x, e⟩
  | any => simp only [Pt.has] at h; obtain ⟨x, e, _⟩ := h; exact ⟨x, e⟩
  | cls neg l => simp only [Pt.has] at h; obtain ⟨x, e, _⟩ := h; exact ⟨x, e⟩
/-- The places behind one code point. -/
def lfG (p : Pt) (t : Tx) (fb : List Bool) (k : Nat) : Bool := match k with
  | 0 => false
  | k + 1 => fb[k]?.getD false && lfB p (t[k]?.getD 0)
theorem leaf_en {F : Nat → Prop} {w : World} {p : Pt} {u : List Value} (hp : Leaf p) (h : NdV F w p u) {t : Tx} {fb : List Bool} {n : Nat} (tl : t.length = n) (fl : fb.length = n + 1) (vc : ∀ c ∈ t, c ≤ 1114111) (j : Nat) (hj : j ≤ n) : lfG p t fb j = true ↔ En1 p.has t (fun i => fb[i]? = some true) j := by
  cases j with
  | zero =>
    simp only [lfG, Bool.false_eq_true, false_iff]
    rintro ⟨i, h1, h2, h3⟩
    obtain ⟨x, e⟩ := leaf_one hp h3
    simp at e
  | succ k =>
    have hk : k < t.length := by omega
    have hkf : k < fb.length := by omega
    have hd : ∀ i, (t.take (k + 1)).drop i = [t[k]] → i = k := fun i e => by
      have := congrArg List.length e
      rw [List.length_drop, List.length_take] at this
      simp at this
      omega
    have hk1 : (t.take (k + 1)).drop k = [t[k]] := by
      rw [List.take_add_one, List.getElem?_eq_getElem hk, List.drop_append_of_le_length (by rw [List.length_take]; omega), List.drop_of_length_le (by rw [List.length_take]; omega)]
      rfl
    have hc := vc t[k] (List.getElem_mem hk)
    simp only [lfG, List.getElem?_eq_getElem hk, List.getElem?_eq_getElem hkf, Option.getD_some, Bool.and_eq_true]
    constructor
    · rintro ⟨h1, h2⟩
      refine ⟨k, by omega, by simp only [List.getElem?_eq_getElem hkf, h1], ?_⟩
      rw [hk1]
      exact (leaf_has hp h t[k] hc).2 h2
    · rintro ⟨i, h1, h2, h3⟩
      obtain ⟨x, e⟩ := leaf_one hp h3
      have hl := congrArg List.length e
      rw [List.length_drop, List.length_take] at hl
      simp at hl
      have hik : i = k := by omega
      subst hik
      rw [hk1] at h3
      simp only [List.getElem?_eq_getElem hkf] at h2
      exact ⟨by injection h2, (leaf_has hp h t[i] hc).1 h3⟩

/-- The node's own copy, and the row of noughts. -/
theorem box70 (w : World) (u : List Value) : ∃ w1, w.alloc (.cells (List.toArray u) 70) = w1 ∧ Blk w1 w.heap.size 70 u ∧ Below w.heap.size w w1 ∧ w1.heap.size = w.heap.size + 1 := one_new w 70 u

set_option maxRecDepth 100000 in
set_option maxHeartbeats 0 in
theorem ends_leaf (p : Pt) (hp : Leaf p) : EnC p := by
  intro F w u va fa vc fc t fb n hN hA
  obtain ⟨i0, hi0, hz0, hz1, hz2⟩ := info_parts info4
  have HI := hidden hi0
  obtain ⟨K, A, N, G, ad, m, c, ad2, m2, c2, hu⟩ := hN.sh
  have hK : K = 1 ∨ K = 2 ∨ K = 3 := by
    cases p with
    | grp l => exact hp.elim
    | rep a s => exact hp.elim
    | chr d =>
      simp only [NdV] at hN
      rw [hN.1] at hu
      injection hu with h1
      injection h1 with _ h1
      exact .inl (by omega)
    | any =>
      simp only [NdV] at hN
      rw [hN] at hu
      injection hu with h1
      injection h1 with _ h1
      exact .inr (.inl (by omega))
    | cls neg l =>
      simp only [NdV] at hN
      obtain ⟨_, _, _, e, _⟩ := hN
      rw [e] at hu
      injection hu with h1
      injection h1 with _ h1
      exact .inr (.inr (by omega))
  obtain ⟨w1, hw1, hB1, hb1, hs1⟩ := box70 w u
  have hM : ∀ wx (c : Nat), Below w.heap.size w wx → c ≤ 1114111 → Calls Tryd.prog 53 #[.agg (List.toArray u), .int .i32 (c : Int)] wx fun e w' => e = .returned (.bool (lfB p c)) ∧ Below wx.heap.size wx w' := fun wx c hb hc => by
    have h2 : NdV F wx p u := NdV.keep (Chg.of_below (F := fun _ => False) hb) (fun _ _ h => h) p u hN
    exact meansR hp h2 c hc
  have HM := hidden hM
  clear hM
  have HEN := hidden (fun j hj => leaf_en hp hN hA.tl hA.fl hA.vc j hj)
  have HA := hidden hA
  have hn9 := hA.nl
  obtain ⟨KZ, hKZ⟩ : ∃ KZ : Int, (K : Int) = KZ := ⟨_, rfl⟩
  have hKZ3 : KZ = 1 ∨ KZ = 2 ∨ KZ = 3 := by omega
  rw [hu] at hw1 hB1 HM ⊢
  have HX : Hid (∀ wx, Below w1.heap.size w1 wx → wx.cell? ⟨w.heap.size, 0, none⟩ = some (.int .i64 KZ) ∧ wx.cell? ⟨w.heap.size, 1, none⟩ = some (.int .i32 (A : Int)) ∧ wx.cell? ⟨w.heap.size, 2, none⟩ = some (.bool N) ∧ wx.cell? ⟨w.heap.size, 3, none⟩ = some (.int .u8 (G : Int)) ∧ wx.cell? ⟨w.heap.size, 4, none⟩ = some (.slice ad m c) ∧ wx.cell? ⟨w.heap.size, 5, none⟩ = some (.slice ad2 m2 c2)) := hidden (fun wx hb => by
    have hB := hB1.later hb
    exact ⟨by rw [← hKZ]; exact hB.cell 0, hB.cell 1, hB.cell 2, hB.cell 3, hB.cell 4, hB.cell 5⟩)
  simp only [nV] at hw1 HM ⊢
  rw [hKZ] at hw1 HM ⊢
  have HB1 := hidden hb1
  have HW1 := hidden hw1
  have HS1 := hidden hs1
  clear hN hA hu hw1 hB1 hb1 hs1 hi0 hK hKZ
  obtain ⟨GG, hGG⟩ : ∃ GG, lfG p t fb = GG := ⟨_, rfl⟩
  have HGG := hidden hGG
  rw [hGG] at HEN
  clear hGG
  obtain ⟨x0, _⟩ := HX.out w1 (Below.refl _ _)
  rcases hKZ3 with rfl | rfl | rfl
  all_goals
    go_enter Tryd.func33, Tryd.ntmps33
    go_upto_region 1 with fail
    rw [HW1.out]
    clear HW1
    go_upto_region 6 with (refine wpList_make_room _ rfl (.tmp 17) (.tmp 17) 91 rfl 4 i0 (.bool false) Tryd.underlying91 HI.out hz0 hz1 hz2 rfl .i64 .i64 ((n + 1 : Nat) : Int) ((n + 1 : Nat) : Int) (n + 1) (n + 1) rfl rfl rfl rfl (Nat.le_refl _) (by omega) ?_; intro w2 hB2 hs2 hb2; have F2 := hidden (Fil.new hb2 hB2 GG); have HB2 := hidden hb2; obtain ⟨y0, _⟩ := HX.out w2 hb2; clear hB2 hs2 hb2 x0)
    have F3 : Hid (Fil w1 w2 w1.heap.size (n + 1) 1 (List.replicate (n + 1) false) GG) := hidden ⟨F2.out.bel, F2.out.blk, F2.out.len, F2.out.ge, fun k hk => by
      obtain rfl : k = 0 := by omega
      rw [← HGG.out]
      simp [lfG]⟩
    go_wp2_with fail
    go_loopw [8] (fun s8 wx => ∃ i : Nat, s8 = .int .i64 (i : Int) ∧ i ≤ n ∧ Hid (∃ l, Fil w1 wx w1.heap.size (n + 1) (i + 1) l GG)) (fun s8 _ => n - (intOf s8).toNat)
    case atStart => exact ⟨0, rfl, by omega, hidden ⟨_, F3.out⟩⟩
    case round =>
      rename World => wr
      obtain ⟨i, rfl, hi, hex⟩ := hrel
      obtain ⟨l, hF⟩ := hex.out
      have HF := hidden hF
      have HBR : Hid (Below w.heap.size w wr) := hidden (HB1.out.trans (hF.bel.mono HB1.out.size))
      clear hex hF F2 F3
      by_cases hlt : i < n
      · have hltz : (i : Int) < (n : Int) := by omega
        have hltz1 : (i : Int) < (n : Int) + 1 := by omega
        have hlt1 : (i : Int) + 1 < (n : Int) + 1 := by omega
        have hla : i < t.length := by have := HA.out.tl; omega
        have hlb : i < fb.length := by have := HA.out.fl; omega
        obtain ⟨b1, o1, rfl, hc1⟩ := (HA.out.later HBR.out).cp (fun e => by rw [e] at hla; simp at hla)
        obtain ⟨b2, o2, rfl, hc2⟩ := (HA.out.later HBR.out).bl (fun e => by rw [e] at hlb; simp at hlb)
        obtain ⟨cc, hcc⟩ : ∃ x, t[i]? = some x := ⟨_, List.getElem?_eq_getElem hla⟩
        obtain ⟨y, hy⟩ : ∃ y, fb[i]? = some y := ⟨_, List.getElem?_eq_getElem hlb⟩
        have hcv : cc ≤ 1114111 := HA.out.vc cc (List.mem_of_getElem? hcc)
        have k1 := hc1 i cc hcc
        have HK2 : Hid (∀ wx, Below wr.heap.size wr wx → wx.cell? ⟨b2, o2 + i, none⟩ = some (.bool y)) := hidden (fun wx hb => by
          have := hc2 i y hy
          rw [hb.cell (p := ⟨b2, o2 + i, none⟩) (cell_lt this)]
          exact this)
        obtain ⟨x0, x1, x2, x3, x4, x5⟩ := HX.out wr HF.out.bel
        have kM := HM.out wr.drew cc (HBR.out.trans (below_drew _ _)) hcv
        obtain ⟨q, hq⟩ : ∃ q, lfB p cc = q := ⟨_, rfl⟩
        have HGI : Hid (GG (i + 1) = (y && q)) := hidden (by rw [← HGG.out]; simp only [lfG, hcc, hy, Option.getD_some, hq])
        rw [hq] at kM
        clear hc1 hc2 hcc hy hla hlb hq
        go_upto_region 9 with fail
        go_cut [9] from 25 to 47 (fun s9 wx => s9 = .bool q ∧ Hid (Below wr.heap.size wr wx))
        case first =>
          go_region_law (refine step_fn (by rfl) 53 _ (by simp [execOp, resolve, Act.eval, go_sem]) _ kM (fun e w' hh => ⟨_, hh.1⟩) ?_; intro v w6 hΦ; obtain ⟨he6, hb6⟩ := hΦ; injection he6 with he6; subst he6; have HB6 := hidden ((below_drew wr _).trans hb6); clear hb6)
          all_goals
            go_wp2
            go_meet
            exact ⟨rfl, HB6⟩
        case rest =>
          obtain ⟨rfl, hb9⟩ := hcut
          rename World => w9
          have F9 : Hid (Fil w1 w9 w1.heap.size (n + 1) (i + 1) l GG) := hidden ⟨HF.out.bel.trans (hb9.out.mono HF.out.bel.size), HF.out.blk.later hb9.out, HF.out.len, HF.out.ge, HF.out.val⟩
          obtain ⟨⟨z, k3⟩, k4⟩ := F9.out.at (k := i + 1) (by omega)
          have k2 := HK2.out w9 hb9.out
          have HS : Hid (Fil w1 (w9.setCell ⟨w1.heap.size, i + 1, none⟩ (.bool (y && q))) w1.heap.size (n + 1) (i + 1 + 1) (l.set (i + 1) (GG (i + 1))) GG) := hidden (by
            have := F9.out.set (show i + 1 < n + 1 by omega)
            rw [← HGI.out]; exact this)
          clear k1 x0 x1 x2 x3 x4 x5 kM
          cases y with
          | true =>
            go_wp2
            refine ⟨⟨i + 1, by first | rfl | simp, by omega, hidden ⟨_, HS.out⟩⟩, ?_⟩
            simp [intOf]
            omega
          | false =>
            go_wp2
            refine ⟨⟨i + 1, by first | rfl | simp, by omega, hidden ⟨_, HS.out⟩⟩, ?_⟩
            simp [intOf]
            omega
      · have hltz : ¬ (i : Int) < (n : Int) := by omega
        obtain rfl : i = n := by omega
        go_wp2
        go_ret
        refine ⟨_, i + 1, (List.range (i + 1)).map GG, rfl, HF.out.fin, by simp, fun j hj => ?_, HBR.out⟩
        rw [← HEN.out j hj, List.getElem?_map, List.getElem?_range (by omega)]
        simp

end Go.Proofs.YtndegcgcbhcokaaDoor
