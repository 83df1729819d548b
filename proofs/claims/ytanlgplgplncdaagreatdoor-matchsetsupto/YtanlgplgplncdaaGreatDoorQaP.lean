import Derived.Test.YtanlgplgplncdaaGreatDoorQaN
import Derived.Deep.CutRange
import Derived.Deep.MidRow
/-
  The document's Match: ends.
-/
namespace Go.Proofs.YtanlgplgplncdaaGreatDoor
open Go.RowKit
set_option linter.unusedVariables false
set_option linter.unusedSimpArgs false

/-- What ends answers. -/
def EnR (L : Tx → Prop) (t : Tx) (fb : List Bool) (n : Nat) (w : World) (e : Ending) (w' : World) : Prop :=
  ∃ a' c' ob, e = .returned (.slice a' (n + 1) c') ∧ BlV w' a' ob ∧ ob.length = n + 1 ∧ (∀ j, j ≤ n → (ob[j]? = some true ↔ En1 L t (fun i => fb[i]? = some true) j)) ∧ Below w.heap.size w w'
/-- What ends is handed. -/
structure EnA (w : World) (va fa : Option Addr) (t : Tx) (fb : List Bool) (n : Nat) : Prop where
  cp : CpV w va t
  bl : BlV w fa fb
  tl : t.length = n
  fl : fb.length = n + 1
  nl : n ≤ 1900000
  vc : ∀ c ∈ t, c ≤ 1114111
theorem EnA.later {w w' : World} {va fa : Option Addr} {t : Tx} {fb : List Bool} {n : Nat} (h : EnA w va fa t fb n) (hb : Below w.heap.size w w') : EnA w' va fa t fb n := ⟨h.cp.later hb, h.bl.later hb, h.tl, h.fl, h.nl, h.vc⟩
def EnC (p : Pt) : Prop := ∀ (F : Nat → Prop) (w : World) (u : List Value) (va fa : Option Addr) (vc fc : Nat) (t : Tx) (fb : List Bool) (n : Nat), NdV F w p u → EnA w va fa t fb n → Calls Tryz.prog 63 #[.agg (List.toArray u), .slice va n vc, .slice fa (n + 1) fc] w (EnR p.has t fb n w)
def EnRow (r : List Pt) : Prop := ∀ (F : Nat → Prop) (w : World) (u : List Value) (va fa : Option Addr) (vc fc : Nat) (t : Tx) (fb : List Bool) (n : Nat), RwV F w r u → r.length ≤ 1000 → EnA w va fa t fb n → Calls Tryz.prog 63 #[.agg (List.toArray u), .slice va n vc, .slice fa (n + 1) fc] w (EnR (rowHas r) t fb n w)
def EnAny (l : List (List Pt)) : Prop := ∀ (F : Nat → Prop) (w : World) (u : List Value) (va fa : Option Addr) (vc fc : Nat) (t : Tx) (fb : List Bool) (n : Nat), AnV F w l u → l.length ≤ 1000 → EnA w va fa t fb n → Calls Tryz.prog 63 #[.agg (List.toArray u), .slice va n vc, .slice fa (n + 1) fc] w (EnR (rowsHas l) t fb n w)

theorem leaf_has {F : Nat → Prop} {w : World} {p : Pt} {u : List Value} (hp : Leaf p) (h : NdV F w p u) (c : Nat) (hc : c ≤ 1114111) : p.has [c] ↔ lfB p c = true := by
  cases p with
  | grp l => exact hp.elim
  | rep a s => exact hp.elim
  | chr d =>
    simp only [Pt.has, lfB, beq_iff_eq]
    constructor
    · rintro ⟨x, e, hx⟩
      injection e with e
      subst e
      rw [inS_cons, inS_nil] at hx
      simp at hx
      omega
    · rintro rfl
      exact ⟨c, rfl, by rw [inS_cons]; simp⟩
  | any =>
    simp only [Pt.has, lfB, iff_true]
    exact ⟨c, rfl, by rw [othS, if_pos (by omega), inS_cons]; simp; omega⟩
  | cls neg l =>
    simp only [NdV] at h
    obtain ⟨ad, c1, raw, rfl, hss, hf, hfold, hok, hne, hlen⟩ := h
    have ht : Tidy l := by rw [← hfold]; exact (fold_tidy raw.length raw rfl hok).1
    simp only [Pt.has, lfB]
    have key : inS (if neg = true then othS 0 l else l) c = true ↔ (inS l c != neg) = true := by
      cases neg with
      | false => simp
      | true =>
        rw [if_pos rfl, inS_oth l 0 c ht (fun o _ => Nat.zero_le _) (Nat.zero_le _) hc]
        cases inS l c <;> simp
    constructor
    · rintro ⟨x, e, hx⟩
      injection e with e
      subst e
      exact key.1 hx
    · intro hx
      exact ⟨c, rfl, key.2 hx⟩
theorem leaf_one {p : Pt} (hp : Leaf p) {v : Tx} (h : p.has v) : ∃ x, v = [x] := by
  cases p with
  | grp l => exact hp.elim
  | rep a s => exact hp.elim
  | chr d => simp only [Pt.has] at h; obtain ⟨x, e, _⟩ := h; exact ⟨x, e⟩
  | any => simp only [Pt.has] at h; obtain ⟨x, e, _⟩ := h; exact ⟨x, e⟩
  | cls neg l => simp only [Pt.has] at h; obtain ⟨x, e, _⟩ := h; exact ⟨x, e⟩
/-- The places behind one code point. -/
def lfG (p : Pt) (t : Tx) (fb : List Bool) (k : Nat) : Bool := match k with
  | 0 => false
  | k + 1 => fb[k]?.getD false && lfB p (t[k]?.getD 0)
theorem leaf_en {F : Nat → Prop} {w : World} {p : Pt} {u : List Value} (hp : Leaf p) (h : NdV F w p u) {t : Tx} {fb : List Bool} {n : Nat} (tl : t.length = n) (fl : fb.length = n + 1) (vc : ∀ c ∈ t, c ≤ 1114111) (j : Nat) (hj : j ≤ n) : lfG p t fb j = true ↔ En1 p.has t (fun i => fb[i]? = some true) j := by
  cases j with
  | zero =>
    simp only [lfG, Bool.false_eq_true, false_iff]
    rintro ⟨i, h1, h2, h3⟩
    obtain ⟨x, e⟩ := leaf_one hp h3
    simp at e
  | succ k =>
    have hk : k < t.length := by omega
    have hkf : k < fb.length := by omega
    have hd : ∀ i, (t.take (k + 1)).drop i = [t[k]] → i = k := fun i e => by
      have := congrArg List.length e
      rw [List.length_drop, List.length_take] at this
      simp at this
      omega
    have hk1 : (t.take (k + 1)).drop k = [t[k]] := by
      rw [List.take_add_one, List.getElem?_eq_getElem hk, List.drop_append_of_le_length (by rw [List.length_take]; omega), List.drop_of_length_le (by rw [List.length_take]; omega)]
      rfl
    have hc := vc t[k] (List.getElem_mem hk)
    simp only [lfG, List.getElem?_eq_getElem hk, List.getElem?_eq_getElem hkf, Option.getD_some, Bool.and_eq_true]
    constructor
    · rintro ⟨h1, h2⟩
      refine ⟨k, by omega, by simp only [List.getElem?_eq_getElem hkf, h1], ?_⟩
      rw [hk1]
      exact (leaf_has hp h t[k] hc).2 h2
    · rintro ⟨i, h1, h2, h3⟩
      obtain ⟨x, e⟩ := leaf_one hp h3
      have hl := congrArg List.length e
      rw [List.length_drop, List.length_take] at hl
      simp at hl
      have hik : i = k := by omega
      subst hik
      rw [hk1] at h3
      simp only [List.getElem?_eq_getElem hkf] at h2
      exact ⟨by injection h2, (leaf_has hp h t[i] hc).1 h3⟩

/-- The node's own copy, and the row of noughts. -/
theorem box70 (w : World) (u : List Value) : ∃ w1, w.alloc (.cells (List.toArray u) 123) = w1 ∧ Blk w1 w.heap.size 123 u ∧ Below w.heap.size w w1 ∧ w1.heap.size = w.heap.size + 1 := one_new w 123 u

set_option maxRecDepth 100000 in
set_option maxHeartbeats 0 in
theorem ends_leaf (p : Pt) (hp : Leaf p) : EnC p := by
  intro F w u va fa vc fc t fb n hN hA
  obtain ⟨i0, hi0, hz0, hz1, hz2⟩ := info_parts info4
  have HI := hidden hi0
  obtain ⟨K, A, N, G, ad, m, c, ad2, m2, c2, hu⟩ := hN.sh
  have hK : K = 1 ∨ K = 2 ∨ K = 3 := by
    cases p with
    | grp l => exact hp.elim
    | rep a s => exact hp.elim
    | chr d =>
      simp only [NdV] at hN
      rw [hN.1] at hu
      injection hu with h1
      injection h1 with _ h1
      exact .inl (by omega)
    | any =>
      simp only [NdV] at hN
      rw [hN] at hu
      injection hu with h1
      injection h1 with _ h1
      exact .inr (.inl (by omega))
    | cls neg l =>
      simp only [NdV] at hN
      obtain ⟨_, _, _, e, _⟩ := hN
      rw [e] at hu
      injection hu with h1
      injection h1 with _ h1
      exact .inr (.inr (by omega))
  obtain ⟨w1, hw1, hB1, hb1, hs1⟩ := box70 w u
  have hM : ∀ wx (c : Nat), Below w.heap.size w wx → c ≤ 1114111 → Calls Tryz.prog 80 #[.agg (List.toArray u), .int .i32 (c : Int)] wx fun e w' => e = .returned (.bool (lfB p c)) ∧ Below wx.heap.size wx w' := fun wx c hb hc => by
    have h2 : NdV F wx p u := NdV.keep (Chg.of_below (F := fun _ => False) hb) (fun _ _ h => h) p u hN
    exact meansR hp h2 c hc
  have HM := hidden hM
  clear hM
  have HEN := hidden (fun j hj => leaf_en hp hN hA.tl hA.fl hA.vc j hj)
  have HA := hidden hA
  have hn9 := hA.nl
  obtain ⟨KZ, hKZ⟩ : ∃ KZ : Int, (K : Int) = KZ := ⟨_, rfl⟩
  have hKZ3 : KZ = 1 ∨ KZ = 2 ∨ KZ = 3 := by omega
  rw [hu] at hw1 hB1 HM ⊢
  have HX : Hid (∀ wx, Below w1.heap.size w1 wx → wx.cell? ⟨w.heap.size, 0, none⟩ = some (.int .i64 KZ) ∧ wx.cell? ⟨w.heap.size, 1, none⟩ = some (.int .i32 (A : Int)) ∧ wx.cell? ⟨w.heap.size, 2, none⟩ = some (.bool N) ∧ wx.cell? ⟨w.heap.size, 3, none⟩ = some (.int .u8 (G : Int)) ∧ wx.cell? ⟨w.heap.size, 4, none⟩ = some (.slice ad m c) ∧ wx.cell? ⟨w.heap.size, 5, none⟩ = some (.slice ad2 m2 c2)) := hidden (fun wx hb => by
    have hB := hB1.later hb
    exact ⟨by rw [← hKZ]; exact hB.cell 0, hB.cell 1, hB.cell 2, hB.cell 3, hB.cell 4, hB.cell 5⟩)
  simp only [nV] at hw1 HM ⊢
  rw [hKZ] at hw1 HM ⊢
  have HB1 := hidden hb1
  have HW1 := hidden hw1
  have HS1 := hidden hs1
  clear hN hA hu hw1 hB1 hb1 hs1 hi0 hK hKZ
  obtain ⟨GG, hGG⟩ : ∃ GG, lfG p t fb = GG := ⟨_, rfl⟩
  have HGG := hidden hGG
  rw [hGG] at HEN
  clear hGG
  obtain ⟨x0, _⟩ := HX.out w1 (Below.refl _ _)
  rcases hKZ3 with rfl | rfl | rfl
  all_goals
    go_enter Tryz.func63, Tryz.ntmps63
    go_upto_region 1 with fail
    rw [HW1.out]
    clear HW1
    go_upto_region 6 with (refine wpList_make_room _ rfl (.tmp 17) (.tmp 17) 128 rfl 4 i0 (.bool false) Tryz.underlying128 HI.out hz0 hz1 hz2 rfl .i64 .i64 ((n + 1 : Nat) : Int) ((n + 1 : Nat) : Int) (n + 1) (n + 1) rfl rfl rfl rfl (Nat.le_refl _) (by omega) ?_; intro w2 hB2 hs2 hb2; have F2 := hidden (Fil.new hb2 hB2 GG); have HB2 := hidden hb2; obtain ⟨y0, _⟩ := HX.out w2 hb2; clear hB2 hs2 hb2 x0)
    have F3 : Hid (Fil w1 w2 w1.heap.size (n + 1) 1 (List.replicate (n + 1) false) GG) := hidden ⟨F2.out.bel, F2.out.blk, F2.out.len, F2.out.ge, fun k hk => by
      obtain rfl : k = 0 := by omega
      rw [← HGG.out]
      simp [lfG]⟩
    go_wp2_with fail
    go_loopw [8] (fun s8 wx => ∃ i : Nat, s8 = .int .i64 (i : Int) ∧ i ≤ n ∧ Hid (∃ l, Fil w1 wx w1.heap.size (n + 1) (i + 1) l GG)) (fun s8 _ => n - (intOf s8).toNat)
    case atStart => exact ⟨0, rfl, by omega, hidden ⟨_, F3.out⟩⟩
    case round =>
      rename World => wr
      obtain ⟨i, rfl, hi, hex⟩ := hrel
      obtain ⟨l, hF⟩ := hex.out
      have HF := hidden hF
      have HBR : Hid (Below w.heap.size w wr) := hidden (HB1.out.trans (hF.bel.mono HB1.out.size))
      clear hex hF F2 F3
      by_cases hlt : i < n
      · have hltz : (i : Int) < (n : Int) := by omega
        have hltz1 : (i : Int) < (n : Int) + 1 := by omega
        have hlt1 : (i : Int) + 1 < (n : Int) + 1 := by omega
        have hla : i < t.length := by have := HA.out.tl; omega
        have hlb : i < fb.length := by have := HA.out.fl; omega
        obtain ⟨b1, o1, rfl, hc1⟩ := (HA.out.later HBR.out).cp (fun e => by rw [e] at hla; simp at hla)
        obtain ⟨b2, o2, rfl, hc2⟩ := (HA.out.later HBR.out).bl (fun e => by rw [e] at hlb; simp at hlb)
        obtain ⟨cc, hcc⟩ : ∃ x, t[i]? = some x := ⟨_, List.getElem?_eq_getElem hla⟩
        obtain ⟨y, hy⟩ : ∃ y, fb[i]? = some y := ⟨_, List.getElem?_eq_getElem hlb⟩
        have hcv : cc ≤ 1114111 := HA.out.vc cc (List.mem_of_getElem? hcc)
        have k1 := hc1 i cc hcc
        have HK2 : Hid (∀ wx, Below wr.heap.size wr wx → wx.cell? ⟨b2, o2 + i, none⟩ = some (.bool y)) := hidden (fun wx hb => by
          have := hc2 i y hy
          rw [hb.cell (p := ⟨b2, o2 + i, none⟩) (cell_lt this)]
          exact this)
        obtain ⟨x0, x1, x2, x3, x4, x5⟩ := HX.out wr HF.out.bel
        have kM := HM.out wr.drew cc (HBR.out.trans (below_drew _ _)) hcv
        obtain ⟨q, hq⟩ : ∃ q, lfB p cc = q := ⟨_, rfl⟩
        have HGI : Hid (GG (i + 1) = (y && q)) := hidden (by rw [← HGG.out]; simp only [lfG, hcc, hy, Option.getD_some, hq])
        rw [hq] at kM
        clear hc1 hc2 hcc hy hla hlb hq
        go_upto_region 9 with fail
        go_cut [9] from 25 to 47 (fun s9 wx => s9 = .bool q ∧ Hid (Below wr.heap.size wr wx))
        case first =>
          go_region_law (refine step_fn (by rfl) 80 _ (by simp [execOp, resolve, Act.eval, go_sem]) _ kM (fun e w' hh => ⟨_, hh.1⟩) ?_; intro v w6 hΦ; obtain ⟨he6, hb6⟩ := hΦ; injection he6 with he6; subst he6; have HB6 := hidden ((below_drew wr _).trans hb6); clear hb6)
          all_goals
            go_wp2
            go_meet
            exact ⟨rfl, HB6⟩
        case rest =>
          obtain ⟨rfl, hb9⟩ := hcut
          rename World => w9
          have F9 : Hid (Fil w1 w9 w1.heap.size (n + 1) (i + 1) l GG) := hidden ⟨HF.out.bel.trans (hb9.out.mono HF.out.bel.size), HF.out.blk.later hb9.out, HF.out.len, HF.out.ge, HF.out.val⟩
          obtain ⟨⟨z, k3⟩, k4⟩ := F9.out.at (k := i + 1) (by omega)
          have k2 := HK2.out w9 hb9.out
          have HS : Hid (Fil w1 (w9.setCell ⟨w1.heap.size, i + 1, none⟩ (.bool (y && q))) w1.heap.size (n + 1) (i + 1 + 1) (l.set (i + 1) (GG (i + 1))) GG) := hidden (by
            have := F9.out.set (show i + 1 < n + 1 by omega)
            rw [← HGI.out]; exact this)
          clear k1 x0 x1 x2 x3 x4 x5 kM
          cases y with
          | true =>
            go_wp2
            refine ⟨⟨i + 1, by first | rfl | simp, by omega, hidden ⟨_, HS.out⟩⟩, ?_⟩
            simp [intOf]
            omega
          | false =>
            go_wp2
            refine ⟨⟨i + 1, by first | rfl | simp, by omega, hidden ⟨_, HS.out⟩⟩, ?_⟩
            simp [intOf]
            omega
      · have hltz : ¬ (i : Int) < (n : Int) := by omega
        obtain rfl : i = n := by omega
        go_wp2
        go_ret
        refine ⟨_, i + 1, (List.range (i + 1)).map GG, rfl, HF.out.fin, by simp, fun j hj => ?_, HBR.out⟩
        rw [← HEN.out j hj, List.getElem?_map, List.getElem?_range (by omega)]
        simp

end Go.Proofs.YtanlgplgplncdaaGreatDoor

/-
  The document's Match: ends of brackets, repetitions, rows.
-/
namespace Go.Proofs.YtanlgplgplncdaaGreatDoor
open Go.RowKit
set_option linter.unusedVariables false
set_option linter.unusedSimpArgs false

theorem Cs.range {w : World} {b off : Nat} {u : List Value} (h : Cs w b off u) : w.rangeAt b off u := h
theorem NdsV.get {F : Nat → Prop} {w : World} : ∀ {r : List Pt} {b off : Nat}, NdsV F w r b off → ∀ (i : Nat) (p : Pt), r[i]? = some p → ∃ u, Cs w b (off + i * 6) u ∧ NdV F w p u
  | [], b, off, _, i, p, hp => by simp at hp
  | q :: t, b, off, h, 0, p, hp => by
    simp only [NdsV] at h
    simp at hp
    subst hp
    simpa using h.1
  | q :: t, b, off, h, i + 1, p, hp => by
    simp only [NdsV] at h
    obtain ⟨u, h1, h2⟩ := NdsV.get h.2 i p (by simpa using hp)
    exact ⟨u, by rw [show off + (i + 1) * 6 = off + 6 + i * 6 by omega]; exact h1, h2⟩
theorem RwsV.get {F : Nat → Prop} {w : World} : ∀ {l : List (List Pt)} {b off : Nat}, RwsV F w l b off → ∀ (i : Nat) (r : List Pt), l[i]? = some r → ∃ u, Cs w b (off + i * 6) u ∧ RwV F w r u
  | [], b, off, _, i, p, hp => by simp at hp
  | q :: t, b, off, h, 0, p, hp => by
    simp only [RwsV] at h
    simp at hp
    subst hp
    obtain ⟨⟨ad, c, b', off', h1, h2, h3⟩, _⟩ := h
    exact ⟨_, by simpa using h1, ad, c, b', off', rfl, h2, h3⟩
  | q :: t, b, off, h, i + 1, p, hp => by
    simp only [RwsV] at h
    obtain ⟨u, h1, h2⟩ := RwsV.get h.2 i p (by simpa using hp)
    exact ⟨u, by rw [show off + (i + 1) * 6 = off + 6 + i * 6 by omega]; exact h1, h2⟩

set_option maxRecDepth 100000 in
set_option maxHeartbeats 0 in
theorem ends_grp (l : List (List Pt)) (hl : l.length ≤ 1000) (hE : EnAny l) : EnC (.grp l) := by
  intro F w u va fa vc fc t fb n hN hA
  obtain ⟨i0, hi0, hz0, hz1, hz2⟩ := info_parts info4
  have HI := hidden hi0
  simp only [NdV] at hN
  obtain ⟨b, off, c, ad, c2, b2, off2, rfl, h1, h2, h3, h4⟩ := hN
  have hn9 := hA.nl
  obtain ⟨w1, hw1, hB1, hb1, hs1⟩ := box70 w (nV 4 0 false 0 sN (.slice (some ⟨b, off, none⟩) 1 c))
  have x0 : w1.cell? ⟨w.heap.size, 0, none⟩ = some (.int .i64 4) := hB1.cell 0
  have HB1 := hidden hb1
  have BB := hidden hB1
  have hAN : AnV F w l (nV 7 0 false 0 sN (.slice ad l.length c2)) := ⟨ad, c2, b2, off2, rfl, h3, h4⟩
  have HCS := hidden h2
  obtain ⟨m, hm⟩ : ∃ m, l.length = m := ⟨_, rfl⟩
  have HK : Hid (∀ wx, Below w.heap.size w wx → Calls Tryz.prog 63 #[.agg #[.int .i64 7, .int .i32 0, .bool false, .int .u8 0, .slice none 0 0, .slice ad m c2], .slice va n vc, .slice fa (n + 1) fc] wx (EnR (rowsHas l) t fb n wx)) := hidden (fun wx hb => by
    have := hE F wx _ va fa vc fc t fb n (hAN.keep (Chg.of_below (F := fun _ => False) hb) (fun _ _ h => h)) hl (hA.later hb)
    rw [hm] at this
    exact this)
  simp only [nV, sN] at hw1 ⊢
  rw [hm] at HCS
  have HW1 := hidden hw1
  clear hA hw1 hB1 hb1 hs1 hi0 h1 h2 h3 h4 hAN hm hE
  unfold EnR at HK
  go_enter Tryz.func63, Tryz.ntmps63
  go_upto_region 1 with fail
  rw [show (w.alloc (.cells #[.int .i64 4, .int .i32 0, .bool false, .int .u8 0, .slice none 0 0, .slice (some ⟨b, off, none⟩) 1 c] 123)) = w1 from HW1.out]
  clear HW1
  go_wp2_with (first
    | (refine wpList_make_room _ rfl (.tmp 17) (.tmp 17) 128 rfl 4 i0 (.bool false) Tryz.underlying128 HI.out hz0 hz1 hz2 rfl .i64 .i64 ((n + 1 : Nat) : Int) ((n + 1 : Nat) : Int) (n + 1) (n + 1) rfl rfl rfl rfl (Nat.le_refl _) (by omega) ?_; intro w2 hB2 hs2 hb2; have HB2 := hidden (HB1.out.trans (hb2.mono HB1.out.size)); have y0 : w2.cell? ⟨w.heap.size, 0, none⟩ = some (.int .i64 4) := (BB.out.later hb2).cell 0; have y5 : w2.cell? ⟨w.heap.size, 5, none⟩ = some (.slice (some ⟨b, off, none⟩) 1 c) := (BB.out.later hb2).cell 5; have CS2 := hidden (HCS.out.keep (Chg.of_below (F := fun _ => False) HB2.out) (fun h => h)).range; have kE := HK.out w2 HB2.out; clear hB2 hs2 hb2 x0)
    | (refine wpList_load_mid rfl 123 (.tmp 52) rfl b off (by rfl) (nV 7 0 false 0 sN (.slice ad m c2)) _ CS2.out Tryz.underlying123 rfl info70s ?_; simp only [nV, sN])
    | (go_at_call 63; refine kE.mono ?_; rintro e w3 ⟨a', c', ob, rfl, q1, q2, q3, q4⟩; have Q := hidden (And.intro q1 (And.intro q2 (And.intro q3 q4))); clear kE q1 q2 q3 q4))
  go_ret
  obtain ⟨q1, q2, q3, q4⟩ := Q.out
  refine ⟨a', c', ob, rfl, q1, q2, fun j hj => ?_, HB2.out.trans (q4.mono HB2.out.size)⟩
  rw [q3 j hj]
  exact en_congr (fun v => by simp only [Pt.has]) (fun i _ => Iff.rfl)

set_option maxRecDepth 100000 in
set_option maxHeartbeats 0 in
theorem ends_row (r : List Pt) (hE : ∀ p ∈ r, EnC p) : EnRow r := by
  intro F w u va fa vc fc t fb n hN hr hA
  obtain ⟨i0, hi0, hz0, hz1, hz2⟩ := info_parts info4
  have HI := hidden hi0
  obtain ⟨ad, c, b, off, rfl, h1, h2⟩ := hN
  have hn9 := hA.nl
  obtain ⟨w1, hw1, hB1, hb1, hs1⟩ := box70 w (nV 6 0 false 0 sN (.slice ad r.length c))
  obtain ⟨m, hm⟩ : ∃ m, r.length = m := ⟨_, rfl⟩
  have HMR := hidden hm
  rw [hm] at hB1
  have x0 : w1.cell? ⟨w.heap.size, 0, none⟩ = some (.int .i64 6) := hB1.cell 0
  have HB1 := hidden hb1
  have BB := hidden hB1
  have HA := hidden hA
  have HH1 := hidden h1
  have HND := hidden h2
  have HE := hidden hE
  simp only [nV, sN] at hw1 ⊢
  rw [hm] at hw1 ⊢
  have hr1 : m ≤ 1000 := by omega
  have HW1 := hidden hw1
  clear hw1 hB1 hb1 hs1 hi0 hm hE h1 h2 hA hr
  go_enter Tryz.func63, Tryz.ntmps63
  go_upto_region 1 with fail
  rw [show (w.alloc (.cells #[.int .i64 6, .int .i32 0, .bool false, .int .u8 0, .slice none 0 0, .slice ad m c] 123)) = w1 from HW1.out]
  clear HW1
  go_wp2_with (refine wpList_make_room _ rfl (.tmp 17) (.tmp 17) 128 rfl 4 i0 (.bool false) Tryz.underlying128 HI.out hz0 hz1 hz2 rfl .i64 .i64 ((n + 1 : Nat) : Int) ((n + 1 : Nat) : Int) (n + 1) (n + 1) rfl rfl rfl rfl (Nat.le_refl _) (by omega) ?_; intro w2 hB2 hs2 hb2; have HB2 := hidden (HB1.out.trans (hb2.mono HB1.out.size)); have BB2 := hidden (BB.out.later hb2); have y0 : w2.cell? ⟨w.heap.size, 0, none⟩ = some (.int .i64 6) := BB2.out.cell 0; clear hB2 hs2 hb2 x0)
  go_loopw [7, 10] (fun s7 s10 wx => ∃ (i : Nat) (oa : Option Addr) (oc : Nat), s7 = .slice oa (n + 1) oc ∧ s10 = .int .i64 (i : Int) ∧ i ≤ m ∧ Hid (Below w2.heap.size w2 wx ∧ ∃ ob, BlV wx oa ob ∧ ob.length = n + 1 ∧ ∀ j, j ≤ n → (En1 (rowHas (r.drop i)) t (fun k => ob[k]? = some true) j ↔ En1 (rowHas r) t (fun k => fb[k]? = some true) j))) (fun _ s10 _ => m - (intOf s10).toNat)
  case atStart => exact ⟨0, fa, fc, rfl, rfl, by omega, hidden ⟨Below.refl _ _, fb, HA.out.bl.later HB2.out, HA.out.fl, fun j hj => Iff.rfl⟩⟩
  case round =>
    rename World => wr
    obtain ⟨i, oa, oc, rfl, rfl, hi, hex⟩ := hrel
    obtain ⟨hbel, ob, hO, hol, hrel⟩ := hex.out
    have HBE := hidden hbel
    have HBW := hidden (HB2.out.trans (hbel.mono HB2.out.size))
    have HO := hidden hO
    have HOL := hidden hol
    have HRE := hidden hrel
    clear hex hbel hO hol hrel
    have y5 : wr.cell? ⟨w.heap.size, 5, none⟩ = some (.slice ad m c) := (BB2.out.later HBE.out).cell 5
    by_cases hlt : i < m
    · have hltz : (i : Int) < (m : Int) := by omega
      have hll : i < r.length := by have := HMR.out; omega
      have hne : r ≠ [] := fun e => by rw [e] at hll; simp at hll
      obtain ⟨rfl, hFb⟩ := HH1.out hne
      obtain ⟨p, hp⟩ : ∃ p, r[i]? = some p := ⟨_, List.getElem?_eq_getElem hll⟩
      obtain ⟨u, hcs, hnd⟩ := NdsV.get (NdsV.keep (Chg.of_below (F := fun _ => False) HBW.out) (fun _ _ h => h) r b off (fun _ => hFb) HND.out) i p hp
      have kE := HE.out p (List.mem_of_getElem? hp) F wr u va oa vc oc t ob n hnd ⟨(HA.out.later HBW.out).cp, HO.out, HA.out.tl, HOL.out, HA.out.nl, HA.out.vc⟩
      have HCS := hidden hcs
      have HSH := hidden hnd.sh
      have HDR : Hid (rowHas (r.drop i) = Cat p.has (rowHas (r.drop (i + 1)))) := hidden (by
        have e : r.drop i = p :: r.drop (i + 1) := by
          obtain ⟨h, e⟩ := List.getElem?_eq_some_iff.1 hp
          rw [← e]; exact List.drop_eq_getElem_cons h
        rw [e]
        funext v
        simp only [rowHas])
      unfold EnR at kE
      clear hcs hnd hp hll hne hFb
      go_wp2_with (first
        | (refine wpList_load_mid rfl 123 (.tmp 70) rfl b (off + i * 6) (by rfl) u _ HCS.out.range Tryz.underlying123 rfl (sz6 HSH.out) ?_)
        | (go_at_call 63; refine kE.mono ?_; rintro e w3 ⟨a', c', ob', rfl, q1, q2, q3, q4⟩; have Q := hidden (And.intro q1 (And.intro q2 (And.intro q3 q4))); clear kE q1 q2 q3 q4))
      obtain ⟨q1, q2, q3, q4⟩ := Q.out
      refine ⟨⟨i + 1, a', c', by first | rfl | simp, by first | rfl | simp, by omega, hidden ⟨HBE.out.trans (q4.mono HBE.out.size), ob', q1, q2, fun j hj => ?_⟩⟩, ?_⟩
      · rw [← HRE.out j hj, HDR.out, en_cat _ _ _ _ _ (by rw [HA.out.tl]; exact hj)]
        exact en_congr (fun v => Iff.rfl) (fun k hk => q3 k (by omega))
      · simp [intOf]
        omega
    · have hltz : ¬ (i : Int) < (m : Int) := by omega
      have HD : Hid (r.drop i = []) := hidden (List.drop_of_length_le (by have := HMR.out; omega))
      go_wp2
      go_ret
      refine ⟨oa, oc, ob, rfl, HO.out, HOL.out, fun j hj => ?_, HBW.out⟩
      rw [← HRE.out j hj, HD.out]
      have := en_nil t (fun k => ob[k]? = some true) j (by rw [HA.out.tl]; exact hj)
      exact (this.symm).trans (en_congr (fun v => by simp only [rowHas]) (fun _ _ => Iff.rfl))

set_option maxRecDepth 100000 in
set_option maxHeartbeats 0 in
theorem ends_any (l : List (List Pt)) (hE : ∀ r ∈ l, EnRow r) (hlr : ∀ r ∈ l, r.length ≤ 1000) : EnAny l := by
  intro F w u va fa vc fc t fb n hN hr hA
  obtain ⟨i0, hi0, hz0, hz1, hz2⟩ := info_parts info4
  have HI := hidden hi0
  obtain ⟨ad, c, b, off, rfl, h1, h2⟩ := hN
  have hn9 := hA.nl
  obtain ⟨w1, hw1, hB1, hb1, hs1⟩ := box70 w (nV 7 0 false 0 sN (.slice ad l.length c))
  obtain ⟨m, hm⟩ : ∃ m, l.length = m := ⟨_, rfl⟩
  have HMR := hidden hm
  rw [hm] at hB1
  have x0 : w1.cell? ⟨w.heap.size, 0, none⟩ = some (.int .i64 7) := hB1.cell 0
  have HB1 := hidden hb1
  have BB := hidden hB1
  have HA := hidden hA
  have HH1 := hidden h1
  have HND := hidden h2
  have HE := hidden hE
  have HLR := hidden hlr
  simp only [nV, sN] at hw1 ⊢
  rw [hm] at hw1 ⊢
  have hr1 : m ≤ 1000 := by omega
  have HW1 := hidden hw1
  clear hw1 hB1 hb1 hs1 hi0 hm hE h1 h2 hA hr hlr
  go_enter Tryz.func63, Tryz.ntmps63
  go_upto_region 1 with fail
  rw [show (w.alloc (.cells #[.int .i64 7, .int .i32 0, .bool false, .int .u8 0, .slice none 0 0, .slice ad m c] 123)) = w1 from HW1.out]
  clear HW1
  go_wp2_with (refine wpList_make_room _ rfl (.tmp 17) (.tmp 17) 128 rfl 4 i0 (.bool false) Tryz.underlying128 HI.out hz0 hz1 hz2 rfl .i64 .i64 ((n + 1 : Nat) : Int) ((n + 1 : Nat) : Int) (n + 1) (n + 1) rfl rfl rfl rfl (Nat.le_refl _) (by omega) ?_; intro w2 hB2 hs2 hb2; have HB2 := hidden (HB1.out.trans (hb2.mono HB1.out.size)); have BB2 := hidden (BB.out.later hb2); have y0 : w2.cell? ⟨w.heap.size, 0, none⟩ = some (.int .i64 7) := BB2.out.cell 0; have F2 := hidden (Fil.new hb2 hB2 (fun _ => false)); clear hB2 hs2 hb2 x0)
  have HST : Hid (BlV w2 (some ⟨w1.heap.size, 0, none⟩) (List.replicate (n + 1) false)) := hidden (fun _ => ⟨w1.heap.size, 0, rfl, fun i x hx => by
    rw [Nat.zero_add, F2.out.blk.cell, bB, List.getElem?_map, hx]
    rfl⟩)
  go_loopw [7, 11] (fun s7 s11 wx => ∃ (i : Nat) (oa : Option Addr) (oc : Nat), s7 = .slice oa (n + 1) oc ∧ s11 = .int .i64 (i : Int) ∧ i ≤ m ∧ Hid (Below w2.heap.size w2 wx ∧ ∃ ob, BlV wx oa ob ∧ ob.length = n + 1 ∧ ∀ j, j ≤ n → ((ob[j]? = some true ∨ En1 (rowsHas (l.drop i)) t (fun k => fb[k]? = some true) j) ↔ En1 (rowsHas l) t (fun k => fb[k]? = some true) j))) (fun _ s11 _ => m - (intOf s11).toNat)
  case atStart => exact ⟨0, _, n + 1, rfl, rfl, by omega, hidden ⟨Below.refl _ _, List.replicate (n + 1) false, HST.out, by simp, fun j hj => by
    rw [List.getElem?_replicate, if_pos (by omega)]
    simp⟩⟩
  case round =>
    rename World => wr
    obtain ⟨i, oa, oc, rfl, rfl, hi, hex⟩ := hrel
    obtain ⟨hbel, ob, hO, hol, hrel⟩ := hex.out
    have HBE := hidden hbel
    have HBW := hidden (HB2.out.trans (hbel.mono HB2.out.size))
    have HO := hidden hO
    have HOL := hidden hol
    have HRE := hidden hrel
    clear hex hbel hO hol hrel
    have y5 : wr.cell? ⟨w.heap.size, 5, none⟩ = some (.slice ad m c) := (BB2.out.later HBE.out).cell 5
    by_cases hlt : i < m
    · have hltz : (i : Int) < (m : Int) := by omega
      have hll : i < l.length := by have := HMR.out; omega
      have hne : l ≠ [] := fun e => by rw [e] at hll; simp at hll
      obtain ⟨rfl, hFb⟩ := HH1.out hne
      obtain ⟨p, hp⟩ : ∃ p, l[i]? = some p := ⟨_, List.getElem?_eq_getElem hll⟩
      obtain ⟨u, hcs, hnd⟩ := RwsV.get (RwsV.keep (Chg.of_below (F := fun _ => False) HBW.out) (fun _ _ h => h) l b off (fun _ => hFb) HND.out) i p hp
      have kE := HE.out p (List.mem_of_getElem? hp) F wr u va fa vc fc t fb n hnd (HLR.out p (List.mem_of_getElem? hp)) (HA.out.later HBW.out)
      have HCS := hidden hcs
      have HSH := hidden hnd.sh
      have HDR : Hid (rowsHas (l.drop i) = fun v => rowHas p v ∨ rowsHas (l.drop (i + 1)) v) := hidden (by
        have e : l.drop i = p :: l.drop (i + 1) := by
          obtain ⟨h, e⟩ := List.getElem?_eq_some_iff.1 hp
          rw [← e]; exact List.drop_eq_getElem_cons h
        rw [e]
        funext v
        simp only [rowsHas])
      unfold EnR at kE
      clear hcs hnd hp hll hne hFb
      go_wp2_with (first
        | (refine wpList_load_mid rfl 123 (.tmp 88) rfl b (off + i * 6) (by rfl) u _ HCS.out.range Tryz.underlying123 rfl (sz6 HSH.out) ?_)
        | (go_at_call 63; refine kE.mono ?_; rintro e w3 ⟨a', c', ob', rfl, q1, q2, q3, q4⟩; have Q := hidden (And.intro q1 (And.intro q2 (And.intro q3 q4))); have kJ := joinedR (ca := oc) (cb := c') (HO.out.later q4) q1 HOL.out q2 (by omega); clear kE q1 q2 q3 q4)
        | (go_at_call 81; refine kJ.mono ?_; rintro e w4 ⟨g4, c4, rfl, r1, r2⟩; have R := hidden (And.intro r1 r2); clear kJ r1 r2))
      obtain ⟨q1, q2, q3, q4⟩ := Q.out
      obtain ⟨r1, r2⟩ := R.out
      have b4 := HBE.out.trans (q4.mono HBE.out.size)
      refine ⟨⟨i + 1, _, c4, by first | rfl | simp, by first | rfl | simp, by omega, hidden ⟨b4.trans (r2.mono b4.size), _, r1, by simp, fun j hj => ?_⟩⟩, ?_⟩
      · rw [← HRE.out j hj, HDR.out, en_or, ← q3 j hj, List.getElem?_map, List.getElem?_range (by omega)]
        have h1 : j < ob.length := by have := HOL.out; omega
        have h2 : j < ob'.length := by omega
        simp only [Option.map_some, List.getElem?_eq_getElem h1, List.getElem?_eq_getElem h2, Option.getD_some, Option.some.injEq, Bool.or_eq_true, or_assoc]
      · simp [intOf]
        omega
    · have hltz : ¬ (i : Int) < (m : Int) := by omega
      have HD : Hid (l.drop i = []) := hidden (List.drop_of_length_le (by have := HMR.out; omega))
      go_wp2
      go_ret
      refine ⟨oa, oc, ob, rfl, HO.out, HOL.out, fun j hj => ?_, HBW.out⟩
      rw [← HRE.out j hj, HD.out]
      constructor
      · exact fun h => .inl h
      · rintro (h | ⟨_, _, _, h⟩)
        · exact h
        · simp only [rowsHas] at h

def isT : Option Value → Bool
  | some (.bool true) => true
  | _ => false
/-- How many places of a row of bools are not in the set, as memory tells. -/
def outs (n : Nat) (v : Value) (w : World) : Nat := match v with
  | .slice (some ⟨b, off, none⟩) _ _ => ((List.range n).filter (fun i => !isT (w.cell? ⟨b, off + i, none⟩))).length
  | _ => 0
theorem outs_eq {w : World} {g off c n m : Nat} {l : List Bool} (h : BlV w (some ⟨g, off, none⟩) l) (hl : l.length = n) (hn : 0 < n) : outs n (.slice (some ⟨g, off, none⟩) m c) w = ((List.range n).filter (fun i => decide (l[i]? ≠ some true))).length := by
  show ((List.range n).filter (fun i => !isT (w.cell? ⟨g, off + i, none⟩))).length = _
  congr 1
  obtain ⟨b', off', e, hc⟩ := h (fun e => by rw [e] at hl; simp at hl; omega)
  injection e with e
  injection e with e1 e2
  subst e1 e2
  refine List.filter_congr (fun i hi => ?_)
  have hi' : i < l.length := by rw [hl]; exact List.mem_range.1 hi
  rw [hc i l[i] (List.getElem?_eq_getElem hi'), List.getElem?_eq_getElem hi']
  cases l[i] <;> simp [isT]
theorem filter_lt {α : Type} {p q : α → Bool} : ∀ {l : List α}, (∀ x ∈ l, p x = true → q x = true) → (∃ x ∈ l, q x = true ∧ p x = false) → (l.filter p).length < (l.filter q).length
  | [], _, ⟨x, hx, _⟩ => by cases hx
  | a :: t, h1, ⟨x, hx, h2, h3⟩ => by
    have hle : (t.filter p).length ≤ (t.filter q).length := by
      clear h2 h3 hx
      induction t with
      | nil => simp
      | cons b t ih =>
        have ih' := ih (fun x hx => h1 x (by rcases List.mem_cons.1 hx with h | h <;> simp [h]))
        by_cases hp : p b = true
        · have hq := h1 b (by simp) hp
          simp [List.filter_cons, hp, hq]; exact ih'
        · by_cases hq : q b = true
          · simp [List.filter_cons, hp, hq]; omega
          · simp [List.filter_cons, hp, hq]; exact ih'
    rcases List.mem_cons.1 hx with e | hx
    · subst e
      simp [List.filter_cons, h2, h3]; omega
    · have ih := filter_lt (l := t) (fun x hx => h1 x (by simp [hx])) ⟨x, hx, h2, h3⟩
      by_cases hp : p a = true
      · have hq := h1 a (by simp) hp
        simp [List.filter_cons, hp, hq]; exact ih
      · by_cases hq : q a = true
        · simp [List.filter_cons, hp, hq]; omega
        · simp [List.filter_cons, hp, hq]; exact ih

end Go.Proofs.YtanlgplgplncdaaGreatDoor
