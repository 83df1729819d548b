import Derived.Test.YtalmpmhnkilalaaGreatDoorRqC
import Derived.Test.YtalmpmhnkilalaaGreatDoorRqD
import Derived.Test.YtalmpmhnkilalaaGreatDoorRqJ
/-
  Package wire: parts, read.
-/
namespace Go.Proofs.YtalmpmhnkilalaaGreatDoor
open Go.RowKit
set_option linter.unusedVariables false

theorem rFields_snoc (kd : Nat → Kd) : ∀ (l : List Nat) (i : Nat) (f : Nat → FV) (b : List Int), rFields kd (l ++ [i]) f b = (rFields kd l f b).bind (fun q => (rdV (kd i) q.2).map (fun r => ((fun j => if j = i then r.1 else q.1 j), r.2)))
  | [], i, f, b => by
    show (rdV (kd i) b).bind (fun q => some (_, _)) = (rdV (kd i) b).map _
    cases rdV (kd i) b <;> rfl
  | j :: r, i, f, b => by
    show (rdV (kd j) b).bind (fun q => rFields kd (r ++ [i]) _ q.2) = ((rdV (kd j) b).bind (fun q => rFields kd r _ q.2)).bind _
    cases h : rdV (kd j) b with
    | none => rfl
    | some q =>
      show rFields kd (r ++ [i]) _ q.2 = (rFields kd r _ q.2).bind _
      rw [rFields_snoc kd r i]
/-- What the reader has read so far. -/
structure RI (w0 w : World) (p K q : Nat) (ty : TypeId) (n hd : Nat) (kd : Nat → Kd) (f0 : Nat → FV) (st : Option (List Int)) (l : List Nat) (vals0 vals : List Value) : Prop where
  rt : Rt w p K ((st.bind (rFields kd l f0)).map (·.2))
  blk : Blk w q ty vals
  len : vals.length = vals0.length
  head : ∀ j, j < hd → vals[j]? = vals0[j]?
  chg : Chg (fun i => i = p ∨ i = q) w0 w
  one : ∀ v ∈ vals, v.oneCell' = true
  yes : ∀ f t, st.bind (rFields kd l f0) = some (f, t) → ∃ fm : Nat → FM, (∀ j, j < n → vals[j + hd]? = some (fm j).val) ∧ ∀ j, j < n → (fm j).fv = f j ∧ FO w0.heap.size K w (fm j)
theorem RI.step {w0 w w' : World} {p K q : Nat} {ty : TypeId} {n hd : Nat} {kd : Nat → Kd} {f0 : Nat → FV} {st : Option (List Int)} {l : List Nat} {vals0 vals : List Value} (h : RI w0 w p K q ty n hd kd f0 st l vals0 vals) (hpq : q ≠ p) (hK : K ≠ q) (hty : ty = 26 ∨ ty = 57) (i : Nat) (hi : i < n) (hl : vals0.length = n + hd)
    {v : Value} (hT : TcP w p K q ty vals (i + hd) (kd i) ((st.bind (rFields kd l f0)).map (·.2)) v w') : RI w0 w' p K q ty n hd kd f0 st (l ++ [i]) vals0 (vals.set (i + hd) v) := by
  have e : st.bind (rFields kd (l ++ [i]) f0) = (st.bind (rFields kd l f0)).bind (fun q => (rdV (kd i) q.2).map (fun r => ((fun j => if j = i then r.1 else q.1 j), r.2))) := by
    cases st with
    | none => rfl
    | some b => exact rFields_snoc kd l i f0 b
  have hw := h.len
  refine ⟨?_, hT.blk, by rw [List.length_set]; exact h.len, fun j hj => ?_, h.chg.trans hT.chg (fun _ _ e => e), fun u hu => ?_, fun f t hf => ?_⟩
  · rw [e]
    have := hT.rt
    cases ho : st.bind (rFields kd l f0) with
    | none => rw [ho] at this; exact this
    | some z =>
      rw [ho] at this
      have e2 : ((some z).bind (fun q => (rdV (kd i) q.2).map (fun r => ((fun j => if j = i then r.1 else q.1 j), r.2)))).map (·.2) = (((some z).map (·.2)).bind (rdV (kd i))).map (·.2) := by
        show ((rdV (kd i) z.2).map _).map _ = (rdV (kd i) z.2).map _
        rw [Option.map_map]
        rfl
      rw [e2]
      exact this
  · rw [List.getElem?_set]
    rw [if_neg (by omega)]
    exact h.head j hj
  · rcases List.mem_or_eq_of_mem_set hu with hu | rfl
    · exact h.one u hu
    · exact hT.one
  · rw [e] at hf
    cases ho : st.bind (rFields kd l f0) with
    | none => rw [ho] at hf; cases hf
    | some z =>
      rw [ho] at hf
      have hf2 : (rdV (kd i) z.2).map (fun r => ((fun j => if j = i then r.1 else z.1 j), r.2)) = some (f, t) := hf
      cases hr : rdV (kd i) z.2 with
      | none => rw [hr] at hf2; cases hf2
      | some r =>
        rw [hr] at hf2
        simp at hf2
        obtain ⟨rfl, rfl⟩ := hf2
        obtain ⟨fm, k1, k2⟩ := h.yes z.1 z.2 (by rw [ho])
        obtain ⟨m, m1, m2, m3⟩ := hT.yes r.1 r.2 (by rw [ho]; exact hr)
        refine ⟨fun j => if j = i then m else fm j, fun j hj => ?_, fun j hj => ?_⟩
        · by_cases hji : j = i
          · subst hji
            rw [List.getElem?_set, if_pos rfl, if_pos (by omega), m2]
            simp
          · rw [List.getElem?_set, if_neg (by omega)]
            show _ = some (if j = i then m else fm j).val
            rw [if_neg hji]
            exact k1 j hj
        · by_cases hji : j = i
          · subst hji
            simp only [if_pos]
            exact ⟨m1, m3.mono h.chg.size⟩
          · simp only [if_neg hji]
            refine ⟨(k2 j hj).1, (k2 j hj).2.chg hT.chg (fun e => ?_) (fun g hg => ?_)⟩
            · rcases e with e | e
              · exact h.rt.ne e
              · exact hK e
            · rcases hg with rfl | rfl
              · obtain ⟨u, v, hB⟩ := h.rt.blk
                have ht := ty_blk hB
                exact ⟨fun e => absurd (ht.ne e) (by decide), fun e => absurd (ht.ne e) (by decide), fun e => absurd (ht.ne e) (by decide), fun e => absurd (ht.ne e) (by decide), fun e => absurd (ht.ne e) (by decide), fun e => absurd (ht.ne e) (by decide)⟩
              · have ht := ty_blk h.blk
                rcases hty with rfl | rfl <;>
                  exact ⟨fun e => absurd (ht.ne e) (by decide), fun e => absurd (ht.ne e) (by decide), fun e => absurd (ht.ne e) (by decide), fun e => absurd (ht.ne e) (by decide), fun e => absurd (ht.ne e) (by decide), fun e => absurd (ht.ne e) (by decide)⟩

set_option maxHeartbeats 4000000 in
set_option maxRecDepth 8000 in
theorem rpartsP (n hd : Nat) (pf tf : Nat → FuncId) (f fz : Nat → FV) (bx a off : Nat) (used : List Nat) (uad : Option Addr) (uN uc : Nat) (p K q : Nat) (ty bty : TypeId) (kd : Nat → Kd) (st : Option (List Int)) (vals0 : List Value) (w : World)
    (hcf : ∀ i, i < n → ∀ a w, (callFunc (tf i) a).run Tryz.prog w = .ok (.enter (tf i) a) w) (hty : ty = 26 ∨ ty = 57) (hbty : bty = 93 ∨ bty = 103) (hK : K ≠ q) (hl : vals0.length = n + hd)
    (h : RI w w p K q ty n hd kd f st [] vals0 vals0) (hb : Blk w bx bty [.pointer (some ⟨q, 0, none⟩)]) (hG : Gv w) (h2p : 2 ≤ p) (h2q : 2 ≤ q) (hP : PartsM w a off bx n fz pf tf) (hPt : Ty w a 139) (hU : In w uad used) (hUt : ∀ y, uad = some y → y.block ≠ p ∧ y.block ≠ q)
    (hUl : used.length = uN) (hu : ∀ i ∈ used, i < n) (hn : n ≤ 100) (hu9 : uN ≤ 100)
    (hc : ∀ i, i < n → ∀ st1 vals1 wx, Rt wx p K st1 → Gv wx → Blk wx q ty vals1 → Blk wx bx bty [.pointer (some ⟨q, 0, none⟩)] → vals1.length = n + hd → Calls Tryz.prog (tf i) #[.pointer (some ⟨p, 0, none⟩), .pointer (some ⟨bx, 0, none⟩)] wx (fun e w' => e = .returned (.tuple #[]) ∧ ∃ v, TcP wx p K q ty vals1 (i + hd) (kd i) st1 v w')) :
    Calls Tryz.prog 69 #[.pointer (some ⟨p, 0, none⟩), .slice (some ⟨a, off, none⟩) n n, .slice uad uN uc] w (fun e w' => e = .returned (.tuple #[]) ∧ ∃ vals, RI w w' p K q ty n hd kd f st used vals0 vals) := by
  have hpq : q ≠ p := fun e => by
    obtain ⟨u, v, hB⟩ := h.rt.blk
    have h1 := (ty_blk h.blk)
    rw [e] at h1
    rcases hty with rfl | rfl <;> exact absurd (h1.ne (ty_blk hB)) (by decide)
  have keep : ∀ wx, Chg (fun i => i = p ∨ i = q) w wx → Blk wx bx bty [.pointer (some ⟨q, 0, none⟩)] ∧ Gv wx ∧ PartsM wx a off bx n fz pf tf ∧ In wx uad used := fun wx hc => by
    obtain ⟨u, v, hB⟩ := h.rt.blk
    have tp := ty_blk hB
    have tq := ty_blk h.blk
    have hne : ∀ g t, Ty w g t → t ≠ 86 → t ≠ 26 → t ≠ 57 → ¬ (g = p ∨ g = q) := fun g t hg h1 h2 h3 e => by
      rcases e with rfl | rfl
      · exact h1 (hg.ne tp)
      · rcases hty with rfl | rfl
        · exact h2 (hg.ne tq)
        · exact h3 (hg.ne tq)
    refine ⟨hc.blk hb (hne bx bty (ty_blk hb) (by rcases hbty with rfl | rfl <;> decide) (by rcases hbty with rfl | rfl <;> decide) (by rcases hbty with rfl | rfl <;> decide)), gv_chg hG hc (by omega), fun i hi => ?_, hU.chg hc (fun y hy _ e => by have := hUt y hy; omega)⟩
    obtain ⟨k0, k1, k2⟩ := hP i hi
    have hab : wx.heap[a]? = w.heap[a]? := hc.block a (World.block_lt_of_cell? w _ k0) (hne a 139 hPt (by decide) (by decide) (by decide))
    exact ⟨(World.cell?_of_block hab).trans k0, (World.cell?_of_block hab).trans k1, (World.cell?_of_block hab).trans k2⟩
  have HK := hidden keep
  have HUL := hidden hUl
  have HUN := hidden hu
  have HC := hidden hc
  have HCF := hidden hcf
  have H1 : Hid (∃ vals, RI w w p K q ty n hd kd f st (used.take 0) vals0 vals) := hidden ⟨vals0, h⟩
  clear h hb hG hP hPt hU hUt hUl hu hc hcf keep
  go_enter Tryz.func69, Tryz.ntmps69
  go_wp2_with fail
  go_loopw [7, 10] (fun v7 v10 wx => ∃ j : Nat, v10 = .int .i64 (j : Int) ∧ j ≤ uN ∧ Hid (∃ vals, RI w wx p K q ty n hd kd f st (used.take j) vals0 vals)) (fun _ v10 _ => uN - (intOf v10).toNat)
  case atStart => exact ⟨0, rfl, by omega, H1⟩
  case round =>
    obtain ⟨j, rfl, hj, hJ⟩ := hrel
    clear H1
    by_cases hjn : j < uN
    · obtain ⟨vals, hR⟩ := hJ.out
      obtain ⟨x, hx⟩ : ∃ x, used[j]? = some x := ⟨used[j]'(by have := HUL.out; omega), by simp⟩
      have hxm : (used.map (fun (n : Nat) => [Value.int .i64 (n : Int)]))[j]? = some [.int .i64 (x : Int)] := by rw [List.getElem?_map, hx]; rfl
      obtain ⟨hbx, hGx, hPx, hUx⟩ := HK.out _ hR.chg
      obtain ⟨bb, of2, rfl, hbb, hcell⟩ := hUx (by intro h0; rw [h0] at hxm; simp at hxm)
      have cu := hcell j _ hxm 0 _ rfl
      rw [Nat.add_zero, Nat.mul_one] at cu
      have hxin := List.mem_of_getElem? hx
      have hxn := HUN.out x hxin
      obtain ⟨c0, c1, c2⟩ := hPx x hxn
      have hcf := HCF.out x hxn
      have HT : Hid (used.take (j + 1) = used.take j ++ [x]) := hidden (by rw [List.take_add_one, hx]; rfl)
      have HCX := hidden (HC.out x hxn _ vals _ hR.rt hGx hR.blk hbx (by rw [hR.len]; exact hl))
      have HR := hidden hR
      clear hcell hxm hx hbb hxin hR hbx hGx hPx hUx hJ
      go_wp2_with fail
      refine HCX.out.mono ?_
      rintro e w5 ⟨rfl, v, hT⟩
      have HQ := hidden (HR.out.step hpq hK hty x hxn hl hT)
      clear hT c0 c1 c2 cu hcf
      go_wp2_with fail
      refine ⟨⟨j + 1, by first | rfl | simp, by omega, hidden ?_⟩, ?_⟩
      · rw [HT.out]
        exact ⟨_, HQ.out⟩
      · show uN - ((j : Int) + 1).toNat < uN - (j : Int).toNat
        omega
    · have hT := hidden hJ.out
      clear hJ
      go_wp2_with fail
      go_end0
      have h9 := hT.out
      rw [List.take_of_length_le (by have := HUL.out; omega)] at h9
      exact ⟨rfl, h9⟩

end Go.Proofs.YtalmpmhnkilalaaGreatDoor

/-
  Package wire: a response read; Read.
-/
namespace Go.Proofs.YtalmpmhnkilalaaGreatDoor
open Go Go.RowKit
set_option linter.unusedVariables false
set_option linter.unusedSimpArgs false

theorem takesA (p K q bx : Nat) (hK : K ≠ q) (h2p : 2 ≤ p) : ∀ i, i < 4 → ∀ st1 vals1 wx, Rt wx p K st1 → Gv wx → Blk wx q 57 vals1 → Blk wx bx 103 [.pointer (some ⟨q, 0, none⟩)] → vals1.length = 4 + 2 →
    Calls Tryz.prog (tfA i) #[.pointer (some ⟨p, 0, none⟩), .pointer (some ⟨bx, 0, none⟩)] wx (fun e w' => e = .returned (.tuple #[]) ∧ ∃ v, TcP wx p K q 57 vals1 (i + 2) (kdA i) st1 v w') := by
  intro i hi st1 vals1 wx hR hG hq hb hl
  rcases (show i = 0 ∨ i = 1 ∨ i = 2 ∨ i = 3 by omega) with rfl | rfl | rfl | rfl
  · exact take132 p K st1 q bx vals1 wx hR hG h2p hq hb hl hK
  · exact take136 p K st1 q bx vals1 wx hR hG h2p hq hb hl hK
  · exact take140 p K st1 q bx vals1 wx hR hG h2p hq hb hl hK
  · exact take144 p K st1 q bx vals1 wx hR hG h2p hq hb hl hK
/-- Fields of nothing. -/
def zM : Kd → FM
  | .tx => .tx ⟨#[]⟩ | .qu => .qu ⟨#[]⟩ | .tk => .tk none 0 0 [] | .ws => .ws none 0 [] | .ms => .ms none 0 [] | .tm => .tm 0 | .am => .am 0 | .se => .se none 0 [] | .ro => .ro none 0 [] | .nu => .nu 0 | .ts => .ts none 0 []
theorem zM_fv (k : Kd) : (zM k).fv = zeroV k := by cases k <;> rfl
theorem zM_fo (B K : Nat) (w : World) (k : Kd) : FO B K w (zM k) := by
  cases k with
  | tx => trivial
  | qu => trivial
  | tk => exact ⟨rfl, Sl.nil _ _, fun y h _ => (by cases h), fun _ => rfl, by omega⟩
  | ws => exact ⟨World.ownsRow_nil _ _ _ _, fun x hx => (by cases hx)⟩
  | ms => exact ⟨World.ownsRow_nil _ _ _ _, fun x hx => (by cases hx)⟩
  | se => exact ⟨World.ownsRow_nil _ _ _ _, fun x hx => (by cases hx)⟩
  | ro => exact ⟨World.ownsRow_nil _ _ _ _, fun x hx => (by cases hx)⟩
  | ts => exact World.ownsRow_nil _ _ _ _
  | tm => show I64n 0; unfold I64n; omega
  | am => show I64n 0; unfold I64n; omega
  | nu => show I64n 0; unfold I64n; omega
def z57 : List Value := [.int .i64 0, .int .i64 0, .slice none 0 0, .slice none 0 0, .int .i64 0, .slice none 0 0]
theorem info57z : (Tryz.prog.info? 57).map (fun i => i.zero.map (·.cells)) = some (some z57.toArray) := by kernel_rfl
theorem size57 : (Tryz.prog.info? 57).map (·.size) = some 6 := by kernel_rfl
/-- What a response read leaves. -/
structure RsP (w : World) (p K : Nat) (o : Option ((Int × Int × (Nat → FV)) × List Int)) (v : Value) (w' : World) : Prop where
  rt : Rt w' p K (o.map (·.2))
  chg : Chg (fpr p) w w'
  form : ∃ l : List Value, v = .agg l.toArray ∧ l.length = 6 ∧ ∀ u ∈ l, u.oneCell' = true
  yes : ∀ e k f t, o = some ((e, k, f), t) → ∃ fm : Nat → FM, v = .agg (cA e k fm).toArray ∧ ∀ j, j < 4 → (fm j).fv = f j ∧ FO w.heap.size K w' (fm j)

/-- The value that was read, or the zero one. -/
def oct0 (o : Option (Int × List Int)) : Int := match o with | some q => q.1 | none => 0
theorem rAk_cons (p : Int × List Int) : (match fieldsA p.1 with | some used => (rFields kdA used zA p.2).map (fun (r : (Nat → FV) × List Int) => (((0 : Int), p.1, r.1), r.2)) | none => none) = ((if (fieldsA p.1).isSome then some p.2 else none).bind (rFields kdA (usedA p.1) zA)).map (fun r => ((0, p.1, r.1), r.2)) := by
  unfold usedA
  cases fieldsA p.1 <;> rfl
theorem rs_steps (st : Option (List Int)) : (∀ n t, st.bind (rNum 999) = some (n, t) → n ≠ 0 → st.bind rRs = some (((n : Int), 0, zA), t)) ∧
    ((∀ n t, st.bind (rNum 999) = some (n, t) → n = 0) → st.bind rRs = ((if (fieldsA (oct0 (((st.bind (rNum 999)).map (·.2)).bind rOct))).isSome then (((st.bind (rNum 999)).map (·.2)).bind rOct).map (·.2) else none).bind (rFields kdA (usedA (oct0 (((st.bind (rNum 999)).map (·.2)).bind rOct))) zA)).map (fun r => ((0, oct0 (((st.bind (rNum 999)).map (·.2)).bind rOct), r.1), r.2))) := by
  have e : st.bind rRs = (st.bind (rNum 999)).bind (fun q => if q.1 ≠ 0 then some (((q.1 : Int), 0, zA), q.2) else rAk q.2) := by cases st <;> rfl
  rw [e]
  constructor
  · intro n t h hn
    rw [h]
    show (if n ≠ 0 then _ else _) = _
    rw [if_pos hn]
  · intro h
    cases ho : st.bind (rNum 999) with
    | none =>
      show none = Option.map _ (Option.bind (if _ then none else none) _)
      rw [ite_self]
      rfl
    | some q =>
      obtain ⟨n, t⟩ := q
      have hn := h n t ho
      subst hn
      show (if (0 : Nat) ≠ 0 then some ((((0 : Nat) : Int), 0, zA), t) else rAk t) = _
      rw [if_neg (by simp)]
      show (rOct t).bind _ = Option.map _ (Option.bind (if (fieldsA (oct0 (rOct t))).isSome then (rOct t).map _ else none) _)
      cases hr : rOct t with
      | none =>
        show none = _
        show none = Option.map _ (Option.bind (if _ then none else none) _)
        rw [ite_self]
        rfl
      | some p =>
        have hx : (Option.map (fun x : Nat × List Int => x.2) (some ((0 : Nat), t))).bind rOct = some p := hr
        rw [hx]
        exact rAk_cons p
theorem val_one (m : FM) : m.val.oneCell' = true := by cases m <;> rfl
theorem cA_one (e k : Int) (fm : Nat → FM) : ∀ v ∈ cA e k fm, v.oneCell' = true := by
  intro v hv
  unfold cA at hv
  rcases List.mem_cons.1 hv with rfl | hv
  · rfl
  · rcases List.mem_cons.1 hv with rfl | hv
    · rfl
    · obtain ⟨i, _, rfl⟩ := List.mem_map.1 hv
      exact val_one _
theorem cA_zero (e k : Int) : cA e k (fun i => zM (kdA i)) = [.int .i64 e, .int .i64 k, .slice none 0 0, .slice none 0 0, .int .i64 0, .slice none 0 0] := rfl
theorem res_resp (tmps : Array Value) (w : World) (g : Nat) (l : List Value) (hl : l.length = 6) (hp : tmps.getD 2 undef = .pointer (some ⟨g, 0, none⟩)) (hB : Blk w g 57 l) : (results Tryz.f47 tmps).run Tryz.prog w = .ok (.agg l.toArray) w := by
  have h : Tryz.f47.results = #[.cell 2 57] := by kernel_rfl
  have hp' : tmps[2]?.getD undef = .pointer (some ⟨g, 0, none⟩) := by simpa using hp
  match l, hl with
  | [a, b, c, d, e, f], _ =>
    have h0 := hB.cell 0
    have h1 := hB.cell 1
    have h2 := hB.cell 2
    have h3 := hB.cell 3
    have h4 := hB.cell 4
    have h5 := hB.cell 5
    simp at h0 h1 h2 h3 h4 h5
    simp [results, h, hp', asAddr, loadVar, h0, h1, h2, h3, h4, h5, go_sem]

theorem octet_form {w w' : World} {p K : Nat} {st : Option (List Int)} {v : Value} (h : RQ' w p K (st.bind rOct) (fun x v _ => v = .int .u8 x) (fun v => v = .int .u8 0) v w') (hb : ∀ b, st = some b → Byte b) : v = .int .u8 (oct0 (st.bind rOct)) ∧ 0 ≤ oct0 (st.bind rOct) ∧ oct0 (st.bind rOct) ≤ 255 := by
  cases ho : st.bind rOct with
  | none => exact ⟨h.no ho, by simp [oct0], by simp [oct0]⟩
  | some q =>
    refine ⟨h.yes q.1 q.2 ho, ?_⟩
    cases st with
    | none => cases ho
    | some b =>
      have ho : rOct b = some q := ho
      cases b with
      | nil => cases ho
      | cons c t =>
        injection ho with ho
        subst ho
        have := hb _ rfl c (by simp)
        exact ⟨this.1, by show c ≤ 255; omega⟩

set_option maxHeartbeats 8000000 in
set_option maxRecDepth 100000 in
theorem responseR (p K : Nat) (st : Option (List Int)) (w : World) (h : Rt w p K st) (hG : Gv w) (h2p : 2 ≤ p) :
    Calls Tryz.prog 47 #[.pointer (some ⟨p, 0, none⟩)] w fun e w' => ∃ v, e = .returned v ∧ RsP w p K (st.bind rRs) v w' := by
  have HR := hidden h
  have HG := hidden hG
  have hpw := h.lt
  have hkw := h.klt
  clear h hG
  have HST := hidden (rs_steps st)
  obtain ⟨o1, ho1⟩ : ∃ o1, st.bind (rNum 999) = o1 := ⟨_, rfl⟩
  rw [ho1] at HST
  go_enter Tryz.func47, Tryz.ntmps47
  go_wp2_with (first
    | (refine wpList_alloc_blk rfl 57 rfl 2 rfl z57 info57z ?_; intro w1 B1 bl1 hz1; have HB1 := hidden B1; have HL1 := hidden bl1; have hz1' := hz1; clear B1 bl1 hz1)
    | (refine wpList_alloc_blk rfl 57 rfl 3 rfl z57 info57z ?_; intro w2 B2 bl2 hz2; have HB2 := hidden (HB1.out.later bl2); have HQ2 := hidden B2; have HL2 := hidden (HL1.out.trans (bl2.mono HL1.out.size)); have hz2' := hz2; clear B2 bl2 hz2))
  rw [hz1'] at HQ2 hz2'
  refine (numberR p K st 999 w2 (HR.out.later HL2.out) (by omega)).mono ?_
  rintro en w3 ⟨v3, rfl, hQ3⟩
  rw [ho1] at hQ3
  obtain ⟨n, rfl, hn, hn0⟩ : ∃ n : Nat, v3 = .int .u64 (n : Int) ∧ n ≤ 999 ∧ ((∃ t, o1 = some (n, t)) ∨ (o1 = none ∧ n = 0)) := by
    cases o1 with
    | none => exact ⟨0, hQ3.no rfl, by omega, .inr ⟨rfl, rfl⟩⟩
    | some q => exact ⟨q.1, hQ3.yes q.1 q.2 rfl, rNum_le ho1, .inl ⟨q.2, rfl⟩⟩
  have hne1 : ¬ fpr p w.heap.size := by unfold fpr; omega
  have hne2 : ¬ fpr p (w.heap.size + 1) := by unfold fpr; omega
  have HB3 := hidden (hQ3.chg.blk HB2.out hne1)
  have hqq3 := hQ3.chg.blk HQ2.out hne2
  have f0 := hqq3.frozen 0
  have g0 := hqq3.cell 0
  simp only [z57, List.getElem?_cons_zero] at g0
  have HC3 := hidden ((Chg.of_below (F := fpr p) HL2.out).trans hQ3.chg (fun _ _ e => e))
  have HR3 := hidden hQ3.rt
  have HQ3 := hidden (hqq3.set 0 (.int .i64 (n : Int)))
  have HN0 := hidden hn0
  have d0 := HQ3.out.cell 0
  simp only [z57, List.set_cons_zero, List.getElem?_cons_zero] at d0
  clear hQ3 hqq3 hn0
  have hcs := Chg.set ⟨w.heap.size + 1, 0, none⟩ (.int .i64 (n : Int)) w3
  obtain ⟨w4, hw4⟩ : ∃ w4, w3.setCell ⟨w.heap.size + 1, 0, none⟩ (.int .i64 (n : Int)) = w4 := ⟨_, rfl⟩
  rw [hw4] at d0 HQ3 hcs
  have HR4 := hidden (HR3.out.chg hcs (fun e => by have e : p = w.heap.size + 1 := e; omega) (fun e => by have e : K = w.heap.size + 1 := e; omega))
  have HB4 := hidden (hcs.blk HB3.out (fun e => by have e : w.heap.size = w.heap.size + 1 := e; omega))
  have HC4 := hidden (HC3.out.trans hcs (fun i hi e => by have e : i = w.heap.size + 1 := e; omega))
  have HH4 := hidden hw4
  clear hcs
  by_cases hnz : n = 0
  · subst hnz
    have HOZ := hidden (HST.out.2 (fun n t h => by rcases HN0.out with ⟨t', h'⟩ | ⟨h', _⟩ <;> rw [h'] at h <;> simp at h; exact h.1.symm))
    have HBY : Hid (∀ b, o1.map (·.2) = some b → Byte b) := hidden (fun b e => by have := HR4.out; rw [e] at this; exact this.byte.1)
    clear HST HN0
    have hw4z : w3.setCell ⟨w.heap.size + 1, 0, none⟩ (.int .i64 0) = w4 := hw4
    go_wp2_with fail
    refine (octetR p K (o1.map (·.2)) w4 HR4.out).mono ?_
    rintro en w5 ⟨v5, rfl, hQ5⟩
    obtain ⟨rfl, hc0, hc1⟩ := octet_form hQ5 HBY.out
    obtain ⟨o2, ho2⟩ : ∃ o2, (o1.map (·.2)).bind rOct = o2 := ⟨_, rfl⟩
    rw [ho2] at hQ5 HOZ hc0 hc1 ⊢
    obtain ⟨c, hc⟩ : ∃ c, oct0 o2 = c := ⟨_, rfl⟩
    rw [hc] at HOZ hc0 hc1 ⊢
    have HB5 := hidden (hQ5.chg.blk HB4.out hne1)
    have hq5 := hQ5.chg.blk HQ3.out hne2
    have f1 := hq5.frozen 1
    have g1 := hq5.cell 1
    simp only [z57, List.set_cons_zero, List.getElem?_cons_succ, List.getElem?_cons_zero] at g1
    have HQ5 := hidden (hq5.set 1 (.int .i64 c))
    have HC5 := hidden (HC4.out.trans hQ5.chg (fun _ _ e => e))
    have HR5 := hidden hQ5.rt
    have e1 := HQ5.out.cell 1
    simp only [z57, List.set_cons_zero, List.set_cons_succ, List.getElem?_cons_succ, List.getElem?_cons_zero] at e1
    clear hQ5 hq5
    have hcs := Chg.set ⟨w.heap.size + 1, 1, none⟩ (.int .i64 c) w5
    obtain ⟨w6, hw6⟩ : ∃ w6, w5.setCell ⟨w.heap.size + 1, 1, none⟩ (.int .i64 c) = w6 := ⟨_, rfl⟩
    rw [hw6] at e1 HQ5 hcs
    have HR6 := hidden (HR5.out.chg hcs (fun e => by have e : p = w.heap.size + 1 := e; omega) (fun e => by have e : K = w.heap.size + 1 := e; omega))
    have HB6 := hidden (hcs.blk HB5.out (fun e => by have e : w.heap.size = w.heap.size + 1 := e; omega))
    have HC6 := hidden (HC5.out.trans hcs (fun i hi e => by have e : i = w.heap.size + 1 := e; omega))
    clear hcs d0 f0 g0
    go_wp2_with fail
    refine (fieldsOfAnswerP c w6 (by omega) (by omega)).mono ?_
    rintro en w7 ⟨b7, uad, uc, huad, hin, rfl⟩
    have HR7 := hidden (HR6.out.later b7)
    have HB7 := hidden (HB6.out.later b7)
    have HQ7 := hidden (HQ5.out.later b7)
    have HC7 := hidden (HC6.out.trans (Chg.of_below (F := fpr p) b7) (fun _ _ e => e))
    have hs6 : w.heap.size + 1 < w6.heap.size := HQ5.out.lt
    have HIN := hidden (And.intro hin (fun y hy => huad y hy))
    obtain ⟨uN, hUN⟩ : ∃ uN, (usedA c).length = uN := ⟨_, rfl⟩
    have HUN := hidden hUN
    have hul := (usedA_lt c).1
    rw [hUN] at hul ⊢
    clear b7 hin huad hUN e1 f1 g1
    go_wp2_with fail
    refine (mustR p K (o2.map (·.2)) (fieldsA c).isSome w7 HR7.out).mono ?_
    rintro en w8 ⟨rfl, hR8, hC8⟩
    obtain ⟨st3, hst3⟩ : ∃ st3, (if (fieldsA c).isSome then o2.map (·.2) else none) = st3 := ⟨_, rfl⟩
    rw [hst3] at hR8 HOZ
    have HR8 := hidden hR8
    have HB8 := hidden (hC8.blk HB7.out hne1)
    have HQ8 : Hid (Blk w8 (w.heap.size + 1) 57 (cA 0 c (fun i => zM (kdA i)))) := hidden (hC8.blk HQ7.out hne2)
    have HC8 := hidden (HC7.out.trans hC8 (fun _ _ e => e))
    have HIN8 := hidden (HIN.out.1.chg hC8 (fun y hy _ e => by have := (HIN.out.2 y hy).1; have e : y.block = p := e; omega))
    clear hR8 hC8 hst3
    go_wp2_with fail
    refine (responsePartsP (w.heap.size + 1) 0 c (fun i => zM (kdA i)) w8 HQ8.out (fun i hi => by rw [zM_fv]; exact zeroV_kd _)).mono ?_
    rintro en w9 ⟨a, rfl, ha, b9, hbx, hP, hT⟩
    have HQ9 := hidden (HQ8.out.later b9)
    have HB9 := hidden (HB8.out.later b9)
    have HG9 : Hid (Gv w9) := hidden ((gv_chg HG.out HC8.out (by unfold fpr; omega)).later b9)
    have HRI : Hid (RI w9 w9 p K (w.heap.size + 1) 57 4 2 kdA zA st3 [] (cA 0 c (fun i => zM (kdA i))) (cA 0 c (fun i => zM (kdA i)))) := hidden ⟨by
        have e : (st3.bind (rFields kdA [] zA)).map (·.2) = st3 := by cases st3 <;> rfl
        rw [e]
        exact HR8.out.later b9, HQ9.out, rfl, fun _ _ => rfl, Chg.refl _ _, cA_one _ _ _, fun f t h => ⟨fun j => zM (kdA j), fun j hj => cA_at 0 c _ j hj, fun j hj => ⟨by
          have e : st3.bind (rFields kdA [] zA) = st3.map (fun b => (zA, b)) := by cases st3 <;> rfl
          rw [e] at h
          cases st3 with
          | none => cases h
          | some b => simp at h; rw [← h.1]; exact zM_fv _, zM_fo _ _ _ _⟩⟩⟩
    have HBX := hidden hbx
    have HP := hidden (And.intro hP hT)
    have HC9 := hidden (HC8.out.trans (Chg.of_below (F := fpr p) b9) (fun _ _ e => e))
    have HIN9 := hidden (Es.later HIN8.out b9)
    clear hbx hP hT b9
    go_wp2_with fail
    refine (rpartsP 4 2 pfA tfA zA (fun i => (zM (kdA i)).fv) w8.heap.size a 0 (usedA c) uad uN uc p K (w.heap.size + 1) 57 103 kdA st3 _ w9 cfAt (.inr rfl) (.inr rfl) (by omega) rfl HRI.out HBX.out HG9.out h2p (by have := HG.out; have h2 : 2 ≤ w.heap.size := World.block_lt_of_cell? w _ (this.tab 0 (by omega)); omega) HP.out.1 HP.out.2 HIN9.out (fun y hy => by have := (HIN.out.2 y hy).1; omega) HUN.out (usedA_lt c).2 (by omega) (by omega) (takesA p K (w.heap.size + 1) w8.heap.size (by omega) h2p)).mono ?_
    rintro en w10 ⟨rfl, vals, hRI⟩
    have HRI2 := hidden hRI
    have HQA := hidden hRI.blk
    have hvl : vals.length = 6 := hRI.len
    have HVL := hidden hvl
    have HB10 := hidden (hRI.chg.blk HB9.out (fun e => by rcases e with e | e <;> omega))
    have hone := hRI.one
    have HONE := hidden hone
    clear hRI hone hvl
    go_wp2_with (first
      | (refine wpList_load_blk rfl 57 (.tmp 3) rfl (w.heap.size + 1) HQA.out rfl rfl rfl (by rw [HVL.out]; exact size57) ?_)
      | (refine wpList_store_let rfl 57 (.tmp 2) (.tmp 31) rfl rfl w.heap.size (l := vals) HB10.out rfl rfl (by rw [HVL.out]; rfl) (by rw [HVL.out]; exact size57) HONE.out ?_; intro w11 B11 cg11 hz11))
    refine bodyPost_ret (res_resp _ _ w.heap.size _ HVL.out rfl B11) rfl ⟨_, rfl, ?_⟩
    rw [HOZ.out]
    have hrt := HRI2.out.rt
    refine ⟨?_, ?_, ⟨vals, rfl, HVL.out, HONE.out⟩, fun e k f t h => ?_⟩
    · rw [map_snd _ (fun r : Nat → FV => ((0 : Int), c, r))]
      exact hrt.chg cg11 (fun e => by have e : p = w.heap.size := e; omega) (fun e => by have e : K = w.heap.size := e; omega)
    · refine (HC9.out.trans HRI2.out.chg (fun i hi e => ?_)).trans cg11 (fun i hi e => by have e : i = w.heap.size := e; omega)
      rcases e with e | e
      · exact e
      · omega
    · obtain ⟨f', hf', e'⟩ := map_yes (f := fun r : Nat → FV => ((0 : Int), c, r)) h
      simp at e'
      obtain ⟨rfl, rfl, rfl⟩ := e'
      obtain ⟨fm, k1, k2⟩ := HRI2.out.yes f t hf'
      refine ⟨fm, ?_, fun j hj => ⟨(k2 j hj).1, ((k2 j hj).2.mono (HC9.out.size)).chg cg11 (fun e => by have e : K = w.heap.size := e; omega) (fun i hi => ?_)⟩⟩
      · congr 1
        congr 1
        apply List.ext_getElem?
        intro j
        by_cases hj2 : j < 2
        · rw [HRI2.out.head j hj2]
          rcases (show j = 0 ∨ j = 1 by omega) with rfl | rfl <;> rfl
        · by_cases hj6 : j < 6
          · obtain ⟨i, rfl⟩ : ∃ i, j = i + 2 := ⟨j - 2, by omega⟩
            rw [k1 i (by omega), cA_at _ _ fm i (by omega)]
          · rw [List.getElem?_eq_none (by rw [HVL.out]; omega), List.getElem?_eq_none (by simp [cA]; omega)]
      · have hi : i = w.heap.size := hi
        subst hi
        have ht := ty_blk HB10.out
        exact ⟨fun e => absurd (ht.ne e) (by decide), fun e => absurd (ht.ne e) (by decide), fun e => absurd (ht.ne e) (by decide), fun e => absurd (ht.ne e) (by decide), fun e => absurd (ht.ne e) (by decide), fun e => absurd (ht.ne e) (by decide)⟩
  · have hnz' : ¬ (n : Int) = 0 := by omega
    obtain ⟨t, ht⟩ : ∃ t, o1 = some (n, t) := by
      rcases HN0.out with h | ⟨_, h⟩
      · exact h
      · exact absurd h hnz
    have HO := hidden (HST.out.1 n t ht hnz)
    have HT := hidden ht
    clear ht
    go_wp2_with (first
      | (refine wpList_load_blk rfl 57 (.tmp 3) rfl (w.heap.size + 1) HQ3.out rfl rfl rfl rfl ?_)
      | (refine wpList_store_let rfl 57 (.tmp 2) (.tmp 13) rfl rfl w.heap.size (l := cA (n : Int) 0 (fun i => zM (kdA i))) HB4.out rfl rfl rfl size57 (cA_one _ _ _) ?_; intro w5 B5 cg5 hz5))
    refine bodyPost_ret (res_resp _ _ w.heap.size _ rfl rfl B5) rfl ⟨_, rfl, ?_⟩
    rw [HO.out]
    refine ⟨?_, HC4.out.trans cg5 (fun i hi e => by have e : i = w.heap.size := e; omega), ⟨_, rfl, rfl, cA_one _ _ _⟩, fun e k f t' h => ?_⟩
    · have := HR4.out
      rw [HT.out] at this
      exact this.chg cg5 (fun e => by have e : p = w.heap.size := e; omega) (fun e => by have e : K = w.heap.size := e; omega)
    · simp at h
      obtain ⟨⟨rfl, rfl, rfl⟩, rfl⟩ := h
      exact ⟨fun j => zM (kdA j), rfl, fun j _ => ⟨zM_fv _, zM_fo _ _ _ _⟩⟩

end Go.Proofs.YtalmpmhnkilalaaGreatDoor
