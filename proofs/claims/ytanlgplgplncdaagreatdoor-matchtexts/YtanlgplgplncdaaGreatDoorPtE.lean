import Derived.Test.YtanlgplgplncdaaGreatDoorPtC
/-
  The reader: span.
-/
namespace Go.Proofs.YtanlgplgplncdaaGreatDoor
open Go.RowKit
set_option linter.unusedVariables false
set_option linter.unusedSimpArgs false

/-- What span answers. -/
def SpR (S : List UInt8) (a lo hi b : Nat) (ok : Bool) : Prop := a ≤ b ∧ b ≤ S.length ∧ (ok = true → spanF S a = .ok (lo, hi) b ∧ lo ≤ hi ∧ hi ≤ 1114111) ∧ (ok = false → spanF S a = .bad b)
theorem res_span (tmps : Array Value) (w : World) (g : Nat) (lo hi : Int) (ok : Bool) (hp : tmps.getD 2 undef = .pointer (some ⟨g, 0, none⟩)) (hq : tmps.getD 3 undef = .bool ok) (h0 : w.cell? ⟨g, 0, none⟩ = some (.int .i32 lo)) (h1 : w.cell? ⟨g, 1, none⟩ = some (.int .i32 hi)) :
    (results Tryz.f123 tmps).run Tryz.prog w = .ok (.tuple #[.agg #[.int .i32 lo, .int .i32 hi], .bool ok]) w := by
  have h : Tryz.f123.results = #[.cell 2 209, .tmp 3] := by kernel_rfl
  have hp' : tmps[2]?.getD undef = .pointer (some ⟨g, 0, none⟩) := by simpa using hp
  have hq' : tmps[3]?.getD undef = .bool ok := by simpa using hq
  simp [results, h, hp', hq', asAddr, loadVar, h0, h1, go_sem]
theorem lab_chg {r : Nat} {w w0 w1 w2 : World} (h0 : Below w.heap.size w w0) (h1 : Chg (fun i => i = r) w0 w1) (h2 : Chg (fun i => i = w.heap.size) w1 w2) : Chg (fun i => i = r) w w2 := by
  have k1 : Chg (fun i => i = r ∨ i = w.heap.size) w w1 := (Chg.of_below h0).trans h1 (fun i _ e => Or.inl e)
  have k2 : Chg (fun i => i = r ∨ i = w.heap.size) w w2 := k1.trans h2 (fun i _ e => Or.inr e)
  exact k2.mono (fun i hi e => by rcases e with e | e; exact e; omega)
theorem vc_le {c : Nat} (h : Vc c) : c ≤ 1114111 := by unfold Vc at h; omega

set_option maxRecDepth 100000 in
set_option maxHeartbeats 8000000 in
theorem spanP (r : Nat) (s : ByteArray) (a d : Nat) (w : World) (h : Rd w r s a d) (ha : a ≤ s.size) (hs : s.size ≤ 140737488355328) :
    Calls Tryz.prog 123 #[.pointer (some ⟨r, 0, none⟩)] w fun e w' => ∃ (lo hi b : Nat) (ok : Bool), e = .returned (.tuple #[.agg #[.int .i32 ((lo : Nat) : Int), .int .i32 ((hi : Nat) : Int)], .bool ok]) ∧ SpR (bts s) a lo hi b ok ∧ Rd w' r s b d ∧ Chg (fun i => i = r) w w' := by
  have hal : Below w.heap.size w (w.alloc (.cells #[.int .i32 0, .int .i32 0] 209)) := (Below.refl _ _).alloc (Nat.le_refl _) _
  have hrw : r < w.heap.size := Blk.lt h
  have hne : Hid (w.heap.size ≠ r) := hidden (by omega)
  have hB0 : Hid (Blk (w.alloc (.cells #[.int .i32 0, .int .i32 0] 209)) w.heap.size 209 [.int .i32 0, .int .i32 0]) := Blk.new w 209 _
  have k1 := characterP r s a d (w.alloc (.cells #[.int .i32 0, .int .i32 0] 209)) (h.chg (Chg.of_below (F := fun _ => False) hal) (fun h => h)) ha hs
  have HAL := hidden hal
  clear hal h
  go_enter Tryz.func123, Tryz.ntmps123
  go_upto_region 2 with (go_at_call 122; refine k1.mono ?_; rintro e w1 ⟨lo, b, ok, rfl, hc, h1, hc1⟩; clear k1)
  have H1 := hidden h1
  have HC1 := hidden hc1
  have HB1 := hidden (hc1.blk hB0.out hne.out)
  have HC := hidden hc
  have hbs : b ≤ s.size := by rw [size_bts]; exact hc.2.1
  clear h1 hc1 hc hB0
  cases ok with
  | false =>
    have HR : Hid (SpR (bts s) a lo lo b false) := hidden ⟨HC.out.1, HC.out.2.1, (fun h => by cases h), fun _ => by rw [spanF, (HC.out.2.2.2 rfl).1]⟩
    have B1 := HB1.out
    have c0 : w1.cell? ⟨w.heap.size, 0, none⟩ = some (.int .i32 0) := B1.cell 0
    have c1 : w1.cell? ⟨w.heap.size, 1, none⟩ = some (.int .i32 0) := B1.cell 1
    have f0 := B1.frozen 0
    have f1 := B1.frozen 1
    clear B1
    go_wp2
    have hcs : Chg (fun i => i = w.heap.size) w1 ((w1.setCell ⟨w.heap.size, 0, none⟩ (.int .i32 (lo : Int))).setCell ⟨w.heap.size, 1, none⟩ (.int .i32 (lo : Int))) := (Chg.set ⟨w.heap.size, 0, none⟩ _ w1).trans (Chg.set ⟨w.heap.size, 1, none⟩ _ _) (fun _ _ e => e)
    have hB2 := (HB1.out.set 0 (.int .i32 (lo : Int))).set 1 (.int .i32 (lo : Int))
    refine bodyPost_ret (res_span _ _ w.heap.size lo lo false rfl rfl (hB2.cell 0) (hB2.cell 1)) rfl ?_
    exact ⟨lo, lo, b, false, rfl, HR.out, H1.out.chg hcs (fun e => hne.out e.symm), lab_chg HAL.out HC1.out hcs⟩
  | true =>
    obtain ⟨hcf, hv⟩ := HC.out.2.2.1 rfl
    have kT := takeP r s b d 45 w1 H1.out hbs hs
    by_cases h45 : (bts s)[b]? = some 45
    · rw [decide_eq_true h45, tkN, if_pos h45] at kT
      have kT' : Calls Tryz.prog 97 #[.pointer (some ⟨r, 0, none⟩), .int .u8 45] w1 fun e w' => e = .returned (.bool true) ∧ Rd w' r s (b + 1) d ∧ Chg (fun i => i = r) w1 w' := kT
      have hb1 : b + 1 ≤ s.size := by rw [size_bts]; exact (List.getElem?_eq_some_iff.1 h45).1
      have HSF : Hid (spanF (bts s) a = match charF (bts s) (b + 1) with
          | .ok hi c => if hi < lo then .bad (b + 1) else .ok (lo, hi) c
          | .bad k => .bad k
          | .out => .out) := hidden (by rw [spanF, hcf]; simp only; rw [if_pos h45]; cases charF (bts s) (b + 1) <;> rfl)
      have k2 : Hid (∀ w2, Rd w2 r s (b + 1) d → Calls Tryz.prog 122 #[.pointer (some ⟨r, 0, none⟩)] w2 fun e w' => ∃ c b' ok, e = .returned (.tuple #[.int .i32 ((c : Nat) : Int), .bool ok]) ∧ ChR (bts s) (b + 1) c b' ok ∧ Rd w' r s b' d ∧ Chg (fun i => i = r) w2 w') := hidden (fun w2 h2 => characterP r s (b + 1) d w2 h2 hb1 hs)
      have hab : a ≤ b := HC.out.1
      clear kT hcf h45 HC
      go_wp2_with (go_at_call 97; refine kT'.mono ?_; rintro e w2 ⟨rfl, h2, hc2⟩; have d1 : w2.cell? ⟨r, 1, none⟩ = some (.int .i64 ((b : Int) + 1)) := by { have := h2.cell 1; simpa using this }; clear kT')
      have H2 := hidden h2
      have HC2 := hidden (HC1.out.trans hc2 (fun _ _ e => e))
      have HB2 := hidden (hc2.blk HB1.out hne.out)
      clear h2 hc2 HC1 HB1 H1
      have k3 := k2.out _ H2.out
      clear k2 d1
      go_upto_region 6 with (go_at_call 122; refine k3.mono ?_; rintro e w3 ⟨hi, b3, ok, rfl, hc, h3, hc3⟩; clear k3)
      have H3 := hidden h3
      have HC3 := hidden (HC2.out.trans hc3 (fun _ _ e => e))
      have HB3 := hidden (hc3.blk HB2.out hne.out)
      have HC := hidden hc
      clear h3 hc3 hc HC2 HB2 H2
      have B1 := HB3.out
      have c0 : w3.cell? ⟨w.heap.size, 0, none⟩ = some (.int .i32 0) := B1.cell 0
      have c1 : w3.cell? ⟨w.heap.size, 1, none⟩ = some (.int .i32 0) := B1.cell 1
      have f0 := B1.frozen 0
      have f1 := B1.frozen 1
      clear B1
      cases ok with
      | false =>
        have HR : Hid (SpR (bts s) a lo hi b3 false) := hidden ⟨by have := HC.out.1; omega, HC.out.2.1, (fun h => by cases h), fun _ => by rw [HSF.out, (HC.out.2.2.2 rfl).1]⟩
        go_wp2
        have hcs : Chg (fun i => i = w.heap.size) w3 ((w3.setCell ⟨w.heap.size, 0, none⟩ (.int .i32 (lo : Int))).setCell ⟨w.heap.size, 1, none⟩ (.int .i32 (hi : Int))) := (Chg.set ⟨w.heap.size, 0, none⟩ _ w3).trans (Chg.set ⟨w.heap.size, 1, none⟩ _ _) (fun _ _ e => e)
        have hB2 := (HB3.out.set 0 (.int .i32 (lo : Int))).set 1 (.int .i32 (hi : Int))
        refine bodyPost_ret (res_span _ _ w.heap.size lo hi false rfl rfl (hB2.cell 0) (hB2.cell 1)) rfl ?_
        exact ⟨lo, hi, b3, false, rfl, HR.out, H3.out.chg hcs (fun e => hne.out e.symm), lab_chg HAL.out HC3.out hcs⟩
      | true =>
        obtain ⟨hcf2, hv2⟩ := HC.out.2.2.1 rfl
        by_cases hlt : hi < lo
        · have hltz : (hi : Int) < (lo : Int) := by omega
          have HR : Hid (SpR (bts s) a 0 0 (b + 1) false) := hidden ⟨by omega, by rw [← size_bts]; exact hb1, (fun h => by cases h), fun _ => by rw [HSF.out, hcf2]; simp only; rw [if_pos hlt]⟩
          have r1 : w3.cell? ⟨r, 1, none⟩ = some (.int .i64 (b3 : Int)) := H3.out.cell 1
          have rf := H3.out.frozen 1
          have HR4 : Hid (Rd (w3.setCell ⟨r, 1, none⟩ (.int .i64 ((b : Int) + 1))) r s (b + 1) d) := hidden (by have := H3.out.set (b + 1); simpa using this)
          have hcr : Hid (Chg (fun i => i = r) w3 (w3.setCell ⟨r, 1, none⟩ (.int .i64 ((b : Int) + 1)))) := hidden (Chg.set ⟨r, 1, none⟩ _ _)
          have HB4 := hidden (hcr.out.blk HB3.out hne.out)
          have c0' : (w3.setCell ⟨r, 1, none⟩ (.int .i64 ((b : Int) + 1))).cell? ⟨w.heap.size, 0, none⟩ = some (.int .i32 0) := HB4.out.cell 0
          have c1' : (w3.setCell ⟨r, 1, none⟩ (.int .i64 ((b : Int) + 1))).cell? ⟨w.heap.size, 1, none⟩ = some (.int .i32 0) := HB4.out.cell 1
          have f0' := HB4.out.frozen 0
          have f1' := HB4.out.frozen 1
          clear hcf2 hv2 hlt
          go_wp2
          have hcs : Chg (fun i => i = w.heap.size) (w3.setCell ⟨r, 1, none⟩ (.int .i64 ((b : Int) + 1))) (((w3.setCell ⟨r, 1, none⟩ (.int .i64 ((b : Int) + 1))).setCell ⟨w.heap.size, 0, none⟩ (.int .i32 0)).setCell ⟨w.heap.size, 1, none⟩ (.int .i32 0)) := (Chg.set ⟨w.heap.size, 0, none⟩ _ _).trans (Chg.set ⟨w.heap.size, 1, none⟩ _ _) (fun _ _ e => e)
          have hB2 := (HB4.out.set 0 (.int .i32 0)).set 1 (.int .i32 0)
          refine bodyPost_ret (res_span _ _ w.heap.size 0 0 false rfl rfl (hB2.cell 0) (hB2.cell 1)) rfl ?_
          exact ⟨0, 0, b + 1, false, rfl, HR.out, HR4.out.chg hcs (fun e => hne.out e.symm), lab_chg HAL.out (HC3.out.trans hcr.out (fun _ _ e => e)) hcs⟩
        · have hltz : ¬ (hi : Int) < (lo : Int) := by omega
          have hltz' : decide ((hi : Int) < (lo : Int)) = false := decide_eq_false hltz
          have HR : Hid (SpR (bts s) a lo hi b3 true) := hidden ⟨by have := HC.out.1; omega, HC.out.2.1, fun _ => ⟨by rw [HSF.out, hcf2]; simp only; rw [if_neg hlt], by omega, vc_le hv2⟩, (fun h => by cases h)⟩
          clear hcf2 hv2 hlt
          go_wp2
          have hcs : Chg (fun i => i = w.heap.size) w3 ((w3.setCell ⟨w.heap.size, 0, none⟩ (.int .i32 (lo : Int))).setCell ⟨w.heap.size, 1, none⟩ (.int .i32 (hi : Int))) := (Chg.set ⟨w.heap.size, 0, none⟩ _ w3).trans (Chg.set ⟨w.heap.size, 1, none⟩ _ _) (fun _ _ e => e)
          have hB2 := (HB3.out.set 0 (.int .i32 (lo : Int))).set 1 (.int .i32 (hi : Int))
          refine bodyPost_ret (res_span _ _ w.heap.size lo hi true rfl rfl (hB2.cell 0) (hB2.cell 1)) rfl ?_
          first
            | exact ⟨lo, hi, b3, true, rfl, HR.out, H3.out.chg hcs (fun e => hne.out e.symm), lab_chg HAL.out HC3.out hcs⟩
            | exact ⟨lo, hi, b3, Or.inr ⟨rfl, HR.out, H3.out.chg hcs (fun e => hne.out e.symm), lab_chg HAL.out HC3.out hcs⟩⟩
    · rw [decide_eq_false h45, tkN, if_neg h45] at kT
      have kT' : Calls Tryz.prog 97 #[.pointer (some ⟨r, 0, none⟩), .int .u8 45] w1 fun e w' => e = .returned (.bool false) ∧ Rd w' r s b d ∧ Chg (fun i => i = r) w1 w' := kT
      have HR : Hid (SpR (bts s) a lo lo b true) := hidden ⟨HC.out.1, HC.out.2.1, fun _ => ⟨by rw [spanF, hcf]; simp only; rw [if_neg h45], Nat.le_refl _, vc_le hv⟩, (fun h => by cases h)⟩
      clear kT hcf h45
      go_wp2_with (go_at_call 97; refine kT'.mono ?_; rintro e w2 ⟨rfl, h2, hc2⟩; have HB2 := hidden (hc2.blk HB1.out hne.out); have c0 : w2.cell? ⟨w.heap.size, 0, none⟩ = some (.int .i32 0) := HB2.out.cell 0; have c1 : w2.cell? ⟨w.heap.size, 1, none⟩ = some (.int .i32 0) := HB2.out.cell 1; have f0 := HB2.out.frozen 0; have f1 := HB2.out.frozen 1; clear kT')
      have hcs : Chg (fun i => i = w.heap.size) w2 ((w2.setCell ⟨w.heap.size, 0, none⟩ (.int .i32 (lo : Int))).setCell ⟨w.heap.size, 1, none⟩ (.int .i32 (lo : Int))) := (Chg.set ⟨w.heap.size, 0, none⟩ _ w2).trans (Chg.set ⟨w.heap.size, 1, none⟩ _ _) (fun _ _ e => e)
      have hB2 := (HB2.out.set 0 (.int .i32 (lo : Int))).set 1 (.int .i32 (lo : Int))
      refine bodyPost_ret (res_span _ _ w.heap.size lo lo true rfl rfl (hB2.cell 0) (hB2.cell 1)) rfl ?_
      exact ⟨lo, lo, b, true, rfl, HR.out, h2.chg hcs (fun e => hne.out e.symm), lab_chg HAL.out (HC1.out.trans hc2 (fun _ _ e => e)) hcs⟩

end Go.Proofs.YtanlgplgplncdaaGreatDoor

/-
  Spans in memory: rows of two cells each. (After the labels' texts.)
-/
namespace Go.Proofs.YtanlgplgplncdaaGreatDoor
open Go.RowKit
set_option linter.unusedVariables false
set_option linter.unusedSimpArgs false

theorem info93 : (Tryz.prog.info? 209).map (fun i => (i.zero, i.size, i.bytes)) = some (some (.agg #[.int .i32 0, .int .i32 0]), 2, 8) := by kernel_rfl

/-- A slice's labels: where they lie. -/
structure Ss (w : World) (ad : Option Addr) (l : List (Nat × Nat)) : Prop where
  sz : ∀ x ∈ l, x.1 ≤ 1114111 ∧ x.2 ≤ 1114111
  at' : l ≠ [] → ∃ b off, ad = some ⟨b, off, none⟩ ∧ b < w.heap.size ∧ ∀ i x, l[i]? = some x → w.cell? ⟨b, off + i * 2, none⟩ = some (.int .i32 (x.1 : Int)) ∧ w.cell? ⟨b, off + i * 2 + 1, none⟩ = some (.int .i32 (x.2 : Int))
theorem Ss.later {w w' : World} {ad : Option Addr} {l : Sn} (h : Ss w ad l) (hb : Below w.heap.size w w') : Ss w' ad l := by
  refine ⟨h.sz, fun h0 => ?_⟩
  obtain ⟨b, off, e, hlt, hc⟩ := h.at' h0
  refine ⟨b, off, e, Nat.lt_of_lt_of_le hlt hb.size, fun i x hx => ?_⟩
  rw [hb.cell (p := ⟨b, off + i * 2, none⟩) hlt, hb.cell (p := ⟨b, off + i * 2 + 1, none⟩) hlt]
  exact hc i x hx
theorem Ss.nil (w : World) (ad : Option Addr) : Ss w ad [] := ⟨by simp, fun h => absurd rfl h⟩
theorem Ss.get {w : World} {ad : Option Addr} {l : Sn} (h : Ss w ad l) {i : Nat} (hi : i < l.length) : ∃ b off x, ad = some ⟨b, off, none⟩ ∧ b < w.heap.size ∧ l[i]? = some x ∧ l[i] = x ∧ w.cell? ⟨b, off + i * 2, none⟩ = some (.int .i32 (x.1 : Int)) ∧ w.cell? ⟨b, off + i * 2 + 1, none⟩ = some (.int .i32 (x.2 : Int)) ∧ x.1 ≤ 1114111 ∧ x.2 ≤ 1114111 := by
  obtain ⟨b, off, e, hlt, hc⟩ := h.at' (by intro h0; rw [h0] at hi; simp at hi)
  have hx : l[i]? = some l[i] := by simp [hi]
  exact ⟨b, off, l[i], e, hlt, hx, rfl, (hc i _ hx).1, (hc i _ hx).2, h.sz _ (by simp)⟩

def encS (x : (Nat × Nat)) : List Value := [.int .i32 (x.1 : Int), .int .i32 (x.2 : Int)]
def cS (l : List (Nat × Nat)) : List Value := l.flatMap encS
theorem cS_cons (x : (Nat × Nat)) (l : List (Nat × Nat)) : cS (x :: l) = .int .i32 (x.1 : Int) :: .int .i32 (x.2 : Int) :: cS l := by simp [cS, encS]
theorem cS_length : ∀ l : Sn, (cS l).length = l.length * 2
  | [] => rfl
  | x :: t => by rw [cS_cons]; simp only [List.length_cons]; rw [cS_length t]; omega
theorem cS_append (l m : List (Nat × Nat)) : cS (l ++ m) = cS l ++ cS m := by simp [cS]
theorem cS_get : ∀ (l : List (Nat × Nat)) (i : Nat) (x : (Nat × Nat)), l[i]? = some x → (cS l)[i * 2]? = some (.int .i32 (x.1 : Int)) ∧ (cS l)[i * 2 + 1]? = some (.int .i32 (x.2 : Int))
  | [], i, x, h => by simp at h
  | y :: t, 0, x, h => by simp at h; subst h; rw [cS_cons]; exact ⟨rfl, rfl⟩
  | y :: t, i + 1, x, h => by
    rw [cS_cons, show (i + 1) * 2 = i * 2 + 1 + 1 by omega, show i * 2 + 1 + 1 + 1 = (i * 2 + 1) + 1 + 1 by omega]
    simp only [List.getElem?_cons_succ] at h ⊢
    exact cS_get t i x h
theorem cS_one (l : List (Nat × Nat)) : ∀ u ∈ cS l, u.oneCell' = true := by
  intro u hu
  obtain ⟨x, _, hx⟩ := List.mem_flatMap.1 hu
  simp [encS] at hx
  rcases hx with rfl | rfl <;> rfl
def Bd (l : List (Nat × Nat)) : Prop := ∀ x ∈ l, x.1 ≤ 1114111 ∧ x.2 ≤ 1114111
theorem Bd.perm {l m : Sn} (h : Bd l) (hp : m.Perm l) : Bd m := fun x hx => h x (hp.mem_iff.1 hx)
theorem owns_lenS {w : World} {base : Nat} {v : Value} {n : Nat} {l : Sn} (h : w.ownsRow base 209 2 v n (cS l)) : l.length = n := by
  have := h.1; rw [cS_length] at this; omega
theorem owns_formS {w : World} {base : Nat} {e s : Nat} {v : Value} {n : Nat} {xs : List Value} (h : w.ownsRow base e s v n xs) : ∃ ad c, v = .slice ad n c ∧ (ad = none → n = 0 ∧ c = 0) ∧ (∀ x, ad = some x → x.off = 0 ∧ x.spot = none) ∧ n ≤ c ∧ c ≤ maxLen := by
  rcases h.2 with ⟨rfl, rfl⟩ | ⟨g, cap, cur, rfl, _, _, h1, h2, _⟩
  · exact ⟨none, 0, rfl, fun _ => ⟨rfl, rfl⟩, (fun x e => by cases e), Nat.le_refl _, by unfold maxLen; omega⟩
  · exact ⟨_, cap, rfl, (fun e => by cases e), (fun x e => by cases e; exact ⟨rfl, rfl⟩), h1, h2⟩
theorem ss_of_owns {w : World} {base : Nat} {ad : Option Addr} {n m c : Nat} {l : Sn} (h : w.ownsRow base 209 2 (.slice ad n c) m (cS l)) (hz : Bd l) : Ss w ad l := by
  refine ⟨hz, fun h0 => ?_⟩
  have hl := owns_lenS h
  rcases h.2 with ⟨_, h1⟩ | ⟨g, cap, cur, e, _, hg, _⟩
  · rw [h1] at hl; exact absurd (List.eq_nil_of_length_eq_zero hl) h0
  · injection e with e1 e2 e3
    subst e1
    refine ⟨g, 0, rfl, (Array.getElem?_eq_some_iff.1 hg).1, fun i x hx => ?_⟩
    have hc := cS_get l i x hx
    have k0 := h.cells (g := g) rfl _ _ hc.1
    have k1 := h.cells (g := g) rfl _ _ hc.2
    rw [Addr.add_lit] at k0 k1
    simp only [Nat.zero_add] at k0 k1 ⊢
    exact ⟨k0, k1⟩
theorem Ss.cells {w : World} {b off : Nat} {l : Sn} (h : Ss w (some ⟨b, off, none⟩) l) : ∀ j u, (cS l)[j]? = some u → w.cell? ((⟨b, off, none⟩ : Addr).add j) = some u := by
  intro j u hu
  have hj : j < l.length * 2 := by rw [← cS_length]; exact (List.getElem?_eq_some_iff.1 hu).1
  obtain ⟨b', off', e, _, hc⟩ := h.at' (by intro e; rw [e] at hj; simp at hj)
  injection e with e; injection e with e1 e2; subst e1; subst e2
  have hx : l[j / 2]? = some (l[j / 2]'(by omega)) := by simp
  have k := hc _ _ hx
  have g := cS_get l _ _ hx
  rw [Addr.add_lit]
  rcases Nat.mod_two_eq_zero_or_one j with hm | hm
  · have e : j = j / 2 * 2 := by omega
    rw [← e] at k g
    rw [hu] at g
    rw [k.1]; exact g.1.symm
  · have e : j = j / 2 * 2 + 1 := by omega
    have e2 : off + j / 2 * 2 + 1 = off + j := by omega
    rw [e2] at k
    rw [← e, hu] at g
    rw [k.2]; exact g.2.symm

theorem Ss.cells' {w : World} {x : Addr} {l : Sn} (h : Ss w (some x) l) : ∀ j u, (cS l)[j]? = some u → w.cell? (x.add j) = some u := by
  intro j u hu
  by_cases h0 : l = []
  · rw [h0] at hu; simp [cS] at hu
  · obtain ⟨b, off, e, _⟩ := h.at' h0
    injection e with e
    subst e
    exact h.cells j u hu

/-! ### one label behind a row -/
theorem run_push2 {P : Program} (w : World) (t ty e : TypeId) (i : TypeInfo) (z : Value) (bytes : Nat) (ht : P.underlying t = some (.slice e)) (hi : P.info? e = some i) (hz : i.zero = some z)
    (hsize : i.size = 2) (hby : i.bytes = bytes) (hzs : z.cells.size = 2) (base : Nat) (v : Value) (n : Nat) (xs : List Value) (hown : w.ownsRow base e 2 v n xs)
    (ad : Addr) (news : List Value) (hl : news.length = 2) (hnews : ∀ j u, news[j]? = some u → w.cell? (ad.add j) = some u) (hone : ∀ x ∈ news, x.oneCell' = true) (h63 : n + 1 ≤ maxLen) (hbytes : (n + 1) * bytes ≤ 140737488355328) (hbase : base ≤ w.heap.size) :
    ∃ g' c' w', (Builtin.append_ #[t, t] ty #[v, .slice (some ad) 1 1]).run P w = .ok (.slice (some ⟨g', 0, none⟩) (n + 1) c') w' ∧
      w'.ownsRow base e 2 (.slice (some ⟨g', 0, none⟩) (n + 1) c') (n + 1) (xs ++ news) ∧ Pushed w w' v g' := by
  rcases hown.2 with ⟨rfl, rfl⟩ | ⟨g, cap, cur, rfl, hbg, hg, hnc, hcm, hcs, htake⟩
  · have hxs : xs = [] := List.eq_nil_of_length_eq_zero (by simpa using hown.1)
    subst hxs
    obtain ⟨v', w', hr, ho, hgr, hiff⟩ := run_append_own (P := P) w w.heap.size t ty e i z 2 bytes ht hi hz hsize hby hzs (by omega) (.slice none 0 0) 0 [] (World.ownsRow_nil _ _ _ _) ad 1 1 news (by omega) hnews hone h63 hbytes (Nat.le_refl _)
    rcases ho.2 with ⟨_, h0⟩ | ⟨g', c', cur', rfl, hb', hh, hrest⟩
    · omega
    · exact ⟨g', c', w', by simpa using hr, ⟨by simp [hl], .inr ⟨g', c', cur', rfl, by omega, hh, by simpa using hrest⟩⟩, .inr ⟨hb', by simpa [Value.ownBlock] using hgr⟩⟩
  · by_cases hroom : n + 1 ≤ cap
    · obtain ⟨w', hr, ho, hgr⟩ := run_append_fits (P := P) w base t ty e i 2 ht hi hsize g n cap xs hown ad 1 1 news (by omega) hnews hone hroom
      exact ⟨g, cap, w', hr, ho, .inl ⟨rfl, hgr⟩⟩
    · obtain ⟨v', w', hr, ho, hgr⟩ := run_append_arg_grows (P := P) w t ty e i z 2 bytes ht hi hz hsize hby hzs (by omega) ⟨g, 0, none⟩ n cap xs hown.1 (hown.cells rfl) ad 1 1 news (by omega) hnews (by omega) h63 hbytes
      rcases ho.2 with ⟨_, h0⟩ | ⟨g', c', cur', rfl, hb', hh, hrest⟩
      · omega
      · exact ⟨g', c', w', hr, ⟨by simp [hown.1, hl]; omega, .inr ⟨g', c', cur', rfl, by omega, hh, hrest⟩⟩, .inr ⟨hb', hgr⟩⟩
theorem wp_push2 {P : Program} (w : World) {o : Oper} {a : Act} {K : Act → World → Prop} {Q : Exit → Act → World → Prop} (s x : Operand) (t : TypeId)
    (ho : o.op = .call { callee := .builtin .append, args := #[s, x], argTypes := #[t, t] }) (e : TypeId) (i : TypeInfo) (z : Value) (bytes : Nat) (ht : P.underlying t = some (.slice e)) (hi : P.info? e = some i) (hz : i.zero = some z)
    (hsize : i.size = 2) (hby : i.bytes = bytes) (hzs : z.cells.size = 2) (base : Nat) (v : Value) (n : Nat) (xs : List Value) (hs : a.eval s = v) (hown : w.ownsRow base e 2 v n xs)
    (ad : Addr) (news : List Value) (hx : a.eval x = .slice (some ad) 1 1) (hl : news.length = 2) (hnews : ∀ j u, news[j]? = some u → w.cell? (ad.add j) = some u) (hone : ∀ x ∈ news, x.oneCell' = true) (h63 : n + 1 ≤ maxLen) (hbytes : (n + 1) * bytes ≤ 140737488355328) (hbase : base ≤ w.heap.size)
    (h : ∀ g' c' w', w'.ownsRow base e 2 (.slice (some ⟨g', 0, none⟩) (n + 1) c') (n + 1) (xs ++ news) → Pushed w w' v g' → K (a.put o.dst (.slice (some ⟨g', 0, none⟩) (n + 1) c')) w') : o.wp P a w K Q := by
  obtain ⟨g', c', w', hr, h2, h3⟩ := run_push2 (P := P) w t o.type e i z bytes ht hi hz hsize hby hzs base v n xs hown ad news hl hnews hone h63 hbytes hbase
  unfold Oper.wp
  simp [execOp, ho, resolve, invoke, builtin, hs, hx, hr, Result.andThen]
  exact h g' c' w' h2 h3
theorem wpList_push2 {P : Program} (w : World) {ops : Array Oper} {rest : List Oper} {o : Oper} {a : Act} {Q : Exit → Act → World → Prop} (hgd : o.guard = none) (s x : Operand) (t : TypeId)
    (ho : o.op = .call { callee := .builtin .append, args := #[s, x], argTypes := #[t, t] }) (e : TypeId) (i : TypeInfo) (z : Value) (bytes : Nat) (ht : P.underlying t = some (.slice e)) (hi : P.info? e = some i) (hz : i.zero = some z)
    (hsize : i.size = 2) (hby : i.bytes = bytes) (hzs : z.cells.size = 2) (base : Nat) (v : Value) (n : Nat) (xs : List Value) (hs : a.eval s = v) (hown : w.ownsRow base e 2 v n xs)
    (ad : Addr) (news : List Value) (hx : a.eval x = .slice (some ad) 1 1) (hl : news.length = 2) (hnews : ∀ j u, news[j]? = some u → w.cell? (ad.add j) = some u) (hone : ∀ x ∈ news, x.oneCell' = true) (h63 : n + 1 ≤ maxLen) (hbytes : (n + 1) * bytes ≤ 140737488355328) (hbase : base ≤ w.heap.size)
    (h : ∀ g' c' w', w'.ownsRow base e 2 (.slice (some ⟨g', 0, none⟩) (n + 1) c') (n + 1) (xs ++ news) → Pushed w w' v g' → wpList P ops Q rest (a.put o.dst (.slice (some ⟨g', 0, none⟩) (n + 1) c')) w') : wpList P ops Q (o :: rest) a w :=
  wpList_plain hgd fun _ hK => wp_push2 w s x t ho e i z bytes ht hi hz hsize hby hzs base v n xs hs hown ad news hx hl hnews hone h63 hbytes hbase fun g' c' w' h2 h3 => hK _ _ (h g' c' w' h2 h3)
theorem step_push2 {P : Program} (w : World) {ops : Array Oper} {o : Oper} {a : Act} {K : Act → World → Prop} {Q : Exit → Act → World → Prop} {E : Prop} (hgd : o.guard = none) (s x : Operand) (t : TypeId)
    (ho : o.op = .call { callee := .builtin .append, args := #[s, x], argTypes := #[t, t] }) (e : TypeId) (i : TypeInfo) (z : Value) (bytes : Nat) (ht : P.underlying t = some (.slice e)) (hi : P.info? e = some i) (hz : i.zero = some z)
    (hsize : i.size = 2) (hby : i.bytes = bytes) (hzs : z.cells.size = 2) (base : Nat) (v : Value) (n : Nat) (xs : List Value) (hs : a.eval s = v) (hown : w.ownsRow base e 2 v n xs)
    (ad : Addr) (news : List Value) (hx : a.eval x = .slice (some ad) 1 1) (hl : news.length = 2) (hnews : ∀ j u, news[j]? = some u → w.cell? (ad.add j) = some u) (hone : ∀ x ∈ news, x.oneCell' = true) (h63 : n + 1 ≤ maxLen) (hbytes : (n + 1) * bytes ≤ 140737488355328) (hbase : base ≤ w.heap.size)
    (h : ∀ g' c' w', w'.ownsRow base e 2 (.slice (some ⟨g', 0, none⟩) (n + 1) c') (n + 1) (xs ++ news) → Pushed w w' v g' → K (a.put o.dst (.slice (some ⟨g', 0, none⟩) (n + 1) c')) w') :
    if Region.wanted o (yielded ops a.tmps) = true then Oper.wp P o a w K Q else E := by
  have hw : Region.wanted o (yielded ops a.tmps) = true := by simp [Region.wanted, hgd]
  rw [if_pos hw]
  exact wp_push2 w s x t ho e i z bytes ht hi hz hsize hby hzs base v n xs hs hown ad news hx hl hnews hone h63 hbytes hbase h

theorem ss_blk {w : World} {g : Nat} {l : Sn} (h : Blk w g 209 (cS l)) (hz : Bd l) : Ss w (some ⟨g, 0, none⟩) l := by
  refine ⟨hz, fun h0 => ⟨g, 0, rfl, h.lt, fun i x hx => ?_⟩⟩
  have hc := cS_get l i x hx
  rw [Nat.zero_add, h.cell, h.cell]
  exact hc
theorem owl {w w' : World} {b e s : Nat} {v : Value} {n : Nat} {xs : List Value} (h : w.ownsRow b e s v n xs) (hb : Below w.heap.size w w') : w'.ownsRow b e s v n xs := (Chg.of_below (F := fun _ => False) hb).owns h (fun _ _ h => h)
theorem owns_base {w : World} {b b' : Nat} {e sz : Nat} {v : Value} {n : Nat} {xs : List Value} (h : w.ownsRow b e sz v n xs) (hb : ∀ g, v.ownBlock = some g → b' ≤ g) : w.ownsRow b' e sz v n xs := by
  refine ⟨h.1, ?_⟩
  rcases h.2 with h0 | ⟨g, cap, cur, rfl, _, r⟩
  · exact .inl h0
  · exact .inr ⟨g, cap, cur, rfl, hb g rfl, r⟩
theorem wpList_appS (w : World) {ops : Array Oper} {rest : List Oper} {o : Oper} {a : Act} {Q : Exit → Act → World → Prop} (hgd : o.guard = none) (s x : Operand)
    (ho : o.op = .call { callee := .builtin .append, args := #[s, x], argTypes := #[199, 199] }) (base : Nat) (v : Value) (n : Nat) (xs : List (Nat × Nat)) (hs : a.eval s = v) (hown : w.ownsRow base 209 2 v n (cS xs))
    (ad : Option Addr) (m c : Nat) (l : List (Nat × Nat)) (hx : a.eval x = .slice ad m c) (hL : Ss w ad l) (hm : l.length = m) (hno : ad = none → l = [] ∧ c = 0) (k : Nat) (hk : n + m = k) (hb : k * 8 ≤ 140737488355328) (hbase : base ≤ w.heap.size)
    (h : ∀ a' c' w', w'.ownsRow base 209 2 (.slice a' k c') k (cS (xs ++ l)) → Below base w w' → wpList Tryz.prog ops Q rest (a.put o.dst (.slice a' k c')) w') : wpList Tryz.prog ops Q (o :: rest) a w := by
  subst hk
  obtain ⟨i0, hi0, hz0, hz1, hz2⟩ := info_parts info93
  cases ad with
  | none =>
    obtain ⟨rfl, rfl⟩ := hno rfl
    obtain rfl : m = 0 := hm.symm
    refine wpList_append_own_none hgd s x 199 ho base 209 i0 2 Tryz.underlying199 hi0 v n _ hs hown hx ?_
    obtain ⟨a', c', rfl, _⟩ := owns_formS hown
    exact h a' c' w (by simpa using hown) (Below.refl _ _)
  | some ad =>
    refine wpList_append_own w hgd s x 199 ho base 209 i0 (.agg #[.int .i32 0, .int .i32 0]) 2 8 Tryz.underlying199 hi0 hz0 hz1 hz2 rfl (by decide) v n (cS xs) hs hown ad m c (cS l) hx (by rw [cS_length, hm]) hL.cells' (cS_one l) (by unfold maxLen; omega) hb hbase ?_
    intro v' w' h1 h2 h3
    obtain ⟨a', c', rfl, _⟩ := owns_formS h1
    exact h a' c' w' (by rw [cS_append]; exact h1) ((Below.refl _ _).grown h2 hbase (fun k hk => (hown.lt k hk).1))

theorem ss_one (w : World) (x : (Nat × Nat)) (h : x.1 ≤ 1114111 ∧ x.2 ≤ 1114111) : Ss (w.alloc (.cells #[.int .i32 (x.1 : Int), .int .i32 (x.2 : Int)] 209)) (some ⟨w.heap.size, 0, none⟩) [x] :=
  ss_blk (Blk.new w 209 (cS [x])) (fun y hy => by simp at hy; subst hy; exact h)


end Go.Proofs.YtanlgplgplncdaaGreatDoor
