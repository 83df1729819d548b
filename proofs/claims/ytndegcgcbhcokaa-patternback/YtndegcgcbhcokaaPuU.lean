import Derived.Test.YtndegcgcbhcokaaPuT
/-
  Words, purely.
-/
namespace Go.Proofs.Ytndegcgcbhcokaa
open Go
set_option linter.unusedVariables false
set_option linter.unusedSimpArgs false

abbrev noText : ByteArray := ⟨#[]⟩
def letters (w : Wl) : Bool := decide (1 < w.length) || (match w with
  | [x] => !x.toList.isEmpty
  | _ => false)
def repW (o : Option Wl) (s : Nat) : Option Wl := match o with
  | none => none
  | some w => if letters w = true ∧ s ≠ 63 then none else if s = 43 then some w else togF w [noText]
mutual
/-- The words of a part; none: too many. -/
def Pt.wds : Pt → Option Wl
  | .chr c => spF [(c, c)] []
  | .any => spF (othS 0 []) []
  | .cls neg l => spF (if neg then othS 0 l else l) []
  | .grp l => rowsW l []
  | .rep a s => repW a.wds s
/-- Of a row of too many: it may mean nothing all the same. -/
def rowN : List Pt → Option Wl
  | [] => none
  | p :: t => match p.wds with
    | some [] => some []
    | _ => rowN t
def rowW : List Pt → Wl → Option Wl
  | [], out => some out
  | p :: t, out => match p.wds with
    | none => rowN t
    | some [] => some []
    | some (x :: m) => match chF [] out (x :: m) with
      | some o => rowW t o
      | none => rowN t
def rowsW : List (List Pt) → Wl → Option Wl
  | [], out => some out
  | r :: t, out => match rowW r [noText] with
    | none => none
    | some m => match togF out m with
      | some o => rowsW t o
      | none => none
end

theorem putF_mem (l : Wl) (x y : ByteArray) : y ∈ putF l x ↔ y ∈ l ∨ y = x := by
  unfold putF
  split
  · rename_i h
    exact ⟨.inl, fun h' => h'.elim id (fun e => by rw [e]; exact List.mem_of_getElem? h)⟩
  · constructor
    · intro h
      rcases List.mem_append.1 h with h | h
      · exact .inl (List.mem_of_mem_take h)
      · rcases List.mem_cons.1 h with h | h
        · exact .inr h
        · exact .inl (List.mem_of_mem_drop h)
    · intro h
      rcases h with h | h
      · rw [← List.take_append_drop (putI l x l.length) l] at h
        rcases List.mem_append.1 h with h | h
        · exact List.mem_append.2 (.inl h)
        · exact List.mem_append.2 (.inr (List.mem_cons.2 (.inr h)))
      · exact List.mem_append.2 (.inr (List.mem_cons.2 (.inl h)))
theorem togF_mem : ∀ (b a : Wl) (r : Wl), togF a b = some r → ∀ y, y ∈ r ↔ y ∈ a ∨ y ∈ b
  | [], a, r, h, y => by rw [togF] at h; injection h with h; subst h; simp
  | x :: t, a, r, h, y => by
    rw [togF] at h
    split at h
    · cases h
    · rw [togF_mem t _ r h y, putF_mem]
      simp only [List.mem_cons]
      constructor
      · rintro ((h | h) | h)
        · exact .inl h
        · exact .inr (.inl h)
        · exact .inr (.inr h)
      · rintro (h | h | h)
        · exact .inl (.inl h)
        · exact .inl (.inr h)
        · exact .inr h
theorem chF1_mem (hd : ByteArray) : ∀ (b out : Wl) (r : Wl), chF1 hd out b = some r → ∀ y, y ∈ r ↔ y ∈ out ∨ ∃ x ∈ b, y = hd ++ x
  | [], out, r, h, y => by rw [chF1] at h; injection h with h; subst h; simp
  | x :: t, out, r, h, y => by
    rw [chF1] at h
    split at h
    · cases h
    · rw [chF1_mem hd t _ r h y, putF_mem]
      constructor
      · rintro ((h | h) | ⟨z, hz, h⟩)
        · exact .inl h
        · exact .inr ⟨x, by simp, h⟩
        · exact .inr ⟨z, by simp [hz], h⟩
      · rintro (h | ⟨z, hz, k⟩)
        · exact .inl (.inl h)
        · rcases List.mem_cons.1 hz with e | hz
          · exact .inl (.inr (by rw [← e]; exact k))
          · exact .inr ⟨z, hz, k⟩
theorem chF_mem : ∀ (a out b : Wl) (r : Wl), chF out a b = some r → ∀ y, y ∈ r ↔ y ∈ out ∨ ∃ h ∈ a, ∃ x ∈ b, y = h ++ x
  | [], out, b, r, h, y => by rw [chF] at h; injection h with h; subst h; simp
  | hd :: t, out, b, r, h, y => by
    rw [chF] at h
    cases h1 : chF1 hd out b with
    | none => rw [h1] at h; cases h
    | some o =>
      rw [h1] at h
      rw [chF_mem t o b r h y, chF1_mem hd b out o h1 y]
      constructor
      · rintro ((h | ⟨x, hx, h⟩) | ⟨z, hz, x, hx, h⟩)
        · exact .inl h
        · exact .inr ⟨hd, by simp, x, hx, h⟩
        · exact .inr ⟨z, by simp [hz], x, hx, h⟩
      · rintro (h | ⟨z, hz, x, hx, k⟩)
        · exact .inl (.inl h)
        · rcases List.mem_cons.1 hz with e | hz
          · exact .inl (.inr ⟨x, hx, by rw [← e]; exact k⟩)
          · exact .inr ⟨z, hz, x, hx, k⟩
theorem size_app (a b : ByteArray) : (a ++ b).size = a.size + b.size := by simp

theorem enc_any (c : Int) : (Utf8.encode c).size ≤ 4 := by
  unfold Utf8.encode
  simp only
  repeat' split
  all_goals simp [ByteArray.size]
theorem str_size (c : Nat) : (str c).size ≤ 4 := enc_any _
theorem spC_size (B : Nat) (hB : 4 ≤ B) : ∀ (k c : Nat) (out r : Wl), spC k c out = some r → (∀ x ∈ out, x.size ≤ B) → ∀ x ∈ r, x.size ≤ B
  | 0, c, out, r, h, ho => by rw [spC] at h; injection h with h; subst h; exact ho
  | k + 1, c, out, r, h, ho => by
    rw [spC] at h
    split at h
    · exact spC_size B hB k _ _ r h ho
    · split at h
      · cases h
      · refine spC_size B hB k _ _ r h (fun x hx => ?_)
        rcases List.mem_append.1 hx with hx | hx
        · exact ho x hx
        · rw [List.mem_singleton.1 hx]; exact Nat.le_trans (str_size c) hB
theorem spF_size (B : Nat) (hB : 4 ≤ B) : ∀ (l : Sn) (out r : Wl), spF l out = some r → (∀ x ∈ out, x.size ≤ B) → ∀ x ∈ r, x.size ≤ B
  | [], out, r, h, ho => by rw [spF] at h; injection h with h; subst h; exact ho
  | s :: t, out, r, h, ho => by
    rw [spF] at h
    cases h1 : spC (s.2 + 1 - s.1) s.1 out with
    | none => rw [h1] at h; cases h
    | some o => rw [h1] at h; exact spF_size B hB t o r h (spC_size B hB _ _ _ _ h1 ho)
theorem rowN_nil : ∀ (t : List Pt) (w : Wl), rowN t = some w → w = []
  | [], w, h => by rw [rowN] at h; cases h
  | p :: t, w, h => by
    rw [rowN] at h
    split at h
    · injection h with h; exact h.symm
    · exact rowN_nil t w h
mutual
theorem Pt.wds_size : ∀ (p : Pt) (w : Wl), p.wds = some w → ∀ x ∈ w, x.size ≤ 4 * p.cnt
  | .chr c, w, h => by rw [Pt.wds] at h; simpa [Pt.cnt] using spF_size 4 (Nat.le_refl _) _ _ w h (by simp)
  | .any, w, h => by rw [Pt.wds] at h; simpa [Pt.cnt] using spF_size 4 (Nat.le_refl _) _ _ w h (by simp)
  | .cls neg l, w, h => by rw [Pt.wds] at h; simpa [Pt.cnt] using spF_size 4 (Nat.le_refl _) _ _ w h (by simp)
  | .grp l, w, h => by
    rw [Pt.wds] at h
    simp only [Pt.cnt]
    have := rowsW_size l [] w 0 h (by simp)
    simpa using this
  | .rep a s, w, h => by
    rw [Pt.wds] at h
    simp only [Pt.cnt]
    unfold repW at h
    cases h1 : a.wds with
    | none => rw [h1] at h; cases h
    | some m =>
      rw [h1] at h
      simp only at h
      have ih := Pt.wds_size a m h1
      split at h
      · cases h
      · split at h
        · injection h with h; subst h; exact ih
        · intro x hx
          rcases (togF_mem _ _ _ h x).1 hx with hx | hx
          · exact ih x hx
          · rw [List.mem_singleton.1 hx]; exact Nat.zero_le _
theorem rowW_size : ∀ (r : List Pt) (out w : Wl) (B : Nat), rowW r out = some w → (∀ x ∈ out, x.size ≤ B) → ∀ x ∈ w, x.size ≤ B + 4 * rowCnt r
  | [], out, w, B, h, ho => by rw [rowW] at h; injection h with h; subst h; simpa [rowCnt] using ho
  | p :: t, out, w, B, h, ho => by
    rw [rowW] at h
    simp only [rowCnt]
    cases h1 : p.wds with
    | none => rw [h1] at h; simp only at h; rw [rowN_nil t w h]; simp
    | some m =>
      rw [h1] at h
      cases m with
      | nil => simp only at h; injection h with h; subst h; simp
      | cons y m =>
        simp only at h
        have ih := Pt.wds_size p _ h1
        cases h2 : chF [] out (y :: m) with
        | none => rw [h2] at h; simp only at h; rw [rowN_nil t w h]; simp
        | some o =>
          rw [h2] at h
          simp only at h
          have := rowW_size t o w (B + 4 * p.cnt) h (fun x hx => by
            rcases (chF_mem _ _ _ _ h2 x).1 hx with hx | ⟨a, ha, b, hb, rfl⟩
            · simp at hx
            · rw [size_app]; have := ho a ha; have := ih b hb; omega)
          intro x hx
          have := this x hx
          omega
theorem rowsW_size : ∀ (l : List (List Pt)) (out w : Wl) (B : Nat), rowsW l out = some w → (∀ x ∈ out, x.size ≤ B) → ∀ x ∈ w, x.size ≤ B + 4 * rowsCnt l
  | [], out, w, B, h, ho => by rw [rowsW] at h; injection h with h; subst h; simpa [rowsCnt] using ho
  | r :: t, out, w, B, h, ho => by
    rw [rowsW] at h
    simp only [rowsCnt]
    cases h1 : rowW r [noText] with
    | none => rw [h1] at h; cases h
    | some m =>
      rw [h1] at h
      simp only at h
      have ih := rowW_size r _ m 0 h1 (fun x hx => by rw [List.mem_singleton.1 hx]; exact Nat.le_refl _)
      cases h2 : togF out m with
      | none => rw [h2] at h; cases h
      | some o =>
        rw [h2] at h
        simp only at h
        have := rowsW_size t o w (B + 4 * rowCnt r) h (fun x hx => by
          rcases (togF_mem _ _ _ h2 x).1 hx with hx | hx
          · have := ho x hx; omega
          · have := ih x hx; omega)
        intro x hx
        have := this x hx
        omega
end

end Go.Proofs.Ytndegcgcbhcokaa

/-
  Words: of one spot, of rows, of a group.
-/
namespace Go.Proofs.Ytndegcgcbhcokaa
open Go.RowKit
set_option linter.unusedVariables false
set_option linter.unusedSimpArgs false

def WC (p : Pt) : Prop := ∀ (F : Nat → Prop) (w : World) (v : Value), PtV F w p v → p.fine → p.cnt ≤ 64 → Calls Try.prog 15 #[v] w (WdR w.heap.size none w p.wds)
def RowWC (l : List Pt) : Prop := ∀ (F : Nat → Prop) (w : World) (ad : Option Addr) (c b off : Nat), (l ≠ [] → ad = some ⟨b, off, none⟩ ∧ F b) → RowV F w l b off → rowFine l → rowCnt l ≤ 64 → l.length ≤ 1000 → Calls Try.prog 15 #[.iface 64 (.slice ad l.length c)] w (WdR w.heap.size none w (rowW l [noText]))
def RowsWC (l : List (List Pt)) : Prop := ∀ (F : Nat → Prop) (w : World) (ad : Option Addr) (c b off : Nat), (l ≠ [] → ad = some ⟨b, off, none⟩ ∧ F b) → RowsV F w l b off → rowsFine l → rowsCnt l ≤ 64 → l.length ≤ 1000 → Calls Try.prog 15 #[.iface 45 (.slice ad l.length c)] w (WdR w.heap.size none w (rowsW l []))

theorem WdR.up {w w1 w' : World} {R : Option Wl} {e : Ending} (h : WdR w1.heap.size none w1 R e w') (hb : Below w.heap.size w w1) : WdR w.heap.size none w R e w' := by
  obtain ⟨a', m', c', ok, rfl, hc, hm, h⟩ := h
  have hc2 : Chg (fun b => (none : Option Nat) = some b) w w' := (Chg.of_below hb).trans hc (fun _ _ e => e)
  refine ⟨a', m', c', ok, rfl, hc2, hm, ?_⟩
  rcases h with ⟨rfl, lr, h1, h2, h3, h4⟩ | h
  · refine .inl ⟨rfl, lr, h1, h2, owns_base h3 (fun g hg => ?_), ?_⟩
    · rcases h4 with e | ⟨g', e, hg'⟩
      · rw [e] at hg; cases hg
      · rw [e] at hg; injection hg with hg; have := hb.size; omega
    · rcases h4 with e | ⟨g', e, hg'⟩
      · exact .inl e
      · exact .inr ⟨g', e, Nat.le_trans hb.size hg'⟩
  · exact .inr h
theorem Wr.mono {F G : Nat → Prop} {w : World} {ad : Option Addr} {l : Wl} (h : Wr F w ad l) (hFG : ∀ b, F b → G b) : Wr G w ad l := fun h0 => by
  obtain ⟨b, off, e, hF, hc⟩ := h h0
  exact ⟨b, off, e, hFG b hF, hc⟩

set_option maxRecDepth 100000 in
set_option maxHeartbeats 8000000 in
theorem words_leaf (p : Pt) (hp : ∀ (F : Nat → Prop) (w : World) (v : Value), PtV F w p v → ∃ t u, v = .iface t u ∧ leafT t) (ha : p.wds = spF p.spans []) : WC p := by
  intro F w v hv hfine hcnt
  obtain ⟨t, u, rfl, ht⟩ := hp F w v hv
  have k25 := spans_of F p (.iface t u) w hv hfine ⟨t, u, rfl, ht⟩
  have k1 := fun w => atL_45 ht u w
  have k2 := fun w => atL_64 ht u w
  have k3 := fun w => atL_74 ht u w
  have k4 := fun w => atL_76 ht u w
  rw [ha]
  have HK : Hid (∀ (w2 : World) (tv : Value), TkV (fun b => F b ∨ FW w w2 b) w2 tv p.spans → Below w.heap.size w w2 → Calls Try.prog 24 #[tv] w2 (WdR w.heap.size none w (spF p.spans []))) := hidden (by
    rintro w2 tv ⟨ad, c, rfl, hs, _, hl⟩ hb
    exact (spansWP ad c p.spans w2 hs hl).mono (fun e w' h => h.up hb))
  obtain ⟨R, hR⟩ : ∃ R, spF p.spans [] = R := ⟨_, rfl⟩
  rw [hR] at HK ⊢
  clear hv ht hfine hcnt hR ha hp
  go_enter Try.func15, Try.ntmps15
  go_wp2_with (first
    | (go_at_call 25; refine k25.mono ?_; rintro e w2 ⟨tv, rfl, h1, h2⟩; have kS := HK.out w2 tv h1 h2; clear k25 h1 h2 HK)
    | (go_at_call 24; refine kS.mono ?_; rintro e w3 ⟨a3, m3, c3, ok3, rfl, h3⟩; have H3 := hidden h3; clear kS h3))
  go_ret2
  exact ⟨a3, m3, c3, ok3, rfl, H3.out⟩
theorem words_chr (c : Nat) : WC (.chr c) := words_leaf _ (fun F w v h => by simp only [PtV] at h; exact ⟨95, _, h.1, .inl rfl⟩) (by rw [Pt.wds]; rfl)
theorem words_any : WC .any := words_leaf _ (fun F w v h => by simp only [PtV] at h; exact ⟨97, _, h, .inr (.inl rfl)⟩) (by rw [Pt.wds]; rfl)
theorem words_cls (neg : Bool) (l : Sn) : WC (.cls neg l) := words_leaf _ (fun F w v h => by simp only [PtV] at h; obtain ⟨ad, c, e, _⟩ := h; exact ⟨100, _, e, .inr (.inr rfl)⟩) (by rw [Pt.wds]; rfl)

set_option maxRecDepth 100000 in
set_option maxHeartbeats 8000000 in
theorem rows21 (l : List (List Pt)) (hl : ∀ r ∈ l, RowWC r) (F : Nat → Prop) (w : World) (ad : Option Addr) (c b off : Nat) (hb : l ≠ [] → ad = some ⟨b, off, none⟩ ∧ F b) (hrv : RowsV F w l b off) (hfine : rowsFine l) (hcnt : rowsCnt l ≤ 64) (hn1 : l.length ≤ 1000) :
    Calls Try.prog 21 #[.slice ad l.length c] w (WdR w.heap.size none w (rowsW l [])) := by
  obtain ⟨n, hn⟩ : ∃ n, l.length = n := ⟨_, rfl⟩
  have HN := hidden hn
  have HHL := hidden hl
  have HFI := hidden hfine
  have HCN : Hid (∀ r ∈ l, rowCnt r ≤ 64) := hidden (fun r hr => by
    have key : ∀ l : List (List Pt), r ∈ l → rowCnt r ≤ rowsCnt l := fun l => by
      induction l with
      | nil => intro h; cases h
      | cons x t ih => intro h; rw [rowsCnt]; rcases List.mem_cons.1 h with rfl | h
                       · omega
                       · have := ih h; omega
    have := key l hr
    omega)
  rw [hn] at hn1 ⊢
  obtain ⟨R, hR⟩ : ∃ R, rowsW l [] = R := ⟨_, rfl⟩
  have HR : Hid (rowsW (l.drop 0) [] = R) := hidden (by rw [List.drop_zero]; exact hR)
  rw [hR]
  have HRV := hidden hrv
  have HBF := hidden hb
  clear hb hrv hfine hcnt hl hn hR
  go_enter Try.func21, Try.ntmps21
  go_wp2
  go_loopw [4, 8, 11] (fun s4 _ s11 wx => ∃ (i m cc : Nat) (aa : Option Addr), s4 = .slice aa m cc ∧ s11 = .int .i64 (i : Int) ∧ i ≤ n ∧ m ≤ 16 ∧ Hid (∃ lo : Wl, wx.ownsRow w.heap.size 9 1 (.slice aa m cc) m (sV lo) ∧ rowsW (l.drop i) lo = R ∧ Cm w wx none (Value.slice aa m cc).ownBlock)) (fun _ _ s11 _ => n - (intOf s11).toNat)
  case atStart => exact ⟨0, 0, 0, none, rfl, rfl, by omega, by omega, hidden ⟨[], World.ownsRow_nil _ _ _ _, HR.out, Cm.refl _ _⟩⟩
  case round =>
    rename World => wr
    obtain ⟨i, m, cc, aa, rfl, rfl, hi, hm, hex⟩ := hrel
    obtain ⟨lo, hown, hrel, hcm⟩ := hex.out
    clear hex HR
    by_cases hlt : i < n
    · have hltz : (i : Int) < (n : Int) := by omega
      obtain ⟨x, hx⟩ : ∃ x, l[i]? = some x := ⟨l[i]'(by rw [HN.out]; exact hlt), by simp⟩
      have hxm : x ∈ l := List.mem_of_getElem? hx
      have hl0 : l ≠ [] := by intro e; rw [e] at hx; simp at hx
      obtain ⟨hade, hFb⟩ := HBF.out hl0
      subst hade
      have hkeep := RowsV.keep hcm.chg (fun b hb e => by cases e) l b off (fun _ => hFb) HRV.out
      obtain ⟨ad2, c2, b2', off2, hcell, hx2, hrow⟩ := hkeep.get hx
      obtain ⟨nx, hnx⟩ : ∃ nx, x.length = nx := ⟨_, rfl⟩
      have k15 := HHL.out x hxm F wr ad2 c2 b2' off2 hx2 hrow (rowsFine_at HFI.out hxm).1 (HCN.out x hxm) (rowsFine_at HFI.out hxm).2
      rw [hnx] at k15 hcell
      rw [drop_at hx, rowsW] at hrel
      have HREL := hidden hrel
      have HOWN := hidden hown
      have HCM := hidden hcm
      clear hrel hown hcm hx hxm hl0 hFb hkeep hx2 hrow hnx
      go_upto_region 6 with (go_at_call 15; refine k15.mono ?_; rintro e w2 ⟨a2, m2, c3, ok2, rfl, hc2, hm2, hres⟩; clear k15)
      have hbl : Below wr.heap.size wr w2 := hc2.below (Nat.le_refl _) (fun i e => by cases e)
      have hcm2 : Cm w w2 none (Value.slice aa m cc).ownBlock := ⟨HCM.out.chg.trans hc2 (fun _ _ e => e), HCM.out.mv⟩
      rcases hres with ⟨rfl, lr, hRr, hlr, hor, hmr⟩ | ⟨rfl, hRr, _⟩
      · have hr2 := HREL.out
        rw [hRr] at hr2
        simp only at hr2
        have hown2 := owl HOWN.out hbl
        have k33 := togetherP w.heap.size lo lr aa a2 m cc m2 c3 w2 _ hown2 hm hcm2.chg.size (wr_owns hor) hlr (by omega) (fun b hb => ⟨fun e => by have := owns_lt HOWN.out b e; have := hb.2.1; omega, hb.2.2⟩)
        have HR2 := hidden hr2
        have HCM2 := hidden hcm2
        clear hr2 hown2 hcm2 hbl hc2 hRr hor hmr hlr HREL HOWN HCM
        go_upto_region 9 with (go_at_call 33; refine k33.mono ?_; rintro e w3 ⟨a4, m4, c4, ok4, rfl, hc4, hm4, hres4⟩; clear k33)
        rcases hres4 with ⟨rfl, lt, hRt, hlt2, hot, hmt⟩ | ⟨rfl, hRt, _⟩
        · have HX : Hid (∃ lo : Wl, w3.ownsRow w.heap.size 9 1 (.slice a4 m4 c4) m4 (sV lo) ∧ rowsW (l.drop (i + 1)) lo = R ∧ Cm w w3 none (Value.slice a4 m4 c4).ownBlock) := hidden ⟨lt, hot, by rw [← HR2.out, hRt], HCM2.out.trans ⟨hc4, hmt⟩⟩
          clear hot hmt hRt hc4 HR2 HCM2
          go_wp2
          refine ⟨⟨i + 1, m4, c4, a4, by first | rfl | simp, by first | rfl | simp, by omega, hm4, HX⟩, ?_⟩
          simp [intOf]
          omega
        · have HRN : Hid (R = none) := hidden (by rw [← HR2.out, hRt])
          have HCC := hidden (HCM2.out.chg.trans hc4 (fun i hi e => by
            rcases HCM2.out.mv with e1 | ⟨g, e1, hg⟩
            · rw [e1] at e; exact e
            · rw [e1] at e; injection e with e; omega))
          clear hRt hc4
          go_wp2
          go_ret2
          exact ⟨none, 0, 0, false, rfl, HCC.out, by omega, Or.inr ⟨rfl, HRN.out, rfl⟩⟩
      · have HRN : Hid (R = none) := hidden (by rw [← HREL.out, hRr])
        have HCC := hidden hcm2.chg
        clear hRr hcm2 hbl hc2
        go_wp2
        go_ret2
        exact ⟨none, 0, 0, false, rfl, HCC.out, by omega, Or.inr ⟨rfl, HRN.out, rfl⟩⟩
    · have hltz : ¬ (i : Int) < (n : Int) := by omega
      have hend : l.drop i = [] := List.drop_of_length_le (by rw [HN.out]; omega)
      rw [hend, rowsW] at hrel
      have HREL := hidden hrel
      have HOWN := hidden hown
      have HCM := hidden hcm
      clear hrel hown hcm hend
      go_wp2
      go_ret2
      exact ⟨aa, m, cc, true, rfl, HCM.out.chg, hm, Or.inl ⟨rfl, lo, HREL.out.symm, by have := HOWN.out.1; rw [sV_length] at this; omega, HOWN.out, HCM.out.mv⟩⟩

set_option maxRecDepth 100000 in
set_option maxHeartbeats 8000000 in
theorem words_rows (l : List (List Pt)) (hl : ∀ r ∈ l, RowWC r) : RowsWC l := by
  intro F w ad c b off hb hrv hfine hcnt hn1
  have k21 := rows21 l hl F w ad c b off hb hrv hfine hcnt hn1
  obtain ⟨n, hn⟩ : ∃ n, l.length = n := ⟨_, rfl⟩
  rw [hn] at k21 ⊢
  have k1 := fun w => at45 (.slice ad n c) w
  obtain ⟨R, hR⟩ : ∃ R, rowsW l [] = R := ⟨_, rfl⟩
  rw [hR] at k21 ⊢
  clear hb hrv hfine hcnt hn1 hl hn hR
  go_enter Try.func15, Try.ntmps15
  go_wp2_with (go_at_call 21; refine k21.mono ?_; rintro e w3 ⟨a3, m3, c3, ok3, rfl, h3⟩; have H3 := hidden h3; clear k21 h3)
  go_ret2
  exact ⟨a3, m3, c3, ok3, rfl, H3.out⟩

set_option maxRecDepth 100000 in
set_option maxHeartbeats 8000000 in
theorem words_grp (l : List (List Pt)) (hl : RowsWC l) : WC (.grp l) := by
  intro F w v hv hfine hcnt
  simp only [PtV] at hv
  obtain ⟨ad, c, b, off, rfl, hb, hrv⟩ := hv
  simp only [Pt.cnt] at hcnt
  simp only [Pt.fine] at hfine
  rw [Pt.wds]
  obtain ⟨n, hn⟩ : ∃ n, l.length = n := ⟨_, rfl⟩
  have hal : Below w.heap.size w (w.alloc (.cells #[.slice ad n c] 74)) := (Below.refl _ w).alloc (Nat.le_refl _) _
  have k15 := (hl F (w.alloc (.cells #[.slice ad n c] 74)) ad c b off hb (RowsV.keep (Chg.of_below (F := fun _ => False) hal) (fun _ _ h => h) l b off (fun h0 => (hb h0).2) hrv) hfine.1 hcnt hfine.2).mono (fun e w' h => h.up hal)
  rw [hn] at k15 ⊢
  have k1 := fun w => at74_45 (.agg #[.slice ad n c]) w
  have k2 := fun w => at74_64 (.agg #[.slice ad n c]) w
  have k3 := fun w => at74 (.agg #[.slice ad n c]) w
  obtain ⟨R, hR⟩ : ∃ R, rowsW l [] = R := ⟨_, rfl⟩
  rw [hR] at k15 ⊢
  clear hb hrv hfine hcnt hl hn hR hal
  go_enter Try.func15, Try.ntmps15
  go_wp2_with (go_at_call 15; refine k15.mono ?_; rintro e w3 ⟨a3, m3, c3, ok3, rfl, h3⟩; have H3 := hidden h3; clear k15 h3)
  go_ret2
  exact ⟨a3, m3, c3, ok3, rfl, H3.out⟩

end Go.Proofs.Ytndegcgcbhcokaa

/-
  Words: of a row, of a repetition; Words.
-/
namespace Go.Proofs.Ytndegcgcbhcokaa
open Go.RowKit
set_option linter.unusedVariables false
set_option linter.unusedSimpArgs false

/-- A list of one text, new. -/
theorem owns_new (w : World) (x : ByteArray) : (w.alloc (.cells #[.string x] 9)).ownsRow w.heap.size 9 1 (.slice (some ⟨w.heap.size, 0, none⟩) 1 1) 1 (sV [x]) := by
  refine ⟨rfl, .inr ⟨w.heap.size, 1, #[.string x], rfl, Nat.le_refl _, ?_, Nat.le_refl _, by unfold maxLen; omega, rfl, rfl⟩⟩
  exact Blk.new w 9 [.string x]

/-- What is held in a round of a row. -/
def RS (w wx : World) (R : Option Wl) (t : List Pt) (i : Nat) (few : Bool) (aa : Option Addr) (m cc : Nat) : Prop :=
  Below w.heap.size w wx ∧ (few = true → ∃ lo : Wl, wx.ownsRow w.heap.size 9 1 (.slice aa m cc) m (sV lo) ∧ rowW t lo = R ∧ (∀ x ∈ lo, x.size ≤ 256 * i) ∧ m ≤ 16) ∧ (few = false → rowN t = R)

set_option maxRecDepth 100000 in
set_option maxHeartbeats 8000000 in
theorem row22 (l : List Pt) (hl : ∀ p ∈ l, WC p) (F : Nat → Prop) (w : World) (ad : Option Addr) (c b off : Nat) (hb : l ≠ [] → ad = some ⟨b, off, none⟩ ∧ F b) (hrv : RowV F w l b off) (hfine : rowFine l) (hcnt : rowCnt l ≤ 64) (hn1 : l.length ≤ 1000) :
    Calls Try.prog 22 #[.slice ad l.length c] w (WdR w.heap.size none w (rowW l [noText])) := by
  obtain ⟨n, hn⟩ : ∃ n, l.length = n := ⟨_, rfl⟩
  have HN := hidden hn
  have HHL := hidden hl
  have HFI := hidden hfine
  have HCN : Hid (∀ r ∈ l, r.cnt ≤ 64) := hidden (fun r hr => by
    have key : ∀ l : List Pt, r ∈ l → r.cnt ≤ rowCnt l := fun l => by
      induction l with
      | nil => intro h; cases h
      | cons x t ih => intro h; rw [rowCnt]; rcases List.mem_cons.1 h with rfl | h
                       · omega
                       · have := ih h; omega
    have := key l hr
    omega)
  rw [hn] at hn1 ⊢
  obtain ⟨R, hR⟩ : ∃ R, rowW l [noText] = R := ⟨_, rfl⟩
  have hal : Below w.heap.size w (w.alloc (.cells #[.string noText] 9)) := (Below.refl _ w).alloc (Nat.le_refl _) _
  have HST : Hid (RS w (w.alloc (.cells #[.string noText] 9)) R (l.drop 0) 0 true (some ⟨w.heap.size, 0, none⟩) 1 1) := hidden ⟨hal, fun _ => ⟨[noText], owns_new w noText, by rw [List.drop_zero]; exact hR, (fun x hx => by rw [List.mem_singleton.1 hx]; exact Nat.le_refl _), by omega⟩, (fun h => by cases h)⟩
  rw [hR]
  have HRV := hidden hrv
  have HBF := hidden hb
  clear hb hrv hfine hcnt hl hn hR hal
  go_enter Try.func22, Try.ntmps22
  go_wp2
  go_loopw [4, 5, 13] (fun s4 s5 s13 wx => ∃ (i m cc : Nat) (aa : Option Addr) (few : Bool), s4 = .slice aa m cc ∧ s5 = .bool few ∧ s13 = .int .i64 (i : Int) ∧ i ≤ n ∧ Hid (RS w wx R (l.drop i) i few aa m cc)) (fun _ _ s13 _ => n - (intOf s13).toNat)
  case atStart => exact ⟨0, 1, 1, _, true, rfl, rfl, rfl, by omega, HST⟩
  case round =>
    rename World => wr
    obtain ⟨i, m, cc, aa, few, rfl, rfl, rfl, hi, hex⟩ := hrel
    clear HST
    by_cases hlt : i < n
    · have hltz : (i : Int) < (n : Int) := by omega
      obtain ⟨x, hx⟩ : ∃ x, l[i]? = some x := ⟨l[i]'(by rw [HN.out]; exact hlt), by simp⟩
      have hxm : x ∈ l := List.mem_of_getElem? hx
      have hl0 : l ≠ [] := by intro e; rw [e] at hx; simp at hx
      obtain ⟨hade, hFb⟩ := HBF.out hl0
      subst hade
      have hkeep := RowV.keep (Chg.of_below (F := fun _ => False) hex.out.1) (fun _ _ h => h) l b off (fun _ => hFb) HRV.out
      obtain ⟨xv, hcell, hpx⟩ := hkeep.get hx
      obtain ⟨tx, ux, rfl⟩ := hpx.form
      have k15 := HHL.out x hxm F wr _ hpx (rowFine_at HFI.out hxm) (HCN.out x hxm)
      have hsz := Pt.wds_size x
      have hxc := HCN.out x hxm
      have HDR := hidden (drop_at hx)
      clear hx hxm hl0 hFb hkeep hpx
      go_upto_region 6 with (go_at_call 15; refine k15.mono ?_; rintro e w2 ⟨a2, m2, c3, ok2, rfl, hc2, hm2, hres⟩; clear k15)
      have hbl : Below wr.heap.size wr w2 := hc2.below (Nat.le_refl _) (fun i e => by cases e)
      have hbl2 : Below w.heap.size w w2 := hex.out.1.trans (hbl.mono hex.out.1.size)
      have HB2 := hidden hbl2
      have hwn : Chg (fun b => (none : Option Nat) = some b) w w2 := Chg.of_below hbl2
      have HWN := hidden hwn
      rcases hres with ⟨rfl, lr, hRr, hlr, hor, hmr⟩ | ⟨rfl, hRr, _⟩
      · cases lr with
        | nil =>
          have hm0 : m2 = 0 := by rw [← hlr]; rfl
          have hm0z : (m2 : Int) = 0 := by omega
          have hm0y : ((m2 : Int) == 0) = true := by simp [hm0z]
          have HRE : Hid (R = some []) := hidden (by
            obtain ⟨_, h1, h2⟩ := hex.out
            cases few with
            | true => obtain ⟨lo, _, h3, _⟩ := h1 rfl; rw [HDR.out, rowW, hRr] at h3; exact h3.symm
            | false => have h3 := h2 rfl; rw [HDR.out, rowN, hRr] at h3; exact h3.symm)
          clear hRr hlr hor hmr hc2 hbl hbl2 hwn
          go_wp2
          go_ret2
          exact ⟨none, 0, 0, true, rfl, HWN.out, by omega, Or.inl ⟨rfl, [], HRE.out, rfl, World.ownsRow_nil _ _ _ _, .inl rfl⟩⟩
        | cons y lr =>
          have hm0 : m2 ≠ 0 := by rw [← hlr]; simp
          have hm0z : ¬ (m2 : Int) = 0 := by omega
          have hm0y : ((m2 : Int) == 0) = false := by simp; omega
          cases few with
          | true =>
            obtain ⟨lo, ho1, h3, h4, h5⟩ := hex.out.2.1 rfl
            rw [HDR.out, rowW, hRr] at h3
            simp only at h3
            have k34 := chainedP lo (y :: lr) aa a2 m cc m2 c3 w2 (fun _ => True) ((wr_owns (owl ho1 hbl)).mono (fun _ _ => trivial)) (by have := ho1.1; rw [sV_length] at this; omega) ((wr_owns hor).mono (fun _ _ => trivial)) hlr (by omega) (by omega) (fun x hx => by have := h4 x hx; omega) (fun z hz => by have := hsz _ hRr z hz; omega)
            have k34' := k34.mono (fun e w' h => WdR.up h hbl2)
            have hsz2 : ∀ o, chF [] lo (y :: lr) = some o → ∀ x ∈ o, x.size ≤ 256 * (i + 1) := fun o ho x hx => by
              rcases (chF_mem _ _ _ _ ho x).1 hx with hx | ⟨a, ha, z, hz, rfl⟩
              · simp at hx
              · rw [size_app]; have := h4 a ha; have := hsz _ hRr z hz; omega
            have HSZ2 := hidden hsz2
            have H3 := hidden h3
            clear k34 hsz2 h3 h4 ho1 hRr hlr hor hmr hc2 hbl hbl2 hwn hsz
            go_upto_region 11 with (go_at_call 34; refine k34'.mono ?_; rintro e w3 ⟨a4, m4, c4, ok4, rfl, hc4, hm4, hres4⟩; clear k34')
            have hb4 : Below w.heap.size w w3 := hc4.below (Nat.le_refl _) (fun i e => by cases e)
            have HX : Hid (RS w w3 R (l.drop (i + 1)) (i + 1) ok4 a4 m4 c4) := hidden (by
              refine ⟨hb4, fun hk => ?_, fun hk => ?_⟩
              · rcases hres4 with ⟨_, lt, hRt, hlt2, hot, hmt⟩ | ⟨hf, _⟩
                · exact ⟨lt, hot, by have := H3.out; rw [hRt] at this; exact this, HSZ2.out lt hRt, hm4⟩
                · rw [hf] at hk; cases hk
              · rcases hres4 with ⟨hf, _⟩ | ⟨_, hRt, _⟩
                · rw [hf] at hk; cases hk
                · have := H3.out; rw [hRt] at this; exact this)
            clear hres4 hc4 hb4 H3 HSZ2
            go_wp2
            refine ⟨⟨i + 1, m4, c4, a4, ok4, by first | rfl | simp, by first | rfl | simp, by first | rfl | simp, by omega, HX⟩, ?_⟩
            simp [intOf]
            omega
          | false =>
            have HX : Hid (RS w w2 R (l.drop (i + 1)) (i + 1) false aa m cc) := hidden ⟨hbl2, (fun h => by cases h), fun _ => by have h3 := hex.out.2.2 rfl; rw [HDR.out, rowN, hRr] at h3; exact h3⟩
            clear hRr hlr hor hmr hc2 hbl hbl2 hwn hsz
            go_wp2
            refine ⟨⟨i + 1, m, cc, aa, false, by first | rfl | simp, by first | rfl | simp, by first | rfl | simp, by omega, HX⟩, ?_⟩
            simp [intOf]
            omega
      · have HX : Hid (RS w w2 R (l.drop (i + 1)) (i + 1) false aa m cc) := hidden (by
          refine ⟨hbl2, fun h => (by cases h), fun _ => ?_⟩
          obtain ⟨_, h1, h2⟩ := hex.out
          cases few with
          | true => obtain ⟨lo, _, h3, _⟩ := h1 rfl; rw [HDR.out, rowW, hRr] at h3; exact h3
          | false => have h3 := h2 rfl; rw [HDR.out, rowN, hRr] at h3; exact h3)
        clear hRr hc2 hbl hbl2 hwn hsz
        cases few
        all_goals
          go_wp2
          refine ⟨⟨i + 1, m, cc, aa, false, by first | rfl | simp, by first | rfl | simp, by first | rfl | simp, by omega, HX⟩, ?_⟩
          simp [intOf]
          omega
    · have hltz : ¬ (i : Int) < (n : Int) := by omega
      have hend : l.drop i = [] := List.drop_of_length_le (by rw [HN.out]; omega)
      obtain ⟨hbel, h1, h2⟩ := hex.out
      have HWN : Hid (Chg (fun b => (none : Option Nat) = some b) w wr) := hidden (Chg.of_below hbel)
      cases few with
      | true =>
        obtain ⟨lo, ho1, h3, _, hm⟩ := h1 rfl
        rw [hend, rowW] at h3
        have HREL := hidden h3
        have HOWN := hidden ho1
        clear h1 h2 h3 ho1 hend hex hbel
        go_wp2
        go_ret2
        refine ⟨aa, m, cc, true, rfl, HWN.out, hm, Or.inl ⟨rfl, lo, HREL.out.symm, by have := HOWN.out.1; rw [sV_length] at this; omega, HOWN.out, ?_⟩⟩
        cases hob : (Value.slice aa m cc).ownBlock with
        | none => exact .inl rfl
        | some g => exact .inr ⟨g, rfl, (HOWN.out.lt g hob).1⟩
      | false =>
        have h3 := h2 rfl
        rw [hend, rowN] at h3
        have HREL := hidden h3
        clear h1 h2 h3 hend hex hbel
        go_wp2
        go_ret2
        exact ⟨none, 0, 0, false, rfl, HWN.out, by omega, Or.inr ⟨rfl, HREL.out.symm, rfl⟩⟩

set_option maxRecDepth 100000 in
set_option maxHeartbeats 8000000 in
theorem words_row (l : List Pt) (hl : ∀ p ∈ l, WC p) : RowWC l := by
  intro F w ad c b off hb hrv hfine hcnt hn1
  have k22 := row22 l hl F w ad c b off hb hrv hfine hcnt hn1
  obtain ⟨n, hn⟩ : ∃ n, l.length = n := ⟨_, rfl⟩
  rw [hn] at k22 ⊢
  have k1 := fun w => at64_45 (.slice ad n c) w
  have k2 := fun w => at64 (.slice ad n c) w
  obtain ⟨R, hR⟩ : ∃ R, rowW l [noText] = R := ⟨_, rfl⟩
  rw [hR] at k22 ⊢
  clear hb hrv hfine hcnt hn1 hl hn hR
  go_enter Try.func15, Try.ntmps15
  go_wp2_with (go_at_call 22; refine k22.mono ?_; rintro e w3 ⟨a3, m3, c3, ok3, rfl, h3⟩; have H3 := hidden h3; clear k22 h3)
  go_ret2
  exact ⟨a3, m3, c3, ok3, rfl, H3.out⟩

end Go.Proofs.Ytndegcgcbhcokaa
