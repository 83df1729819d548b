import Derived.Test.YtanlgplgplncdaaGreatDoorQaB
import Derived.Test.YtanlgplgplncdaaGreatDoorPtT
/-
  The document's nodes in memory: their blocks lie in F.
-/
namespace Go.Proofs.YtanlgplgplncdaaGreatDoor
open Go.RowKit
set_option linter.unusedVariables false
set_option linter.unusedSimpArgs false

/-- A node's six cells. -/
def nV (K : Nat) (A : Nat) (N : Bool) (G : Nat) (r s : Value) : List Value := [.int .i64 (K : Int), .int .i32 (A : Int), .bool N, .int .u8 (G : Int), r, s]
def sN : Value := .slice none 0 0
/-- Cells from a place on. -/
def Cs (w : World) (b off : Nat) (u : List Value) : Prop := ∀ (j : Nat) (x : Value), u[j]? = some x → w.cell? ⟨b, off + j, none⟩ = some x
theorem Cs.keep {G : Nat → Prop} {w w' : World} {b off : Nat} {u : List Value} (h : Cs w b off u) (hc : Chg G w w') (hb : ¬ G b) : Cs w' b off u := fun j x hx => by
  have := h j x hx
  rw [World.cell?_of_block (hc.block b (cell_lt this) hb)]
  exact this
/-- A class's ranges as they were read; tidied they are l. -/
def RgV (F : Nat → Prop) (w : World) (neg : Bool) (l : Sn) (v : List Value) : Prop := ∃ ad c raw, v = nV 3 0 neg 0 (.slice ad raw.length c) sN ∧ Ss w ad raw ∧ (∀ y, raw ≠ [] → ad = some y → F y.block) ∧ raw.foldl withS [] = l ∧ (∀ o ∈ raw, o.1 ≤ o.2 ∧ Vc o.1 ∧ Vc o.2) ∧ raw ≠ [] ∧ raw.length ≤ 1000
theorem RgV.keep {F G : Nat → Prop} {w w' : World} {v : List Value} {neg : Bool} {l : Sn} (h : RgV F w neg l v) (hc : Chg G w w') (hd : ∀ b, F b → ¬ G b) : RgV F w' neg l v := by
  obtain ⟨ad, c, raw, e, hs, hf, hr⟩ := h
  refine ⟨ad, c, raw, e, ⟨hs.sz, fun h0 => ?_⟩, hf, hr⟩
  obtain ⟨b, off, e1, hlt, hcell⟩ := hs.at' h0
  have hbk := hc.block b hlt (hd b (hf _ h0 e1))
  refine ⟨b, off, e1, Nat.lt_of_lt_of_le hlt hc.size, fun k x hx => ?_⟩
  rw [show w'.cell? ⟨b, off + k * 2, none⟩ = w.cell? ⟨b, off + k * 2, none⟩ from World.cell?_of_block hbk, show w'.cell? ⟨b, off + k * 2 + 1, none⟩ = w.cell? ⟨b, off + k * 2 + 1, none⟩ from World.cell?_of_block hbk]
  exact hcell k x hx
theorem RgV.mono {F G : Nat → Prop} {w : World} {v : List Value} {neg : Bool} {l : Sn} (h : RgV F w neg l v) (hFG : ∀ b, F b → G b) : RgV G w neg l v := by
  obtain ⟨ad, c, raw, e, hs, hf, hr⟩ := h
  exact ⟨ad, c, raw, e, hs, fun y h0 e => hFG _ (hf y h0 e), hr⟩

mutual
/-- A part, as a node. -/
def NdV (F : Nat → Prop) (w : World) : Pt → List Value → Prop
  | .chr c, v => v = nV 1 c false 0 sN sN ∧ Vc c
  | .any, v => v = nV 2 0 false 0 sN sN
  | .cls neg l, v => RgV F w neg l v
  | .grp l, v => ∃ b off c ad c2 b2 off2, v = nV 4 0 false 0 sN (.slice (some ⟨b, off, none⟩) 1 c) ∧ F b ∧ Cs w b off (nV 7 0 false 0 sN (.slice ad l.length c2)) ∧ (l ≠ [] → ad = some ⟨b2, off2, none⟩ ∧ F b2) ∧ RwsV F w l b2 off2
  | .rep a s, v => ∃ b off c u, v = nV 5 0 false s sN (.slice (some ⟨b, off, none⟩) 1 c) ∧ F b ∧ Cs w b off u ∧ NdV F w a u
/-- Items from a place on. -/
def NdsV (F : Nat → Prop) (w : World) : List Pt → Nat → Nat → Prop
  | [], _, _ => True
  | p :: t, b, off => (∃ u, Cs w b off u ∧ NdV F w p u) ∧ NdsV F w t b (off + 6)
/-- Rows from a place on. -/
def RwsV (F : Nat → Prop) (w : World) : List (List Pt) → Nat → Nat → Prop
  | [], _, _ => True
  | r :: t, b, off => (∃ ad c b' off', Cs w b off (nV 6 0 false 0 sN (.slice ad r.length c)) ∧ (r ≠ [] → ad = some ⟨b', off', none⟩ ∧ F b') ∧ NdsV F w r b' off') ∧ RwsV F w t b (off + 6)
end
/-- A row, as a node; rows, as a node. -/
def RwV (F : Nat → Prop) (w : World) (r : List Pt) (v : List Value) : Prop := ∃ ad c b off, v = nV 6 0 false 0 sN (.slice ad r.length c) ∧ (r ≠ [] → ad = some ⟨b, off, none⟩ ∧ F b) ∧ NdsV F w r b off
def AnV (F : Nat → Prop) (w : World) (l : List (List Pt)) (v : List Value) : Prop := ∃ ad c b off, v = nV 7 0 false 0 sN (.slice ad l.length c) ∧ (l ≠ [] → ad = some ⟨b, off, none⟩ ∧ F b) ∧ RwsV F w l b off

mutual
theorem NdV.keep {F G : Nat → Prop} {w w' : World} (hc : Chg G w w') (hd : ∀ b, F b → ¬ G b) : ∀ (p : Pt) (v : List Value), NdV F w p v → NdV F w' p v
  | .chr c, v, h => by simp only [NdV] at h ⊢; exact h
  | .any, v, h => by simp only [NdV] at h ⊢; exact h
  | .cls neg l, v, h => by simp only [NdV] at h ⊢; exact h.keep hc hd
  | .grp l, v, h => by
    simp only [NdV] at h ⊢
    obtain ⟨b, off, c, ad, c2, b2, off2, e, h1, h2, h3, h4⟩ := h
    exact ⟨b, off, c, ad, c2, b2, off2, e, h1, h2.keep hc (hd b h1), h3, RwsV.keep hc hd l b2 off2 (fun h0 => (h3 h0).2) h4⟩
  | .rep a s, v, h => by
    simp only [NdV] at h ⊢
    obtain ⟨b, off, c, u, e, h1, h2, h3⟩ := h
    exact ⟨b, off, c, u, e, h1, h2.keep hc (hd b h1), NdV.keep hc hd a u h3⟩
theorem NdsV.keep {F G : Nat → Prop} {w w' : World} (hc : Chg G w w') (hd : ∀ b, F b → ¬ G b) : ∀ (l : List Pt) (b off : Nat), (l ≠ [] → F b) → NdsV F w l b off → NdsV F w' l b off
  | [], b, off, _, h => by simp only [NdsV]
  | p :: t, b, off, hF, h => by
    simp only [NdsV] at h ⊢
    obtain ⟨⟨v, h1, h2⟩, h3⟩ := h
    have hFb := hF (by simp)
    exact ⟨⟨v, h1.keep hc (hd b hFb), NdV.keep hc hd p v h2⟩, NdsV.keep hc hd t b (off + 6) (fun _ => hFb) h3⟩
theorem RwsV.keep {F G : Nat → Prop} {w w' : World} (hc : Chg G w w') (hd : ∀ b, F b → ¬ G b) : ∀ (l : List (List Pt)) (b off : Nat), (l ≠ [] → F b) → RwsV F w l b off → RwsV F w' l b off
  | [], b, off, _, h => by simp only [RwsV]
  | r :: t, b, off, hF, h => by
    simp only [RwsV] at h ⊢
    obtain ⟨⟨ad, c, b', off', h1, h2, h3⟩, h4⟩ := h
    have hFb := hF (by simp)
    exact ⟨⟨ad, c, b', off', h1.keep hc (hd b hFb), h2, NdsV.keep hc hd r b' off' (fun h0 => (h2 h0).2) h3⟩, RwsV.keep hc hd t b (off + 6) (fun _ => hFb) h4⟩
end
mutual
theorem NdV.mono {F G : Nat → Prop} {w : World} (hFG : ∀ b, F b → G b) : ∀ (p : Pt) (v : List Value), NdV F w p v → NdV G w p v
  | .chr c, v, h => by simp only [NdV] at h ⊢; exact h
  | .any, v, h => by simp only [NdV] at h ⊢; exact h
  | .cls neg l, v, h => by simp only [NdV] at h ⊢; exact h.mono hFG
  | .grp l, v, h => by
    simp only [NdV] at h ⊢
    obtain ⟨b, off, c, ad, c2, b2, off2, e, h1, h2, h3, h4⟩ := h
    exact ⟨b, off, c, ad, c2, b2, off2, e, hFG _ h1, h2, fun h0 => ⟨(h3 h0).1, hFG _ (h3 h0).2⟩, RwsV.mono hFG l b2 off2 h4⟩
  | .rep a s, v, h => by
    simp only [NdV] at h ⊢
    obtain ⟨b, off, c, u, e, h1, h2, h3⟩ := h
    exact ⟨b, off, c, u, e, hFG _ h1, h2, NdV.mono hFG a u h3⟩
theorem NdsV.mono {F G : Nat → Prop} {w : World} (hFG : ∀ b, F b → G b) : ∀ (l : List Pt) (b off : Nat), NdsV F w l b off → NdsV G w l b off
  | [], b, off, h => by simp only [NdsV]
  | p :: t, b, off, h => by
    simp only [NdsV] at h ⊢
    obtain ⟨⟨v, h1, h2⟩, h3⟩ := h
    exact ⟨⟨v, h1, NdV.mono hFG p v h2⟩, NdsV.mono hFG t b (off + 6) h3⟩
theorem RwsV.mono {F G : Nat → Prop} {w : World} (hFG : ∀ b, F b → G b) : ∀ (l : List (List Pt)) (b off : Nat), RwsV F w l b off → RwsV G w l b off
  | [], b, off, h => by simp only [RwsV]
  | r :: t, b, off, h => by
    simp only [RwsV] at h ⊢
    obtain ⟨⟨ad, c, b', off', h1, h2, h3⟩, h4⟩ := h
    exact ⟨⟨ad, c, b', off', h1, fun h0 => ⟨(h2 h0).1, hFG _ (h2 h0).2⟩, NdsV.mono hFG r b' off' h3⟩, RwsV.mono hFG t b (off + 6) h4⟩
end
theorem RwV.keep {F G : Nat → Prop} {w w' : World} {r : List Pt} {v : List Value} (h : RwV F w r v) (hc : Chg G w w') (hd : ∀ b, F b → ¬ G b) : RwV F w' r v := by
  obtain ⟨ad, c, b, off, e, h1, h2⟩ := h
  exact ⟨ad, c, b, off, e, h1, NdsV.keep hc hd r b off (fun h0 => (h1 h0).2) h2⟩
theorem RwV.mono {F G : Nat → Prop} {w : World} {r : List Pt} {v : List Value} (h : RwV F w r v) (hFG : ∀ b, F b → G b) : RwV G w r v := by
  obtain ⟨ad, c, b, off, e, h1, h2⟩ := h
  exact ⟨ad, c, b, off, e, fun h0 => ⟨(h1 h0).1, hFG _ (h1 h0).2⟩, NdsV.mono hFG r b off h2⟩
theorem AnV.keep {F G : Nat → Prop} {w w' : World} {l : List (List Pt)} {v : List Value} (h : AnV F w l v) (hc : Chg G w w') (hd : ∀ b, F b → ¬ G b) : AnV F w' l v := by
  obtain ⟨ad, c, b, off, e, h1, h2⟩ := h
  exact ⟨ad, c, b, off, e, h1, RwsV.keep hc hd l b off (fun h0 => (h1 h0).2) h2⟩
theorem AnV.mono {F G : Nat → Prop} {w : World} {l : List (List Pt)} {v : List Value} (h : AnV F w l v) (hFG : ∀ b, F b → G b) : AnV G w l v := by
  obtain ⟨ad, c, b, off, e, h1, h2⟩ := h
  exact ⟨ad, c, b, off, e, fun h0 => ⟨(h1 h0).1, hFG _ (h1 h0).2⟩, RwsV.mono hFG l b off h2⟩

/-- A node's shape, whatever it means. -/
def Sh (u : List Value) : Prop := ∃ K A N G ad n c ad2 n2 c2, u = nV K A N G (.slice ad n c) (.slice ad2 n2 c2)
theorem Sh.one {u : List Value} (h : Sh u) : u.length = 6 ∧ ∀ v ∈ u, v.oneCell' = true := by
  obtain ⟨K, A, N, G, ad, n, c, ad2, n2, c2, rfl⟩ := h
  refine ⟨rfl, fun v hv => ?_⟩
  simp [nV] at hv
  rcases hv with rfl | rfl | rfl | rfl | rfl | rfl <;> rfl
theorem NdV.sh {F : Nat → Prop} {w : World} : ∀ {p : Pt} {v : List Value}, NdV F w p v → Sh v
  | .chr c, v, h => by simp only [NdV] at h; exact ⟨1, c, false, 0, none, 0, 0, none, 0, 0, h.1⟩
  | .any, v, h => by simp only [NdV] at h; exact ⟨2, 0, false, 0, none, 0, 0, none, 0, 0, h⟩
  | .cls neg l, v, h => by simp only [NdV] at h; obtain ⟨ad, c, raw, e, _⟩ := h; exact ⟨3, 0, neg, 0, ad, raw.length, c, none, 0, 0, e⟩
  | .grp l, v, h => by simp only [NdV] at h; obtain ⟨b, off, c, ad, c2, b2, off2, e, _⟩ := h; exact ⟨4, 0, false, 0, none, 0, 0, _, 1, c, e⟩
  | .rep a s, v, h => by simp only [NdV] at h; obtain ⟨b, off, c, u, e, _⟩ := h; exact ⟨5, 0, false, s, none, 0, 0, _, 1, c, e⟩
theorem RwV.sh {F : Nat → Prop} {w : World} {r : List Pt} {v : List Value} (h : RwV F w r v) : Sh v := by
  obtain ⟨ad, c, b, off, e, _⟩ := h; exact ⟨6, 0, false, 0, none, 0, 0, ad, _, c, e⟩
theorem AnV.sh {F : Nat → Prop} {w : World} {l : List (List Pt)} {v : List Value} (h : AnV F w l v) : Sh v := by
  obtain ⟨ad, c, b, off, e, _⟩ := h; exact ⟨7, 0, false, 0, none, 0, 0, ad, _, c, e⟩

theorem info70n : (Tryz.prog.info? 123).map (fun i => (i.zero, i.size, i.bytes)) = some (some (.agg (nV 0 0 false 0 sN sN).toArray), 6, 64) := by kernel_rfl

/-- A node's blocks, of a list that grows: pieces of six cells. -/
def cN (us : List (List Value)) : List Value := us.flatten
theorem cN_get : ∀ (us : List (List Value)), (∀ u ∈ us, u.length = 6) → ∀ (i : Nat) (u : List Value), us[i]? = some u → ∀ (j : Nat) (x : Value), u[j]? = some x → (cN us)[i * 6 + j]? = some x
  | [], _, i, u, h, j, x, hx => by simp at h
  | v :: t, hl, 0, u, h, j, x, hx => by
    simp at h
    subst h
    have hj := (List.getElem?_eq_some_iff.1 hx).1
    simp only [cN, List.flatten_cons, Nat.zero_mul, Nat.zero_add]
    rw [List.getElem?_append_left hj]
    exact hx
  | v :: t, hl, i + 1, u, h, j, x, hx => by
    have h6 := hl v (by simp)
    simp only [cN, List.flatten_cons]
    rw [List.getElem?_append_right (by omega), h6, show (i + 1) * 6 + j - 6 = i * 6 + j by omega]
    exact cN_get t (fun u hu => hl u (by simp [hu])) i u (by simpa using h) j x hx
theorem nds_of {F : Nat → Prop} {w : World} {b : Nat} : ∀ (l : List Pt) (us : List (List Value)) (off : Nat), l.length = us.length → (∀ (i : Nat) (u : List Value), us[i]? = some u → Cs w b (off + i * 6) u) → (∀ (i : Nat) (p : Pt) (u : List Value), l[i]? = some p → us[i]? = some u → NdV F w p u) → NdsV F w l b off
  | [], us, off, _, _, _ => by simp only [NdsV]
  | p :: t, [], off, h, _, _ => by simp at h
  | p :: t, u :: us, off, h, h1, h2 => by
    simp only [NdsV]
    refine ⟨⟨u, by simpa using h1 0 u rfl, h2 0 p u rfl rfl⟩, nds_of t us (off + 6) (by simpa using h) (fun i u hu => ?_) (fun i p u hp hu => h2 (i + 1) p u (by simpa using hp) (by simpa using hu))⟩
    have := h1 (i + 1) u (by simpa using hu)
    rw [show off + 6 + i * 6 = off + (i + 1) * 6 by omega]
    exact this
theorem rws_of {F : Nat → Prop} {w : World} {b : Nat} : ∀ (l : List (List Pt)) (us : List (List Value)) (off : Nat), l.length = us.length → (∀ (i : Nat) (u : List Value), us[i]? = some u → Cs w b (off + i * 6) u) → (∀ (i : Nat) (p : List Pt) (u : List Value), l[i]? = some p → us[i]? = some u → RwV F w p u) → RwsV F w l b off
  | [], us, off, _, _, _ => by simp only [RwsV]
  | p :: t, [], off, h, _, _ => by simp at h
  | p :: t, u :: us, off, h, h1, h2 => by
    simp only [RwsV]
    obtain ⟨ad, c, b', off', e, k1, k2⟩ := h2 0 p u rfl rfl
    subst e
    refine ⟨⟨ad, c, b', off', by simpa using h1 0 _ rfl, k1, k2⟩, rws_of t us (off + 6) (by simpa using h) (fun i u hu => ?_) (fun i p u hp hu => h2 (i + 1) p u (by simpa using hp) (by simpa using hu))⟩
    have := h1 (i + 1) u (by simpa using hu)
    rw [show off + 6 + i * 6 = off + (i + 1) * 6 by omega]
    exact this

end Go.Proofs.YtanlgplgplncdaaGreatDoor

/-
  A node behind a row of nodes (six cells); a result that is a node.
-/
namespace Go.Proofs.YtanlgplgplncdaaGreatDoor
open Go.RowKit
set_option linter.unusedVariables false
set_option linter.unusedSimpArgs false

theorem run_push6 {P : Program} (w : World) (t ty e : TypeId) (i : TypeInfo) (z : Value) (bytes : Nat) (ht : P.underlying t = some (.slice e)) (hi : P.info? e = some i) (hz : i.zero = some z)
    (hsize : i.size = 6) (hby : i.bytes = bytes) (hzs : z.cells.size = 6) (base : Nat) (v : Value) (n : Nat) (xs : List Value) (hown : w.ownsRow base e 6 v n xs)
    (ad : Addr) (news : List Value) (hl : news.length = 6) (hnews : ∀ j u, news[j]? = some u → w.cell? (ad.add j) = some u) (hone : ∀ x ∈ news, x.oneCell' = true) (h63 : n + 1 ≤ maxLen) (hbytes : (n + 1) * bytes ≤ 140737488355328) (hbase : base ≤ w.heap.size) :
    ∃ g' c' w', (Builtin.append_ #[t, t] ty #[v, .slice (some ad) 1 1]).run P w = .ok (.slice (some ⟨g', 0, none⟩) (n + 1) c') w' ∧
      w'.ownsRow base e 6 (.slice (some ⟨g', 0, none⟩) (n + 1) c') (n + 1) (xs ++ news) ∧ Pushed w w' v g' := by
  rcases hown.2 with ⟨rfl, rfl⟩ | ⟨g, cap, cur, rfl, hbg, hg, hnc, hcm, hcs, htake⟩
  · have hxs : xs = [] := List.eq_nil_of_length_eq_zero (by simpa using hown.1)
    subst hxs
    obtain ⟨v', w', hr, ho, hgr, hiff⟩ := run_append_own (P := P) w w.heap.size t ty e i z 6 bytes ht hi hz hsize hby hzs (by omega) (.slice none 0 0) 0 [] (World.ownsRow_nil _ _ _ _) ad 1 1 news (by omega) hnews hone h63 hbytes (Nat.le_refl _)
    rcases ho.2 with ⟨_, h0⟩ | ⟨g', c', cur', rfl, hb', hh, hrest⟩
    · omega
    · exact ⟨g', c', w', by simpa using hr, ⟨by simp [hl], .inr ⟨g', c', cur', rfl, by omega, hh, by simpa using hrest⟩⟩, .inr ⟨hb', by simpa [Value.ownBlock] using hgr⟩⟩
  · by_cases hroom : n + 1 ≤ cap
    · obtain ⟨w', hr, ho, hgr⟩ := run_append_fits (P := P) w base t ty e i 6 ht hi hsize g n cap xs hown ad 1 1 news (by omega) hnews hone hroom
      exact ⟨g, cap, w', hr, ho, .inl ⟨rfl, hgr⟩⟩
    · obtain ⟨v', w', hr, ho, hgr⟩ := run_append_arg_grows (P := P) w t ty e i z 6 bytes ht hi hz hsize hby hzs (by omega) ⟨g, 0, none⟩ n cap xs hown.1 (hown.cells rfl) ad 1 1 news (by omega) hnews (by omega) h63 hbytes
      rcases ho.2 with ⟨_, h0⟩ | ⟨g', c', cur', rfl, hb', hh, hrest⟩
      · omega
      · exact ⟨g', c', w', hr, ⟨by simp [hown.1, hl]; omega, .inr ⟨g', c', cur', rfl, by omega, hh, hrest⟩⟩, .inr ⟨hb', hgr⟩⟩
theorem wp_push6 {P : Program} (w : World) {o : Oper} {a : Act} {K : Act → World → Prop} {Q : Exit → Act → World → Prop} (s x : Operand) (t : TypeId)
    (ho : o.op = .call { callee := .builtin .append, args := #[s, x], argTypes := #[t, t] }) (e : TypeId) (i : TypeInfo) (z : Value) (bytes : Nat) (ht : P.underlying t = some (.slice e)) (hi : P.info? e = some i) (hz : i.zero = some z)
    (hsize : i.size = 6) (hby : i.bytes = bytes) (hzs : z.cells.size = 6) (base : Nat) (v : Value) (n : Nat) (xs : List Value) (hs : a.eval s = v) (hown : w.ownsRow base e 6 v n xs)
    (ad : Addr) (news : List Value) (hx : a.eval x = .slice (some ad) 1 1) (hl : news.length = 6) (hnews : ∀ j u, news[j]? = some u → w.cell? (ad.add j) = some u) (hone : ∀ x ∈ news, x.oneCell' = true) (h63 : n + 1 ≤ maxLen) (hbytes : (n + 1) * bytes ≤ 140737488355328) (hbase : base ≤ w.heap.size)
    (h : ∀ g' c' w', w'.ownsRow base e 6 (.slice (some ⟨g', 0, none⟩) (n + 1) c') (n + 1) (xs ++ news) → Pushed w w' v g' → K (a.put o.dst (.slice (some ⟨g', 0, none⟩) (n + 1) c')) w') : o.wp P a w K Q := by
  obtain ⟨g', c', w', hr, h2, h3⟩ := run_push6 (P := P) w t o.type e i z bytes ht hi hz hsize hby hzs base v n xs hown ad news hl hnews hone h63 hbytes hbase
  unfold Oper.wp
  simp [execOp, ho, resolve, invoke, builtin, hs, hx, hr, Result.andThen]
  exact h g' c' w' h2 h3
theorem wpList_push6 {P : Program} (w : World) {ops : Array Oper} {rest : List Oper} {o : Oper} {a : Act} {Q : Exit → Act → World → Prop} (hgd : o.guard = none) (s x : Operand) (t : TypeId)
    (ho : o.op = .call { callee := .builtin .append, args := #[s, x], argTypes := #[t, t] }) (e : TypeId) (i : TypeInfo) (z : Value) (bytes : Nat) (ht : P.underlying t = some (.slice e)) (hi : P.info? e = some i) (hz : i.zero = some z)
    (hsize : i.size = 6) (hby : i.bytes = bytes) (hzs : z.cells.size = 6) (base : Nat) (v : Value) (n : Nat) (xs : List Value) (hs : a.eval s = v) (hown : w.ownsRow base e 6 v n xs)
    (ad : Addr) (news : List Value) (hx : a.eval x = .slice (some ad) 1 1) (hl : news.length = 6) (hnews : ∀ j u, news[j]? = some u → w.cell? (ad.add j) = some u) (hone : ∀ x ∈ news, x.oneCell' = true) (h63 : n + 1 ≤ maxLen) (hbytes : (n + 1) * bytes ≤ 140737488355328) (hbase : base ≤ w.heap.size)
    (h : ∀ g' c' w', w'.ownsRow base e 6 (.slice (some ⟨g', 0, none⟩) (n + 1) c') (n + 1) (xs ++ news) → Pushed w w' v g' → wpList P ops Q rest (a.put o.dst (.slice (some ⟨g', 0, none⟩) (n + 1) c')) w') : wpList P ops Q (o :: rest) a w :=
  wpList_plain hgd fun _ hK => wp_push6 w s x t ho e i z bytes ht hi hz hsize hby hzs base v n xs hs hown ad news hx hl hnews hone h63 hbytes hbase fun g' c' w' h2 h3 => hK _ _ (h g' c' w' h2 h3)
theorem step_push6 {P : Program} (w : World) {ops : Array Oper} {o : Oper} {a : Act} {K : Act → World → Prop} {Q : Exit → Act → World → Prop} {E : Prop} (hgd : o.guard = none) (s x : Operand) (t : TypeId)
    (ho : o.op = .call { callee := .builtin .append, args := #[s, x], argTypes := #[t, t] }) (e : TypeId) (i : TypeInfo) (z : Value) (bytes : Nat) (ht : P.underlying t = some (.slice e)) (hi : P.info? e = some i) (hz : i.zero = some z)
    (hsize : i.size = 6) (hby : i.bytes = bytes) (hzs : z.cells.size = 6) (base : Nat) (v : Value) (n : Nat) (xs : List Value) (hs : a.eval s = v) (hown : w.ownsRow base e 6 v n xs)
    (ad : Addr) (news : List Value) (hx : a.eval x = .slice (some ad) 1 1) (hl : news.length = 6) (hnews : ∀ j u, news[j]? = some u → w.cell? (ad.add j) = some u) (hone : ∀ x ∈ news, x.oneCell' = true) (h63 : n + 1 ≤ maxLen) (hbytes : (n + 1) * bytes ≤ 140737488355328) (hbase : base ≤ w.heap.size)
    (h : ∀ g' c' w', w'.ownsRow base e 6 (.slice (some ⟨g', 0, none⟩) (n + 1) c') (n + 1) (xs ++ news) → Pushed w w' v g' → K (a.put o.dst (.slice (some ⟨g', 0, none⟩) (n + 1) c')) w') :
    if Region.wanted o (yielded ops a.tmps) = true then Oper.wp P o a w K Q else E := by
  have hw : Region.wanted o (yielded ops a.tmps) = true := by simp [Region.wanted, hgd]
  rw [if_pos hw]
  exact wp_push6 w s x t ho e i z bytes ht hi hz hsize hby hzs base v n xs hs hown ad news hx hl hnews hone h63 hbytes hbase h


theorem res_node {f : Func} (hr : f.results = #[.cell 2 123]) (tmps : Array Value) (w : World) (g : Nat) (u : List Value) (hu : Sh u) (hp : tmps.getD 2 undef = .pointer (some ⟨g, 0, none⟩)) (h : Blk w g 123 u) :
    (results f tmps).run Tryz.prog w = .ok (.agg u.toArray) w := by
  obtain ⟨K, A, N, G, ad, n, c, ad2, n2, c2, rfl⟩ := hu
  have h0 : w.cell? ⟨g, 0, none⟩ = some (.int .i64 (K : Int)) := h.cell 0
  have h1 : w.cell? ⟨g, 1, none⟩ = some (.int .i32 (A : Int)) := h.cell 1
  have h2 : w.cell? ⟨g, 2, none⟩ = some (.bool N) := h.cell 2
  have h3 : w.cell? ⟨g, 3, none⟩ = some (.int .u8 (G : Int)) := h.cell 3
  have h4 : w.cell? ⟨g, 4, none⟩ = some (.slice ad n c) := h.cell 4
  have h5 : w.cell? ⟨g, 5, none⟩ = some (.slice ad2 n2 c2) := h.cell 5
  have hp' : tmps[2]?.getD undef = .pointer (some ⟨g, 0, none⟩) := by simpa using hp
  simp [results, hr, hp', asAddr, loadVar, h0, h1, h2, h3, h4, h5, go_sem, nV]
theorem res_node2 {f : Func} (hr : f.results = #[.cell 2 123, .tmp 3]) (tmps : Array Value) (w : World) (g : Nat) (u : List Value) (hu : Sh u) (b : Bool) (hp : tmps.getD 2 undef = .pointer (some ⟨g, 0, none⟩)) (hb : tmps.getD 3 undef = .bool b) (h : Blk w g 123 u) :
    (results f tmps).run Tryz.prog w = .ok (.tuple #[.agg u.toArray, .bool b]) w := by
  obtain ⟨K, A, N, G, ad, n, c, ad2, n2, c2, rfl⟩ := hu
  have h0 : w.cell? ⟨g, 0, none⟩ = some (.int .i64 (K : Int)) := h.cell 0
  have h1 : w.cell? ⟨g, 1, none⟩ = some (.int .i32 (A : Int)) := h.cell 1
  have h2 : w.cell? ⟨g, 2, none⟩ = some (.bool N) := h.cell 2
  have h3 : w.cell? ⟨g, 3, none⟩ = some (.int .u8 (G : Int)) := h.cell 3
  have h4 : w.cell? ⟨g, 4, none⟩ = some (.slice ad n c) := h.cell 4
  have h5 : w.cell? ⟨g, 5, none⟩ = some (.slice ad2 n2 c2) := h.cell 5
  have hp' : tmps[2]?.getD undef = .pointer (some ⟨g, 0, none⟩) := by simpa using hp
  have hb' : tmps[3]?.getD undef = .bool b := by simpa using hb
  simp [results, hr, hp', hb', asAddr, loadVar, h0, h1, h2, h3, h4, h5, go_sem, nV]
theorem res64 : Tryz.f103.results = #[.cell 2 123] := by kernel_rfl
theorem res29 : Tryz.f78.results = #[.cell 2 123] := by kernel_rfl
theorem res15 : Tryz.f60.results = #[.cell 2 123] := by kernel_rfl
theorem res48 : Tryz.f95.results = #[.cell 2 123, .tmp 3] := by kernel_rfl

end Go.Proofs.YtanlgplgplncdaaGreatDoor
