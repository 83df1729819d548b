import Derived.Test.YtanlgplgplncdaaDoorMtG
import Derived.Test.YtanlgplgplncdaaDoorMrH
/-
  And.
-/
namespace Go.Proofs.YtanlgplgplncdaaDoor
open Go.RowKit
set_option linter.unusedVariables false
set_option linter.unusedSimpArgs false

theorem rul_of {F : Nat → Prop} {w : World} {ad : Option Addr} {c n : Nat} {R : List (Mt × Value)} (h : w.ownsRow 0 56 4 (.slice ad n c) R.length (cR R)) (hf : ∀ p ∈ R, Fv F w p.1.op p.1.t p.2) : RuL w ad R ∧ (ad = none → c = 0) := by
  refine ⟨⟨fun p hp => (hf p hp).one, fun e => ?_, fun x hx => ?_⟩, fun e => ?_⟩
  · rcases h.2 with ⟨_, h0⟩ | ⟨g, cap, cur, e2, _⟩
    · exact List.eq_nil_of_length_eq_zero h0
    · injection e2 with e2; rw [e] at e2; cases e2
  · rcases h.2 with ⟨e2, _⟩ | ⟨g, cap, cur, e2, _, hg, _⟩
    · injection e2 with e2; rw [hx] at e2; cases e2
    · injection e2 with e2
      rw [hx] at e2
      injection e2 with e2
      subst e2
      subst hx
      exact ⟨(Array.getElem?_eq_some_iff.1 hg).1, rfl, fun j u hu => h.cells rfl j u hu⟩
  · rcases h.2 with ⟨e2, _⟩ | ⟨g, cap, cur, e2, _⟩
    · injection e2
    · injection e2 with e2; rw [e] at e2; cases e2

theorem owns_low {w : World} {b b' : Nat} {e sz : Nat} {v : Value} {n : Nat} {xs : List Value} (h : w.ownsRow b e sz v n xs) (hb : b' ≤ b) : w.ownsRow b' e sz v n xs := by
  refine ⟨h.1, ?_⟩
  rcases h.2 with h0 | ⟨g, cap, cur, rfl, hg, r⟩
  · exact .inl h0
  · exact .inr ⟨g, cap, cur, rfl, by omega, r⟩

set_option maxRecDepth 100000 in
set_option maxHeartbeats 4000000 in
theorem andP (F G : Nat → Prop) (w : World) (s t : Nat) (l m : List Mt) (hS : StR F w s l) (hT : StR G w t m) (hl : l.length ≤ 500) (hm : m.length ≤ 500) :
    Calls Tryd.prog 9 #[.pointer (some ⟨s, 0, none⟩), .pointer (some ⟨t, 0, none⟩)] w fun e w' => ∃ u K, e = .returned (.pointer (some ⟨u, 0, none⟩)) ∧ StR K w' u (l ++ m) ∧ (∀ b, K b → F b ∨ G b ∨ w.heap.size ≤ b) ∧ Below w.heap.size w w' := by
  obtain ⟨v, R, h1, h2, h3, h4, h5, h6, h7⟩ := hS
  obtain ⟨v', R', k1, k2, k3, k4, k5, k6, k7⟩ := hT
  obtain ⟨ad, c, rfl, -⟩ := owns_formS h2
  obtain ⟨ad', c', rfl, -⟩ := owns_formS k2
  have c0 : w.cell? ⟨s, 0, none⟩ = some (.slice ad R.length c) := h1.cell 0
  have c1 : w.cell? ⟨t, 0, none⟩ = some (.slice ad' R'.length c') := k1.cell 0
  have hs : s < w.heap.size := h1.lt
  have ht : t < w.heap.size := k1.lt
  obtain ⟨r1, r2⟩ := rul_of h2 h4
  obtain ⟨r3, r4⟩ := rul_of k2 k4
  have hRl : R.length ≤ 500 := by rw [← List.length_map (f := Prod.fst), h3]; exact hl
  have hRl' : R'.length ≤ 500 := by rw [← List.length_map (f := Prod.fst), k3]; exact hm
  have CON : Hid (∀ wx, Below w.heap.size w wx → wx.heap.size = w.heap.size + 1 → wx.cell? ⟨w.heap.size, 0, none⟩ = some (.slice ad R.length c) → wx.cell? ⟨w.heap.size, 1, none⟩ = some (.slice ad' R'.length c') → Calls Tryd.prog 16 #[.slice (some ⟨w.heap.size, 0, none⟩) 2 2] wx fun e w' => ∃ v, e = .returned v ∧ w'.ownsRow wx.heap.size 56 4 v (R.length + R'.length) (cR (R ++ R')) ∧ Below wx.heap.size wx w') := hidden (fun wx hb hz e0 e1 => by
    have := concatP w.heap.size 2 (fun i => if i = 0 then ad else ad') (fun i => if i = 0 then R.length else R'.length) (fun i => if i = 0 then c else c') (fun i => if i = 0 then R else R') wx (fun i hi => by
      rcases (by omega : i = 0 ∨ i = 1) with rfl | rfl
      · exact e0
      · exact e1) (by omega) (fun i hi => by
      rcases (by omega : i = 0 ∨ i = 1) with rfl | rfl
      · exact ⟨r1.later hb, rfl, by show R.length ≤ _; omega, r2⟩
      · exact ⟨r3.later hb, rfl, by show R'.length ≤ _; omega, r4⟩)
    exact this)
  have FIN : Hid (∀ wx v u, Below w.heap.size w wx → wx.ownsRow w.heap.size 56 4 v (R.length + R'.length) (cR (R ++ R')) → Blk wx u 53 [v] → w.heap.size ≤ u → ∃ K, StR K wx u (l ++ m) ∧ (∀ b, K b → F b ∨ G b ∨ w.heap.size ≤ b)) := hidden (by
    intro wx v u hb ho hB hu
    have hlt : ∀ b, (F b ∨ G b ∨ b = u ∨ v.ownBlock = some b) → b < wx.heap.size := by
      rintro b (hh | hh | hh | hh)
      · exact Nat.lt_of_lt_of_le (h7 b hh) hb.size
      · exact Nat.lt_of_lt_of_le (k7 b hh) hb.size
      · rw [hh]; exact hB.lt
      · exact (ho.lt b hh).2
    refine ⟨fun b => F b ∨ G b ∨ b = u ∨ v.ownBlock = some b, ⟨v, R ++ R', hB, ⟨by rw [cR_length], ?_⟩, by rw [List.map_append, h3, k3], ?_, .inr (.inr (.inl rfl)), fun g hg => .inr (.inr (.inr hg)), hlt⟩, ?_⟩
    · rcases ho.2 with ⟨hh, h0⟩ | ⟨g, cap, cur, e, _, r⟩
      · exact .inl ⟨hh, by rw [List.length_append]; exact h0⟩
      · exact .inr ⟨g, cap, cur, by rw [List.length_append]; exact e, Nat.zero_le _, by rw [List.length_append]; exact r⟩
    · intro p hp
      have hcb := Chg.of_below (F := fun _ => False) hb
      rcases List.mem_append.1 hp with hp | hp
      · exact ((h4 p hp).keep hcb (fun _ _ e => e)).mono (fun _ hh => .inl hh) hlt
      · exact ((k4 p hp).keep hcb (fun _ _ e => e)).mono (fun _ hh => .inr (.inl hh)) hlt
    · rintro b (hh | hh | hh | hh)
      · exact .inl hh
      · exact .inr (.inl hh)
      · exact .inr (.inr (by omega))
      · exact .inr (.inr (ho.lt b hh).1))
  clear h1 h2 h3 h4 h5 h6 h7 k1 k2 k3 k4 k5 k6 k7 r1 r2 r3 r4 hl hm
  generalize R.length = n at *
  generalize R'.length = n' at *
  have hbn : Blk (w.alloc (.cells #[.slice ad n c, .slice ad' n' c'] 51)).drew w.heap.size 51 [.slice ad n c, .slice ad' n' c'] := (Blk.new w 51 _).drew
  have hbw : Below w.heap.size w (w.alloc (.cells #[.slice ad n c, .slice ad' n' c'] 51)).drew := ((Below.refl _ w).alloc (Nat.le_refl _) _).drew
  have hsz : (w.alloc (.cells #[.slice ad n c, .slice ad' n' c'] 51)).drew.heap.size = w.heap.size + 1 := by show (w.alloc _).heap.size = _; simp
  have CON2 := hidden (CON.out _ hbw hsz (hbn.cell 0) (hbn.cell 1))
  have HBW := hidden hbw
  have HSZ := hidden hsz
  clear hbn hbw hsz CON
  go_enter Tryd.func9, Tryd.ntmps9
  go_upto_region 1 with fail
  go_region_with (go_at_call 16; refine CON2.out.mono ?_; rintro e w3 ⟨v, rfl, o3, b3⟩; obtain ⟨ad3, c3, rfl, -⟩ := owns_formS o3; have O3 := hidden o3; have B3 := hidden b3; clear o3 b3)
  all_goals
    go_wp2
    go_ret
    have b3 := HBW.out.trans (B3.out.mono HBW.out.size)
    have b4 := b3.alloc b3.size (.cells #[.slice ad3 (n + n') c3] 53)
    have b34 : Below w3.heap.size w3 (w3.alloc (.cells #[.slice ad3 (n + n') c3] 53)) := (Below.refl _ _).alloc (Nat.le_refl _) _
    obtain ⟨K, hK, hKb⟩ := FIN.out _ _ w3.heap.size b4 (owns_low (owl O3.out b34) (by rw [HSZ.out]; omega)) (Blk.new w3 53 _) b3.size
    exact ⟨w3.heap.size, K, by first | rfl | simp, hK, hKb, b4⟩

end Go.Proofs.YtanlgplgplncdaaDoor

/-
  Parse.
-/
namespace Go.Proofs.YtanlgplgplncdaaDoor.L
open Go.RowKit
set_option linter.unusedVariables false
set_option linter.unusedSimpArgs false

/-- What Parse answers. -/
def PaM (s : ByteArray) (w : World) (e : Ending) (w' : World) : Prop :=
  Below w.heap.size w w' ∧ ((∃ l ad c, parseM (bts s) = .inr l ∧ e = .returned (.tuple #[.slice ad l.length c, .nilIface]) ∧ w'.ownsRow w.heap.size 31 3 (.slice ad l.length c) l.length (cM l) ∧ (∀ x ∈ l, OkM x) ∧ l.length ≤ 8) ∨
    (∃ k g, parseM (bts s) = .inl k ∧ e = .returned (.tuple #[.slice none 0 0, .iface 44 (.pointer (some ⟨g, 0, none⟩))]) ∧ Blk w' g 47 [.int .i64 ((k : Nat) : Int), .int .i64 90]))
theorem built71 (s : ByteArray) : Tryd.prog.built 71 [(0, .string s)] = some #[.string s, .int .i64 0] := by kernel_rfl
theorem info71n : (Tryd.prog.info? 71).map (fun i => (i.zero.map (·.cells.size), i.size)) = some (some 2, 2) := by kernel_rfl
theorem info73n : (Tryd.prog.info? 73).map (fun i => (i.zero.map (·.cells.size), i.size)) = some (some 3, 3) := by kernel_rfl

set_option maxRecDepth 100000 in
set_option maxHeartbeats 4000000 in
theorem parseMP (B : Nat) (s : ByteArray) (w : World) (hs : s.size ≤ 140737488355328) (hT : Tb B w) : Calls Tryd.prog 11 #[.string s] w (PaM s w) := by
  have HT := hidden hT
  have hBw := hT.size
  clear hT
  unfold PaM
  go_enter Tryd.func11, Tryd.ntmps11
  go_wp2_with (first
    | (refine wpList_build_to rfl 71 #[(0, .tmp 7)] rfl [(0, .string s)] #[.string s, .int .i64 0] rfl (built71 _) ?_)
    | (refine wpList_new_var rfl rfl 71 4 (.tmp 8) rfl rfl rfl rfl 2 info71n [.string s, .int .i64 0] rfl (by intro v hv; simp at hv; rcases hv with rfl | rfl <;> rfl) (by simp) rfl ?_; intro w1 B1 bl1 hz1; have HB1 := hidden B1; have BL1 := hidden bl1; clear B1 bl1 hz1))
  have HR1 : Hid (Rd w1 w.heap.size s 0) := hidden HB1.out
  have hs1 := BL1.out.size
  refine (setP B w.heap.size s w1 HR1.out hs (HT.out.later BL1.out) hBw).mono ?_
  rintro e w2 ⟨J, v, ok, a', rfl, hR, hO, hok, h8, hC, ha', hy, hn⟩
  obtain ⟨vad, vc, rfl, -⟩ := owns_formS hO
  have B2 : Hid (Below w.heap.size w w2) := hidden (BL1.out.trans (hC.below BL1.out.size (fun i hi => by have hi' : i = w.heap.size := hi; omega)))
  have HR2 := hidden hR
  have HO2 := hidden hO
  have HOK := hidden hok
  have H8 := hidden h8
  have HY := hidden hy
  have HN := hidden hn
  clear hR hO hok h8 hC hy hn HR1 HB1
  obtain ⟨l, bad⟩ := J
  simp only at HO2 HOK H8
  cases ok with
  | false =>
    have HP : Hid (parseM (bts s) = .inl a') := hidden (by unfold parseM; rw [HN.out rfl]; rfl)
    clear HY HN
    go_upto_region 4 with (refine wpList_new_var rfl rfl 73 5 (.tmp 11) rfl rfl rfl rfl 3 info73n [.slice vad l.length vc, .bool bad.isSome, .int .i64 ((bad.getD 0 : Nat) : Int)] rfl (by intro v hv; simp at hv; rcases hv with rfl | rfl | rfl <;> rfl) (by simp) rfl ?_; intro w3 B3 bl3 hz3; have BL3 := hidden bl3; clear B3 bl3 hz3)
    have HR3 : Hid (Rd w3 w.heap.size s a') := hidden (HR2.out.chg (Chg.of_below (F := fun _ => False) BL3.out) (fun e => e))
    have BW3 : Hid (Below w.heap.size w w3) := hidden (B2.out.trans (BL3.out.mono B2.out.size))
    have c1 : w3.cell? ⟨w.heap.size, 1, none⟩ = some (.int .i64 (a' : Int)) := HR3.out.cell 1
    have hlt : w.heap.size < w3.heap.size := Blk.lt HR3.out
    have HBX := hidden (BW3.out.alloc BW3.out.size (.cells #[.int .i64 (a' : Int), .int .i64 90] 47))
    have HBN : Hid (Blk (w3.alloc (.cells #[.int .i64 (a' : Int), .int .i64 90] 47)) w3.heap.size 47 [.int .i64 (a' : Int), .int .i64 90]) := hidden (Blk.new w3 47 _)
    go_region
    go_wp2
    go_ret2
    exact ⟨HBX.out.trans (below_drew _ _), .inr ⟨a', w3.heap.size, HP.out, rfl, HBN.out.drew⟩⟩
  | true =>
    cases bad with
    | some p =>
      have HP : Hid (parseM (bts s) = .inl p) := hidden (by unfold parseM; rw [HY.out rfl]; rfl)
      clear HY HN
      go_upto_region 6 with (refine wpList_new_var rfl rfl 73 5 (.tmp 11) rfl rfl rfl rfl 3 info73n [.slice vad l.length vc, .bool true, .int .i64 (p : Int)] rfl (by intro v hv; simp at hv; rcases hv with rfl | rfl | rfl <;> rfl) (by simp) rfl ?_; intro w3 B3 bl3 hz3; have BL3 := hidden bl3; have HB3 := hidden B3; clear B3 bl3 hz3; have d1 : w3.cell? ⟨w2.heap.size, 1, none⟩ = some (.bool true) := HB3.out.cell 1)
      have BW3 : Hid (Below w.heap.size w w3) := hidden (B2.out.trans (BL3.out.mono B2.out.size))
      have c1 : w3.cell? ⟨w2.heap.size, 2, none⟩ = some (.int .i64 (p : Int)) := HB3.out.cell 2
      have hlt : w2.heap.size < w3.heap.size := HB3.out.lt
      have HBX := hidden (BW3.out.alloc BW3.out.size (.cells #[.int .i64 (p : Int), .int .i64 90] 47))
      have HBN : Hid (Blk (w3.alloc (.cells #[.int .i64 (p : Int), .int .i64 90] 47)) w3.heap.size 47 [.int .i64 (p : Int), .int .i64 90]) := hidden (Blk.new w3 47 _)
      go_region
      go_wp2
      go_ret2
      exact ⟨HBX.out.trans (below_drew _ _), .inr ⟨p, w3.heap.size, HP.out, rfl, HBN.out.drew⟩⟩
    | none =>
      have HP : Hid (parseM (bts s) = .inr l) := hidden (by unfold parseM; rw [HY.out rfl]; rfl)
      clear HY HN
      go_upto_region 7 with (refine wpList_new_var rfl rfl 73 5 (.tmp 11) rfl rfl rfl rfl 3 info73n [.slice vad l.length vc, .bool false, .int .i64 0] rfl (by intro v hv; simp at hv; rcases hv with rfl | rfl | rfl <;> rfl) (by simp) rfl ?_; intro w3 B3 bl3 hz3; have BL3 := hidden bl3; have HB3 := hidden B3; clear B3 bl3 hz3; have d1 : w3.cell? ⟨w2.heap.size, 1, none⟩ = some (.bool false) := HB3.out.cell 1; have d0 : w3.cell? ⟨w2.heap.size, 0, none⟩ = some (.slice vad l.length vc) := HB3.out.cell 0)
      have BW3 : Hid (Below w.heap.size w w3) := hidden (B2.out.trans (BL3.out.mono B2.out.size))
      have HO3 : Hid (w3.ownsRow w.heap.size 31 3 (.slice vad l.length vc) l.length (cM l)) := hidden (owns_low (owl HO2.out BL3.out) hs1)
      go_wp2
      go_ret2
      exact ⟨BW3.out, .inl ⟨l, vad, vc, HP.out, rfl, HO3.out, HOK.out, H8.out⟩⟩

end Go.Proofs.YtanlgplgplncdaaDoor.L
