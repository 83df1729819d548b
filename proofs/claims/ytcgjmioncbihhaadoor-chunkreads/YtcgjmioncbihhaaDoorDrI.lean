/-
  ChunkReads: the walk.
-/
import Derived.Test.YtcgjmioncbihhaaDoorDrG
import Derived.Test.YtcgjmioncbihhaaDoorDrH
import Derived.Test.YtcgjmioncbihhaaDoorDcH
import Derived.Test.YtcgjmioncbihhaaDoorLwC
namespace Go.Proofs.YtcgjmioncbihhaaDoor
open Go.RowKit
set_option linter.unusedVariables false
set_option linter.unusedSimpArgs false

theorem info40L : (Tryd.prog.info? 40).map (fun i => (i.zero, i.size, i.bytes)) = some (some (.slice none 0 0), 1, 24) := by kernel_rfl
theorem wpList_pushL (w : World) {ops : Array Oper} {rest : List Oper} {o : Oper} {a : Act} {Q : Exit → Act → World → Prop} (hgd : o.guard = none) (s x : Operand)
    (ho : o.op = .call { callee := .builtin .append, args := #[s, x], argTypes := #[44, 44] }) (base : Nat) (v : Value) (n : Nat) (xs : List Value) (hs : a.eval s = v) (w0 : World) (hown : w0.ownsRow base 40 1 v n xs) (ad : Option Addr) (m c : Nat)
    (hw : w = w0.alloc (.cells #[.slice ad m c] 40)) (hx : a.eval x = .slice (some ⟨w0.heap.size, 0, none⟩) 1 1) (hn : n ≤ 1000) (hbase : base ≤ w0.heap.size)
    (h : ∀ g' c' w', w'.ownsRow base 40 1 (.slice (some ⟨g', 0, none⟩) (n + 1) c') (n + 1) (xs ++ [.slice ad m c]) → Pushed (w0.alloc (.cells #[.slice ad m c] 40)) w' v g' → wpList Tryd.prog ops Q rest (a.put o.dst (.slice (some ⟨g', 0, none⟩) (n + 1) c')) w') : wpList Tryd.prog ops Q (o :: rest) a w := by
  subst hw
  obtain ⟨i0, hi0, hz0, hz1, hz2⟩ := info_parts info40L
  exact wpList_push _ hgd s x 44 ho 40 i0 (.slice none 0 0) 24 Tryd.underlying44 hi0 hz0 hz1 hz2 rfl base v n xs hs (hown.alloc _) ⟨w0.heap.size, 0, none⟩ (.slice ad m c) hx (by simp) rfl (by unfold maxLen; omega) (by omega) (by simp; omega) h
theorem wpList_pushP (w : World) {ops : Array Oper} {rest : List Oper} {o : Oper} {a : Act} {Q : Exit → Act → World → Prop} (hgd : o.guard = none) (s x : Operand)
    (ho : o.op = .call { callee := .builtin .append, args := #[s, x], argTypes := #[40, 40] }) (base : Nat) (v : Value) (n : Nat) (xs : List Sm) (hs : a.eval s = v) (w0 : World) (hown : w0.ownsRow base 32 2 v n (cS xs)) (y : Sm)
    (hw : w = w0.alloc (.cells #[.int .i64 y.t, .int .u64 (y.v : Int)] 32)) (hx : a.eval x = .slice (some ⟨w0.heap.size, 0, none⟩) 1 1) (hn : n ≤ 1000000000) (hbase : base ≤ w0.heap.size)
    (h : ∀ g' c' w', w'.ownsRow base 32 2 (.slice (some ⟨g', 0, none⟩) (n + 1) c') (n + 1) (cS (xs ++ [y])) → Pushed (w0.alloc (.cells #[.int .i64 y.t, .int .u64 (y.v : Int)] 32)) w' v g' → wpList Tryd.prog ops Q rest (a.put o.dst (.slice (some ⟨g', 0, none⟩) (n + 1) c')) w') : wpList Tryd.prog ops Q (o :: rest) a w := by
  subst hw
  obtain ⟨i0, hi0, hz0, hz1, hz2⟩ := info_parts info32
  refine wpList_push2 _ hgd s x 40 ho 32 i0 (.agg #[.int .i64 0, .int .u64 0]) 16 Tryd.underlying40 hi0 hz0 hz1 hz2 rfl base v n (cS xs) hs (hown.alloc _) ⟨w0.heap.size, 0, none⟩ [.int .i64 y.t, .int .u64 (y.v : Int)] hx rfl (fun j u hu => by
    have := (Blk.new w0 32 [.int .i64 y.t, .int .u64 (y.v : Int)]).cell (0 + j)
    rw [Addr.add_lit, this, Nat.zero_add]
    exact hu) (by intro u hu; simp at hu; rcases hu with rfl | rfl <;> rfl) (by unfold maxLen; omega) (by omega) (by simp; omega) ?_
  intro g' c' w' ho' hp'
  exact h g' c' w' (by rw [cS_append]; exact ho') hp'
theorem str_four (b : List Int) : strOfNums b ++ ({ data := #[0, 0, 0, 0] } : ByteArray) = strOfNums (b ++ [0, 0, 0, 0]) := by
  unfold strOfNums
  rw [ByteArray.mk_append_mk]
  simp
def RdO (b : List Int) (l : List Sm) (ec : Int) : Prop := (rdR b = some l ∧ ec = 0) ∨ (rdR b = none ∧ l = [] ∧ ec = 100)
theorem RdO.same {b : List Int} {l l' : List Sm} {ec ec' : Int} (h : RdO b l ec) (h' : RdO b l' ec') : l' = l ∧ ec' = ec := by
  rcases h with ⟨h1, rfl⟩ | ⟨h1, rfl, rfl⟩ <;> rcases h' with ⟨h2, rfl⟩ | ⟨h2, rfl, rfl⟩
  · rw [h1] at h2; exact ⟨(Option.some.inj h2).symm, rfl⟩
  · rw [h1] at h2; cases h2
  · rw [h1] at h2; cases h2
  · exact ⟨rfl, rfl⟩
theorem RdO.len {b : List Int} {l : List Sm} {ec : Int} (hb : Byte b) (h : RdO b l ec) : l.length ≤ 4 * b.length := by
  rcases h with ⟨h1, rfl⟩ | ⟨h1, rfl, rfl⟩
  · by_cases h0 : b = []
    · subst h0
      have : rdR [] = some [] := rfl
      rw [this] at h1
      rw [← Option.some.inj h1]; simp
    · obtain ⟨k1, _, k3, _⟩ := rdR_bits hb h0 h1
      have := len_enc4 k1
      rw [k3] at this
      exact this
  · simp
theorem RdO.ec {b : List Int} {l : List Sm} {ec : Int} (h : RdO b l ec) : ec = 0 ∨ ec = 100 := by
  rcases h with ⟨_, h⟩ | ⟨_, _, h⟩
  · exact .inl h
  · exact .inr h
/-- What a Read answers whose bytes were read before. -/
def RdQ (w : World) (n : Nat) (L : List Sm) (ec : Int) (e : Ending) (w' : World) : Prop :=
  ∃ ad c, e = .returned (.tuple #[.slice ad n c, .int .i64 ec]) ∧ w'.ownsRow w.heap.size 32 2 (.slice ad n c) n (cS L) ∧ Below w.heap.size w w'
theorem rdq_of {w w' : World} {b : List Int} {L : List Sm} {ec : Int} {e : Ending} (h : RdO b L ec) (hp : RdP w b e w') : RdQ w L.length L ec e w' := by
  obtain ⟨ad, c, l, ec2, rfl, o, _, bl, hor⟩ := hp
  obtain ⟨rfl, rfl⟩ := h.same hor
  exact ⟨ad, c, rfl, o, bl⟩

theorem sl_four (w : World) : Sl (w.alloc (.cells #[.int .u8 0, .int .u8 0, .int .u8 0, .int .u8 0] 5)) (some ⟨w.heap.size, 0, none⟩) 4 [0, 0, 0, 0] := by
  refine ⟨rfl, by intro x hx; simp at hx; omega, fun j hj => ⟨_, rfl, ?_⟩⟩
  rw [Addr.add_lit, Nat.zero_add]
  have := (Blk.new w 5 [.int .u8 0, .int .u8 0, .int .u8 0, .int .u8 0]).cell j
  rw [this]
  rcases (by omega : j = 0 ∨ j = 1 ∨ j = 2 ∨ j = 3) with rfl | rfl | rfl | rfl <;> rfl

theorem own_someG {w : World} {base n c e s : Nat} {ad : Option Addr} {xs : List Value} (h : w.ownsRow base e s (.slice ad n c) n xs) (hn : 0 < n) : ∃ g, ad = some ⟨g, 0, none⟩ := by
  rcases h.2 with ⟨_, e⟩ | ⟨g, cap, cur, e, _⟩
  · omega
  · injection e with e; exact ⟨g, e⟩
theorem P0.set {w wx : World} {t n : Nat} {L M : List Sm} {v11 v15 : Value} {R G : List Rw} {i g : Nat} {r : Rw} (hR : RwS w t n R) (hr : R[i]? = some r) (h : P0 w wx t n L v11 v15 R G i (i + 1)) (hg : r.ad = some ⟨g, 0, none⟩) (hO : wx.ownsRow r.lo 32 2 (.slice (some ⟨g, 0, none⟩) n r.c) n (cS M)) (j : Nat) (x y : Value) :
    P0 w ((wx.setCell ⟨g, j * 2, none⟩ x).setCell ⟨g, j * 2 + 1, none⟩ y) t n L v11 v15 R G i (i + 1) := by
  refine h.chg hR hr (setS_chg wx g j x y) (fun u hu b hb e => ?_) (fun b e => ?_)
  · subst e
    obtain ⟨cur, hcur⟩ := hu b hb
    rcases hO.2 with ⟨e, _⟩ | ⟨g', cap, cur', e, _, hg', _⟩
    · cases e
    · injection e with e
      injection e with e
      injection e with e
      subst e
      rw [hcur] at hg'
      injection hg' with hg'
      injection hg' with _ h2 _
      exact absurd h2 (by decide)
  · subst e
    exact .inl (hR.blk i r hr b (Rw.own hg))
theorem own_cells2 {w : World} {base g n c m : Nat} {M : List Sm} (h : w.ownsRow base 32 2 (.slice (some ⟨g, 0, none⟩) n c) m (cS M)) {j : Nat} (hj : j < M.length) : ∃ va vb, w.cell? ⟨g, j * 2, none⟩ = some va ∧ w.cell? ⟨g, j * 2 + 1, none⟩ = some vb := by
  have hx : M[j]? = some (M[j]'hj) := by simp
  have hc := cS_get M j _ hx
  have k0 := h.cells (g := g) rfl _ _ hc.1
  have k1 := h.cells (g := g) rfl _ _ hc.2
  rw [Addr.add_lit, Nat.zero_add] at k0 k1
  exact ⟨_, _, k0, k1⟩
theorem own_cellL {w : World} {base g n c m N : Nat} {R : List Rw} (h : w.ownsRow base 40 1 (.slice (some ⟨g, 0, none⟩) n c) m (R.map fun r => r.v N)) {k : Nat} {r : Rw} (hr : R[k]? = some r) : w.cell? ⟨g, k, none⟩ = some (.slice r.ad N r.c) := by
  have := h.cells rfl k (r.v N) (by rw [List.getElem?_map, hr]; rfl)
  rwa [Addr.add_lit, Nat.zero_add] at this

set_option maxRecDepth 100000 in
set_option maxHeartbeats 4000000 in
theorem reads_any (w : World) (hG : Gv w) (hlo : 2 ≤ w.heap.size) (ad : Option Addr) (len cap : Nat) (b0 : List Int) (h : Sl w ad len b0) (hl : len ≤ 9223372036854775807) (hlc : len ≤ cap) (hcm : cap ≤ 9223372036854775807) (hno : ad = none → len = 0 ∧ cap = 0) (at' : Int) (hat : I64 at') (by' : Int) (hby : 0 ≤ by' ∧ by' ≤ 255) :
    Calls Tryd.prog 4 #[.slice ad len cap, .int .i64 at', .int .u8 by'] w fun e w' => e = .returned (.bool true) ∧ Below w.heap.size w w' := by
  obtain ⟨i0, hi0, hz0, hz1, hz2⟩ := info_parts info5
  have HG := hidden hG
  unfold I64 at hat
  obtain ⟨m, hm⟩ : ∃ m, min len 100000 = m := ⟨_, rfl⟩
  have hm1 : m ≤ 100000 := by omega
  have hmc : m ≤ cap := by omega
  have hno2 : ad = none → m = 0 ∧ cap = 0 := fun e => by obtain ⟨h1, h2⟩ := hno e; exact ⟨by omega, h2⟩
  have HNO := hidden hno2
  obtain ⟨b, hb⟩ : ∃ b, b0.take m = b := ⟨_, rfl⟩
  have HS : Hid (Sl w ad m b) := hidden (by rw [← hb]; exact h.take (by omega))
  have HFB := hidden (fun wx => firstBP wx ad len cap hl hlc hcm hno)
  rw [hm] at HFB
  have hlen := HS.out.len
  have HLEN := hidden hlen
  have HBY := hidden HS.out.byte
  clear hG h hb hm hno hno2 hl hlc hlen
  go_enter Tryd.func4, Tryd.ntmps4
  go_wp2_with fail
  refine (shownP w HG.out hlo).mono ?_
  rintro e w1 ⟨rfl, bl1⟩
  have BL1 := hidden bl1
  clear bl1
  go_wp2_with fail
  refine (HFB.out w1).mono ?_
  rintro e w2 ⟨rfl, e2⟩
  subst e2
  have hs1 := BL1.out.size
  go_wp2_with (first
    | (refine wpList_append_sl _ rfl (.tmp 32) (.tmp 33) 38 rfl w2.heap.size 5 i0 (.int .u8 0) Tryd.underlying38 hi0 hz0 hz1 hz2 rfl (.slice none 0 0) 0 [] rfl (World.ownsRow_nil _ _ _ _) ad m cap b rfl (HS.out.later BL1.out) HNO.out (by omega) (Nat.le_refl _) ?_
       intro ad3 c3 w3 o3 g3
       rw [Nat.zero_add, List.nil_append] at o3
       have O3 := hidden o3
       have BL3 := hidden ((Below.refl _ _).grown g3 (Nat.le_refl _) (fun k hk => by simp [Value.ownBlock] at hk))
       rw [Nat.zero_add]
       clear o3 g3)
    | (refine wpList_append_sl _ rfl (.tmp 35) (.tmp 36) 38 rfl w2.heap.size 5 i0 (.int .u8 0) Tryd.underlying38 hi0 hz0 hz1 hz2 rfl (.slice ad3 m c3) m b rfl (O3.out.alloc _) (some ⟨w3.heap.size, 0, none⟩) 4 4 [0, 0, 0, 0] rfl (sl_four w3) (fun e => by cases e) (by omega) (by have := BL3.out.size; simp; omega) ?_
       intro ad4 c4 w4 o4 g4
       have O4 := hidden o4
       have BL4 : Hid (Below w2.heap.size w2 w4) := hidden ((BL3.out.alloc BL3.out.size _).trans (grown_below g4 (O3.out.alloc _) (by have := BL3.out.size; simp; omega)))
       clear o4 g4 O3 BL3))
  obtain ⟨gi, rfl⟩ := own_some O4.out (by omega)
  obtain ⟨hc4, hc4m⟩ : m + 4 ≤ c4 ∧ c4 ≤ 9223372036854775807 := by
    obtain ⟨_, _, e4, _, _, hc4, hc4m⟩ := owns_formS O4.out
    injection e4 with _ _ e4
    subst e4
    unfold maxLen at hc4m
    exact ⟨hc4, hc4m⟩
  have BW4 := hidden (BL1.out.trans (BL4.out.mono BL1.out.size))
  have hs4 := BW4.out.size
  clear BL1 HFB
  refine (readD w4 ad m cap b (HS.out.later BW4.out) hm1 hmc hcm HNO.out).mono ?_
  rintro e w5 ⟨a9, c9, L, ec, rfl, o9, ok9, b9, hor⟩
  have HRD : Hid (RdO b L ec) := hidden hor
  have hec := HRD.out.ec
  have hn4 := HRD.out.len HBY.out
  rw [HLEN.out] at hn4
  have BW5 := hidden (BW4.out.trans (b9.mono BW4.out.size))
  have W9 : Hid (Ss w5 a9 L) := hidden (ss_of_owns o9 ok9)
  have OI5 : Hid (w5.ownsRow w2.heap.size 5 1 (.slice (some ⟨gi, 0, none⟩) (m + 4) c4) (m + 4) (cells8 (b ++ [0, 0, 0, 0]))) := hidden (owl O4.out b9)
  have GIL : Hid (w2.heap.size ≤ gi ∧ gi < w5.heap.size) := hidden ⟨(O4.out.lt gi rfl).1, Nat.lt_of_lt_of_le (O4.out.lt gi rfl).2 b9.size⟩
  have HBY4 : Hid (Byte (b ++ [0, 0, 0, 0])) := hidden (by
    intro x hx
    rcases List.mem_append.1 hx with hx | hx
    · exact HBY.out x hx
    · simp at hx; omega)
  have SLI : Hid (∀ wx, Below w5.heap.size w5 wx → Sl wx (some ⟨gi, 0, none⟩) (m + 4) (b ++ [0, 0, 0, 0])) := hidden (fun wx hb => (sl_of_owns OI5.out HBY4.out).later hb)
  have RD : Hid (∀ wx, Below w5.heap.size w5 wx → Calls Tryd.prog 15 #[.slice (some ⟨gi, 0, none⟩) m c4] wx (RdQ wx L.length L ec)) := hidden (fun wx hb => by
    refine (readP wx (some ⟨gi, 0, none⟩) m c4 b ?_ (HG.out.later (BW5.out.trans (hb.mono BW5.out.size))) (by omega) (by omega) (by omega) (fun e => by cases e) (by have := hb.size; have := BW5.out.size; omega)).mono (fun e w' hp => rdq_of HRD.out hp)
    have := (SLI.out wx hb).take (N := m) (by omega)
    rwa [List.take_append_of_le_length (by rw [HLEN.out]; exact Nat.le_refl _), List.take_of_length_le (by rw [HLEN.out]; exact Nat.le_refl _)] at this)
  obtain ⟨S, hS⟩ : ∃ S, strOfNums (b ++ [0, 0, 0, 0]) = S := ⟨_, rfl⟩
  obtain ⟨T, hT⟩ : ∃ T, strOfNums b = T := ⟨_, rfl⟩
  have hTS : T ++ ({ data := #[0, 0, 0, 0] } : ByteArray) = S := by rw [← hT, ← hS]; exact str_four b
  have hTz : T.size = m := by rw [← hT, strOfNums_size, HLEN.out]
  have ADD : Hid (∀ wx, (Op.stringOp .add T ({ data := #[0, 0, 0, 0] } : ByteArray)).run Tryd.prog wx = .ok (.string S) wx) := hidden (fun wx => by rw [run_string_add_sum wx T _ (by rw [hTz]; show m + 4 ≤ _; omega), hTS])
  have ST1 : Hid (∀ wx, Below w5.heap.size w5 wx → (convert 38 9 (.slice (some ⟨gi, 0, none⟩) (m + 4) c4)).run Tryd.prog wx = .ok (.string S) wx) := hidden (fun wx hb => by rw [← hS]; exact run_string_of (P := Tryd.prog) 38 5 9 Tryd.underlying38 Tryd.underlying5 Tryd.underlying9 (cap := c4) (SLI.out wx hb))
  have ST2 : Hid (∀ wx, Below w5.heap.size w5 wx → (convert 38 9 (.slice ad m cap)).run Tryd.prog wx = .ok (.string T) wx) := hidden (fun wx hb => by rw [← hT]; exact run_string_of (P := Tryd.prog) 38 5 9 Tryd.underlying38 Tryd.underlying5 Tryd.underlying9 (cap := cap) (HS.out.later (BW5.out.trans (hb.mono BW5.out.size))))
  have HTZ : Hid (T.size = m ∧ T ++ ({ data := #[0, 0, 0, 0] } : ByteArray) = S) := hidden ⟨hTz, hTS⟩
  obtain ⟨n, hn⟩ : ∃ n, L.length = n := ⟨_, rfl⟩
  have HN := hidden hn
  rw [hn] at RD hn4
  rw [hn]
  have P1S := hidden (P1.start w5 n L)
  have OKL := hidden ok9
  clear hS hT hTS hTz o9 ok9 b9 hor hn O4 BL4 BW4 hec
  go_wp2_with fail
  go_loopw [11, 12, 13, 14] (fun v11 v12 v13 v14 wx => ∃ (i : Nat) (R : List Rw), v12 = .int .i64 (i : Int) ∧ i ≤ 3 ∧ R.length = i ∧ (∃ a11 c11, v11 = .slice a11 i c11) ∧ Hid (P1 w5 wx n L v11 R)) (fun _ v12 _ _ _ => 3 - (intOf v12).toNat)
  case atStart => exact ⟨0, [], rfl, by omega, rfl, ⟨_, _, rfl⟩, P1S⟩
  case round =>
    rename World => wx
    obtain ⟨i, R, rfl, hi, hRl, ⟨a11, c11, rfl⟩, hP⟩ := hrel
    clear P1S
    by_cases hlt : i < 3
    · have hltz : (i : Int) < 3 := by omega
      have hmz : (m : Int) ≤ (c4 : Int) := by omega
      go_wp2_with fail
      refine (RD.out wx hP.out.bel).mono ?_
      rintro e w6 ⟨a6, c6, rfl, o6, b6⟩
      have B6 := hidden b6
      have O6 := hidden o6
      have BB6 := hidden (hP.out.bel.trans (b6.mono hP.out.bel.size))
      have st1 := ST1.out w6 BB6.out
      have st2 := ST2.out w6 BB6.out
      have ad6 := ADD.out w6
      have hs6 := BB6.out.size
      clear o6 b6
      go_wp2_with (first
        | (refine wpList_pushL _ rfl (.tmp 66) (.tmp 68) rfl w5.heap.size (.slice a11 i c11) i (R.map fun r => r.v n) rfl w6 (by have := (hP.out.later B6.out).all; rw [hRl] at this; exact this) a6 n c6 rfl rfl (by omega) hs6 ?_
           intro g7 c7 w7 o7 p7
           have P7 := hidden (hP.out.next O6.out B6.out p7 (by rw [hRl]; exact o7))
           rw [hRl] at P7
           clear o7 p7))
      exact ⟨⟨i + 1, _, rfl, by omega, by simp [hRl], ⟨_, _, rfl⟩, P7⟩, by simp [intOf]; omega⟩
    · obtain rfl : i = 3 := by omega
      have hge : ¬ ((3 : Nat) : Int) < 3 := by omega
      obtain ⟨ga, rfl⟩ : ∃ ga, a11 = some ⟨ga, 0, none⟩ := own_someG (by have := hP.out.all; rw [hRl] at this; exact this) (by omega)
      have hRS := hidden (hP.out.rs hRl)
      have P00 := hidden (hP.out.go hRl)
      obtain ⟨t, ht⟩ : ∃ t, wx.heap.size = t := ⟨_, rfl⟩
      have HRl := hidden hRl
      rw [ht] at hRS P00
      have SAME : Hid (∀ wy a1 c1, Below w5.heap.size w5 wy → Ss wy a1 L → Calls Tryd.prog 16 #[.slice a1 n c1, .slice a9 n c9] wy fun e w' => e = .returned (.bool true) ∧ Chg (fun _ => False) wy w') := hidden (fun wy a1 c1 hb h1 => by
        have := sameP wy a1 a9 c1 c9 L h1 (W9.out.later hb) (by rw [HN.out]; omega)
        rwa [HN.out] at this)
      clear hP hlt hRl ht RD ST1 ST2 ADD HTZ
      go_wp2_with fail
      go_loopw [15, 16, 17, 18, 19, 20, 21] (fun v15 v16 v17 v18 v19 v20 v21 wx => ∃ (i : Nat) (G : List Rw), v16 = .int .i64 (i : Int) ∧ i ≤ 3 ∧ (∃ a15 c15, v15 = .slice a15 i c15) ∧ Hid (P0 w5 wx t n L (.slice (some ⟨ga, 0, none⟩) 3 c11) v15 R G i i)) (fun _ v16 _ _ _ _ _ _ => 3 - (intOf v16).toNat)
      case atStart => exact ⟨0, [], rfl, by omega, ⟨_, _, rfl⟩, P00⟩
      case round =>
        rename World => wy
        obtain ⟨i, G, rfl, hi, ⟨a15, c15, rfl⟩, hP⟩ := hrel
        clear P00 hge
        by_cases hlt : i < 3
        · have hltz : (i : Int) < 3 := by omega
          obtain ⟨u, hu⟩ : ∃ u, 7 + i = u := ⟨_, rfl⟩
          have HU := hidden hu
          have huz : (7 : Int) + (i : Int) = (u : Int) := by omega
          have hub : u < 10 := by omega
          clear hu
          go_wp2_with fail
          go_loopw [17, 18] (fun v17 v18 wx => ∃ (k : Nat), v17 = .int .i64 (k : Int) ∧ k ≤ 3 ∧ i ≤ k ∧ Hid (P0 w5 wx t n L (.slice (some ⟨ga, 0, none⟩) 3 c11) (.slice a15 i c15) R G i i)) (fun v17 _ _ => 3 - (intOf v17).toNat)
          case atStart => exact ⟨i, rfl, by omega, Nat.le_refl _, hP⟩
          case round =>
            rename World => wz
            obtain ⟨k, rfl, hk, hik, hQ⟩ := hrel
            clear hP
            by_cases hk3 : k < 3
            · have hk3z : (k : Int) < 3 := by omega
              obtain ⟨r, hr⟩ : ∃ r, R[k]? = some r := ⟨R[k]'(by rw [HRl.out]; exact hk3), by simp⟩
              have cr := own_cellL hQ.out.all hr
              have SAM := hidden (SAME.out wz r.ad r.c hQ.out.bel (ss_of_owns (hQ.out.new k r hr hik) OKL.out))
              clear hr
              go_wp2_with fail
              refine SAM.out.mono ?_
              rintro e w6 ⟨rfl, c6⟩
              have Q6 := hidden (hQ.out.still c6)
              clear c6 cr SAM
              go_wp2_with fail
              exact ⟨⟨k + 1, by rw [Int.natCast_add]; rfl, by omega, by omega, Q6⟩, by simp [intOf]; omega⟩
            · have hk3z : ¬ (k : Int) < 3 := by omega
              obtain ⟨r, hr⟩ : ∃ r, R[i]? = some r := ⟨R[i]'(by rw [HRl.out]; exact hlt), by simp⟩
              have HR := hidden hr
              have U0 := hidden hQ.out.up
              have O0 := hidden (hQ.out.new i r hr (Nat.le_refl _))
              clear hr hQ
              go_wp2_with fail
              go_loopw [19] (fun v19 wx => ∃ (j : Nat), v19 = .int .i64 (j : Int) ∧ j ≤ n ∧ Hid (P0 w5 wx t n L (.slice (some ⟨ga, 0, none⟩) 3 c11) (.slice a15 i c15) R G i (i + 1)) ∧ Hid (wx.ownsRow r.lo 32 2 (.slice r.ad n r.c) n (cS (sms j u ++ L.drop j)))) (fun v19 _ => n - (intOf v19).toNat)
              case atStart => exact ⟨0, rfl, by omega, U0, hidden (by simpa [sms, Rw.v] using O0.out)⟩
              case round =>
                rename World => wq
                obtain ⟨j, rfl, hj, hU, hO⟩ := hrel
                clear U0 O0
                have cr := own_cellL hU.out.all HR.out
                by_cases hjn : j < n
                · have hjz : (j : Int) < (n : Int) := by omega
                  obtain ⟨g, hg⟩ := own_someG hO.out (by omega)
                  rw [hg] at cr hO
                  have f0 := own_frozen hO.out (j * 2)
                  have f1 := own_frozen hO.out (j * 2 + 1)
                  obtain ⟨va, vb, c0, c1⟩ := own_cells2 hO.out (j := j) (by rw [List.length_append, sms_len, List.length_drop, HN.out]; omega)
                  go_wp2_with fail
                  have U1 := hidden (hU.out.set hRS.out HR.out hg hO.out j (.int .i64 0) (.int .u64 (u : Int)))
                  have O1 := hidden (owns_setS (x := ⟨0, u⟩) hO.out (k := j) (by rw [List.length_append, sms_len, List.length_drop, HN.out]; omega))
                  rw [sms_over (by rw [HN.out]; exact hjn)] at O1
                  exact ⟨⟨j + 1, by rw [Int.natCast_add]; rfl, by omega, U1, hidden (by rw [hg]; exact O1.out)⟩, by simp [intOf]; omega⟩
                · obtain rfl : j = n := by omega
                  have hjz : ¬ (j : Int) < (j : Int) := by omega
                  have hO1 : wq.ownsRow r.lo 32 2 (.slice r.ad j r.c) j (cS (sms j u)) := by
                    have := hO.out
                    rwa [List.drop_of_length_le (by rw [HN.out]; exact Nat.le_refl _), List.append_nil] at this
                  have OFF : Hid (∀ z, r.ad = some z → z.off = 0 ∧ z.spot = none) := hidden (by
                    obtain ⟨ad', c', e1, _, h, _⟩ := owns_formS hO1
                    injection e1 with e1
                    subst e1
                    exact h)
                  have P30 : Hid (P3 w5 wq t j R G i 0 r (.slice r.ad (j + 0) r.c)) := hidden ⟨by rw [HU.out]; exact owns_base hO1 (fun g hg => by have h1 := (hRS.out.blk i r HR.out g hg).1; have h2 := (hRS.out.lo i r HR.out).1; omega), by rw [HU.out]; exact sq_of_owns hO1 (sms_ok (by omega)), fun b hb => .inl (hRS.out.blk i r HR.out b hb)⟩
                  clear hO hO1 hjn
                  go_wp2_with fail
                  go_loopw [20, 21] (fun v20 v21 wx => ∃ (q : Nat), v21 = .int .i64 (q : Int) ∧ q ≤ 40 ∧ (∃ a20 c20, v20 = .slice a20 (j + q) c20) ∧ Hid (P0 w5 wx t j L (.slice (some ⟨ga, 0, none⟩) 3 c11) (.slice a15 i c15) R G i (i + 1)) ∧ Hid (P3 w5 wx t j R G i q r v20)) (fun _ v21 _ => 40 - (intOf v21).toNat)
                  case atStart => exact ⟨0, rfl, by omega, ⟨_, _, rfl⟩, hU, P30⟩
                  case round =>
                    rename World => wp
                    obtain ⟨q, rfl, hq, ⟨a20, c20, rfl⟩, hV, hW⟩ := hrel
                    clear hU P30 cr
                    have hbs := hV.out.bel.size
                    by_cases hq4 : q < 40
                    · have hqz : (q : Int) < 40 := by omega
                      have hWo := hidden hW.out.own
                      rw [HU.out] at hWo
                      go_wp2_with (refine wpList_pushP _ rfl (.tmp 114) (.tmp 119) rfl w5.heap.size (.slice a20 (j + q) c20) (j + q) (sms (j + q) u) rfl wp hWo.out ⟨0, u⟩ rfl rfl (by omega) hbs ?_
                                   intro g7 c7 w7 o7 p7
                                   rw [← HU.out] at o7
                                   have V7 := hidden (hW.out.push hRS.out HR.out hlt hV.out OFF.out o7 p7)
                                   clear o7 p7)
                      exact ⟨⟨q + 1, by rw [Int.natCast_add]; rfl, by omega, ⟨_, _, rfl⟩, hidden V7.out.1, hidden V7.out.2⟩, by simp [intOf]; omega⟩
                    · obtain rfl : q = 40 := by omega
                      rw [show ((40 : Nat) : Int) = 40 from rfl]
                      clear hq4
                      go_wp2_with (refine wpList_pushL _ rfl (.tmp 121) (.tmp 123) rfl w5.heap.size (.slice a15 i c15) i (G.map fun r => r.v (j + 40)) rfl wp hV.out.lng a20 (j + 40) c20 rfl rfl (by omega) hbs ?_
                                   intro g7 c7 w7 o7 p7
                                   have V7 := hidden (hV.out.done hRS.out HR.out hW.out o7 p7)
                                   clear o7 p7)
                      exact ⟨⟨i + 1, _, by rw [Int.natCast_add]; rfl, by omega, ⟨_, _, rfl⟩, V7⟩, by simp [intOf]; omega⟩
        · obtain rfl : i = 3 := by omega
          have hltz : ¬ ((3 : Nat) : Int) < 3 := by omega
          obtain ⟨gl, rfl⟩ : ∃ gl, a15 = some ⟨gl, 0, none⟩ := own_someG hP.out.lng (by omega)
          have XAT : Hid (∀ k, k < 3 → ∃ b o c, wy.cell? ⟨gl, k, none⟩ = some (.slice (some ⟨b, o, none⟩) (n + 40) c) ∧ ∀ j, j < n + 40 → wy.cell? ⟨b, o + j * 2 + 1, none⟩ = some (.int .u64 ((7 + k : Nat) : Int))) := hidden (fun k hk => by
            obtain ⟨r, hr⟩ : ∃ r, G[k]? = some r := ⟨G[k]'(by rw [hP.out.gl]; exact hk), by simp⟩
            have hs := (hP.out.grown k r hr).ss
            obtain ⟨b, o, e, _, hc⟩ := hs.at' (by simp [sms])
            refine ⟨b, o, r.c, by rw [own_cellL hP.out.lng hr, e], fun j hj => (hc j _ (sms_at hj)).2⟩)
          have AAT : Hid (∀ k, k < 3 → ∃ z c, wy.cell? ⟨ga, k, none⟩ = some (.slice z n c) ∧ ∀ j, j < n → ∃ b o, z = some ⟨b, o, none⟩ ∧ wy.cell? ⟨b, o + j * 2 + 1, none⟩ = some (.int .u64 ((7 + k : Nat) : Int))) := hidden (fun k hk => by
            obtain ⟨r, hr⟩ : ∃ r, R[k]? = some r := ⟨R[k]'(by rw [HRl.out]; exact hk), by simp⟩
            have hs := (hP.out.old k r hr hk).ss
            refine ⟨r.ad, r.c, own_cellL hP.out.all hr, fun j hj => ?_⟩
            obtain ⟨b, o, e, _, hc⟩ := hs.at' (by intro e; have := congrArg List.length e; rw [sms_len] at this; simp at this; omega)
            exact ⟨b, o, e, (hc j _ (sms_at hj)).2⟩)
          have BELY := hidden hP.out.bel
          clear hP hlt SAME hRS HRl
          rw [show ((3 : Nat) : Int) = 3 from rfl]
          go_wp2_with fail
          go_loopw [22, 23] (fun v22 v23 wx => wy = wx ∧ ∃ k : Nat, k ≤ 3 ∧ v22 = .int .i64 (k : Int)) (fun v22 _ _ => 3 - (intOf v22).toNat)
          case atStart => exact ⟨rfl, 0, by omega, rfl⟩
          case round =>
            rename World => wx
            obtain ⟨rfl, k, hk, rfl⟩ := hrel
            by_cases hk3 : k < 3
            · have hk3z : (k : Int) < 3 := by omega
              obtain ⟨b1, o1, d1, cx, vx⟩ := XAT.out k hk3
              obtain ⟨z1, d2, ca, va⟩ := AAT.out k hk3
              obtain ⟨u, hu⟩ : ∃ u, 7 + k = u := ⟨_, rfl⟩
              have huz : (7 : Int) + (k : Int) = (u : Int) := by omega
              have hub : u < 10 := by omega
              rw [hu] at vx va
              have VX := hidden vx
              have VA := hidden va
              clear vx va hu
              go_wp2_with fail
              go_loopw [23] (fun v23 wx => wy = wx ∧ ∃ q : Nat, q ≤ n + 40 ∧ v23 = .int .i64 (q : Int)) (fun v23 _ => n + 40 - (intOf v23).toNat)
              case atStart => exact ⟨rfl, 0, by omega, rfl⟩
              case round =>
                rename World => wx
                obtain ⟨rfl, q, hq, rfl⟩ := hrel
                by_cases hqn : q < n + 40
                · have hqz : (q : Int) < (n : Int) + 40 := by omega
                  have k1 := VX.out q hqn
                  by_cases hqm : q < n
                  · have hqmz : (q : Int) < (n : Int) := by omega
                    obtain ⟨b2, o2, rfl, k2⟩ := VA.out q hqm
                    go_wp2_with fail
                    exact ⟨⟨by first | rfl | trivial, q + 1, by omega, by rw [Int.natCast_add]; rfl⟩, by simp [intOf]; omega⟩
                  · have hqmz : ¬ (q : Int) < (n : Int) := by omega
                    go_wp2_with fail
                    exact ⟨⟨by first | rfl | trivial, q + 1, by omega, by rw [Int.natCast_add]; rfl⟩, by simp [intOf]; omega⟩
                · have hqz : ¬ (q : Int) < (n : Int) + 40 := by omega
                  go_wp2_with fail
                  exact ⟨⟨by first | rfl | trivial, k + 1, by omega, by rw [Int.natCast_add]; rfl⟩, by simp [intOf]; omega⟩
            · have hk3z : ¬ (k : Int) < 3 := by omega
              clear XAT AAT
              have BWY := hidden (BW5.out.trans (BELY.out.mono BW5.out.size))
              by_cases hm0 : m = 0
              · have hm0z : ((m : Int) == 0) = true := by subst hm0; rfl
                have hm0y : (m : Int) = 0 := by omega
                go_wp2_with fail
                go_ret
                exact ⟨by first | rfl | simp, BWY.out⟩
              · have hm0z : ((m : Int) == 0) = false := by simp; omega
                have hm0y : ¬ (m : Int) = 0 := by omega
                go_upto_if 182 with fail
                generalize hbo : decide (at' < 0) = bo at *
                go_cut [1] from 183 to 185 (fun s1 wx => wx = wy ∧ ∃ A : Int, s1 = .int .i64 A ∧ 0 ≤ A ∧ A ≤ 9223372036854775807)
                case first =>
                  cases bo with
                  | true =>
                    have hl0 : at' < 0 := of_decide_eq_true hbo
                    go_wp2_with fail
                    all_goals (go_meet; exact ⟨rfl, _, rfl, by omega, by omega⟩)
                  | false =>
                    have hl0 : ¬ at' < 0 := of_decide_eq_false hbo
                    go_wp2_with fail
                    all_goals (go_meet; exact ⟨rfl, _, rfl, by omega, by omega⟩)
                case rest =>
                  obtain ⟨rfl, A, rfl, hA0, hA1⟩ := hcut
                  obtain ⟨q, hq⟩ : ∃ q : Nat, A.tmod (m : Int) = (q : Int) := ⟨(A.tmod (m : Int)).toNat, by
                    have := Int.tmod_nonneg (m : Int) hA0
                    omega⟩
                  have hqm : q < m := by
                    have h1 := Int.tmod_lt_of_pos A (show (0 : Int) < (m : Int) by omega)
                    omega
                  have hq0 : ¬ (q : Int) < 0 := by omega
                  have OY := hidden (owl OI5.out BELY.out)
                  obtain ⟨k0, k1⟩ := own_at OY.out q (by rw [List.length_append, HLEN.out]; simp; omega)
                  have hqz : (q : Int) < (m : Int) + 4 := by omega
                  have hgi := GIL.out
                  have BS : Hid (Below w.heap.size w (wc.setCell ⟨gi, q, none⟩ (.int .u8 by'))) := hidden (BWY.out.trans ((Chg.set ⟨gi, q, none⟩ (.int .u8 by') wc).below BWY.out.size (fun z hz => by simp only at hz; omega)))
                  have OS := hidden (owns_set OY.out q by' (by rw [List.length_append, HLEN.out]; simp; omega))
                  have GS : Hid (Gv (wc.setCell ⟨gi, q, none⟩ (.int .u8 by'))) := hidden (gv_chg (HG.out.later BWY.out) (Chg.set ⟨gi, q, none⟩ _ wc) ⟨fun e => by simp only at e; omega, fun e => by simp only at e; omega⟩)
                  have SS : Hid (Sl (wc.setCell ⟨gi, q, none⟩ (.int .u8 by')) (some ⟨gi, 0, none⟩) m (b.set q by')) := hidden (by
                    have h1 := (sl_of_owns OS.out (by
                      intro x hx
                      rcases List.mem_or_eq_of_mem_set hx with hx | rfl
                      · exact HBY4.out x hx
                      · exact hby)).take (N := m) (by omega)
                    rwa [List.set_append_left _ _ (by rw [HLEN.out]; exact hqm), List.take_append_of_le_length (by rw [List.length_set, HLEN.out]; exact Nat.le_refl _), List.take_of_length_le (by rw [List.length_set, HLEN.out]; exact Nat.le_refl _)] at h1)
                  have hmz : (m : Int) ≤ (c4 : Int) := by omega
                  clear hgi OY OS
                  go_wp2_with (first | simp only [hq] | fail)
                  have hsS := BS.out.size
                  refine (readP _ (some ⟨gi, 0, none⟩) m c4 (b.set q by') SS.out GS.out (by omega) (by omega) (by omega) (fun e => by cases e) (by omega)).mono ?_
                  rintro e w6 ⟨a6, c6, l6, e6, rfl, o6, k6, b6, or6⟩
                  have O6 := hidden (ss_of_owns o6 k6)
                  have S6 := hidden (SS.out.later b6)
                  have B6 := hidden (BS.out.trans (b6.mono BS.out.size))
                  have R6 : Hid (RdO (b.set q by') l6 e6) := hidden or6
                  clear o6 k6 b6 or6 BS GS SS k0 k1
                  go_wp2_with fail
                  refine (readD w6 (some ⟨gi, 0, none⟩) m c4 (b.set q by') S6.out (by omega) (by omega) (by omega) (fun e => by cases e)).mono ?_
                  rintro e w7 ⟨a7, c7, l7, e7, rfl, o7, k7, b7, or7⟩
                  have R7 : RdO (b.set q by') l7 e7 := or7
                  obtain ⟨rfl, rfl⟩ := R6.out.same R7
                  have O7 := hidden (ss_of_owns o7 k7)
                  have O67 := hidden (O6.out.later b7)
                  have B7 := hidden (B6.out.trans (b7.mono B6.out.size))
                  have hle := R7.len S6.out.byte
                  rw [S6.out.len] at hle
                  clear o7 k7 b7 or7 R7 R6 S6 O6 B6
                  go_wp2_with fail
                  refine (sameP w7 a6 a7 c6 c7 l7 O67.out O7.out (by omega)).mono ?_
                  rintro e w8 ⟨rfl, ch8⟩
                  have B8 := hidden (B7.out.trans (ch8.below B7.out.size (fun _ e => e.elim)))
                  clear ch8 B7 O7 O67
                  go_wp2_with fail
                  go_ret
                  exact ⟨by first | rfl | simp, B8.out⟩

end Go.Proofs.YtcgjmioncbihhaaDoor
