import Derived.Test.YtfhhcpcedfgceaaFillN
import Derived.Test.YtfhhcpcedfgceaaNumF
import Derived.Deep.RegionHeld3
import Derived.Deep.AppendLies
namespace Go.Proofs.Ytfhhcpcedfgceaa
open Go.RowKit
set_option linter.unusedVariables false

theorem info22 : (Try.prog.info? 22).map (fun i => (i.zero, i.size, i.bytes)) = some (some (.slice none 0 0), 1, 24) := by kernel_rfl

/-- The lists as they came. -/
def VV (ad : Nat → Option Addr) (nn cc : Nat → Nat) (k : Nat) : Value := .slice (ad k) (nn k) (cc k)
/-- The marks of the first i lists. -/
def mks (i : Nat) : List Int := (List.range i).map (fun k : Nat => (k : Int) + 1)
theorem mks_length (i : Nat) : (mks i).length = i := by simp [mks]
theorem mks_succ (i : Nat) : mks (i + 1) = mks i ++ [(i : Int) + 1] := by simp [mks, List.range_succ]

theorem r_cell {w0 w : World} {B p M : Nat} {tch : Nat → Prop} {a b vl : Value} {n1 : Nat} {xs : List Value} {vm : Value} {n2 : Nat} {ys : List Int} {D : Nat → Value} {N : Nat → Nat} {L : Nat → List Int}
    (h : R w0 B p M tch w a b vl n1 xs vm n2 ys D N L) : w.cell? ⟨p, 0, none⟩ = some a ∧ w.cell? ⟨p, 1, none⟩ = some b ∧ w.frozen? ⟨p, 0, none⟩ = false ∧ w.frozen? ⟨p, 1, none⟩ = false := by
  refine ⟨?_, ?_, frozen_of_row w p 0 _ 28 h.own, frozen_of_row w p 1 _ 28 h.own⟩
  · rw [cell_of_row w p 0 _ 28 (0, 0) h.own]; rfl
  · rw [cell_of_row w p 1 _ 28 (0, 0) h.own]; rfl

/-- One cell of a row of bytes is written. -/
theorem fill_step {w : World} {b n c : Nat} {l : List Int} {k : Nat} {x : Int} (hk : k < n) (hl : l.length = n) (h : w.ownsRow 0 5 1 (.slice (some ⟨b, 0, none⟩) n c) n (cells8 (List.replicate k x ++ l.drop k))) :
    (w.setCell ⟨b, k, none⟩ (.int .u8 x)).ownsRow 0 5 1 (.slice (some ⟨b, 0, none⟩) n c) n (cells8 (List.replicate (k + 1) x ++ l.drop (k + 1))) := by
  have h1 := (h.stored k (.int .u8 x)).1
  have e : (cells8 (List.replicate k x ++ l.drop k)).set k (.int .u8 x) = cells8 (List.replicate (k + 1) x ++ l.drop (k + 1)) := by
    unfold cells8
    rw [← List.map_set]
    congr 1
    rw [List.set_append, if_neg (by simp), List.length_replicate, Nat.sub_self, List.drop_eq_getElem_cons (by omega), List.set_cons_zero, List.replicate_succ']
    simp
  rw [e] at h1
  exact h1

theorem grown_trans {a b c : World} {row : Option Nat} (h : a.grownBy b row) (k : b.grownBy c row) : a.grownBy c row :=
  ⟨k.os.trans h.os, k.tape.trans h.tape, k.output.trans h.output, Nat.le_trans h.size k.size, fun i hi hr => (k.block i (Nat.lt_of_lt_of_le hi h.size) hr).trans (h.block i hi hr)⟩

theorem vv_same (ad : Nat → Option Addr) (nn cc : Nat → Nat) (i : Nat) : (fun k => if k = i then VV ad nn cc i else VV ad nn cc k) = VV ad nn cc := by
  funext k; split
  · rename_i h; rw [h]
  · rfl
theorem nn_same (nn : Nat → Nat) (i : Nat) : (fun k => if k = i then nn i else nn k) = nn := by
  funext k; split
  · rename_i h; rw [h]
  · rfl

theorem range_vv (ad : Nat → Option Addr) (nn cc : Nat → Nat) (i : Nat) : (List.range i).map (VV ad nn cc) ++ [.slice (ad i) (nn i) (cc i)] = (List.range (i + 1)).map (VV ad nn cc) := by
  rw [List.range_succ, List.map_append]; rfl
theorem done_step {nn : Nat → Nat} {L : Nat → List Int} {i : Nat} (h : ∀ k, k < i → L k = List.replicate (nn k) ((k : Int) + 1)) :
    ∀ k, k < i + 1 → (fun k => if k = i then List.replicate (nn i) ((i : Int) + 1) else L k) k = List.replicate (nn k) ((k : Int) + 1) := by
  intro k hk
  by_cases hki : k = i
  · subst hki; simp
  · simp only [hki, if_false]; exact h k (by omega)

/-- All lists read as their marks. -/
def Rd (i : Nat) (ad : Nat → Option Addr) (nn : Nat → Nat) (w : World) : Prop := ∀ k, k < i → Sl w (ad k) (nn k) (List.replicate (nn k) ((k : Int) + 1))
theorem Rd.step {i : Nat} {ad : Nat → Option Addr} {nn cc : Nat → Nat} {w w' : World} {row : Option Nat} (h : Rd i ad nn w) (hg : w.grownBy w' row) (hr : ∀ x, row = some x → ∀ k, k < i → (VV ad nn cc k).ownBlock ≠ some x) : Rd i ad nn w' :=
  fun k hk => sl_grown (c := cc k) (h k hk) hg (fun x hx e => hr x e k hk hx)
theorem Rd.alloc {i : Nat} {ad : Nat → Option Addr} {nn : Nat → Nat} {w : World} (h : Rd i ad nn w) (o : Obj) : Rd i ad nn (w.alloc o) :=
  h.step (cc := fun _ => 0) (World.grownBy_alloc w o none) (fun x e => by cases e)
theorem Rd.drew {i : Nat} {ad : Nat → Option Addr} {nn : Nat → Nat} {w : World} (h : Rd i ad nn w) : Rd i ad nn w.drew := fun k hk => ⟨(h k hk).len, (h k hk).byte, (h k hk).cell⟩
theorem Rd.push {i B g : Nat} {ad : Nat → Option Addr} {nn cc : Nat → Nat} {w w' : World} {v : Value} (h : Rd i ad nn w) (hp : Pushed w w' v g) (hv : ∀ x, v.ownBlock = some x → B ≤ x) (hb : ∀ k, k < i → ∀ x, (VV ad nn cc k).ownBlock = some x → x < B) : Rd i ad nn w' := by
  rcases hp with ⟨h1, hg⟩ | ⟨_, hg⟩
  · refine h.step (cc := cc) hg (fun x e k hk hx => ?_)
    obtain rfl := Option.some.inj e
    have := hv _ h1
    have := hb k hk _ hx
    omega
  · exact h.step (cc := cc) hg (fun x e => by cases e)
theorem Rd.setP {i p o : Nat} {ad : Nat → Option Addr} {nn cc : Nat → Nat} {w : World} {u : Value} (h : Rd i ad nn w) (hb : ∀ k, k < i → ∀ x, (VV ad nn cc k).ownBlock = some x → x ≠ p) : Rd i ad nn (w.setCell ⟨p, o, none⟩ u) :=
  h.step (cc := cc) (row := some p) ⟨rfl, rfl, rfl, by simp [World.setCell], fun k _ hk => heap_setCell_other w ⟨p, o, none⟩ k u (fun e => hk (by simp [e]))⟩ (fun x e k hk hx => by obtain rfl := Option.some.inj e; exact hb k hk _ hx rfl)

theorem range_d (D : Nat → Value) (v : Value) (j : Nat) : (List.range j).map D ++ [v] = (List.range (j + 1)).map (fun k => if k = j then v else D k) := by
  rw [List.range_succ, List.map_append]
  congr 1
  · apply List.map_congr_left
    intro k hk
    have := List.mem_range.1 hk
    rw [if_neg (by omega)]
  · simp

/-- The address of a row with an element. -/
theorem owns_addr {w : World} {base : Nat} {e : TypeId} {ad : Option Addr} {n c : Nat} {xs : List Value} (h : w.ownsRow base e 1 (.slice ad n c) n xs) (hp : 0 < n) : ∃ g, ad = some ⟨g, 0, none⟩ := by
  rcases h.2 with ⟨_, h0⟩ | ⟨g, c', cur, hv, _⟩
  · omega
  · simp only [Value.slice.injEq] at hv
    exact ⟨g, hv.1⟩

theorem hk_step {i j : Nat} {D V : Nat → Value} {N nn : Nat → Nat} {L : Nat → List Int} {v : Value} (h : ∀ k, k < i → (k < j → N k = nn k + 70) ∧ (j ≤ k → D k = V k ∧ N k = nn k) ∧ L k = List.replicate (N k) ((k : Int) + 1)) :
    ∀ k, k < i → (k < j + 1 → (fun k => if k = j then nn j + 70 else N k) k = nn k + 70) ∧ (j + 1 ≤ k → (fun k => if k = j then v else D k) k = V k ∧ (fun k => if k = j then nn j + 70 else N k) k = nn k) ∧
      (fun k => if k = j then List.replicate (nn j + 70) ((j : Int) + 1) else L k) k = List.replicate ((fun k => if k = j then nn j + 70 else N k) k) ((k : Int) + 1) := by
  intro k hk
  obtain ⟨h1, h2, h3⟩ := h k hk
  by_cases hkj : k = j
  · subst hkj
    exact ⟨fun _ => by simp, fun h => by omega, by simp⟩
  · simp only [hkj, if_false]
    exact ⟨fun h => h1 (by omega), fun h => h2 (by omega), h3⟩

/-- What 'fill' leaves. -/
def Filled (w : World) (p m : Nat) (ad : Nat → Option Addr) (nn cc : Nat → Nat) (tch : Nat → Prop) (w' : World) : Prop :=
  ∃ (vl vm : Value) (D : Nat → Value) (N : Nat → Nat) (L : Nat → List Int), R w w.heap.size p m tch w' vl vm vl (m + m) ((List.range m).map (VV ad nn cc) ++ (List.range m).map D) vm (m + m) (mks m ++ mks m) D N L ∧
    (∀ k, k < m → L k = List.replicate (N k) ((k : Int) + 1)) ∧ Rd m ad nn w'

set_option maxRecDepth 100000 in
set_option maxHeartbeats 4000000 in
theorem fill_any (p gA m cA : Nat) (ad : Nat → Option Addr) (nn cc : Nat → Nat) (L0 : Nat → List Int) (tch : Nat → Prop) (w : World)
    (hR : R w w.heap.size p m tch w (.slice none 0 0) (.slice none 0 0) (.slice none 0 0) 0 [] (.slice none 0 0) 0 [] (VV ad nn cc) nn L0)
    (hA : ∀ k, k < m → w.cell? ⟨gA, k, none⟩ = some (.slice (ad k) (nn k) (cc k))) (hg1 : gA < w.heap.size) (hg2 : gA ≠ p) (hg3 : ¬ tch gA) (hm : m ≤ 100) (hnn : ∀ k, k < m → nn k ≤ 140737488351232) :
    Calls Try.prog 15 #[.pointer (some ⟨p, 0, none⟩), .slice (some ⟨gA, 0, none⟩) m cA] w fun e w' => e = .returned (.tuple #[]) ∧ Filled w p m ad nn cc tch w' := by
  obtain ⟨i0, hi, hz0, hz1, hz2⟩ := info_parts info5
  obtain ⟨i2, hi2, hy0, hy1, hy2⟩ := info_parts info22
  obtain ⟨hc0, hc1, _, _⟩ := r_cell hR
  have HA := hidden hA
  have HN := hidden hnn
  have HR := hidden hR
  clear hA hnn hR
  go_enter Try.func15, Try.ntmps15
  go_wp2_with fail
  go_loopw [5] (fun iv wr => ∃ (i : Nat) (vl vm : Value) (L : Nat → List Int), i ≤ m ∧ iv = .int .i64 i ∧ R w w.heap.size p m tch wr vl vm vl i ((List.range i).map (VV ad nn cc)) vm i (mks i) (VV ad nn cc) nn L ∧ ∀ k, k < i → L k = List.replicate (nn k) ((k : Int) + 1)) (fun iv _ => m - (intOf iv).toNat)
  case atStart => exact ⟨0, _, _, L0, Nat.zero_le _, rfl, by simpa [mks] using HR.out, fun k hk => by omega⟩
  case round =>
    rename World => wo
    obtain ⟨i, vl, vm, L, him, rfl, hr, hdone⟩ := hrel
    clear hc0 hc1
    obtain ⟨al, cl, rfl⟩ := owns_form hr.l
    obtain ⟨am, cm, rfl⟩ := owns_form hr.mm
    obtain ⟨hc0, hc1, hf0, hf1⟩ := r_cell hr
    have HR2 := hidden hr
    have HD := hidden hdone
    have HR0 := HR
    clear hr hdone HR
    by_cases hlt : i < m
    · have hai : wo.cell? ⟨gA, i, none⟩ = some (.slice (ad i) (nn i) (cc i)) := (World.cell?_of_block (w := w) (HR2.out.keep gA hg1 hg2 hg3)).trans (HA.out i hlt)
      have hn := HN.out i hlt
      have hrow := HR2.out.row i hlt
      have hLl : (L i).length = nn i := by have := hrow.1; rw [cells8_length] at this; omega
      have HLl := hidden hLl
      clear hLl
      have hdom := hidden (HR2.out.dom i hlt)
      have HROW := hidden hrow
      clear hrow
      have HAI := hidden hai
      have hlt2 : gA < wo.heap.size := Nat.lt_of_lt_of_le hg1 HR2.out.size
      go_wp2_with fail
      go_loopw [7] (fun kv ws => ∃ k : Nat, k ≤ nn i ∧ kv = .int .i64 k ∧ wo.grownBy ws (VV ad nn cc i).ownBlock ∧ ws.ownsRow 0 5 1 (VV ad nn cc i) (nn i) (cells8 (List.replicate k ((i : Int) + 1) ++ (L i).drop k))) (fun kv _ => nn i - (intOf kv).toNat)
      case atStart => exact ⟨0, Nat.zero_le _, rfl, World.grownBy.refl _ _, by simpa using HROW.out⟩
      case round =>
        obtain ⟨k, hk, rfl, hgw, how⟩ := hrel
        have haw : wr.cell? ⟨gA, i, none⟩ = some (.slice (ad i) (nn i) (cc i)) := (World.cell?_of_block (w := wo) (hgw.block gA hlt2 (fun e => by
          rcases (hdom.out gA e.symm).2.1 with h1 | h1
          · exact hg3 h1
          · omega))).trans HAI.out
        by_cases hkn : k < nn i
        · obtain ⟨b, hab⟩ : ∃ b, ad i = some ⟨b, 0, none⟩ := by
            rcases how.2 with ⟨_, h0⟩ | ⟨g, c, cur, hv, _⟩
            · omega
            · simp only [VV, Value.slice.injEq] at hv
              exact ⟨g, hv.1⟩
          have how2 : wr.ownsRow 0 5 1 (.slice (some ⟨b, 0, none⟩) (nn i) (cc i)) (nn i) (cells8 (List.replicate k ((i : Int) + 1) ++ (L i).drop k)) := by
            have := how
            unfold VV at this
            rw [hab] at this
            exact this
          have hcell : ∃ old, wr.cell? ⟨b, k, none⟩ = some old := ⟨_, (how2.cellAt k (by omega)).trans (List.getElem?_eq_getElem (by rw [cells8_length, List.length_append, List.length_replicate, List.length_drop, HLl.out]; omega))⟩
          obtain ⟨old, hcell⟩ := hcell
          have hfr := how2.frozenAt k
          have hst := hidden (fill_step hkn HLl.out how2)
          have hst2 := hidden (how2.stored k (.int .u8 ((i : Int) + 1))).2
          have HGW := hidden hgw
          have HAB := hidden hab
          rw [hab] at haw
          clear how how2 hab hgw hai
          go_wp2
          go_roundw
          case rel =>
            refine ⟨k + 1, by omega, by go_num, grown_trans HGW.out ?_, ?_⟩
            · have := hst2.out
              simpa [VV, HAB.out, Value.ownBlock] using this
            · have := hst.out
              simpa [VV, HAB.out] using this
          case measure => simp [intOf]; omega
        · obtain rfl : k = nn i := by omega
          have hnew := HR2.out.change i hlt hgw (v' := VV ad nn cc i) (n' := nn i) (l' := List.replicate (nn i) ((i : Int) + 1)) (by simpa [List.drop_eq_nil_of_le, HLl.out] using how) (fun x hx => .inl hx)
          rw [vv_same, nn_same] at hnew
          obtain ⟨hc0, hc1, hf0, hf1⟩ := r_cell hnew
          have HNEW := hidden hnew
          clear hnew how hgw hai
          have hpl : p < wr.heap.size := Nat.lt_of_lt_of_le HNEW.out.pB HNEW.out.size
          have hgl : gA < wr.heap.size := Nat.lt_of_lt_of_le hg1 HNEW.out.size
          have hsz := HNEW.out.size
          go_wp2_with fail
          go_region_law ((refine step_push _ (by rfl) _ _ 26 (by rfl) 22 i2 (.slice none 0 0) 24 Try.underlying26 hi2 hy0 hy1 hy2 (by rfl) w.heap.size (.slice al i cl) i ((List.range i).map (VV ad nn cc)) (by rfl) (by exact (HNEW.out.alloc _).drew.l) ⟨wr.heap.size, 0, none⟩ (.slice (ad i) (nn i) (cc i)) (by rfl) (by simp) (by rfl) (by unfold maxLen; omega) (by omega) (by simp; omega) ?_; intro g1 c1 w1 ho1 hp1; obtain ⟨q0, q1, q2, q3⟩ := r_cell ((HNEW.out.alloc _).drew.pushL ho1 hp1)))
          all_goals
            have hr1 := ((HNEW.out.alloc (.cells #[.slice (ad i) (nn i) (cc i)] 22)).drew.pushL ho1 hp1).setP 0 (.slice (some ⟨g1, 0, none⟩) (i + 1) c1) rfl
            obtain ⟨s0, s1, s2, s3⟩ := r_cell hr1
            have HR3 := hidden hr1
            have hsz3 := hr1.size
            have hpl3 : p < (w1.setCell ⟨p, 0, none⟩ (.slice (some ⟨g1, 0, none⟩) (i + 1) c1)).heap.size := Nat.lt_of_lt_of_le hr1.pB hr1.size
            clear hr1 q0 q1 q2 q3 ho1 hp1 hc0 hc1 hf0 hf1 haw
            generalize w1.setCell ⟨p, 0, none⟩ (.slice (some ⟨g1, 0, none⟩) (i + 1) c1) = w2 at *
            go_wp2_with (first
              | (at_builtin; refine wpList_push _ rfl _ _ 22 rfl 5 i0 (.int .u8 0) 1 Try.underlying22 hi hz0 hz1 hz2 rfl w.heap.size (.slice am i cm) i (cells8 (mks i)) rfl (by exact (HR3.out.alloc _).mm) ⟨w2.heap.size, 0, none⟩ (.int .u8 ((i : Int) + 1)) rfl (by simp) rfl (by unfold maxLen; omega) (by omega) (by simp; omega) ?_; intro g2 c2 w3 ho2 hp2; rw [show cells8 (mks i) ++ [.int .u8 ((i : Int) + 1)] = cells8 (mks (i + 1)) by rw [mks_succ, cells8_append]; rfl] at ho2; obtain ⟨t0, t1, t2, t3⟩ := r_cell ((HR3.out.alloc _).pushM ho2 hp2)))
            have hr4 := ((HR3.out.alloc (.cells #[.int .u8 ((i : Int) + 1)] 5)).pushM ho2 hp2).setP 1 (.slice (some ⟨g2, 0, none⟩) (i + 1) c2) rfl
            rw [range_vv] at hr4
            exact ⟨⟨i + 1, _, _, _, by omega, by go_num, hr4, done_step HD.out⟩, by simp [intOf]; omega⟩
    · obtain rfl : i = m := by omega
      go_wp2_with fail
      have hlow : ∀ k, k < i → ∀ x, (VV ad nn cc k).ownBlock = some x → x < w.heap.size := fun k hk x hx => (own_lt (HR0.out.row k hk) hx).2
      have hnp : ∀ k, k < i → ∀ x, (VV ad nn cc k).ownBlock = some x → x ≠ p := fun k hk x hx => (HR0.out.dom k hk x hx).1
      have hpw := HR0.out.pw
      have HLOW := hidden hlow
      have HNP := hidden hnp
      have HPW := hidden hpw
      clear hlow hnp hpw
      go_loopw [9] (fun jv wr => ∃ (j : Nat) (vl vm : Value) (D : Nat → Value) (N : Nat → Nat) (L : Nat → List Int), j ≤ i ∧ jv = .int .i64 j ∧ R w w.heap.size p i tch wr vl vm vl (i + j) ((List.range i).map (VV ad nn cc) ++ (List.range j).map D) vm (i + j) (mks i ++ mks j) D N L ∧ (∀ k, k < i → (k < j → N k = nn k + 70) ∧ (j ≤ k → D k = VV ad nn cc k ∧ N k = nn k) ∧ L k = List.replicate (N k) ((k : Int) + 1)) ∧ Rd i ad nn wr) (fun jv _ => i - (intOf jv).toNat)
      case atStart =>
        refine ⟨0, _, _, VV ad nn cc, nn, L, Nat.zero_le _, rfl, by simpa [mks] using HR2.out, fun k hk => ⟨fun h => by omega, fun _ => ⟨rfl, rfl⟩, HD.out k hk⟩, fun k hk => ?_⟩
        have := HR2.out.row k hk
        rw [HD.out k hk] at this
        exact sl_of_owns this (fun n hn => by have := List.eq_of_mem_replicate hn; omega)
      case round =>
        rename World => wq
        obtain ⟨j, vl, vm, D, N, L', hji, rfl, hr, hk3, hrd⟩ := hrel
        by_cases hlt : j < i
        · obtain ⟨al2, cl2, rfl⟩ := owns_form hr.l
          obtain ⟨am2, cm2, rfl⟩ := owns_form hr.mm
          obtain ⟨gl, rfl⟩ := owns_addr hr.l (by omega)
          obtain ⟨gm, rfl⟩ := owns_addr hr.mm (by omega)
          clear hc0 hc1 hf0 hf1
          obtain ⟨hc0, hc1, hf0, hf1⟩ := r_cell hr
          have hcl : wq.cell? ⟨gl, j, none⟩ = some (.slice (ad j) (nn j) (cc j)) := by
            rw [hr.l.cellAt j (by omega), List.getElem?_append_left (by simpa using hlt)]
            simp [VV, hlt]
          have hcm : wq.cell? ⟨gm, j, none⟩ = some (.int .u8 ((j : Int) + 1)) := by
            rw [hr.mm.cellAt j (by omega)]
            simp [cells8, mks, hlt, List.getElem?_append_left]
          have hn := HN.out j hlt
          have hrow := hr.row j hlt
          obtain ⟨_, hk32, hk33⟩ := hk3 j hlt
          obtain ⟨hDj, hNj⟩ := hk32 (Nat.le_refl _)
          rw [hk33, hDj, hNj] at hrow
          have hhead : ∀ y, ad j = some y → y.off = 0 ∧ y.spot = none := by
            intro y hy
            rcases hrow.2 with ⟨h1, _⟩ | ⟨g, c, cur, h1, _⟩
            · simp [VV, hy] at h1
            · simp only [VV, Value.slice.injEq] at h1
              rw [hy] at h1
              obtain rfl := Option.some.inj h1.1
              exact ⟨rfl, rfl⟩
          have hdom := hr.dom j hlt
          rw [hDj] at hdom
          have hap1 : (Value.slice (ad j) (nn j) (cc j)).ownBlock ≠ some p := fun e => (hdom p e).1 rfl
          have hap2 : (Value.slice (ad j) (nn j) (cc j)).ownBlock ≠ some gm := fun e => (hdom gm e).2.2 rfl
          have hGr : Gr wq (ad j) (nn j) (cc j) ((j : Int) + 1) wq (ad j) 0 (cc j) := ⟨World.grownBy.refl _ _, by simpa [VV] using hrow, fun x hx => .inl (by simpa using hx), hrd j hlt⟩
          have HGR := hidden hGr
          have HHD := hidden hhead
          have HR5 := hidden hr
          have HK3 := hidden hk3
          have HRD := hidden hrd
          have hDj' := hidden hDj
          have HAP1 := hidden hap1
          have HAP2 := hidden hap2
          have hpl : p < wq.heap.size := Nat.lt_of_lt_of_le hr.pB hr.size
          have hgml : gm < wq.heap.size := (own_lt hr.mm rfl).2
          have HC1 := hidden hc1
          have HCM := hidden hcm
          clear hrow hk32 hk33 hDj hNj hdom hap1 hap2 hGr hhead hr hk3 hrd
          go_wp2_with fail
          go_loopw [10, 11] (fun gv kv ws => ∃ (t : Nat) (ad1 : Option Addr) (c1 : Nat), t ≤ 70 ∧ kv = .int .i64 t ∧ gv = .slice ad1 (nn j + t) c1 ∧ Gr wq (ad j) (nn j) (cc j) ((j : Int) + 1) ws ad1 t c1) (fun _ kv _ => 70 - (intOf kv).toNat)
          case atStart => exact ⟨0, ad j, cc j, by omega, rfl, rfl, HGR.out⟩
          case round =>
            obtain ⟨t, ad1, c1, ht, rfl, rfl, hgr⟩ := hrel
            have d1 : wr.cell? ⟨p, 1, none⟩ = some (.slice (some ⟨gm, 0, none⟩) (i + j) cm2) := hgr.grown.cell HC1.out (fun e => HAP1.out e.symm)
            have d2 : wr.cell? ⟨gm, j, none⟩ = some (.int .u8 ((j : Int) + 1)) := hgr.grown.cell HCM.out (fun e => HAP2.out e.symm)
            have hsz1 := hgr.grown.size
            have hpl1 : p < wr.heap.size := by omega
            have hgm1 : gm < wr.heap.size := by omega
            have HG2 := hidden hgr
            clear hgr hc0 hc1 hcm hcl hf0 hf1
            by_cases ht70 : t < 70
            · go_wp2_with (first
                | (at_builtin; refine wpList_push _ rfl _ _ 22 rfl 5 i0 (.int .u8 0) 1 Try.underlying22 hi hz0 hz1 hz2 rfl 0 (.slice ad1 (nn j + t) c1) (nn j + t) (cells8 (List.replicate (nn j + t) ((j : Int) + 1))) rfl (by exact HG2.out.own.alloc _) ⟨wr.heap.size, 0, none⟩ (.int .u8 ((j : Int) + 1)) rfl (by simp) rfl (by unfold maxLen; omega) (by omega) (Nat.zero_le _) ?_; intro g3 c3 w5 ho3 hp3))
              go_roundw
              case rel => exact ⟨t + 1, some ⟨g3, 0, none⟩, c3, by omega, by go_num, rfl, HG2.out.push (by omega) HHD.out ho3 hp3⟩
              case measure => simp [intOf]; omega
            · obtain rfl : t = 70 := by omega
              have hnew := HR5.out.change j hlt (by rw [hDj'.out]; exact HG2.out.grown) HG2.out.own (by rw [hDj'.out]; exact HG2.out.blk)
              have hrd1 : Rd i ad nn wr := fun k hk => by
                by_cases hkj : k = j
                · subst hkj; exact HG2.out.read
                · exact sl_grown (c := cc k) (HRD.out k hk) HG2.out.grown (fun x hx e => HPW.out k j hk hlt hkj x hx e)
              obtain ⟨hc0, hc1, hf0, hf1⟩ := r_cell hnew
              have HNEW := hidden hnew
              have HRD1 := hidden hrd1
              have hsz2 := hnew.size
              clear hnew hrd1 d1 d2
              go_wp2_with (first
                | (at_builtin; refine wpList_push _ rfl _ _ 26 rfl 22 i2 (.slice none 0 0) 24 Try.underlying26 hi2 hy0 hy1 hy2 rfl w.heap.size (.slice (some ⟨gl, 0, none⟩) (i + j) cl2) (i + j) ((List.range i).map (VV ad nn cc) ++ (List.range j).map D) rfl (by exact (HNEW.out.alloc _).l) ⟨wr.heap.size, 0, none⟩ (.slice ad1 (nn j + 70) c1) rfl (by simp) rfl (by unfold maxLen; omega) (by omega) (by simp; omega) ?_; intro g4 c4 w6 ho4 hp4; obtain ⟨q0, q1, q2, q3⟩ := r_cell ((HNEW.out.alloc _).pushL ho4 hp4)))
              have hr7 := ((HNEW.out.alloc (.cells #[.slice ad1 (nn j + 70) c1] 22)).pushL ho4 hp4).setP 0 (.slice (some ⟨g4, 0, none⟩) (i + j + 1) c4) rfl
              have hrd7 : Rd i ad nn (w6.setCell ⟨p, 0, none⟩ (.slice (some ⟨g4, 0, none⟩) (i + j + 1) c4)) := Rd.setP (cc := cc) (Rd.push (cc := cc) (B := w.heap.size) (HRD1.out.alloc _) hp4 (fun x hx => (own_lt HNEW.out.l hx).1) HLOW.out) HNP.out
              obtain ⟨s0, s1, s2, s3⟩ := r_cell hr7
              have hcm7 : (w6.setCell ⟨p, 0, none⟩ (.slice (some ⟨g4, 0, none⟩) (i + j + 1) c4)).cell? ⟨gm, j, none⟩ = some (.int .u8 ((j : Int) + 1)) := by
                rw [hr7.mm.cellAt j (by omega)]
                simp [cells8, mks, hlt, List.getElem?_append_left]
              have hpl7 := Nat.lt_of_lt_of_le hr7.pB hr7.size
              have hgm7 := (own_lt hr7.mm rfl).2
              have hsz7 := hr7.size
              have HR7 := hidden hr7
              have HRD7 := hidden hrd7
              clear hr7 hrd7 q0 q1 q2 q3 ho4 hp4 hc0 hc1 hf0 hf1
              generalize w6.setCell ⟨p, 0, none⟩ (.slice (some ⟨g4, 0, none⟩) (i + j + 1) c4) = w7 at *
              go_wp2_with fail
              have hjb : (j : Int) < (i : Int) + (j : Int) := by omega
              have hjb2 : (j : Int) < ((i + j : Nat) : Int) := by omega
              have hi00 : 0 < i := by omega
              go_region_law ((refine step_push _ (by rfl) _ _ 22 (by rfl) 5 i0 (.int .u8 0) 1 Try.underlying22 hi hz0 hz1 hz2 (by rfl) w.heap.size (.slice (some ⟨gm, 0, none⟩) (i + j) cm2) (i + j) (cells8 (mks i ++ mks j)) (by rfl) (by exact (HR7.out.alloc _).drew.mm) ⟨w7.heap.size, 0, none⟩ (.int .u8 ((j : Int) + 1)) (by rfl) (by simp) (by rfl) (by unfold maxLen; omega) (by omega) (by simp; omega) ?_; intro g8 c8 w8 ho8 hp8; rw [show cells8 (mks i ++ mks j) ++ [.int .u8 ((j : Int) + 1)] = cells8 (mks i ++ mks (j + 1)) by rw [mks_succ, ← List.append_assoc, cells8_append (mks i ++ mks j)]; rfl] at ho8; obtain ⟨q0, q1, q2, q3⟩ := r_cell ((HR7.out.alloc _).drew.pushM ho8 hp8)))
              all_goals
                have hr9 := ((HR7.out.alloc (.cells #[.int .u8 ((j : Int) + 1)] 5)).drew.pushM ho8 hp8).setP 1 (.slice (some ⟨g8, 0, none⟩) (i + j + 1) c8) rfl
                have hrd9 : Rd i ad nn (w8.setCell ⟨p, 1, none⟩ (.slice (some ⟨g8, 0, none⟩) (i + j + 1) c8)) := Rd.setP (cc := cc) (Rd.push (cc := cc) (B := w.heap.size) (HRD7.out.alloc (.cells #[.int .u8 ((j : Int) + 1)] 5)).drew hp8 (fun x hx => (own_lt HR7.out.mm hx).1) HLOW.out) HNP.out
                rw [List.append_assoc, range_d] at hr9
                have HR9 := hidden hr9
                have HRD9 := hidden hrd9
                clear hr9 hrd9 q0 q1 q2 q3 ho8 hp8 s0 s1 s2 s3 hcm7
                generalize w8.setCell ⟨p, 1, none⟩ (.slice (some ⟨g8, 0, none⟩) (i + j + 1) c8) = w9 at *
                go_wp2
                exact ⟨⟨j + 1, _, _, _, _, _, by omega, by go_num, HR9.out, hk_step HK3.out, HRD9.out⟩, by simp [intOf]; omega⟩
        · obtain rfl : j = i := by omega
          go_wp2
          go_end0
          exact ⟨rfl, vl, vm, D, N, L', hr, fun k hk => (hk3 k hk).2.2, hrd⟩

end Go.Proofs.Ytfhhcpcedfgceaa
