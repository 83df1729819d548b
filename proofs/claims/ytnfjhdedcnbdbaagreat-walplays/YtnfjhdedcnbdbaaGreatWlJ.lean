/-
  find: the live file.
-/
import Derived.Test.YtnfjhdedcnbdbaaGreatWlI
import Derived.Test.YtnfjhdedcnbdbaaGreatDkC
namespace Go.Proofs.YtnfjhdedcnbdbaaGreat
open Go.RowKit
set_option linter.unusedVariables false
set_option linter.unusedSimpArgs false

/-- What is said of a file. -/
def LkS (l : List Int) (h : Hd) (e : Int) : Prop :=
  (headAt l = none ∧ h = h0 ∧ e = 61) ∨ (∃ st, headAt l = some (h, st) ∧ good h (frames l) = false ∧ e = 62) ∨ (∃ st, headAt l = some (h, st) ∧ good h (frames l) = true ∧ e = 0)
theorem headAt_g {l : List Int} {h : Hd} {st : List Int} (e : headAt l = some (h, st)) : 0 < h.g := by
  unfold headAt at e
  cases hf : frames l with
  | nil => rw [hf] at e; cases e
  | cons x r =>
    rw [hf] at e
    have := (h.ok_iff.1 (headIn_some e).2.2.2.2.2).1
    exact this
theorem LkS.ne {l : List Int} {h : Hd} {e : Int} (k : LkS l h e) (hg : 0 < h.g) : ∃ st, headAt l = some (h, st) ∧ (e ≠ 0 → good h (frames l) = false ∧ e = 62) ∧ (e = 0 → good h (frames l) = true) := by
  rcases k with ⟨_, rfl, _⟩ | ⟨st, h1, h2, rfl⟩ | ⟨st, h1, h2, rfl⟩
  · exact absurd hg (by decide)
  · exact ⟨st, h1, fun _ => ⟨h2, rfl⟩, fun h => by cases h⟩
  · exact ⟨st, h1, fun h => absurd rfl h, fun _ => h2⟩
theorem LkS.no {l : List Int} {h : Hd} {e : Int} (k : LkS l h e) (hg : h.g = 0) : headAt l = none ∧ e = 61 := by
  rcases k with ⟨h1, rfl, rfl⟩ | ⟨st, h1, h2, rfl⟩ | ⟨st, h1, h2, rfl⟩
  · exact ⟨h1, rfl⟩
  · have := headAt_g h1; omega
  · have := headAt_g h1; omega
theorem find_on {S : St} (h1 : S.on = true) (h2 : 2 ≤ S.L.length) : S.find = match headAt (S.file 0), headAt (S.file 1) with
  | none, none => .error 61
  | some a, none => finS S 0 a
  | none, some b => finS S 1 b
  | some a, some b => if a.1.g = b.1.g then .error 62 else if a.1.g < b.1.g then finS S 1 b else finS S 0 a := by
  unfold St.find
  rw [if_neg (by rw [h1]; simp), if_neg (by omega)]
  cases headAt (S.file 0) <;> cases headAt (S.file 1) <;> rfl
theorem find_same {S : St} {a b : Hd} {ea eb : Int} (h1 : S.on = true) (h2 : 2 ≤ S.L.length) (ka : LkS (S.file 0) a ea) (kb : LkS (S.file 1) b eb) (hg : a.g = b.g) (h0 : 0 < a.g) : S.find = .error 62 := by
  obtain ⟨sa, ha, _⟩ := ka.ne h0
  obtain ⟨sb, hb, _⟩ := kb.ne (by omega)
  rw [find_on h1 h2, ha, hb]
  simp only
  rw [if_pos hg]
def Fnd.of (S : St) (i : Nat) (h : Hd) (st : List Int) : Fnd := ⟨i, h, st, (frames (S.file i)).tail.map (·.2), fsz (frames (S.file i))⟩
theorem find_one {S : St} {a b : Hd} {ea eb : Int} (h1 : S.on = true) (h2 : 2 ≤ S.L.length) (ka : LkS (S.file 0) a ea) (kb : LkS (S.file 1) b eb) (hg : a.g < b.g) : (eb ≠ 0 → S.find = .error eb) ∧ (eb = 0 → ∃ st, headAt (S.file 1) = some (b, st) ∧ S.find = .ok (Fnd.of S 1 b st)) := by
  obtain ⟨sb, hb, hb1, hb2⟩ := kb.ne (by omega)
  have key : S.find = finS S 1 (b, sb) := by
    rw [find_on h1 h2, hb]
    by_cases h0 : a.g = 0
    · rw [(ka.no h0).1]
    · obtain ⟨sa, ha, _⟩ := ka.ne (by omega)
      rw [ha]
      simp only
      rw [if_neg (by omega), if_pos hg]
  rw [key]
  refine ⟨fun h => ?_, fun h => ⟨sb, hb, ?_⟩⟩
  · unfold finS
    rw [if_neg (by rw [(hb1 h).1]; simp), (hb1 h).2]
  · unfold finS
    rw [if_pos (hb2 h)]
    rfl
theorem find_zero {S : St} {a b : Hd} {ea eb : Int} (h1 : S.on = true) (h2 : 2 ≤ S.L.length) (ka : LkS (S.file 0) a ea) (kb : LkS (S.file 1) b eb) (hg : ¬ a.g < b.g) (hn : ¬ (a.g = b.g ∧ 0 < a.g)) : (ea ≠ 0 → S.find = .error ea) ∧ (ea = 0 → ∃ st, headAt (S.file 0) = some (a, st) ∧ S.find = .ok (Fnd.of S 0 a st)) := by
  by_cases h0 : a.g = 0
  · obtain ⟨ha, rfl⟩ := ka.no h0
    obtain ⟨hb, _⟩ := kb.no (by omega)
    refine ⟨fun _ => ?_, fun h => by cases h⟩
    rw [find_on h1 h2, ha, hb]
  · obtain ⟨sa, ha, ha1, ha2⟩ := ka.ne (by omega)
    have key : S.find = finS S 0 (a, sa) := by
      rw [find_on h1 h2, ha]
      by_cases h0 : b.g = 0
      · rw [(kb.no h0).1]
      · obtain ⟨sb, hb, _⟩ := kb.ne (by omega)
        rw [hb]
        simp only
        rw [if_neg (by omega), if_neg hg]
    rw [key]
    refine ⟨fun h => ?_, fun h => ⟨sa, ha, ?_⟩⟩
    · unfold finS
      rw [if_neg (by rw [(ha1 h).1]; simp), (ha1 h).2]
    · unfold finS
      rw [if_pos (ha2 h)]
      rfl
theorem headAt_lt {l : List Int} {h : Hd} {st : List Int} (hb : Byte l) (e : headAt l = some (h, st)) : h.g < 18446744073709551616 ∧ h.ok = true ∧ st.length ≤ 4194304 := by
  unfold headAt at e
  cases hf : frames l with
  | nil => rw [hf] at e; cases e
  | cons x r =>
    rw [hf] at e
    obtain ⟨_, _, _, rfl, rfl, hok⟩ := headIn_some e
    have hx := frames_byte hb x (by rw [hf]; simp)
    have h2 := num_lt ((x.2.drop 8).take 8) (fun y hy => hx.1 y (List.mem_of_mem_drop (List.mem_of_mem_take hy)))
    have h3 : ((x.2.drop 8).take 8).length ≤ 8 := by rw [List.length_take]; omega
    have h4 : (256 : Nat) ^ ((x.2.drop 8).take 8).length ≤ 256 ^ 8 := Nat.pow_le_pow_right (by decide) h3
    refine ⟨?_, hok, by rw [List.length_drop]; have := hx.2.2.2; omega⟩
    show num ((x.2.drop 8).take 8) < _
    have h5 : (256 : Nat) ^ 8 = 18446744073709551616 := by decide
    omega
/-- What look tells, by its parts. -/
theorem LookL.parts {B : Nat} {l : List Int} {A : World} {L : List Value} (hb : Byte l) (k : LookL B l A L) : ∃ h sa sn sc ra rn rc n e, L = fcell h (.slice sa sn sc) (.slice ra rn rc) n e ∧ LkS l h e ∧
    (e = 0 → n = fsz (frames l) ∧ ∃ x r, frames l = (x :: r).map fr ∧ FdM B A x r (.slice sa sn sc) (.slice ra rn rc)) := by
  rcases k with ⟨h1, n, _, rfl⟩ | ⟨h, st, a, n, c, a', n', c', m, h1, h2, _, rfl⟩ | ⟨h, st, x, r, sv, rv, h1, h2, h3, hm, rfl⟩
  · exact ⟨_, _, _, _, _, _, _, _, _, rfl, .inl ⟨h1, rfl, rfl⟩, fun h => by cases h⟩
  · exact ⟨_, _, _, _, _, _, _, _, _, rfl, .inr (.inl ⟨st, h1, h2, rfl⟩), fun h => by cases h⟩
  · have hm2 := hm
    obtain ⟨_, _, _, ⟨g, n, c, off, _, _, _, _, rfl⟩, ⟨a', n', c', rfl⟩, _⟩ := hm
    exact ⟨_, _, _, _, _, _, _, _, _, rfl, .inr (.inr ⟨st, h1, h2, rfl⟩), fun _ => ⟨rfl, x, r, h3, hm2⟩⟩

theorem read_file {S : St} {i : Nat} (hon : S.on = true) (hi : i < S.L.length) : S.read i 0 (S.size i) = (0, S.file i) := by
  obtain ⟨x, hx⟩ : ∃ x, S.L[i]? = some x := ⟨_, List.getElem?_eq_getElem hi⟩
  have e1 : S.size i = (x.b.length : Int) := by
    unfold St.size
    rw [if_pos (by omega), Int.toNat_natCast, hx]
  have e2 : S.refuse i = 0 := by
    unfold St.refuse
    rw [if_neg (by rw [hon]; simp), if_pos (by omega)]
  unfold St.read St.file
  rw [e1, e2, if_neg (by simp), Int.toNat_natCast, hx]
  simp only
  rw [if_neg (by omega)]
  simp
theorem zero111 : (Tryz.prog.info? 100).map (fun i => i.zero.map (·.cells)) = some (some (fcell h0 nilS nilS 0 0 ++ fcell h0 nilS nilS 0 0).toArray) := by kernel_rfl
theorem built89z : Tryz.prog.built 68 [] = some (fcell h0 nilS nilS 0 0).toArray := by kernel_rfl
theorem results_row_mid {P : Program} {fn : Func} {q p r : Tmp} {ty : TypeId} (h : fn.results = #[.tmp q, .cell p ty, .tmp r]) (tmps : Array Value) (w : World) (g : Nat) (t : TypeId) (l : List Value) (d : TypeDesc)
    (hp : tmps.getD p undef = .pointer (some ⟨g, 0, none⟩)) (hg : Blk w g t l) (hu : P.underlying ty = some d) (hd : (match d with | .struct _ | .array _ _ => true | _ => false) = true) (hi : (P.info? ty).map (·.size) = some l.length) :
    (results fn tmps).run P w = .ok (.tuple #[tmps.getD q undef, .agg l.toArray, tmps.getD r undef]) w := by
  have hp' : tmps[p]?.getD undef = .pointer (some ⟨g, 0, none⟩) := by simpa using hp
  simp [results, h, hp', asAddr, run_loadVar_row w g t ty l.toArray (0, 0) d hg hu hd (by simpa using hi)]
/-- What find tells. -/
def FindR (B : Nat) (S : St) (e : Ending) (w' : World) : Prop :=
  (∃ er, S.find = .error er ∧ er ≠ 0 ∧ e = .returned (.tuple #[.int .i64 0, .agg (fcell h0 nilS nilS 0 0).toArray, .int .i64 er])) ∨
  (∃ f x r sv rv, S.find = .ok f ∧ f.live ≤ 1 ∧ f.h.g < 18446744073709551616 ∧ f.h.ok = true ∧ f.state = x.2.2.drop 24 ∧ f.recs = r.map (·.2.2) ∧ f.whole ≤ 16777216 ∧ FdM B w' x r sv rv ∧ e = .returned (.tuple #[.int .i64 (f.live : Int), .agg (fcell f.h sv rv f.whole 0).toArray, .int .i64 0]))

theorem zero89L : (Tryz.prog.info? 68).map (fun i => i.zero.map (·.cells)) = some (some ([.int .u64 0, .int .i64 0, .int .i64 0, .slice none 0 0, .slice none 0 0, .int .i64 0, .int .i64 0] : List Value).toArray) := by kernel_rfl
theorem built89L : Tryz.prog.built 68 [] = some #[.int .u64 0, .int .i64 0, .int .i64 0, .slice none 0 0, .slice none 0 0, .int .i64 0, .int .i64 0] := by kernel_rfl
theorem z7_one : ∀ v ∈ ([.int .u64 0, .int .i64 0, .int .i64 0, .slice none 0 0, .slice none 0 0, .int .i64 0, .int .i64 0] : List Value), v.oneCell' = true := by simp [Value.oneCell']

theorem z7_set {w : World} {g : Nat} {a0 a1 a2 a3 a4 a5 a6 : Value} (h : Blk w g 68 [a0, a1, a2, a3, a4, a5, a6]) (G cp sl n e : Int) (sa ra : Option Addr) (sn sc rn rc : Nat) : Blk (((((((w.setCell ⟨g, 0, none⟩ (.int .u64 G)).setCell ⟨g, 1, none⟩ (.int .i64 cp)).setCell ⟨g, 2, none⟩ (.int .i64 sl)).setCell ⟨g, 3, none⟩ (.slice sa sn sc)).setCell ⟨g, 4, none⟩ (.slice ra rn rc)).setCell ⟨g, 5, none⟩ (.int .i64 n)).setCell ⟨g, 6, none⟩ (.int .i64 e)) g 68 [.int .u64 G, .int .i64 cp, .int .i64 sl, .slice sa sn sc, .slice ra rn rc, .int .i64 n, .int .i64 e] ∧ Chg (fun i => i = g) w (((((((w.setCell ⟨g, 0, none⟩ (.int .u64 G)).setCell ⟨g, 1, none⟩ (.int .i64 cp)).setCell ⟨g, 2, none⟩ (.int .i64 sl)).setCell ⟨g, 3, none⟩ (.slice sa sn sc)).setCell ⟨g, 4, none⟩ (.slice ra rn rc)).setCell ⟨g, 5, none⟩ (.int .i64 n)).setCell ⟨g, 6, none⟩ (.int .i64 e)) := by
  refine ⟨?_, ?_⟩
  · have := (((((((h.set 0 (.int .u64 G)).set 1 (.int .i64 cp)).set 2 (.int .i64 sl)).set 3 (.slice sa sn sc)).set 4 (.slice ra rn rc)).set 5 (.int .i64 n)).set 6 (.int .i64 e))
    exact this
  · exact (((((((Chg.set ⟨g, 0, none⟩ (.int .u64 G) _).trans (Chg.set ⟨g, 1, none⟩ (.int .i64 cp) _) (fun _ _ h => h)).trans (Chg.set ⟨g, 2, none⟩ (.int .i64 sl) _) (fun _ _ h => h)).trans (Chg.set ⟨g, 3, none⟩ (.slice sa sn sc) _) (fun _ _ h => h)).trans (Chg.set ⟨g, 4, none⟩ (.slice ra rn rc) _) (fun _ _ h => h)).trans (Chg.set ⟨g, 5, none⟩ (.int .i64 n) _) (fun _ _ h => h)).trans (Chg.set ⟨g, 6, none⟩ (.int .i64 e) _) (fun _ _ h => h))

/-- What a file tells, in memory. -/
def Pt (B : Nat) (l : List Int) (A : World) (h : Hd) (sv rv : Value) (n : Nat) (e : Int) : Prop := LkS l h e ∧ (e = 0 → n = fsz (frames l) ∧ ∃ x r, frames l = (x :: r).map fr ∧ FdM B A x r sv rv)
theorem Pt.chg {B : Nat} {l : List Int} {A A' : World} {h : Hd} {sv rv : Value} {n : Nat} {e : Int} {F : Nat → Prop} (k : Pt B l A h sv rv n e) (hc : Chg F A A') (hF : ∀ i, F i → ¬ Tg A i 5 ∧ ¬ Tg A i 28) : Pt B l A' h sv rv n e :=
  ⟨k.1, fun he => by obtain ⟨h1, x, r, h2, h3⟩ := k.2 he; exact ⟨h1, x, r, h2, h3.chg hc hF⟩⟩
theorem Pt.lat {B : Nat} {l : List Int} {A A' : World} {h : Hd} {sv rv : Value} {n : Nat} {e : Int} (k : Pt B l A h sv rv n e) (hb : Lat A A') : Pt B l A' h sv rv n e := k.chg (Chg.of_below (F := fun _ => False) hb) (fun _ h => h.elim)
theorem zero111L : (Tryz.prog.info? 100).map (fun i => i.zero.map (·.cells)) = some (some ([.int .u64 0, .int .i64 0, .int .i64 0, .slice none 0 0, .slice none 0 0, .int .i64 0, .int .i64 0, .int .u64 0, .int .i64 0, .int .i64 0, .slice none 0 0, .slice none 0 0, .int .i64 0, .int .i64 0] : List Value).toArray) := by kernel_rfl
theorem file_len {dt ft : TypeId} {w : World} {p : Nat} {F : Nat → Prop} {S : St} (h : Dk dt ft w p F S) (i : Nat) : (S.file i).length ≤ 16777216 ∧ Byte (S.file i) := by
  unfold St.file
  by_cases hi : i < S.L.length
  · obtain ⟨fb, fc, ad, c, x, hx, _, _, _, _, hb, ht, _⟩ := h.at i hi
    rw [hx]
    exact ⟨ht, hb⟩
  · rw [List.getElem?_eq_none (by omega)]
    exact ⟨by simp, fun x hx => by cases hx⟩
theorem tg_no {w : World} {g : Nat} {t : TypeId} {L : List Value} (h : Blk w g t L) (ht : t ≠ 5 ∧ t ≠ 28) : ∀ i, i = g → ¬ Tg w i 5 ∧ ¬ Tg w i 28 := by
  rintro i rfl
  have hg : Tg w i t := h.tg
  exact ⟨fun k => ht.1 (hg.one k), fun k => ht.2 (hg.one k)⟩

set_option maxRecDepth 100000 in
set_option maxHeartbeats 1000000 in
theorem find_walk (p : Nat) (F : Nat → Prop) (S : St) (w : World) (h : Dk 64 79 w p F S) (R : Ending → World → Prop) (hR : ∀ e w', Below w.heap.size w w' → FindR w.heap.size S e w' → R e w') : Calls Tryz.prog 37 #[.pointer (some ⟨p, 0, none⟩)] w R := by
  have H := hidden h
  have HR := hidden hR
  clear hR
  clear h
  obtain ⟨on, hon⟩ : ∃ on, S.on = on := ⟨_, rfl⟩
  have HON := hidden hon
  clear hon
  cases on with
  | false =>
    have hq : Unit → S.find = .error 40 := fun _ => by unfold St.find; rw [if_pos HON.out]
    go_enter Tryz.func37, Tryz.ntmps37
    go_wp2_with (refine wpList_alloc_blk rfl 68 rfl 3 rfl [.int .u64 0, .int .i64 0, .int .i64 0, .slice none 0 0, .slice none 0 0, .int .i64 0, .int .i64 0] zero89L ?_; intro w2 B2 bl2 hz2; have HB2 := hidden B2; have HL2 := hidden bl2; have HZ2 := hidden hz2; clear B2 bl2 hz2)
    refine (aliveP p F S w2 (H.out.lat HL2.out)).mono ?_
    rintro e w3 ⟨rfl, rfl⟩
    rw [HON.out]
    have c0 := HB2.out.cell 0
    have c1 := HB2.out.cell 1
    have c2 := HB2.out.cell 2
    have c3 := HB2.out.cell 3
    have c4 := HB2.out.cell 4
    have c5 := HB2.out.cell 5
    have c6 := HB2.out.cell 6
    have f0 := HB2.out.frozen 0
    have f1 := HB2.out.frozen 1
    have f2 := HB2.out.frozen 2
    have f3 := HB2.out.frozen 3
    have f4 := HB2.out.frozen 4
    have f5 := HB2.out.frozen 5
    have f6 := HB2.out.frozen 6
    simp only [List.getElem?_cons_succ, List.getElem?_cons_zero] at c0 c1 c2 c3 c4 c5 c6
    go_wp2_with fail
    obtain ⟨hB, hcs⟩ := z7_set HB2.out 0 0 0 0 0 none none 0 0 0 0
    refine bodyPost_ret (results_row_mid rfl _ _ w.heap.size 68 _ _ rfl hB Tryz.underlying68 rfl size89) rfl ?_
    exact HR.out _ _ (HL2.out.trans (hcs.below HL2.out.size (fun i hi => by omega))) (.inl ⟨40, hq (), by decide, rfl⟩)
  | true =>
    by_cases h2 : 2 ≤ S.L.length
    · have hfl0 := (file_len H.out 0).1
      have hfl1 := (file_len H.out 1).1
      have HFB0 := hidden (file_len H.out 0).2
      have HFB1 := hidden (file_len H.out 1).2
      have HRF0 : Hid (S.read 0 0 (S.size 0) = (0, S.file 0)) := read_file (i := 0) HON.out (by omega)
      have HRF1 : Hid (S.read 1 0 (S.size 1) = (0, S.file 1)) := read_file (i := 1) HON.out (by omega)
      have hsz0 := St.size_le H.out 0
      have hsz1 := St.size_le H.out 1
      go_enter Tryz.func37, Tryz.ntmps37
      go_wp2_with (refine wpList_alloc_blk rfl 68 rfl 3 rfl [.int .u64 0, .int .i64 0, .int .i64 0, .slice none 0 0, .slice none 0 0, .int .i64 0, .int .i64 0] zero89L ?_; intro w2 B2 bl2 hz2; have HB2 := hidden B2; have HL2 := hidden bl2; have HZ2 := hidden hz2; clear B2 bl2 hz2)
      refine (aliveP p F S w2 (H.out.lat HL2.out)).mono ?_
      rintro e w3 ⟨rfl, rfl⟩
      rw [HON.out]
      go_wp2_with fail
      refine (hasFilesP p F S w3 (H.out.lat HL2.out)).mono ?_
      rintro e w4 ⟨rfl, rfl⟩
      rw [decide_eq_true h2]
      go_wp2_with (refine wpList_alloc_blk rfl 100 rfl 5 rfl [.int .u64 0, .int .i64 0, .int .i64 0, .slice none 0 0, .slice none 0 0, .int .i64 0, .int .i64 0, .int .u64 0, .int .i64 0, .int .i64 0, .slice none 0 0, .slice none 0 0, .int .i64 0, .int .i64 0] zero111L ?_; intro w5 B5 bl5 hz5; have HB5 := hidden B5; have HL5 := hidden bl5; have HZ5 := hidden hz5; clear B5 bl5 hz5)
      have HL25 := hidden (Lat.trans _ _ _ HL2.out HL5.out)
      obtain ⟨ab, hab⟩ : ∃ ab, w4.heap.size = ab := ⟨_, rfl⟩
      rw [hab] at HB5 ⊢
      have HAB : Hid (w.heap.size < ab) := by have := HZ2.out; show _ < _; omega
      have HRB5 := hidden (HB2.out.later HL5.out)
      clear hab
      go_loopw [2, 4, 6, 7, 8, 20] (fun v2 v4 v6 v7 v8 v20 wr => v2 = .int .i64 0 ∧ v4 = .int .i64 0 ∧ ((v20 = .int .i64 0 ∧ Blk wr ab 100 [.int .u64 0, .int .i64 0, .int .i64 0, .slice none 0 0, .slice none 0 0, .int .i64 0, .int .i64 0, .int .u64 0, .int .i64 0, .int .i64 0, .slice none 0 0, .slice none 0 0, .int .i64 0, .int .i64 0] ∧ Below w.heap.size w wr ∧ Blk wr w.heap.size 68 [.int .u64 0, .int .i64 0, .int .i64 0, .slice none 0 0, .slice none 0 0, .int .i64 0, .int .i64 0]) ∨
          (v20 = .int .i64 1 ∧ ∃ (hd0 : Hd) (sa0 : Option Addr) (sn0 sc0 : Nat) (ra0 : Option Addr) (rn0 rc0 n0 : Nat) (e0 : Int), Blk wr ab 100 [.int .u64 (hd0.g : Int), .int .i64 (hd0.cap : Int), .int .i64 (hd0.slots : Int), .slice sa0 sn0 sc0, .slice ra0 rn0 rc0, .int .i64 (n0 : Int), .int .i64 e0, .int .u64 0, .int .i64 0, .int .i64 0, .slice none 0 0, .slice none 0 0, .int .i64 0, .int .i64 0] ∧ Pt w.heap.size (S.file 0) wr hd0 (.slice sa0 sn0 sc0) (.slice ra0 rn0 rc0) n0 e0 ∧ Below w.heap.size w wr ∧ Blk wr w.heap.size 68 [.int .u64 0, .int .i64 0, .int .i64 0, .slice none 0 0, .slice none 0 0, .int .i64 0, .int .i64 0]) ∨
          (v20 = .int .i64 2 ∧ ∃ (hd0 : Hd) (sa0 : Option Addr) (sn0 sc0 : Nat) (ra0 : Option Addr) (rn0 rc0 n0 : Nat) (e0 : Int) (hd1 : Hd) (sa1 : Option Addr) (sn1 sc1 : Nat) (ra1 : Option Addr) (rn1 rc1 n1 : Nat) (e1 : Int), Blk wr ab 100 [.int .u64 (hd0.g : Int), .int .i64 (hd0.cap : Int), .int .i64 (hd0.slots : Int), .slice sa0 sn0 sc0, .slice ra0 rn0 rc0, .int .i64 (n0 : Int), .int .i64 e0, .int .u64 (hd1.g : Int), .int .i64 (hd1.cap : Int), .int .i64 (hd1.slots : Int), .slice sa1 sn1 sc1, .slice ra1 rn1 rc1, .int .i64 (n1 : Int), .int .i64 e1] ∧ Pt w.heap.size (S.file 0) wr hd0 (.slice sa0 sn0 sc0) (.slice ra0 rn0 rc0) n0 e0 ∧ Pt w.heap.size (S.file 1) wr hd1 (.slice sa1 sn1 sc1) (.slice ra1 rn1 rc1) n1 e1 ∧ Below w.heap.size w wr ∧ Blk wr w.heap.size 68 [.int .u64 0, .int .i64 0, .int .i64 0, .slice none 0 0, .slice none 0 0, .int .i64 0, .int .i64 0])))
        (fun v2 v4 v6 v7 v8 v20 _ => match v20 with | .int _ j => 2 - j.toNat | _ => 0)
      case atStart => exact ⟨rfl, rfl, .inl ⟨rfl, HB5.out, HL25.out, HRB5.out⟩⟩
      case round =>
        obtain ⟨rfl, rfl, hrel⟩ := hrel
        rcases hrel with ⟨rfl, hB, hL, hR⟩ | ⟨rfl, hd0, sa0, sn0, sc0, ra0, rn0, rc0, n0, e0, hB, hP0, hL, hR⟩ | ⟨rfl, hd0, sa0, sn0, sc0, ra0, rn0, rc0, n0, e0, hd1, sa1, sn1, sc1, ra1, rn1, rc1, n1, e1, hB, hP0, hP1, hL, hR⟩
        · have HBA := hidden hB
          have HLr : Hid (Lat w wr) := hL
          have HRB := hidden hR
          clear hB hL hR
          · go_wp2_with fail
            refine (sizeP p F S wr 0 (H.out.lat HLr.out)).mono ?_
            rintro e w6 ⟨rfl, rfl⟩
            go_wp2_with fail
            refine (readP p F S w6 0 0 (S.size 0) (H.out.lat HLr.out) (by omega) (by have := hsz0; omega)).mono ?_
            rintro e w7 ⟨ad, m, c, rfl, ho7, hby7, hb7⟩
            rw [show S.read 0 0 (S.size 0) = (0, S.file 0) from HRF0.out] at ho7 hby7 ⊢
            dsimp only at ho7 hby7 ⊢
            have HL7 := hidden (Lat.trans _ _ _ HLr.out hb7)
            have HO7 := hidden ho7
            have hm7 : m = (S.file 0).length := by have := ho7.1; rw [cells8_length] at this; omega
            have hm16 : m ≤ 16777216 := by omega
            clear hm7
            have HCAP := hidden (owns_cap ho7)
            have HBA7 := hidden (HBA.out.later hb7)
            have HRB7 := hidden (HRB.out.later hb7)
            clear ho7 hby7 hb7
            go_wp2_with fail
            refine (lookP ad m c (S.file 0) w7 (sl_of_owns HO7.out HFB0.out) HCAP.out.2.2.2 hm16).mono ?_
            rintro e w8 ⟨hb8, L, rfl, hL8⟩
            obtain ⟨hd0, sa0, sn0, sc0, ra0, rn0, rc0, n0, e0, rfl, hk8, hm8⟩ := hL8.parts HFB0.out
            have HPN : Hid (Pt w.heap.size (S.file 0) w8 hd0 (.slice sa0 sn0 sc0) (.slice ra0 rn0 rc0) n0 e0) := ⟨hk8, fun he => by obtain ⟨q1, x, r, q2, q3⟩ := hm8 he; exact ⟨q1, x, r, q2, q3.low HL7.out.size⟩⟩
            have HL8 := hidden (Lat.trans _ _ _ HL7.out hb8)
            have HBA8 := hidden (HBA7.out.later hb8)
            have HRB8 := hidden (HRB7.out.later hb8)
            clear hL8 hk8 hm8 hb8
            unfold fcell
            have c0 := HBA8.out.cell 0
            have f0 := HBA8.out.frozen 0
            have c1 := HBA8.out.cell 1
            have f1 := HBA8.out.frozen 1
            have c2 := HBA8.out.cell 2
            have f2 := HBA8.out.frozen 2
            have c3 := HBA8.out.cell 3
            have f3 := HBA8.out.frozen 3
            have c4 := HBA8.out.cell 4
            have f4 := HBA8.out.frozen 4
            have c5 := HBA8.out.cell 5
            have f5 := HBA8.out.frozen 5
            have c6 := HBA8.out.cell 6
            have f6 := HBA8.out.frozen 6
            simp only [List.getElem?_cons_succ, List.getElem?_cons_zero] at c0 c1 c2 c3 c4 c5 c6
            go_wp2_with fail
            have q1 := (((((((HBA8.out.set 0 (.int .u64 (hd0.g : Int))).set 1 (.int .i64 (hd0.cap : Int))).set 2 (.int .i64 (hd0.slots : Int))).set 3 (.slice sa0 sn0 sc0)).set 4 (.slice ra0 rn0 rc0)).set 5 (.int .i64 (n0 : Int))).set 6 (.int .i64 e0))
            have q2 : Chg (fun i => i = ab) w8 _ := (((((((Chg.set ⟨ab, 0, none⟩ (.int .u64 (hd0.g : Int)) _).trans (Chg.set ⟨ab, 1, none⟩ (.int .i64 (hd0.cap : Int)) _) (fun _ _ h => h)).trans (Chg.set ⟨ab, 2, none⟩ (.int .i64 (hd0.slots : Int)) _) (fun _ _ h => h)).trans (Chg.set ⟨ab, 3, none⟩ (.slice sa0 sn0 sc0) _) (fun _ _ h => h)).trans (Chg.set ⟨ab, 4, none⟩ (.slice ra0 rn0 rc0) _) (fun _ _ h => h)).trans (Chg.set ⟨ab, 5, none⟩ (.int .i64 (n0 : Int)) _) (fun _ _ h => h)).trans (Chg.set ⟨ab, 6, none⟩ (.int .i64 e0) _) (fun _ _ h => h))
            have hno := tg_no HBA8.out (by decide)
            have hbl := Below.trans HL8.out (q2.below HL8.out.size (fun i hi => by have := HAB.out; omega))
            have hrb := q2.blk HRB8.out (by have := HAB.out; omega)
            exact ⟨⟨rfl, rfl, .inr (.inl ⟨rfl, _, _, _, _, _, _, _, _, _, q1, HPN.out.chg q2 hno, hbl, hrb⟩)⟩, by decide⟩
        · have HBA := hidden hB
          have HLr : Hid (Lat w wr) := hL
          have HRB := hidden hR
          have HP0 := hidden hP0
          clear hB hL hR hP0
          · go_wp2_with fail
            refine (sizeP p F S wr 1 (H.out.lat HLr.out)).mono ?_
            rintro e w6 ⟨rfl, rfl⟩
            go_wp2_with fail
            refine (readP p F S w6 1 0 (S.size 1) (H.out.lat HLr.out) (by omega) (by have := hsz1; omega)).mono ?_
            rintro e w7 ⟨ad, m, c, rfl, ho7, hby7, hb7⟩
            rw [show S.read 1 0 (S.size 1) = (0, S.file 1) from HRF1.out] at ho7 hby7 ⊢
            dsimp only at ho7 hby7 ⊢
            have HL7 := hidden (Lat.trans _ _ _ HLr.out hb7)
            have HO7 := hidden ho7
            have hm7 : m = (S.file 1).length := by have := ho7.1; rw [cells8_length] at this; omega
            have hm16 : m ≤ 16777216 := by omega
            clear hm7
            have HCAP := hidden (owns_cap ho7)
            have HBA7 := hidden (HBA.out.later hb7)
            have HRB7 := hidden (HRB.out.later hb7)
            have HP7 := hidden (HP0.out.lat hb7)
            clear ho7 hby7 hb7
            go_wp2_with fail
            refine (lookP ad m c (S.file 1) w7 (sl_of_owns HO7.out HFB1.out) HCAP.out.2.2.2 hm16).mono ?_
            rintro e w8 ⟨hb8, L, rfl, hL8⟩
            obtain ⟨hd1, sa1, sn1, sc1, ra1, rn1, rc1, n1, e1, rfl, hk8, hm8⟩ := hL8.parts HFB1.out
            have HPN : Hid (Pt w.heap.size (S.file 1) w8 hd1 (.slice sa1 sn1 sc1) (.slice ra1 rn1 rc1) n1 e1) := ⟨hk8, fun he => by obtain ⟨q1, x, r, q2, q3⟩ := hm8 he; exact ⟨q1, x, r, q2, q3.low HL7.out.size⟩⟩
            have HL8 := hidden (Lat.trans _ _ _ HL7.out hb8)
            have HBA8 := hidden (HBA7.out.later hb8)
            have HRB8 := hidden (HRB7.out.later hb8)
            have HP8 := hidden (HP7.out.lat hb8)
            clear hL8 hk8 hm8 hb8
            unfold fcell
            have c7 := HBA8.out.cell 7
            have f7 := HBA8.out.frozen 7
            have c8 := HBA8.out.cell 8
            have f8 := HBA8.out.frozen 8
            have c9 := HBA8.out.cell 9
            have f9 := HBA8.out.frozen 9
            have c10 := HBA8.out.cell 10
            have f10 := HBA8.out.frozen 10
            have c11 := HBA8.out.cell 11
            have f11 := HBA8.out.frozen 11
            have c12 := HBA8.out.cell 12
            have f12 := HBA8.out.frozen 12
            have c13 := HBA8.out.cell 13
            have f13 := HBA8.out.frozen 13
            simp only [List.getElem?_cons_succ, List.getElem?_cons_zero] at c7 c8 c9 c10 c11 c12 c13
            go_wp2_with fail
            have q1 := (((((((HBA8.out.set 7 (.int .u64 (hd1.g : Int))).set 8 (.int .i64 (hd1.cap : Int))).set 9 (.int .i64 (hd1.slots : Int))).set 10 (.slice sa1 sn1 sc1)).set 11 (.slice ra1 rn1 rc1)).set 12 (.int .i64 (n1 : Int))).set 13 (.int .i64 e1))
            have q2 : Chg (fun i => i = ab) w8 _ := (((((((Chg.set ⟨ab, 7, none⟩ (.int .u64 (hd1.g : Int)) _).trans (Chg.set ⟨ab, 8, none⟩ (.int .i64 (hd1.cap : Int)) _) (fun _ _ h => h)).trans (Chg.set ⟨ab, 9, none⟩ (.int .i64 (hd1.slots : Int)) _) (fun _ _ h => h)).trans (Chg.set ⟨ab, 10, none⟩ (.slice sa1 sn1 sc1) _) (fun _ _ h => h)).trans (Chg.set ⟨ab, 11, none⟩ (.slice ra1 rn1 rc1) _) (fun _ _ h => h)).trans (Chg.set ⟨ab, 12, none⟩ (.int .i64 (n1 : Int)) _) (fun _ _ h => h)).trans (Chg.set ⟨ab, 13, none⟩ (.int .i64 e1) _) (fun _ _ h => h))
            have hno := tg_no HBA8.out (by decide)
            have hbl := Below.trans HL8.out (q2.below HL8.out.size (fun i hi => by have := HAB.out; omega))
            have hrb := q2.blk HRB8.out (by have := HAB.out; omega)
            exact ⟨⟨rfl, rfl, .inr (.inr ⟨rfl, _, _, _, _, _, _, _, _, _, _, _, _, _, _, _, _, _, _, q1, HP8.out.chg q2 hno, HPN.out.chg q2 hno, hbl, hrb⟩)⟩, by decide⟩
        · have HBA := hidden hB
          have HLr : Hid (Lat w wr) := hL
          have HRB := hidden hR
          have HP0 := hidden hP0
          have HP1 := hidden hP1
          clear hB hL hR hP0 hP1
          have c0 := HBA.out.cell 0
          have f0 := HBA.out.frozen 0
          have c1 := HBA.out.cell 1
          have f1 := HBA.out.frozen 1
          have c2 := HBA.out.cell 2
          have f2 := HBA.out.frozen 2
          have c3 := HBA.out.cell 3
          have f3 := HBA.out.frozen 3
          have c4 := HBA.out.cell 4
          have f4 := HBA.out.frozen 4
          have c5 := HBA.out.cell 5
          have f5 := HBA.out.frozen 5
          have c6 := HBA.out.cell 6
          have f6 := HBA.out.frozen 6
          have c7 := HBA.out.cell 7
          have f7 := HBA.out.frozen 7
          have c8 := HBA.out.cell 8
          have f8 := HBA.out.frozen 8
          have c9 := HBA.out.cell 9
          have f9 := HBA.out.frozen 9
          have c10 := HBA.out.cell 10
          have f10 := HBA.out.frozen 10
          have c11 := HBA.out.cell 11
          have f11 := HBA.out.frozen 11
          have c12 := HBA.out.cell 12
          have f12 := HBA.out.frozen 12
          have c13 := HBA.out.cell 13
          have f13 := HBA.out.frozen 13
          simp only [List.getElem?_cons_succ, List.getElem?_cons_zero] at c0 c1 c2 c3 c4 c5 c6 c7 c8 c9 c10 c11 c12 c13
          have d0 := HRB.out.cell 0
          have k0 := HRB.out.frozen 0
          have d1 := HRB.out.cell 1
          have k1 := HRB.out.frozen 1
          have d2 := HRB.out.cell 2
          have k2 := HRB.out.frozen 2
          have d3 := HRB.out.cell 3
          have k3 := HRB.out.frozen 3
          have d4 := HRB.out.cell 4
          have k4 := HRB.out.frozen 4
          have d5 := HRB.out.cell 5
          have k5 := HRB.out.frozen 5
          have d6 := HRB.out.cell 6
          have k6 := HRB.out.frozen 6
          simp only [List.getElem?_cons_succ, List.getElem?_cons_zero] at d0 d1 d2 d3 d4 d5 d6
          obtain ⟨G0, hG0⟩ : ∃ G0 : Int, (hd0.g : Int) = G0 := ⟨_, rfl⟩
          obtain ⟨G1, hG1⟩ : ∃ G1 : Int, (hd1.g : Int) = G1 := ⟨_, rfl⟩
          rw [hG0] at c0
          rw [hG1] at c7
          have HG0 := hidden hG0
          have HG1 := hidden hG1
          clear hG0 hG1
          have HE1 : Hid (∀ i, i = 1 → hd0.g < hd1.g → _) := fun i _ hlt => find_one HON.out h2 HP0.out.1 HP1.out.1 hlt
          have HE0 : Hid (∀ i, i = 1 → ¬ hd0.g < hd1.g → ¬ (hd0.g = hd1.g ∧ 0 < hd0.g) → _) := fun i _ hlt hn => find_zero HON.out h2 HP0.out.1 HP1.out.1 hlt hn
          have HES : Hid (hd0.g = hd1.g → 0 < hd0.g → _) := fun he hp => find_same HON.out h2 HP0.out.1 HP1.out.1 he hp
          go_wp2_with fail
          go_quiet (fail)
          have HLq := hidden (Lat.trans _ _ _ HLr.out (lat_drewN wr nq))
          have HRBq := hidden (HRB.out.later (lat_drewN wr nq))
          have HBAq := hidden (HBA.out.later (lat_drewN wr nq))
          have HP0q := hidden (HP0.out.lat (lat_drewN wr nq))
          have HP1q := hidden (HP1.out.lat (lat_drewN wr nq))
          clear c0 c1 c2 c3 c4 c5 c6 c7 c8 c9 c10 c11 c12 c13 f0 f1 f2 f3 f4 f5 f6 f7 f8 f9 f10 f11 f12 f13 d0 d1 d2 d3 d4 d5 d6 k0 k1 k2 k3 k4 k5 k6
          generalize wr.drewN nq = w9 at *
          have c0 := HBAq.out.cell 0
          have f0 := HBAq.out.frozen 0
          have c1 := HBAq.out.cell 1
          have f1 := HBAq.out.frozen 1
          have c2 := HBAq.out.cell 2
          have f2 := HBAq.out.frozen 2
          have c3 := HBAq.out.cell 3
          have f3 := HBAq.out.frozen 3
          have c4 := HBAq.out.cell 4
          have f4 := HBAq.out.frozen 4
          have c5 := HBAq.out.cell 5
          have f5 := HBAq.out.frozen 5
          have c6 := HBAq.out.cell 6
          have f6 := HBAq.out.frozen 6
          have c7 := HBAq.out.cell 7
          have f7 := HBAq.out.frozen 7
          have c8 := HBAq.out.cell 8
          have f8 := HBAq.out.frozen 8
          have c9 := HBAq.out.cell 9
          have f9 := HBAq.out.frozen 9
          have c10 := HBAq.out.cell 10
          have f10 := HBAq.out.frozen 10
          have c11 := HBAq.out.cell 11
          have f11 := HBAq.out.frozen 11
          have c12 := HBAq.out.cell 12
          have f12 := HBAq.out.frozen 12
          have c13 := HBAq.out.cell 13
          have f13 := HBAq.out.frozen 13
          simp only [List.getElem?_cons_succ, List.getElem?_cons_zero] at c0 c1 c2 c3 c4 c5 c6 c7 c8 c9 c10 c11 c12 c13
          have d0 := HRBq.out.cell 0
          have k0 := HRBq.out.frozen 0
          have d1 := HRBq.out.cell 1
          have k1 := HRBq.out.frozen 1
          have d2 := HRBq.out.cell 2
          have k2 := HRBq.out.frozen 2
          have d3 := HRBq.out.cell 3
          have k3 := HRBq.out.frozen 3
          have d4 := HRBq.out.cell 4
          have k4 := HRBq.out.frozen 4
          have d5 := HRBq.out.cell 5
          have k5 := HRBq.out.frozen 5
          have d6 := HRBq.out.cell 6
          have k6 := HRBq.out.frozen 6
          simp only [List.getElem?_cons_succ, List.getElem?_cons_zero] at d0 d1 d2 d3 d4 d5 d6
          rw [HG0.out] at c0
          rw [HG1.out] at c7
          by_cases hEq : G0 = G1
          · subst hEq
            by_cases hPos : 0 < G0
            · go_wp2_with fail
              obtain ⟨hB, hcs⟩ := z7_set HRBq.out 0 0 0 0 0 none none 0 0 0 0
              refine bodyPost_ret (results_row_mid rfl _ _ w.heap.size 68 _ _ rfl hB Tryz.underlying68 rfl size89) rfl ?_
              exact HR.out _ _ (Below.trans HLq.out (hcs.below HLq.out.size (fun i hi => by omega))) (.inl ⟨62, HES.out (by have := HG0.out; have := HG1.out; omega) (by have := HG0.out; omega), by decide, rfl⟩)
            · have hgt : ¬ G0 < G0 := by omega
              have hee := HE0.out 1 rfl (by have := HG0.out; have := HG1.out; omega) (by have := HG0.out; have := HG1.out; omega)
              have HEE := hidden hee
              clear hee
              by_cases hE0 : e0 = 0
              · subst hE0
                obtain ⟨st, hst, hfin⟩ := HEE.out.2 rfl
                obtain ⟨hn, x, r, hfr, hfd⟩ := HP0q.out.2 rfl
                have HST := hidden hst
                have HFIN := hidden hfin
                have HN := hidden hn
                have HFR := hidden hfr
                have HFD := hidden hfd
                clear hst hfin hn hfr hfd HEE
                go_wp2_with fail
                go_region
                all_goals
                  go_wp2_with fail
                  obtain ⟨hB, hcs⟩ := z7_set HRBq.out G0 hd0.cap hd0.slots n0 0 sa0 ra0 sn0 sc0 rn0 rc0
                  have hB2 := (Chg.drew (fun _ => False) _).blk hB (fun h => h)
                  have hcd := hcs.trans (Chg.drew _ _) (fun _ _ h => h)
                  refine bodyPost_ret (results_row_mid rfl _ _ w.heap.size 68 _ _ rfl hB2 Tryz.underlying68 rfl size89) rfl ?_
                  refine HR.out _ _ (Below.trans HLq.out (hcd.below HLq.out.size (fun i hi => by omega))) (.inr ⟨_, x, r, .slice sa0 sn0 sc0, .slice ra0 rn0 rc0, HFIN.out, by show 0 ≤ 1; omega, (headAt_lt HFB0.out HST.out).1, (headAt_lt HFB0.out HST.out).2.1, ?_, ?_, ?_, HFD.out.chg hcd (tg_no HRBq.out (by decide)), ?_⟩)
                  · have q := HST.out
                    unfold headAt at q
                    rw [HFR.out] at q
                    exact (headIn_some q).2.2.2.2.1
                  · show (frames (S.file 0)).tail.map (·.2) = _
                    rw [HFR.out]
                    simp [fr]
                  · show fsz (frames (S.file 0)) ≤ _
                    have := fsz_le (S.file 0)
                    omega
                  · show _ = Ending.returned (.tuple #[.int .i64 ((0 : Nat) : Int), .agg (fcell hd0 (.slice sa0 sn0 sc0) (.slice ra0 rn0 rc0) (fsz (frames (S.file 0))) 0).toArray, .int .i64 0])
                    rw [← HN.out]
                    unfold fcell
                    rw [HG0.out]
                    rfl
              · have hEE := hidden (HEE.out.1 hE0)
                clear HEE
                go_wp2_with fail
                obtain ⟨hB, hcs⟩ := z7_set HRBq.out 0 0 0 0 0 none none 0 0 0 0
                refine bodyPost_ret (results_row_mid rfl _ _ w.heap.size 68 _ _ rfl hB Tryz.underlying68 rfl size89) rfl ?_
                exact HR.out _ _ (Below.trans HLq.out (hcs.below HLq.out.size (fun i hi => by omega))) (.inl ⟨e0, hEE.out, hE0, rfl⟩)
          · by_cases hgt : G0 < G1
            · have hee := HE1.out 1 rfl (by have := HG0.out; have := HG1.out; omega)
              have HEE := hidden hee
              clear hee
              by_cases hE0 : e1 = 0
              · subst hE0
                obtain ⟨st, hst, hfin⟩ := HEE.out.2 rfl
                obtain ⟨hn, x, r, hfr, hfd⟩ := HP1q.out.2 rfl
                have HST := hidden hst
                have HFIN := hidden hfin
                have HN := hidden hn
                have HFR := hidden hfr
                have HFD := hidden hfd
                clear hst hfin hn hfr hfd HEE
                go_wp2_with fail
                go_region
                all_goals
                  go_wp2_with fail
                  obtain ⟨hB, hcs⟩ := z7_set HRBq.out G1 hd1.cap hd1.slots n1 0 sa1 ra1 sn1 sc1 rn1 rc1
                  have hB2 := (Chg.drew (fun _ => False) _).blk hB (fun h => h)
                  have hcd := hcs.trans (Chg.drew _ _) (fun _ _ h => h)
                  refine bodyPost_ret (results_row_mid rfl _ _ w.heap.size 68 _ _ rfl hB2 Tryz.underlying68 rfl size89) rfl ?_
                  refine HR.out _ _ (Below.trans HLq.out (hcd.below HLq.out.size (fun i hi => by omega))) (.inr ⟨_, x, r, .slice sa1 sn1 sc1, .slice ra1 rn1 rc1, HFIN.out, by show 1 ≤ 1; omega, (headAt_lt HFB1.out HST.out).1, (headAt_lt HFB1.out HST.out).2.1, ?_, ?_, ?_, HFD.out.chg hcd (tg_no HRBq.out (by decide)), ?_⟩)
                  · have q := HST.out
                    unfold headAt at q
                    rw [HFR.out] at q
                    exact (headIn_some q).2.2.2.2.1
                  · show (frames (S.file 1)).tail.map (·.2) = _
                    rw [HFR.out]
                    simp [fr]
                  · show fsz (frames (S.file 1)) ≤ _
                    have := fsz_le (S.file 1)
                    omega
                  · show _ = Ending.returned (.tuple #[.int .i64 ((1 : Nat) : Int), .agg (fcell hd1 (.slice sa1 sn1 sc1) (.slice ra1 rn1 rc1) (fsz (frames (S.file 1))) 0).toArray, .int .i64 0])
                    rw [← HN.out]
                    unfold fcell
                    rw [HG1.out]
                    rfl
              · have hEE := hidden (HEE.out.1 hE0)
                clear HEE
                go_wp2_with fail
                obtain ⟨hB, hcs⟩ := z7_set HRBq.out 0 0 0 0 0 none none 0 0 0 0
                refine bodyPost_ret (results_row_mid rfl _ _ w.heap.size 68 _ _ rfl hB Tryz.underlying68 rfl size89) rfl ?_
                exact HR.out _ _ (Below.trans HLq.out (hcs.below HLq.out.size (fun i hi => by omega))) (.inl ⟨e1, hEE.out, hE0, rfl⟩)
            · have hee := HE0.out 1 rfl (by have := HG0.out; have := HG1.out; omega) (by have := HG0.out; have := HG1.out; omega)
              have HEE := hidden hee
              clear hee
              by_cases hE0 : e0 = 0
              · subst hE0
                obtain ⟨st, hst, hfin⟩ := HEE.out.2 rfl
                obtain ⟨hn, x, r, hfr, hfd⟩ := HP0q.out.2 rfl
                have HST := hidden hst
                have HFIN := hidden hfin
                have HN := hidden hn
                have HFR := hidden hfr
                have HFD := hidden hfd
                clear hst hfin hn hfr hfd HEE
                go_wp2_with fail
                go_region
                all_goals
                  go_wp2_with fail
                  obtain ⟨hB, hcs⟩ := z7_set HRBq.out G0 hd0.cap hd0.slots n0 0 sa0 ra0 sn0 sc0 rn0 rc0
                  have hB2 := (Chg.drew (fun _ => False) _).blk hB (fun h => h)
                  have hcd := hcs.trans (Chg.drew _ _) (fun _ _ h => h)
                  refine bodyPost_ret (results_row_mid rfl _ _ w.heap.size 68 _ _ rfl hB2 Tryz.underlying68 rfl size89) rfl ?_
                  refine HR.out _ _ (Below.trans HLq.out (hcd.below HLq.out.size (fun i hi => by omega))) (.inr ⟨_, x, r, .slice sa0 sn0 sc0, .slice ra0 rn0 rc0, HFIN.out, by show 0 ≤ 1; omega, (headAt_lt HFB0.out HST.out).1, (headAt_lt HFB0.out HST.out).2.1, ?_, ?_, ?_, HFD.out.chg hcd (tg_no HRBq.out (by decide)), ?_⟩)
                  · have q := HST.out
                    unfold headAt at q
                    rw [HFR.out] at q
                    exact (headIn_some q).2.2.2.2.1
                  · show (frames (S.file 0)).tail.map (·.2) = _
                    rw [HFR.out]
                    simp [fr]
                  · show fsz (frames (S.file 0)) ≤ _
                    have := fsz_le (S.file 0)
                    omega
                  · show _ = Ending.returned (.tuple #[.int .i64 ((0 : Nat) : Int), .agg (fcell hd0 (.slice sa0 sn0 sc0) (.slice ra0 rn0 rc0) (fsz (frames (S.file 0))) 0).toArray, .int .i64 0])
                    rw [← HN.out]
                    unfold fcell
                    rw [HG0.out]
                    rfl
              · have hEE := hidden (HEE.out.1 hE0)
                clear HEE
                go_wp2_with fail
                obtain ⟨hB, hcs⟩ := z7_set HRBq.out 0 0 0 0 0 none none 0 0 0 0
                refine bodyPost_ret (results_row_mid rfl _ _ w.heap.size 68 _ _ rfl hB Tryz.underlying68 rfl size89) rfl ?_
                exact HR.out _ _ (Below.trans HLq.out (hcs.below HLq.out.size (fun i hi => by omega))) (.inl ⟨e0, hEE.out, hE0, rfl⟩)
    · have hq : Unit → S.find = .error 61 := fun _ => by unfold St.find; rw [if_neg (by rw [HON.out]; simp), if_pos (by omega)]
      go_enter Tryz.func37, Tryz.ntmps37
      go_wp2_with (refine wpList_alloc_blk rfl 68 rfl 3 rfl [.int .u64 0, .int .i64 0, .int .i64 0, .slice none 0 0, .slice none 0 0, .int .i64 0, .int .i64 0] zero89L ?_; intro w2 B2 bl2 hz2; have HB2 := hidden B2; have HL2 := hidden bl2; have HZ2 := hidden hz2; clear B2 bl2 hz2)
      refine (aliveP p F S w2 (H.out.lat HL2.out)).mono ?_
      rintro e w3 ⟨rfl, rfl⟩
      rw [HON.out]
      go_wp2_with fail
      refine (hasFilesP p F S w3 (H.out.lat HL2.out)).mono ?_
      rintro e w4 ⟨rfl, rfl⟩
      rw [decide_eq_false h2]
      have c0 := HB2.out.cell 0
      have c1 := HB2.out.cell 1
      have c2 := HB2.out.cell 2
      have c3 := HB2.out.cell 3
      have c4 := HB2.out.cell 4
      have c5 := HB2.out.cell 5
      have c6 := HB2.out.cell 6
      have f0 := HB2.out.frozen 0
      have f1 := HB2.out.frozen 1
      have f2 := HB2.out.frozen 2
      have f3 := HB2.out.frozen 3
      have f4 := HB2.out.frozen 4
      have f5 := HB2.out.frozen 5
      have f6 := HB2.out.frozen 6
      simp only [List.getElem?_cons_succ, List.getElem?_cons_zero] at c0 c1 c2 c3 c4 c5 c6
      go_wp2_with fail
      obtain ⟨hB, hcs⟩ := z7_set HB2.out 0 0 0 0 0 none none 0 0 0 0
      refine bodyPost_ret (results_row_mid rfl _ _ w.heap.size 68 _ _ rfl hB Tryz.underlying68 rfl size89) rfl ?_
      exact HR.out _ _ (HL2.out.trans (hcs.below HL2.out.size (fun i hi => by omega))) (.inl ⟨61, hq (), by decide, rfl⟩)

end Go.Proofs.YtnfjhdedcnbdbaaGreat
