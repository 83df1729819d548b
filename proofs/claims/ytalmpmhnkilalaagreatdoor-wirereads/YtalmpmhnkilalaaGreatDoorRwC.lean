import Derived.Test.YtalmpmhnkilalaaGreatDoorRrE
/-
  Package wire, purely: fields, requests and responses; there and back.
-/
namespace Go.Proofs.YtalmpmhnkilalaaGreatDoor
open Go.RowKit
set_option linter.unusedVariables false

/-- The kinds of fields. -/
inductive Kd where
  | tx | qu | tk | ws | ms | tm | am | se | ro | nu | ts
deriving DecidableEq
/-- What a field holds. -/
inductive FV where
  | tx (d : ByteArray)
  | qu (d : ByteArray)
  | tk (l : List Int)
  | ws (l : List Se)
  | ms (l : List Ma)
  | tm (n : Int)
  | am (n : Int)
  | se (l : List Se)
  | ro (l : List Rx)
  | nu (n : Int)
  | ts (l : List ByteArray)
def FV.kd : FV → Kd
  | .tx _ => .tx | .qu _ => .qu | .tk _ => .tk | .ws _ => .ws | .ms _ => .ms | .tm _ => .tm | .am _ => .am | .se _ => .se | .ro _ => .ro | .nu _ => .nu | .ts _ => .ts
def zeroV : Kd → FV
  | .tx => .tx ByteArray.empty | .qu => .qu ByteArray.empty | .tk => .tk [] | .ws => .ws [] | .ms => .ms [] | .tm => .tm 0 | .am => .am 0 | .se => .se [] | .ro => .ro [] | .nu => .nu 0 | .ts => .ts []
theorem zeroV_kd (k : Kd) : (zeroV k).kd = k := by cases k <;> rfl
def encV : FV → List Int
  | .tx d => encT d | .qu d => encT d | .tk l => Q.enc l.length ++ l | .ws l => enEs l | .ms l => enMs l | .tm n => Q.enc (Q.fold n) | .am n => Q.enc n.toNat | .se l => enEs l | .ro l => enRs l | .nu n => Q.enc n.toNat | .ts l => enTs l
/-- What may be read. -/
def okV : FV → Prop
  | .tx d => d.size ≤ 64 | .qu d => d.size ≤ 4096 | .tk l => Byte l ∧ l.length ≤ 64 | .ws l => okEs l ∧ areS l = true | .ms l => okMs l | .tm n => -9223372036854775808 ≤ n ∧ n ≤ 9223372036854775807
  | .am n => 0 ≤ n ∧ n ≤ 1099511627775 | .se l => okEs l | .ro l => okRs l | .nu n => 0 ≤ n ∧ n ≤ 9223372036854775807 | .ts l => okTs l
def rdV : Kd → Rdr FV
  | .tx => rMap .tx (rTxt 64) | .qu => rMap .qu (rTxt 4096) | .tk => rMap .tk (rLim 64) | .ws => rMap .ws rWrs | .ms => rMap .ms rMats | .tm => rMap .tm rTime
  | .am => rMap (fun (n : Nat) => .am (n : Int)) (rNum 1099511627775) | .se => rMap .se rSers | .ro => rMap .ro rRows | .nu => rMap (fun (n : Nat) => .nu (n : Int)) (rNum 9223372036854775807) | .ts => rMap .ts rTxts
theorem cod_V (k : Kd) : Cod (rdV k) (fun v => v.kd = k ∧ okV v) encV := by
  cases k with
  | tx => exact (cod_txt 64 (by omega)).map _ _ _ (fun y hy => by obtain ⟨h1, h2⟩ := hy; cases y <;> cases h1; exact ⟨_, h2, rfl, rfl⟩) (fun x hx => ⟨⟨rfl, hx⟩, rfl⟩)
  | qu => exact (cod_txt 4096 (by omega)).map _ _ _ (fun y hy => by obtain ⟨h1, h2⟩ := hy; cases y <;> cases h1; exact ⟨_, h2, rfl, rfl⟩) (fun x hx => ⟨⟨rfl, hx⟩, rfl⟩)
  | tk => exact (cod_lim 64 (by omega)).map _ _ _ (fun y hy => by obtain ⟨h1, h2⟩ := hy; cases y <;> cases h1; exact ⟨_, h2, rfl, rfl⟩) (fun x hx => ⟨⟨rfl, hx⟩, rfl⟩)
  | ws => exact cod_wrs.map _ _ _ (fun y hy => by obtain ⟨h1, h2⟩ := hy; cases y <;> cases h1; exact ⟨_, h2, rfl, rfl⟩) (fun x hx => ⟨⟨rfl, hx⟩, rfl⟩)
  | ms => exact cod_mats.map _ _ _ (fun y hy => by obtain ⟨h1, h2⟩ := hy; cases y <;> cases h1; exact ⟨_, h2, rfl, rfl⟩) (fun x hx => ⟨⟨rfl, hx⟩, rfl⟩)
  | tm => exact cod_time.map _ _ _ (fun y hy => by obtain ⟨h1, h2⟩ := hy; cases y <;> cases h1; exact ⟨_, h2, rfl, rfl⟩) (fun x hx => ⟨⟨rfl, hx⟩, rfl⟩)
  | am =>
    refine (cod_num 1099511627775 (by omega)).map (fun (n : Nat) => FV.am (n : Int)) (fun v => v.kd = .am ∧ okV v) encV (fun y hy => ?_) (fun x hx => ⟨⟨rfl, ?_⟩, ?_⟩)
    · obtain ⟨h1, h2⟩ := hy
      cases y with
      | am n =>
        have h3 : 0 ≤ n ∧ n ≤ 1099511627775 := h2
        refine ⟨n.toNat, by omega, ?_, rfl⟩
        show FV.am _ = _
        congr 1
        omega
      | _ => cases h1
    · show 0 ≤ (x : Int) ∧ (x : Int) ≤ 1099511627775
      omega
    · show Q.enc (x : Int).toNat = _
      simp
  | se => exact cod_sers.map _ _ _ (fun y hy => by obtain ⟨h1, h2⟩ := hy; cases y <;> cases h1; exact ⟨_, h2, rfl, rfl⟩) (fun x hx => ⟨⟨rfl, hx⟩, rfl⟩)
  | ro => exact cod_rows.map _ _ _ (fun y hy => by obtain ⟨h1, h2⟩ := hy; cases y <;> cases h1; exact ⟨_, h2, rfl, rfl⟩) (fun x hx => ⟨⟨rfl, hx⟩, rfl⟩)
  | nu =>
    refine (cod_num 9223372036854775807 (by omega)).map (fun (n : Nat) => FV.nu (n : Int)) (fun v => v.kd = .nu ∧ okV v) encV (fun y hy => ?_) (fun x hx => ⟨⟨rfl, ?_⟩, ?_⟩)
    · obtain ⟨h1, h2⟩ := hy
      cases y with
      | nu n =>
        have h3 : 0 ≤ n ∧ n ≤ 9223372036854775807 := h2
        refine ⟨n.toNat, by omega, ?_, rfl⟩
        show FV.nu _ = _
        congr 1
        omega
      | _ => cases h1
    · show 0 ≤ (x : Int) ∧ (x : Int) ≤ 9223372036854775807
      omega
    · show Q.enc (x : Int).toNat = _
      simp
  | ts => exact cod_txts.map _ _ _ (fun y hy => by obtain ⟨h1, h2⟩ := hy; cases y <;> cases h1; exact ⟨_, h2, rfl, rfl⟩) (fun x hx => ⟨⟨rfl, hx⟩, rfl⟩)

/-- What lies in memory at all. -/
def Good : FV → Prop
  | .tk l => Byte l | .ws l => ∀ x ∈ l, ∀ y ∈ x.2, OkS y | .se l => ∀ x ∈ l, ∀ y ∈ x.2, OkS y | .tm n => -9223372036854775808 ≤ n ∧ n ≤ 9223372036854775807 | .am n => -9223372036854775808 ≤ n ∧ n ≤ 9223372036854775807
  | .nu n => -9223372036854775808 ≤ n ∧ n ≤ 9223372036854775807 | _ => True
theorem good_ok {v : FV} (h : okV v) : Good v := by
  cases v with
  | tk l => exact h.1
  | ws l => exact fun x hx y hy => (h.1.2 x hx).2.1 y hy
  | se l => exact fun x hx y hy => (h.2 x hx).2.1 y hy
  | tm n => exact h
  | am n => have : 0 ≤ n ∧ n ≤ 1099511627775 := h; show _ ∧ _; omega
  | nu n => have : 0 ≤ n ∧ n ≤ 9223372036854775807 := h; show _ ∧ _; omega
  | _ => trivial
theorem good_zero (k : Kd) : Good (zeroV k) := by
  cases k with
  | tk => exact fun n hn => by cases hn
  | ws => exact fun x hx => by cases hx
  | se => exact fun x hx => by cases hx
  | tm => show (_ : Int) ≤ _ ∧ _; omega
  | am => show (_ : Int) ≤ _ ∧ _; omega
  | nu => show (_ : Int) ≤ _ ∧ _; omega
  | _ => trivial
/-- What the writer does with a field. -/
def putV : FV → Ws → Ws
  | .tx d, s => s.limited d 64 | .qu d, s => s.limited d 4096 | .tk l, s => s.limited (strOfNums l) 64 | .ws l, s => s.writes' l | .ms l, s => s.each 8 Ws.matcher l | .tm n, s => s.put (Q.enc (Q.fold n))
  | .am n, s => (s.must (decide (u64 n ≤ 1099511627775))).put (Q.enc (u64 n)) | .se l, s => s.each U64 stepE' l | .ro l, s => s.each U64 stepR' l | .nu n, s => (s.must (decide (u64 n ≤ 9223372036854775807))).put (Q.enc (u64 n)) | .ts l, s => s.each U64 (fun s x => s.limited x 64) l
/-- What may be written. -/
def okW : FV → Prop
  | .tx d => d.size ≤ 64 | .qu d => d.size ≤ 4096 | .tk l => l.length ≤ 64 | .ws l => (l.length ≤ U64 ∧ ∀ x ∈ l, okLs x.1) ∧ areS l = true | .ms l => okMs l | .tm n => True
  | .am n => 0 ≤ n ∧ n ≤ 1099511627775 | .se l => l.length ≤ U64 ∧ ∀ x ∈ l, okLs x.1 | .ro l => okRs l | .nu n => 0 ≤ n ∧ n ≤ 9223372036854775807 | .ts l => okTs l
theorem u64_pos {n : Int} (h0 : 0 ≤ n) (h1 : n ≤ 9223372036854775807) : u64 n = n.toNat := by unfold u64; omega
theorem wrt_V (v : FV) (h : Good v) : Wrt (putV v) (okW v) (encV v) := by
  cases v with
  | tx d => exact wrt_lim d 64
  | qu d => exact wrt_lim d 4096
  | tk l => exact (wrt_lim (strOfNums l) 64).congr (by funext s; rfl) (by rw [strOf_size]; exact Iff.rfl) (fun _ => by unfold encT; rw [strOf_size, bts_strOf l h]; rfl)
  | ws l => exact wrt_writes l
  | ms l => exact wrt_mats l
  | tm n => exact wrt_put _
  | am n =>
    have hn : -9223372036854775808 ≤ n ∧ n ≤ 9223372036854775807 := h
    refine ((wrt_must (decide (u64 n ≤ 1099511627775))).comp (wrt_put (Q.enc (u64 n)))).congr (by funext s; rfl) ?_ (fun hh => ?_)
    · simp only [decide_eq_true_eq, and_true]
      show u64 n ≤ _ ↔ 0 ≤ n ∧ n ≤ 1099511627775
      unfold u64
      omega
    · have h2 : u64 n ≤ 1099511627775 := by simpa using hh.1
      have : u64 n = n.toNat := by unfold u64 at *; omega
      rw [this]
      rfl
  | se l => exact wrt_sers l
  | ro l => exact wrt_rows l
  | nu n =>
    have hn : -9223372036854775808 ≤ n ∧ n ≤ 9223372036854775807 := h
    refine ((wrt_must (decide (u64 n ≤ 9223372036854775807))).comp (wrt_put (Q.enc (u64 n)))).congr (by funext s; rfl) ?_ (fun hh => ?_)
    · simp only [decide_eq_true_eq, and_true]
      show u64 n ≤ _ ↔ 0 ≤ n ∧ n ≤ 9223372036854775807
      unfold u64
      omega
    · have h2 : u64 n ≤ 9223372036854775807 := by simpa using hh.1
      have : u64 n = n.toNat := by unfold u64 at *; omega
      rw [this]
      rfl
  | ts l => exact wrt_txts l
theorem mem_flat_len {α : Type} {en : α → List Int} {l : List α} {x : α} (h : x ∈ l) : (en x).length ≤ (l.flatMap en).length := by
  induction l with
  | nil => cases h
  | cons y r ih =>
    rw [List.flatMap_cons, List.length_append]
    rcases List.mem_cons.1 h with rfl | h
    · omega
    · have := ih h; omega
theorem okE_of {l : List Se} (h : ∀ x ∈ l, ∀ y ∈ x.2, OkS y) (h1 : l.length ≤ U64 ∧ ∀ x ∈ l, okLs x.1) (hl : (enEs l).length ≤ 1048576) : okEs l := by
  refine ⟨h1.1, fun x hx => ⟨h1.2 x hx, h x hx, ?_⟩⟩
  have k1 := mem_flat_len (en := enE) hx
  unfold enEs encE at hl
  rw [List.length_append] at hl
  have k2 : (encC x.2).length ≤ (enE x).length := by unfold enE encSs; simp only [List.length_append]; omega
  have k3 := fits_small (l := x.2) (m := 1048576) (by omega)
  have k4 := rowB_ge x.2
  exact ⟨by omega, by omega⟩
/-- What was written may be read. -/
theorem ok_of {v : FV} (h : Good v) (h1 : okW v) (hl : (encV v).length ≤ 1048576) : okV v := by
  cases v with
  | tk l => exact ⟨h, h1⟩
  | ws l => exact ⟨okE_of h h1.1 hl, h1.2⟩
  | se l => exact okE_of h h1 hl
  | tm n => exact h
  | _ => exact h1
theorem okW_of {v : FV} (h : okV v) : okW v := by
  cases v with
  | tk l => exact h.2
  | ws l => exact ⟨⟨h.1.1, fun x hx => (h.1.2 x hx).1⟩, h.2⟩
  | se l => exact ⟨h.1, fun x hx => (h.2 x hx).1⟩
  | tm n => trivial
  | _ => exact h
/-- Is a field zero? -/
def isZ : FV → Bool
  | .tx d => decide (d.size = 0) | .qu d => decide (d.size = 0) | .tk l => decide (l.length = 0) | .ws l => decide (l.length = 0) | .ms l => decide (l.length = 0) | .tm n => decide (n = 0) | .am n => decide (n = 0)
  | .se l => decide (l.length = 0) | .ro l => decide (l.length = 0) | .nu n => decide (n = 0) | .ts l => decide (l.length = 0)
theorem size_empty {d : ByteArray} (h : d.size = 0) : d = ByteArray.empty := by
  obtain ⟨a⟩ := d
  have : a.size = 0 := h
  have := Array.eq_empty_of_size_eq_zero this
  subst this
  rfl
theorem isZ_iff (v : FV) : isZ v = true ↔ v = zeroV v.kd := by
  cases v with
  | tx d =>
    constructor
    · intro h
      have hd : d.size = 0 := by simpa [isZ] using h
      rw [size_empty hd]
      rfl
    · intro h
      injection h with h
      subst h
      rfl
  | qu d =>
    constructor
    · intro h
      have hd : d.size = 0 := by simpa [isZ] using h
      rw [size_empty hd]
      rfl
    · intro h
      injection h with h
      subst h
      rfl
  | _ => simp [isZ, zeroV, FV.kd]

/-! ### fields one behind the other -/
def rFields (kd : Nat → Kd) : List Nat → (Nat → FV) → Rdr (Nat → FV)
  | [], f => fun b => some (f, b)
  | i :: r, f => fun b => (rdV (kd i) b).bind (fun q => rFields kd r (fun j => if j = i then q.1 else f j) q.2)
def enF (f : Nat → FV) (used : List Nat) : List Int := used.flatMap (fun i => encV (f i))
theorem fields_back (kd : Nat → Kd) (g : Nat → FV) : ∀ (used : List Nat) (f : Nat → FV) (t : List Int), (∀ i ∈ used, (g i).kd = kd i ∧ okV (g i)) → rFields kd used f (enF g used ++ t) = some ((fun j => if j ∈ used then g j else f j), t)
  | [], f, t, h => by simp [rFields, enF]
  | i :: r, f, t, h => by
    unfold rFields enF
    rw [List.flatMap_cons, List.append_assoc, (cod_V (kd i)).back _ _ (h i (by simp))]
    show rFields kd r _ (enF g r ++ t) = _
    rw [fields_back kd g r _ t (fun j hj => h j (by simp [hj]))]
    congr 2
    funext j
    by_cases h1 : j = i
    · subst h1; simp
    · by_cases h2 : j ∈ r <;> simp [h1, h2]
theorem fields_forth (kd : Nat → Kd) : ∀ (used : List Nat) (f f' : Nat → FV) (b t : List Int), used.Nodup → Byte b → b.length ≤ 1048576 → rFields kd used f b = some (f', t) →
    b = enF f' used ++ t ∧ (∀ i ∈ used, (f' i).kd = kd i ∧ okV (f' i)) ∧ ∀ i, i ∉ used → f' i = f i
  | [], f, f', b, t, hn, hb, hl, h => by
    simp [rFields] at h
    obtain ⟨rfl, rfl⟩ := h
    exact ⟨rfl, by simp, fun _ _ => rfl⟩
  | i :: r, f, f', b, t, hn, hb, hl, h => by
    unfold rFields at h
    cases hq : rdV (kd i) b with
    | none => rw [hq] at h; cases h
    | some q =>
      obtain ⟨v, u⟩ := q
      rw [hq] at h
      obtain ⟨k1, k2⟩ := (cod_V (kd i)).forth b v u hb hl hq
      have h2 : rFields kd r (fun j => if j = i then v else f j) u = some (f', t) := h
      rw [k2] at hb hl
      simp only [List.length_append] at hl
      obtain ⟨hi, hr⟩ := List.nodup_cons.1 hn
      obtain ⟨j1, j2, j3⟩ := fields_forth kd r _ f' u t hr hb.right (by omega) h2
      have e : f' i = v := by rw [j3 i hi]; simp
      refine ⟨?_, fun j hj => ?_, fun j hj => ?_⟩
      · unfold enF at j1 ⊢
        rw [List.flatMap_cons, e, k2, j1, List.append_assoc]
      · rcases List.mem_cons.1 hj with rfl | hj
        · rw [e]; exact k1
        · exact j2 j hj
      · simp at hj
        rw [j3 j hj.2, if_neg hj.1]
/-- The writer, a field behind the other. -/
def putsF (f : Nat → FV) (used : List Nat) (s : Ws) : Ws := used.foldl (fun s i => putV (f i) s) s
theorem wrt_puts (f : Nat → FV) : ∀ (used : List Nat), (∀ i ∈ used, Good (f i)) → Wrt (putsF f used) (∀ i ∈ used, okW (f i)) (enF f used)
  | [], h => wrt_id.congr (by funext s; rfl) (by simp) (fun _ => rfl)
  | i :: r, h => ((wrt_V (f i) (h i (by simp))).comp (wrt_puts f r (fun j hj => h j (by simp [hj])))).congr (by funext s; rfl) (by simp) (fun _ => by unfold enF; rw [List.flatMap_cons])
/-- Nothing but what is used. -/
def zerosF (f : Nat → FV) (used : List Nat) : List Nat → Ws → Ws
  | [], s => s
  | i :: r, s => zerosF f used r (s.must (isZ (f i) || decide (i ∈ used)))
theorem wrt_zeros (f : Nat → FV) (used : List Nat) : ∀ (l : List Nat), Wrt (zerosF f used l) (∀ i ∈ l, isZ (f i) = true ∨ i ∈ used) []
  | [] => wrt_id.congr (by funext s; rfl) (by simp) (fun _ => rfl)
  | i :: r => ((wrt_must (isZ (f i) || decide (i ∈ used))).comp (wrt_zeros f used r)).congr (by funext s; rfl) (by simp) (fun _ => rfl)

end Go.Proofs.YtalmpmhnkilalaaGreatDoor

/-
  Package wire, purely: requests and responses; there and back.
-/
namespace Go.Proofs.YtalmpmhnkilalaaGreatDoor
open Go.RowKit
set_option linter.unusedVariables false

/-! ### requests -/
def kdQ : Nat → Kd
  | 0 => .tx | 1 => .tk | 2 => .ws | 3 => .ms | 4 => .tm | 5 => .tm | 6 => .qu | 7 => .tx | 8 => .am | 9 => .am | 10 => .am | _ => .tk
def zQ : Nat → FV := fun i => zeroV (kdQ i)
/-- The fields of a request, as they lie in memory. -/
structure ShV (ks : Nat → Kd) (n : Nat) (f : Nat → FV) : Prop where
  kd : ∀ i, (f i).kd = ks i
  good : ∀ i, Good (f i)
  tail : ∀ i, n ≤ i → f i = zeroV (ks i)
abbrev ShQ := ShV kdQ 12
theorem fieldsK_some {k : Int} {used : List Nat} (h : fieldsK k = some used) : used.Nodup ∧ (∀ i ∈ used, i < 12) ∧ 1 ≤ k ∧ k ≤ 19 := by
  unfold fieldsK at h
  repeat' split at h
  all_goals first | (cases h; done) | (injection h with h; subst h; exact ⟨by decide, by decide, by omega, by omega⟩)
def rRq : Rdr (Int × (Nat → FV)) := fun b => (rOct b).bind (fun q => match fieldsK q.1 with | some used => (rFields kdQ used zQ q.2).map (fun (p : (Nat → FV) × List Int) => ((q.1, p.1), p.2)) | none => none)
def okRq (k : Int) (f : Nat → FV) : Prop := ∃ used, fieldsK k = some used ∧ (∀ i ∈ used, okV (f i)) ∧ ∀ i, i ∉ used → f i = zQ i
def usedQ (k : Int) : List Nat := (fieldsK k).getD []
def enRq (k : Int) (f : Nat → FV) : List Int := k :: enF f (usedQ k)
theorem rq_back {k : Int} {f : Nat → FV} (h : ShQ f) (ho : okRq k f) (t : List Int) : rRq (enRq k f ++ t) = some ((k, f), t) := by
  obtain ⟨used, h1, h2, h3⟩ := ho
  unfold rRq enRq usedQ
  show (match fieldsK k with | some used => (rFields kdQ used zQ (enF f ((fieldsK k).getD []) ++ t)).map (fun (p : (Nat → FV) × List Int) => ((k, p.1), p.2)) | none => none) = _
  rw [h1]
  simp only [Option.getD_some]
  rw [fields_back kdQ f used zQ t (fun i hi => ⟨h.kd i, h2 i hi⟩)]
  simp only [Option.map_some]
  congr 3
  funext j
  by_cases hj : j ∈ used
  · simp [hj]
  · simp [hj, h3 j hj]
theorem rq_forth {b t : List Int} {k : Int} {f : Nat → FV} (hb : Byte b) (hl : b.length ≤ 1048576) (h : rRq b = some ((k, f), t)) : okRq k f ∧ b = enRq k f ++ t ∧ ShQ f := by
  cases b with
  | nil => cases h
  | cons c r =>
    have h1 : (match fieldsK c with | some used => (rFields kdQ used zQ r).map (fun p => ((c, p.1), p.2)) | none => none) = some ((k, f), t) := h
    cases hf : fieldsK c with
    | none => rw [hf] at h1; cases h1
    | some used =>
      rw [hf] at h1
      simp only at h1
      obtain ⟨n1, n2, n3, n4⟩ := fieldsK_some hf
      cases hq : rFields kdQ used zQ r with
      | none => rw [hq] at h1; cases h1
      | some q =>
        obtain ⟨f', u⟩ := q
        rw [hq] at h1
        simp at h1
        obtain ⟨⟨rfl, rfl⟩, rfl⟩ := h1
        simp at hl
        obtain ⟨j1, j2, j3⟩ := fields_forth kdQ used zQ f' r u n1 (fun x hx => hb x (by simp [hx])) (by omega) hq
        refine ⟨⟨used, hf, fun i hi => (j2 i hi).2, j3⟩, ?_, ⟨fun i => ?_, fun i => ?_, fun i hi => ?_⟩⟩
        · unfold enRq usedQ
          rw [hf, List.cons_append]
          simp only [Option.getD_some]
          rw [← j1]
        · by_cases hi : i ∈ used
          · exact (j2 i hi).1
          · rw [j3 i hi]; exact zeroV_kd _
        · by_cases hi : i ∈ used
          · exact good_ok (j2 i hi).2
          · rw [j3 i hi]; exact good_zero _
        · rw [j3 i (fun hm => by have := n2 i hm; omega)]
          rfl
/-- The writer, over a request. -/
def wEnc (k : Int) (f : Nat → FV) (s : Ws) : Ws := putsF f (usedQ k) (zerosF f (usedQ k) (List.range 12) ((s.must (fieldsK k).isSome).put [u8 k]))
theorem wrt_enc {k : Int} {f : Nat → FV} (h : ShQ f) : Wrt (wEnc k f) ((fieldsK k).isSome = true ∧ (∀ i ∈ List.range 12, isZ (f i) = true ∨ i ∈ usedQ k) ∧ ∀ i ∈ usedQ k, okW (f i)) (enRq k f) := by
  refine ((((wrt_must (fieldsK k).isSome).comp (wrt_put [u8 k])).comp (wrt_zeros f (usedQ k) (List.range 12))).comp (wrt_puts f (usedQ k) (fun i _ => h.good i))).congr (by funext s; rfl) (by simp [and_assoc]) (fun hh => ?_)
  obtain ⟨⟨⟨h1, _⟩, _⟩, _⟩ := hh
  obtain ⟨used, hu⟩ := Option.isSome_iff_exists.1 h1
  obtain ⟨_, _, n3, n4⟩ := fieldsK_some hu
  have : u8 k = k := by unfold u8; omega
  unfold enRq
  rw [this]
  simp
theorem okW_rq {k : Int} {f : Nat → FV} (h : ShQ f) (hl : (enRq k f).length ≤ 1048576) : ((fieldsK k).isSome = true ∧ (∀ i ∈ List.range 12, isZ (f i) = true ∨ i ∈ usedQ k) ∧ ∀ i ∈ usedQ k, okW (f i)) ↔ okRq k f := by
  constructor
  · rintro ⟨h1, h2, h3⟩
    obtain ⟨used, hu⟩ := Option.isSome_iff_exists.1 h1
    have e : usedQ k = used := by unfold usedQ; rw [hu]; rfl
    rw [e] at h2 h3
    refine ⟨used, hu, fun i hi => ok_of (h.good i) (h3 i hi) ?_, fun i hi => ?_⟩
    · unfold enRq at hl
      rw [e] at hl
      have := mem_flat_len (en := fun i => encV (f i)) hi
      simp at hl
      unfold enF at hl
      omega
    · by_cases h12 : i < 12
      · rcases h2 i (by simp [h12]) with h4 | h4
        · rw [(isZ_iff _).1 h4, h.kd i]
          rfl
        · exact absurd h4 hi
      · exact h.tail i (by omega)
  · rintro ⟨used, hu, h2, h3⟩
    have e : usedQ k = used := by unfold usedQ; rw [hu]; rfl
    rw [e]
    refine ⟨by rw [hu]; rfl, fun i _ => ?_, fun i hi => okW_of (h2 i hi)⟩
    by_cases hi : i ∈ used
    · exact .inr hi
    · left
      rw [isZ_iff, h3 i hi]
      show zeroV _ = zeroV (zeroV _).kd
      rw [zeroV_kd]
def ws0 (most : Nat) : Ws := ⟨[], most, false, false⟩
/-- Encode, purely. -/
def encQ (k : Int) (f : Nat → FV) : Option (List Int) := if (wEnc k f (ws0 65536)).wrong || (wEnc k f (ws0 65536)).over then none else some (wEnc k f (ws0 65536)).out
theorem wrt_fin {F : Ws → Ws} {ok : Prop} {e : List Int} (h : Wrt F ok e) (m : Nat) :
    (¬ ok → (F (ws0 m)).wrong = true) ∧ (ok → (F (ws0 m)).wrong = false) ∧ (ok → e.length ≤ m → F (ws0 m) = ⟨e, m, false, false⟩) ∧ (ok → m < e.length → (F (ws0 m)).over = true) := by
  refine ⟨fun hn => ?_, fun ho => (h.bad _ rfl).2 ho, fun ho hl => ?_, fun ho hl => h.big _ rfl ho (by simp [ws0]) (by simpa [ws0] using hl)⟩
  · cases hw : (F (ws0 m)).wrong with
    | true => rfl
    | false => exact absurd ((h.bad _ rfl).1 hw) hn
  · rw [h.fit _ rfl ho rfl (by simpa [ws0] using hl)]
    rfl
theorem encQ_iff {k : Int} {f : Nat → FV} (h : ShQ f) (c : List Int) : encQ k f = some c ↔ okRq k f ∧ (enRq k f).length ≤ 65536 ∧ c = enRq k f := by
  obtain ⟨f1, f2, f3, f4⟩ := wrt_fin (wrt_enc (k := k) h) 65536
  unfold encQ
  constructor
  · intro hs
    split at hs
    · cases hs
    · rename_i hn
      simp at hn hs
      by_cases ho : (fieldsK k).isSome = true ∧ (∀ i ∈ List.range 12, isZ (f i) = true ∨ i ∈ usedQ k) ∧ ∀ i ∈ usedQ k, okW (f i)
      · by_cases hl : (enRq k f).length ≤ 65536
        · rw [f3 ho hl] at hs
          exact ⟨(okW_rq h (by omega)).1 ho, hl, hs.symm⟩
        · rw [f4 ho (by omega)] at hn
          cases hn.2
      · rw [f1 ho] at hn
        cases hn.1
  · rintro ⟨h1, h2, rfl⟩
    rw [f3 ((okW_rq h (by omega)).2 h1) h2]
    rfl
/-- Decode, purely. -/
def decQ (b : List Int) : Option (Int × (Nat → FV)) := if 65536 < b.length then none else match rRq b with | some (q, []) => some q | _ => none
theorem decQ_some {b : List Int} {k : Int} {f : Nat → FV} (h : decQ b = some (k, f)) : b.length ≤ 65536 ∧ rRq b = some ((k, f), []) := by
  unfold decQ at h
  split at h
  · cases h
  · refine ⟨by omega, ?_⟩
    split at h
    · rename_i q hq
      injection h with h
      subst h
      exact hq
    · cases h
theorem dec_encQ {k : Int} {f : Nat → FV} {c : List Int} (h : ShQ f) (he : encQ k f = some c) : decQ c = some (k, f) := by
  obtain ⟨h1, h2, rfl⟩ := (encQ_iff h c).1 he
  unfold decQ
  have := rq_back h h1 []
  rw [List.append_nil] at this
  rw [if_neg (by omega), this]
theorem dec_longer {k : Int} {f : Nat → FV} {c : List Int} (h : ShQ f) (he : encQ k f = some c) (x : Int) : decQ (c ++ [x]) = none := by
  obtain ⟨h1, h2, rfl⟩ := (encQ_iff h c).1 he
  unfold decQ
  split
  · rfl
  · rw [rq_back h h1 [x]]
theorem dec_shorter {k : Int} {f : Nat → FV} {c : List Int} (h : ShQ f) (hb : Byte c) (he : encQ k f = some c) : decQ (c.take (c.length - 1)) = none := by
  obtain ⟨h1, h2, e⟩ := (encQ_iff h c).1 he
  cases hd : decQ (c.take (c.length - 1)) with
  | none => rfl
  | some q =>
    obtain ⟨k', f'⟩ := q
    obtain ⟨d1, d2⟩ := decQ_some hd
    obtain ⟨g1, g2, g3⟩ := rq_forth (hb.take _) (by omega) d2
    have hc : c = enRq k' f' ++ c.drop (c.length - 1) := by
      conv => lhs; rw [← List.take_append_drop (c.length - 1) c]
      rw [g2, List.append_nil]
    have r1 := rq_back g3 g1 (c.drop (c.length - 1))
    rw [← hc] at r1
    have r2 := rq_back h h1 []
    rw [List.append_nil, ← e, r1] at r2
    simp at r2
    have h0 : c ≠ [] := by rw [e]; unfold enRq; simp
    have : 0 < c.length := List.length_pos_iff.2 h0
    omega
theorem enc_decQ {b : List Int} {k : Int} {f : Nat → FV} (hb : Byte b) (h : decQ b = some (k, f)) : ShQ f ∧ encQ k f = some b := by
  obtain ⟨d1, d2⟩ := decQ_some h
  obtain ⟨g1, g2, g3⟩ := rq_forth hb (by omega) d2
  rw [List.append_nil] at g2
  refine ⟨g3, (encQ_iff g3 b).2 ⟨g1, by rw [← g2]; exact d1, g2⟩⟩

/-! ### responses -/
def kdA : Nat → Kd
  | 0 => .se | 1 => .ro | 2 => .nu | _ => .ts
def zA : Nat → FV := fun i => zeroV (kdA i)
abbrev ShA := ShV kdA 4
def fieldsA (k : Int) : Option (List Nat) := if k = 0 then some [] else if k = 1 then some [0] else if k = 2 then some [1] else if k = 3 then some [2] else if k = 4 then some [3] else none
theorem fieldsA_some {k : Int} {used : List Nat} (h : fieldsA k = some used) : used.Nodup ∧ (∀ i ∈ used, i < 4) ∧ 0 ≤ k ∧ k ≤ 4 := by
  unfold fieldsA at h
  repeat' split at h
  all_goals first | (cases h; done) | (injection h with h; subst h; exact ⟨by decide, by decide, by omega, by omega⟩)
def rAk : Rdr (Int × Int × (Nat → FV)) := fun b => (rOct b).bind (fun p => match fieldsA p.1 with | some used => (rFields kdA used zA p.2).map (fun (r : (Nat → FV) × List Int) => ((0, p.1, r.1), r.2)) | none => none)
def rRs : Rdr (Int × Int × (Nat → FV)) := fun b => (rNum 999 b).bind (fun q => if q.1 ≠ 0 then some (((q.1 : Int), 0, zA), q.2) else rAk q.2)
def usedA (k : Int) : List Nat := (fieldsA k).getD []
def okAn (e k : Int) (f : Nat → FV) : Prop := (0 ≤ e ∧ e ≤ 999) ∧ (e ≠ 0 → k = 0 ∧ ∀ i, f i = zA i) ∧ (e = 0 → ∃ used, fieldsA k = some used ∧ (∀ i ∈ used, okV (f i)) ∧ ∀ i, i ∉ used → f i = zA i)
def enAn (e k : Int) (f : Nat → FV) : List Int := Q.enc e.toNat ++ (if e ≠ 0 then [] else k :: enF f (usedA k))
theorem rs_back {e k : Int} {f : Nat → FV} (h : ShA f) (ho : okAn e k f) (t : List Int) : rRs (enAn e k f ++ t) = some ((e, k, f), t) := by
  obtain ⟨h0, h1, h2⟩ := ho
  unfold rRs enAn
  rw [List.append_assoc, (cod_num 999 (by omega)).back e.toNat _ (by omega)]
  by_cases he : e = 0
  · subst he
    obtain ⟨used, g1, g2, g3⟩ := h2 rfl
    show rAk ((k :: enF f (usedA k)) ++ t) = _
    unfold rAk usedA
    show (match fieldsA k with | some used => (rFields kdA used zA (enF f ((fieldsA k).getD []) ++ t)).map (fun (r : (Nat → FV) × List Int) => (((0 : Int), k, r.1), r.2)) | none => none) = _
    rw [g1]
    simp only [Option.getD_some]
    rw [fields_back kdA f used zA t (fun i hi => ⟨h.kd i, g2 i hi⟩)]
    simp only [Option.map_some]
    congr 4
    funext j
    by_cases hj : j ∈ used
    · simp [hj]
    · simp [hj, g3 j hj]
  · obtain ⟨g1, g2⟩ := h1 he
    subst g1
    have : f = zA := funext g2
    subst this
    show (if e.toNat ≠ 0 then some (((e.toNat : Int), 0, zA), _) else _) = _
    rw [if_pos (by omega), if_pos he]
    congr 3
    omega
theorem rs_forth {b t : List Int} {e k : Int} {f : Nat → FV} (hb : Byte b) (hl : b.length ≤ 1048576) (h : rRs b = some ((e, k, f), t)) : okAn e k f ∧ b = enAn e k f ++ t ∧ ShA f := by
  unfold rRs at h
  cases hq : rNum 999 b with
  | none => rw [hq] at h; cases h
  | some q =>
    obtain ⟨n, u⟩ := q
    rw [hq] at h
    obtain ⟨k1, k2⟩ := (cod_num 999 (by omega)).forth b n u hb hl hq
    have h1 : (if n ≠ 0 then some (((n : Int), 0, zA), u) else rAk u) = some ((e, k, f), t) := h
    by_cases hn : n ≠ 0
    · rw [if_pos hn] at h1
      simp at h1
      obtain ⟨⟨rfl, rfl, rfl⟩, rfl⟩ := h1
      refine ⟨⟨by omega, fun _ => ⟨rfl, fun _ => rfl⟩, fun h => by omega⟩, ?_, ⟨fun i => zeroV_kd _, fun i => good_zero _, fun i _ => rfl⟩⟩
      unfold enAn
      rw [if_pos (by omega)]
      simp
      exact k2
    · rw [if_neg hn] at h1
      have hn : n = 0 := by omega
      subst hn
      rw [k2] at hb hl
      simp only [List.length_append] at hl
      cases u with
      | nil => cases h1
      | cons c r =>
        have h2 : (match fieldsA c with | some used => (rFields kdA used zA r).map (fun r => (((0 : Int), c, r.1), r.2)) | none => none) = some ((e, k, f), t) := h1
        cases hf : fieldsA c with
        | none => rw [hf] at h2; cases h2
        | some used =>
          rw [hf] at h2
          simp only at h2
          obtain ⟨n1, n2, n3, n4⟩ := fieldsA_some hf
          cases hq2 : rFields kdA used zA r with
          | none => rw [hq2] at h2; cases h2
          | some q2 =>
            obtain ⟨f', u2⟩ := q2
            rw [hq2] at h2
            simp at h2
            obtain ⟨⟨rfl, rfl, rfl⟩, rfl⟩ := h2
            simp at hl
            obtain ⟨j1, j2, j3⟩ := fields_forth kdA used zA f' r u2 n1 (fun x hx => hb x (by simp [hx])) (by omega) hq2
            refine ⟨⟨by omega, fun h => absurd rfl h, fun _ => ⟨used, hf, fun i hi => (j2 i hi).2, j3⟩⟩, ?_, ⟨fun i => ?_, fun i => ?_, fun i hi => ?_⟩⟩
            · unfold enAn usedA
              rw [if_neg (by simp), hf]
              simp only [Option.getD_some]
              rw [k2, List.append_assoc, List.cons_append, ← j1]
              rfl
            · by_cases hi : i ∈ used
              · exact (j2 i hi).1
              · rw [j3 i hi]; exact zeroV_kd _
            · by_cases hi : i ∈ used
              · exact good_ok (j2 i hi).2
              · rw [j3 i hi]; exact good_zero _
            · rw [j3 i (fun hm => by have := n2 i hm; omega)]
              rfl
/-- The writer, over a response. -/
def wAns (e k : Int) (f : Nat → FV) (s : Ws) : Ws :=
  if e ≠ 0 then zerosF f [] (List.range 4) (((s.must (decide (u64 e ≤ 999))).put (Q.enc (u64 e))).must (decide (k = 0)))
  else putsF f (usedA k) (zerosF f (usedA k) (List.range 4) ((((s.must (decide (u64 e ≤ 999))).put (Q.enc (u64 e))).must (fieldsA k).isSome).put [u8 k]))
/-- What may be written of a response. -/
def okAw (e k : Int) (f : Nat → FV) : Prop := (0 ≤ e ∧ e ≤ 999) ∧ (e ≠ 0 → k = 0 ∧ ∀ i ∈ List.range 4, isZ (f i) = true) ∧ (e = 0 → (fieldsA k).isSome = true ∧ (∀ i ∈ List.range 4, isZ (f i) = true ∨ i ∈ usedA k) ∧ ∀ i ∈ usedA k, okW (f i))
theorem wrt_ans {e k : Int} {f : Nat → FV} (h : ShA f) (h0 : -9223372036854775808 ≤ e) (h1 : e ≤ 9223372036854775807) : Wrt (wAns e k f) (okAw e k f) (enAn e k f) := by
  have hu : (u64 e ≤ 999 ↔ 0 ≤ e ∧ e ≤ 999) := by unfold u64; omega
  have hn := (wrt_must (decide (u64 e ≤ 999))).comp (wrt_put (Q.enc (u64 e)))
  by_cases he : e = 0
  · subst he
    refine ((((hn.comp (wrt_must (fieldsA k).isSome)).comp (wrt_put [u8 k])).comp (wrt_zeros f (usedA k) (List.range 4))).comp (wrt_puts f (usedA k) (fun i _ => h.good i))).congr (by funext s; unfold wAns; rw [if_neg (by simp)]) ?_ (fun hh => ?_)
    · unfold okAw
      simp [and_assoc, u64]
    · obtain ⟨⟨⟨⟨_, h1⟩, _⟩, _⟩, _⟩ := hh
      obtain ⟨used, hu⟩ := Option.isSome_iff_exists.1 h1
      obtain ⟨_, _, n3, n4⟩ := fieldsA_some hu
      have : u8 k = k := by unfold u8; omega
      unfold enAn
      rw [this]
      simp [u64]
  · refine ((hn.comp (wrt_must (decide (k = 0)))).comp (wrt_zeros f [] (List.range 4))).congr (by funext s; unfold wAns; rw [if_pos he]) ?_ (fun hh => ?_)
    · unfold okAw
      simp only [decide_eq_true_eq, and_true, hu, List.not_mem_nil, or_false]
      constructor
      · rintro ⟨⟨a, b⟩, c⟩
        exact ⟨a, fun _ => ⟨b, c⟩, fun h => absurd h he⟩
      · rintro ⟨a, b, _⟩
        exact ⟨⟨a, (b he).1⟩, (b he).2⟩
    · obtain ⟨⟨⟨h3, _⟩, _⟩, _⟩ := hh
      have h4 : 0 ≤ e ∧ e ≤ 999 := hu.1 (by simpa using h3)
      have : u64 e = e.toNat := by unfold u64; omega
      unfold enAn
      rw [if_pos he, this]
      simp
theorem okA_iff {e k : Int} {f : Nat → FV} (h : ShA f) (hl : (enAn e k f).length ≤ 1048576) : okAw e k f ↔ okAn e k f := by
  constructor
  · rintro ⟨a, b, c⟩
    refine ⟨a, fun he => ⟨(b he).1, fun i => ?_⟩, fun he => ?_⟩
    · by_cases h4 : i < 4
      · have := (b he).2 i (by simp [h4])
        rw [(isZ_iff _).1 this, h.kd i]
        rfl
      · exact h.tail i (by omega)
    · obtain ⟨c1, c2, c3⟩ := c he
      obtain ⟨used, hu⟩ := Option.isSome_iff_exists.1 c1
      have e1 : usedA k = used := by unfold usedA; rw [hu]; rfl
      rw [e1] at c2 c3
      refine ⟨used, hu, fun i hi => ok_of (h.good i) (c3 i hi) ?_, fun i hi => ?_⟩
      · unfold enAn at hl
        rw [e1, if_neg (by simp [he])] at hl
        have := mem_flat_len (en := fun i => encV (f i)) hi
        simp at hl
        unfold enF at hl
        omega
      · by_cases h4 : i < 4
        · rcases c2 i (by simp [h4]) with h5 | h5
          · rw [(isZ_iff _).1 h5, h.kd i]
            rfl
          · exact absurd h5 hi
        · exact h.tail i (by omega)
  · rintro ⟨a, b, c⟩
    have hz : ∀ i, f i = zA i → isZ (f i) = true := by
      intro i hi
      rw [isZ_iff, hi]
      show zeroV _ = zeroV (zeroV _).kd
      rw [zeroV_kd]
    refine ⟨a, fun he => ⟨(b he).1, fun i _ => hz i ((b he).2 i)⟩, fun he => ?_⟩
    obtain ⟨used, hu, c2, c3⟩ := c he
    have e1 : usedA k = used := by unfold usedA; rw [hu]; rfl
    rw [e1]
    refine ⟨by rw [hu]; rfl, fun i _ => ?_, fun i hi => okW_of (c2 i hi)⟩
    by_cases hi : i ∈ used
    · exact .inr hi
    · exact .inl (hz i (c3 i hi))
/-- Answer, purely: its error and its bytes. -/
def ansQ (e k : Int) (f : Nat → FV) : Int × List Int :=
  if (wAns e k f (ws0 1048576)).wrong then (180, []) else if (wAns e k f (ws0 1048576)).over then (181, []) else (0, (wAns e k f (ws0 1048576)).out)
/-- Read, purely. -/
def readQ (b : List Int) : Option (Int × Int × (Nat → FV)) := if 1048576 < b.length then none else match rRs b with | some (q, []) => some q | _ => none

theorem ansQ_iff {e k : Int} {f : Nat → FV} (h : ShA f) (h0 : -9223372036854775808 ≤ e) (h1 : e ≤ 9223372036854775807) (c : List Int) : ansQ e k f = (0, c) ↔ okAn e k f ∧ (enAn e k f).length ≤ 1048576 ∧ c = enAn e k f := by
  obtain ⟨f1, f2, f3, f4⟩ := wrt_fin (wrt_ans (k := k) h h0 h1) 1048576
  unfold ansQ
  constructor
  · intro hs
    split at hs
    · simp at hs
    · split at hs
      · simp at hs
      · rename_i hw hn
        simp at hw hn hs
        by_cases ho : okAw e k f
        · by_cases hl : (enAn e k f).length ≤ 1048576
          · rw [f3 ho hl] at hs
            exact ⟨(okA_iff h hl).1 ho, hl, hs.symm⟩
          · rw [f4 ho (by omega)] at hn
            cases hn
        · rw [f1 ho] at hw
          cases hw
  · rintro ⟨h1, h2, rfl⟩
    rw [f3 ((okA_iff h h2).2 h1) h2]
    rfl
theorem readQ_some {b : List Int} {q : Int × Int × (Nat → FV)} (h : readQ b = some q) : b.length ≤ 1048576 ∧ rRs b = some (q, []) := by
  unfold readQ at h
  split at h
  · cases h
  · refine ⟨by omega, ?_⟩
    split at h
    · rename_i q hq
      injection h with h
      subst h
      exact hq
    · cases h
theorem read_ansQ {e k : Int} {f : Nat → FV} {c : List Int} (h : ShA f) (h0 : -9223372036854775808 ≤ e) (h1 : e ≤ 9223372036854775807) (he : ansQ e k f = (0, c)) : readQ c = some (e, k, f) ∧ c.length ≤ 1048576 := by
  obtain ⟨h1, h2, rfl⟩ := (ansQ_iff h h0 h1 c).1 he
  refine ⟨?_, h2⟩
  unfold readQ
  have := rs_back h h1 []
  rw [List.append_nil] at this
  rw [if_neg (by omega), this]
theorem ans_readQ {b : List Int} {e k : Int} {f : Nat → FV} (hb : Byte b) (h : readQ b = some (e, k, f)) : ShA f ∧ (0 ≤ e ∧ e ≤ 999) ∧ ansQ e k f = (0, b) := by
  obtain ⟨d1, d2⟩ := readQ_some h
  obtain ⟨g1, g2, g3⟩ := rs_forth hb (by omega) d2
  rw [List.append_nil] at g2
  have he := g1.1
  exact ⟨g3, he, (ansQ_iff g3 (by omega) (by omega) b).2 ⟨g1, by rw [← g2]; exact d1, g2⟩⟩

end Go.Proofs.YtalmpmhnkilalaaGreatDoor
