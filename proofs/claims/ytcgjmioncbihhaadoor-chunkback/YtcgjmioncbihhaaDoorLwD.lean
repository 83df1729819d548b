/-
  ChunkBack: what was appended is read as it was.
-/
import Derived.Test.YtcgjmioncbihhaaDoorLwC
import Derived.BigQuiet
namespace Go.Proofs.YtcgjmioncbihhaaDoor
open Go.RowKit
set_option linter.unusedVariables false
set_option linter.unusedSimpArgs false

/-- What is handed in: samples, somewhere below. -/
structure In (w : World) (ad : Option Addr) (l : List Sm) : Prop where
  ss : Ss w ad l
theorem Ss.bel {w w' : World} {ad : Option Addr} {l : List Sm} {b : Nat} (h : Ss w ad l) (hb : Below b w w') (hlt : ∀ x, ad = some x → l ≠ [] → x.block < b) : Ss w' ad l := by
  refine ⟨h.sz, fun h0 => ?_⟩
  obtain ⟨g, off, e, hg, hc⟩ := h.at' h0
  have hgb : g < b := hlt _ e h0
  refine ⟨g, off, e, Nat.lt_of_lt_of_le hg hb.size, fun i x hx => ?_⟩
  rw [hb.cell (p := ⟨g, off + i * 2, none⟩) hgb, hb.cell (p := ⟨g, off + i * 2 + 1, none⟩) hgb]
  exact hc i x hx
theorem ss_take {w : World} {ad : Option Addr} {l : List Sm} (h : Ss w ad l) (k : Nat) : Ss w ad (l.take k) := ⟨fun x hx => h.sz x (List.mem_of_mem_take hx), fun h0 => by
  obtain ⟨b, off, e, hb, hc⟩ := h.at' (by intro e; rw [e] at h0; simp at h0)
  refine ⟨b, off, e, hb, fun i x hx => hc i x ?_⟩
  rw [List.getElem?_take] at hx
  split at hx
  · exact hx
  · cases hx⟩

/-- The sizes that are kept. -/
def szL (l : List Sm) (i : Nat) : List Int := (List.range (i + 1)).map (fun k => ((encC (l.take k)).length : Int))
def cI (l : List Int) : List Value := l.map (fun x => .int .i64 x)
theorem szL_len (l : List Sm) (i : Nat) : (szL l i).length = i + 1 := by simp [szL]
theorem szL_next (l : List Sm) (i : Nat) : szL l (i + 1) = szL l i ++ [((encC (l.take (i + 1))).length : Int)] := by
  unfold szL
  rw [List.range_succ, List.map_append]
  rfl
theorem szL_at (l : List Sm) (i k : Nat) (h : k ≤ i) : (cI (szL l i))[k]? = some (.int .i64 ((encC (l.take k)).length : Int)) := by
  have hk : k < i + 1 := by omega
  simp [cI, szL, hk]
theorem info3 : (Tryd.prog.info? 3).map (fun i => (i.zero, i.size, i.bytes)) = some (some (.int .i64 0), 1, 8) := by kernel_rfl

end Go.Proofs.YtcgjmioncbihhaaDoor
