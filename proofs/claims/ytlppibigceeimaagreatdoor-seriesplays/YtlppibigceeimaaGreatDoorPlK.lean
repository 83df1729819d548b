import Derived.Test.YtlppibigceeimaaGreatDoorPlJ
import Derived.Test.YtlppibigceeimaaGreatDoorMlK
import Derived.Shelf.SlIterI.Nil
import Derived.Shelf.SortM.Plain
import Derived.Shelf.SortM.SortNone
import Derived.Shelf.AbstractIn
import Derived.Ground.GgzProg
import Derived.Ground.SlgmProg
set_option linter.unusedSimpArgs false
set_option linter.unusedVariables false
set_option maxHeartbeats 40000000
set_option maxRecDepth 100000
namespace Go.Proofs.YtlppibigceeimaaGreatDoor.K
open Go.RowKit Go.Maps Go.Sort Go.Shelf
shelf_lay_g SlLaysZI.n7 Ggz 7 at Tryz 79 as Tryz.keysP
shelf_lay_g SlLaysZI.n6 Ggz 6 at Tryz 78 as Tryz.sortedP
shelf_lay_g SlLaysM.n5 Slgm 5 at Tryz 92 as Tryz.sortP
theorem sortsP (m:Nat):AnyZI.SortsIn Tryz.prog Tryz.sortedP_ren Fence.wide m:=
 ⟨fun blk off cap ss W hH hblk hsz=>callsIn_wide.2 (AnyM.slices_Sort_int Tryz.sortP blk off cap ss W hH hblk hsz),
  fun p cap W=>callsIn_wide.2 (AnyM.slices_Sort_int_none Tryz.sortP p cap W)⟩
def zff (st:Sx) (n:Nat) (o:ByteArray) (w:World) (e:Ending) (w':World):Prop:=
 ∃v,e=.returned v∧w'.ownsRow w.heap.size 3 1 v (slL st n o).length ((slL st n o).map encZ)∧(v=.slice none 0 0↔slL st n o=[])∧Below w.heap.size w w'
theorem slots_none (o:ByteArray) (p n g tb ob:Nat) (ow:ByteArray→Option Nat) (st:Sx) (w:World) (h:Pl w p n g tb ob ow st) (ho:ow o=none):Calls Tryz.prog 55 #[.pointer (some ⟨p,0,none⟩),.string o] w fun e w'=>zff st n o w e w':=by
 obtain ⟨c0,c1,c2,c3⟩:=h.cells
 have l1:=h.lookO o
 rw [ho] at l1
 have hsl:Hid (slL st n o=[]):=zaa (by unfold slL;rw [h.non o ho];rfl)
 clear h c0 c1 c2
 refine (callsIn_wide (n:=6)).1 ?_
 have hseq:SeqGives Fence.wide 2 Tryz.prog 93 #[.pointer (some ⟨w.heap.size,0,none⟩)] encZ (fun ss:List Int=>ss=[]) 0 (w.alloc (.cells #[.map none] 118)):=
  AnyZI.keys_gives_nil (ρ:=Tryz.keysP_ren) { Tryz.keysP with } Fence.wide _ trivial rfl w.heap.size _ (by simp) (by simp)
 have cK:∀mb W,CallsIn Fence.wide 5 Tryz.prog 79 #[.map mb] W fun e w'=>e=.returned (.func (.func 93) #[] #[.pointer (some ⟨W.heap.size,0,none⟩)])∧w'=W.alloc (.cells #[.map mb] 118):=fun mb W=>AnyZI.keys_in Tryz.keysP Fence.wide 5 trivial rfl mb W
 have cS:=AnyZI.sorted_in Tryz.sortedP Fence.wide 5 trivial trivial trivial trivial rfl (by omega) (sortsP _) (enters_of Tryz.func92 (by kernel_rfl) rfl) 93 #[.pointer (some ⟨w.heap.size,0,none⟩)] trivial (enters_of Tryz.func93 (by kernel_rfl) rfl) _ 0 (Nat.zero_le _) (by omega) _ hseq
 change CallsIn _ _ Tryz.prog 78 _ _ _ at cS
 have hfK:Fence.wide.fn 79:=trivial
 have hfS:Fence.wide.fn 78:=trivial
 refine callsIn_of_wp Tryz.func55 rfl trivial ?_ rfl
 simp only [Tryz.ntmps55,List.size_toArray,List.length_cons,List.length_nil,Nat.reduceAdd,Nat.reduceSub,Array.replicate_succ,Array.replicate_zero,List.push_toArray,List.append_toArray,List.nil_append,List.cons_append]
 gi_wp2_with (first
  |(gi_at_call 79;refine (cK _ _).mono ?_;rintro e w' ⟨rfl,rfl⟩)
  |(gi_at_call 78;refine cS.mono ?_;rintro e w' ⟨v,ss,rfl,rfl,hrow,hnil,hb⟩))
 go_ret
 refine ⟨v,rfl,?_,?_,((Below.refl _ w).alloc (Nat.le_refl _) _).trans (hb.mono (by simp))⟩
 · rw [hsl.out]
   have hm:([]:List Int).mergeSort (fun x y=>decide (x≤y))=[]:=by simp
   rw [hm] at hrow
   exact ownsRow_base_a hrow (by simp)
 rw [hsl.out];exact ⟨fun _=>rfl,fun _=>hnil.2 trivial⟩
theorem slots_some (o:ByteArray) (sb p n g tb ob:Nat) (ow:ByteArray→Option Nat) (st:Sx) (w:World) (h:Pl w p n g tb ob ow st) (ho:ow o=some sb):Calls Tryz.prog 55 #[.pointer (some ⟨p,0,none⟩),.string o] w fun e w'=>zff st n o w e w':=by
 obtain ⟨c0,c1,c2,c3⟩:=h.cells
 have l1:=h.lookO o
 rw [ho] at l1
 have hn1:=h.n1.2
 have hln:=setL_len st n o
 obtain ⟨D0,hown,hperm,hsz⟩:=(h.set o sb ho).1.owns (P:=Tryz.prog) (k:=3) Tryz.underlying3 (by
  intro q hq
  obtain ⟨i,hi,_,hk,_⟩:=mem_setL.1 (show (q.1,q.2)∈_ from hq)
  rw [hk]
  exact wf_nat i (by omega)) (by simp [maxLen];omega)
 have hperm':Hid ((intKeys D0).Perm (slL st n o)):=zaa hperm
 have hmax:Maps.size D0≤maxLen:=by rw [hsz];simp [maxLen];omega
 have hbytes:Maps.size D0*8≤140737488355328:=by rw [hsz];omega
 clear h c0 c1 c2 hperm hsz hln hn1
 refine (callsIn_wide (n:=6)).1 ?_
 have hbl:=hown.lt
 have hseq:SeqGives Fence.wide 2 Tryz.prog 93 #[.pointer (some ⟨w.heap.size,0,none⟩)] encZ (fun ss=>ss.Perm (intKeys D0)) (Maps.size D0) (w.alloc (.cells #[.map (some sb)] 118)):=
  AnyZI.keys_gives (ρ:=Tryz.keysP_ren) { Tryz.keysP with } Fence.wide _ trivial rfl (by omega) w.heap.size sb _ D0 _ (by simp) (by simp) (by
   obtain ⟨es,clock,hb,Ft,hs,hD⟩:=hown
   exact ⟨es,clock,(Below.heap_alloc _ _ sb hbl).trans hb,Ft,hs,hD⟩)
 have cK:∀mb W,CallsIn Fence.wide 5 Tryz.prog 79 #[.map mb] W fun e w'=>e=.returned (.func (.func 93) #[] #[.pointer (some ⟨W.heap.size,0,none⟩)])∧w'=W.alloc (.cells #[.map mb] 118):=fun mb W=>AnyZI.keys_in Tryz.keysP Fence.wide 5 trivial rfl mb W
 have cS:=AnyZI.sorted_in Tryz.sortedP Fence.wide 5 trivial trivial trivial trivial rfl (by omega) (sortsP _) (enters_of Tryz.func92 (by kernel_rfl) rfl) 93 #[.pointer (some ⟨w.heap.size,0,none⟩)] trivial (enters_of Tryz.func93 (by kernel_rfl) rfl) _ _ hmax hbytes _ hseq
 change CallsIn _ _ Tryz.prog 78 _ _ _ at cS
 have hfK:Fence.wide.fn 79:=trivial
 have hfS:Fence.wide.fn 78:=trivial
 clear hown hbl hmax hbytes
 refine callsIn_of_wp Tryz.func55 rfl trivial ?_ rfl
 simp only [Tryz.ntmps55,List.size_toArray,List.length_cons,List.length_nil,Nat.reduceAdd,Nat.reduceSub,Array.replicate_succ,Array.replicate_zero,List.push_toArray,List.append_toArray,List.nil_append,List.cons_append]
 gi_wp2_with (first
  |(gi_at_call 79;refine (cK _ _).mono ?_;rintro e w' ⟨rfl,rfl⟩)
  |(gi_at_call 78;refine cS.mono ?_;rintro e w' ⟨v,ss,rfl,hS,hrow,hnil,hb⟩))
 go_ret
 have hp:ss.Perm (slL st n o):=hS.trans hperm'.out
 have hms:ss.mergeSort (fun x y=>decide (x≤y))=slL st n o:=by
  have h1:=mergeSort_of_perm_i hp
  rw [show leI=(fun x y:Int=>decide (x≤y)) from rfl] at h1
  rw [h1]
  exact List.mergeSort_of_pairwise (slL_sorted st n o)
 refine ⟨v,rfl,?_,?_,((Below.refl _ w).alloc (Nat.le_refl _) _).trans (hb.mono (by simp))⟩
 · rw [hms,hp.length_eq] at hrow
   exact ownsRow_base_a hrow (by simp)
 rw [hnil]
 constructor
 · intro e;subst e;exact List.nil_perm.1 hp
 intro e;rw [e] at hp;exact List.perm_nil.1 hp
end Go.Proofs.YtlppibigceeimaaGreatDoor.K
namespace Go.Proofs.YtlppibigceeimaaGreatDoor.K
open Go.RowKit
theorem slotsX (o:ByteArray) (F:Nat→Prop) (p n:Nat) (st:Sx) (w:World) (h:PQ F w p n st):Calls Tryz.prog 55 #[.pointer (some ⟨p,0,none⟩),.string o] w fun e w'=>
 ∃v,e=.returned v∧w'.ownsRow w.heap.size 3 1 v (slL st n o).length ((slL st n o).map encZ)∧Below w.heap.size w w':=by
 obtain ⟨g,tb,ob,ow,h3,h4⟩:=h
 have h1:Calls Tryz.prog 55 #[.pointer (some ⟨p,0,none⟩),.string o] w fun e w'=>zff st n o w e w':=by
  cases ho:ow o with
  |none=>exact slots_none o p n g tb ob ow st w h3 ho
  |some sb=>exact slots_some o sb p n g tb ob ow st w h3 ho
 refine h1.mono ?_
 rintro e w' ⟨v,e1,e2,e3,e4⟩
 exact ⟨v,e1,e2,e4⟩
end Go.Proofs.YtlppibigceeimaaGreatDoor.K
