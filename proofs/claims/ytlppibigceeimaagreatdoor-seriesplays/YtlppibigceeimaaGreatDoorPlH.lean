import Derived.Test.YtlppibigceeimaaGreatDoorPlD
import Derived.Test.YtlppibigceeimaaGreatDoorMlR
set_option linter.unusedSimpArgs false
set_option linter.unusedVariables false
set_option maxHeartbeats 40000000
set_option maxRecDepth 100000
namespace Go.Proofs.YtlppibigceeimaaGreatDoor.K
open Go.RowKit
def relS (st:Sx) (dn:List Int):Sx:=fun j=>if (j:Int)∈dn then none else st j
theorem relS_nil (st:Sx):relS st []=st:=by funext j;simp [relS]
theorem relS_cons (st:Sx) (dn:List Int) (i:Nat):upS (relS st dn) i none=relS st ((i:Int) :: dn):=by
 funext j
 unfold upS relS
 by_cases h:j=i
 · simp [h]
 have:¬(j:Int)=(i:Int):=by omega
 simp [h,this]
def drpS (st:Sx) (o:ByteArray):Sx:=fun j=>match st j with
 |some x=>if x.1=o then none else some x
 |none=>none
theorem rel_all {st:Sx} {n:Nat} {o:ByteArray} {dn:List Int} (hfin:∀j,n≤j→st j=none) (h1:∀q∈setL st n o,q.1∈dn) (h2:∀a∈dn,∃i d,i<n∧st i=some (o,d)∧a=((i:Nat):Int)):relS st dn=drpS st o:=by
 funext j
 unfold relS drpS
 by_cases hj:(j:Int)∈dn
 · obtain ⟨i,d,hi,hs,e⟩:=h2 _ hj
   obtain rfl:j=i:=by omega
   rw [if_pos hj,hs]
   simp
 rw [if_neg hj]
 cases e:st j with
 |none=>rfl
 |some x=>
  obtain ⟨x1,x2⟩:=x
  by_cases hx:x1=o
  · subst hx
    exfalso
    have hjn:j<n:=by
     rcases Nat.lt_or_ge j n with h|h
     · exact h
     rw [hfin j h] at e;cases e
    exact hj (h1 ((j:Int),uV) (mem_setL.2 ⟨j,hjn,⟨x2,e⟩,rfl,rfl⟩))
  simp [hx]
end Go.Proofs.YtlppibigceeimaaGreatDoor.K
