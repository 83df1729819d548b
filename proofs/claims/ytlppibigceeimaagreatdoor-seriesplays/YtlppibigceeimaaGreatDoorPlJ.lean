import Derived.Test.YtlppibigceeimaaGreatDoorPlH
import Derived.Lib.SlKeysI
set_option linter.unusedSimpArgs false
set_option linter.unusedVariables false
set_option maxHeartbeats 40000000
set_option maxRecDepth 100000
namespace Go.Proofs.YtlppibigceeimaaGreatDoor.K
open Go.RowKit
def slL (st:Sx) (n:Nat) (o:ByteArray):List Int:=(setL st n o).map (·.1)
theorem slL_len (st:Sx) (n:Nat) (o:ByteArray):(slL st n o).length=(setL st n o).length:=by simp [slL]
theorem slL_sorted (st:Sx) (n:Nat) (o:ByteArray):(slL st n o).Pairwise (fun a b=>decide (a≤b)=true):=by
 unfold slL setL
 rw [List.pairwise_map,List.pairwise_filterMap]
 refine List.Pairwise.imp ?_ (List.pairwise_lt_range (n:=n))
 intro i j hij x hx y hy
 have hx1:x.1=(i:Int):=by
  cases e:st i with
  |none=>rw [e] at hx;cases hx
  |some z=>
   rw [e] at hx
   simp only at hx
   split at hx
   · injection hx with hx;rw [←hx]
   cases hx
 have hy1:y.1=(j:Int):=by
  cases e:st j with
  |none=>rw [e] at hy;cases hy
  |some z=>
   rw [e] at hy
   simp only at hy
   split at hy
   · injection hy with hy;rw [←hy]
   cases hy
 rw [hx1,hy1]
 simp only [decide_eq_true_eq]
 omega
theorem setL_len (st:Sx) (n:Nat) (o:ByteArray):(setL st n o).length≤n:=by
 have:=List.length_filterMap_le (fun i=>match st i with
  |some x=>if x.1=o then some ((i:Int),uV) else none
  |none=>none) (List.range n)
 rw [List.length_range] at this
 exact this
theorem wf_nat (i:Nat) (h:i<65536):(Lit.int .i64 (i:Int)).wf=true:=by
 have hm:IntKind.i64.min= -9223372036854775808:=by decide
 simp [Lit.wf,hm]
 omega
theorem mem_slL {st:Sx} {n:Nat} {o:ByteArray} {k:Int}:k∈slL st n o↔∃i,i<n∧(∃d,st i=some (o,d))∧k=(i:Int):=by
 unfold slL
 rw [List.mem_map]
 constructor
 · rintro ⟨⟨a,v⟩,h,rfl⟩
   obtain ⟨i,h1,h2,h3,_⟩:=mem_setL.1 h
   exact ⟨i,h1,h2,h3⟩
 rintro ⟨i,h1,h2,rfl⟩
 exact ⟨((i:Int),uV),mem_setL.2 ⟨i,h1,h2,rfl,rfl⟩,rfl⟩
theorem owns_at {w:World} {base g L c:Nat} {v:Value} {l:List Int} (h:w.ownsRow base 3 1 v l.length (l.map encZ)) (hv:v=.slice (some ⟨g,0,none⟩) L c) {k:Nat} {x:Int} (hx:l[k]?=some x):w.cell? ⟨g,k,none⟩=some (.int .i64 x):=by
 subst hv
 rcases h.2 with ⟨h0,h1⟩|⟨g',cap,cur,hv,hb,hh,hn,hc,hs,ht⟩
 · cases h0
 simp only [Value.slice.injEq,Option.some.injEq,Addr.mk.injEq] at hv
 obtain ⟨⟨rfl,_⟩,_,rfl⟩:=hv
 have hj:k<l.length:=(List.getElem?_eq_some_iff.1 hx).1
 simp only [Nat.mul_one] at ht
 have h2:(cur.toList.take l.length)[k]?=some (.int .i64 x):=by rw [ht,List.getElem?_map,hx];rfl
 rw [List.getElem?_take_of_lt hj,Array.getElem?_toList] at h2
 simp only [World.cell?,hh]
 simpa using h2
end Go.Proofs.YtlppibigceeimaaGreatDoor.K
