import Derived.Test.YtlppibigceeimaaGreatDoorPlA
import Derived.Deep.OwnRows
set_option linter.unusedSimpArgs false
set_option linter.unusedVariables false
set_option maxHeartbeats 40000000
set_option maxRecDepth 100000
namespace Go.Proofs.YtlppibigceeimaaGreatDoor.K
open Go.RowKit
theorem info87:(Tryz.prog.info? 51).map (fun i=>(i.zero,i.size,i.bytes))=some (some (.int .u64 0),1,8):=by kernel_rfl
theorem Fr.mono {w:World} {g m:Nat} {S T:Nat→Bool} (h:Fr w g m S) (e:∀j,j<64*m→S j=T j):Fr w g m T:=by
 obtain ⟨r,h1,h2,h3,h4⟩:=h.ex
 refine ⟨r,h1,h2,h3,fun q x hx k hk=>?_⟩
 have hq:=(List.getElem?_eq_some_iff.1 hx).1
 rw [←e _ (by omega)]
 exact h4 q x hx k hk
theorem rowOfP (n:Nat) (h1:1≤n) (h2:n≤65536) (w:World):
 Calls Tryz.prog 21 #[.int .i64 (n:Int)] w fun e w'=>e=.returned (.slice (some ⟨w.heap.size,0,none⟩) ((n+63) / 64) ((n+63) / 64))∧Fr w' w.heap.size ((n+63) / 64) (fun j=>decide (j<n))∧Below w.heap.size w w':=by
 obtain ⟨m,hm⟩:∃m,(n+63) / 64=m:=⟨_,rfl⟩
 rw [hm]
 have hmk:=run_make_row' (P:=Tryz.prog) 64 51 (.int .u64 0) 8 Tryz.underlying64 info87 rfl .i64 .i64 m (by omega) (by omega)
 have e1:((n:Int)+64 - 1).tdiv 64=(m:Int):=by rw [Int.tdiv_eq_ediv_of_nonneg (by omega)];omega
 have e2:((n:Int)+64 - 1) / 64=(m:Int):=by omega
 have hmn:n≤64*m:=by omega
 have H0:Hid (Fr (w.alloc (.cells (madeCells #[.int .u64 0] m) 51)) w.heap.size m (fun j=>decide (j<0))):=zaa ⟨List.replicate m 0,by
  have:madeCells #[Value.int .u64 0] m=(wC (List.replicate m 0)).toArray:=by
   rw [←Array.toList_inj,toList_madeCells_one]
   simp [wC]
  rw [this]
  exact Blk.new w 51 _,by simp,by intro x hx;rw [List.eq_of_mem_replicate hx];omega,by
  intro q x hx k hk
  have:x=0:=by
   have:=List.mem_of_getElem? hx
   exact List.eq_of_mem_replicate this
  subst this
  simp⟩
 have HB0:Hid (Below w.heap.size w (w.alloc (.cells (madeCells #[.int .u64 0] m) 51))):=zaa ((Below.refl _ _).alloc (Nat.le_refl _) _)
 clear hm
 go_enter Tryz.func21,Tryz.ntmps21
 go_wp2_with fail
 obtain ⟨w0,hw0⟩:∃w0,w.alloc (.cells (madeCells #[.int .u64 0] m) 51)=w0:=⟨_,rfl⟩
 rw [hw0]
 rw [hw0] at H0 HB0
 clear hw0 hmk
 obtain ⟨g,hg⟩:∃g,w.heap.size=g:=⟨_,rfl⟩
 rw [hg] at H0 ⊢
 have HGG:=zaa hg
 clear hg
 go_loopw [11] (fun v11 wx=>∃i:Nat,v11=.int .i64 (i:Int)∧i≤n∧Hid (Fr wx g m (fun j=>decide (j<i)))∧Hid (Below w.heap.size w wx)) (fun v11 _=>n - (intOf v11).toNat)
 case atStart=>exact ⟨0,rfl,by omega,H0,HB0⟩
 case round=>
  obtain ⟨i,rfl,hi,hF,hb⟩:=hrel
  by_cases hlt:i<n
  · have HC:=zaa (addP g m m i _ wr hF.out (Nat.le_refl _) (by omega) (by omega))
    go_wp2_with (refine HC.out.mono ?_;clear HC;rintro e w3 ⟨rfl,h3,c3⟩;have H3:=zaa h3;have C3:=zaa c3;clear h3 c3)
    refine ⟨⟨i+1,by first|rfl|simp,by omega,zaa (H3.out.mono (fun j _=>by by_cases h:j=i <;> simp [h] <;> omega)),zaa (hb.out.trans (C3.out.below hb.out.size (fun j hj=>by have:=HGG.out;omega)))⟩,?_⟩
    show n - ((i:Int)+1).toNat<n - (i:Int).toNat
    omega
  obtain rfl:i=n:=by omega
  go_wp2_with fail
  go_ret
  have:=HGG.out
  subst this
  exact ⟨rfl,hF.out,hb.out⟩
end Go.Proofs.YtlppibigceeimaaGreatDoor.K
