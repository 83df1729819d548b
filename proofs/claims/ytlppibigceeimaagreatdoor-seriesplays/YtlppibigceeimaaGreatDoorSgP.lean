import Derived.Test.YtlppibigceeimaaGreatDoorSgH
set_option linter.unusedSimpArgs false
set_option linter.unusedVariables false
set_option maxHeartbeats 40000000
set_option maxRecDepth 100000
namespace Go.Proofs.YtlppibigceeimaaGreatDoor
open Go.RowKit
theorem res_lastQ (tmps:Array Value) (w:World) (g:Nat) (a b c:Value) (hp:tmps.getD 6 undef=.pointer (some ⟨g,0,none⟩)) (hc:tmps.getD 7 undef=c) (h0:w.cell? ⟨g,0,none⟩=some a) (h1:w.cell? ⟨g,1,none⟩=some b) (ha:a.oneCell'=true) (hb:b.oneCell'=true):
 (results Tryz.f50 tmps).run Tryz.prog w=.ok (.tuple #[.agg #[a,b],c]) w:=by
 have h:Tryz.f50.results=#[.cell 6 53,.tmp 7]:=by kernel_rfl
 have hp':tmps[6]?.getD undef=.pointer (some ⟨g,0,none⟩):=by simpa using hp
 have hc':tmps[7]?.getD undef=c:=by simpa using hc
 simp [results,h,hp',hc',asAddr,loadVar,h0,h1,go_sem]
theorem built53z:Tryz.prog.built 53 []=some #[.int .i64 0,.int .u64 0]:=by kernel_rfl
theorem lastQ (o:ByteArray) (k:Int) (F:Nat→Prop) (d n:Nat) (st:K.Sx) (E:List De) (w:World) (h:DQ F w d n st E) (hE:E.length≤1000000) (hA:(enL (zE E o) k).2.length≤1000000):
 Calls Tryz.prog 50 #[.pointer (some ⟨d,0,none⟩),.string o,.int .i64 k] w fun e w'=>e=.returned (.tuple #[.agg #[.int .i64 ((enL (zE E o) k).2.getLast?.getD z0).t,.int .u64 (((enL (zE E o) k).2.getLast?.getD z0).v:Int)],.bool (!(enL (zE E o) k).2.isEmpty)])∧Below w.heap.size w w':=by
 have HA:=zaa (fun (wx:World) (hb:Below w.heap.size w wx)=>allQ o k F d n st E wx (h.later hb) hE)
 have hok:=(h.sz.en o k).2.2.1
 have HOK:=zaa hok
 generalize (enL (zE E o) k).2=A at*
 clear h hok
 go_enter Tryz.func50,Tryz.ntmps50
 go_wp2_with (first
  |(refine zap rfl 53 rfl 6 rfl [.int .i64 0,.int .u64 0] info35 ?_;intro w1 B1 bl1 hz1;have HB1:=zaa B1;have BL1:=zaa bl1;clear B1 bl1))
 refine (HA.out w1 BL1.out).mono ?_
 rintro e w2 ⟨⟨vl,rfl,hvl⟩,hw⟩
 obtain rfl:=hw.symm
 clear hw
 obtain ⟨av,cv,hv⟩:=zbk hvl
 subst hv
 have HS:=zaa (zan hvl HOK.out)
 obtain ⟨N,hN⟩:∃N,A.length=N:=⟨_,rfl⟩
 have HN:=zaa hN
 rw [hN] at hA ⊢
 have d0:w1.cell? ⟨w.heap.size,0,none⟩=some (.int .i64 0):=HB1.out.cell 0
 have d1:w1.cell? ⟨w.heap.size,1,none⟩=some (.int .u64 0):=HB1.out.cell 1
 have f0:=HB1.out.frozen 0
 have f1:=HB1.out.frozen 1
 have hlt1:=HB1.out.lt
 clear hvl hN
 by_cases hN0:N=0
 · subst hN0
   have hA0:A=[]:=List.eq_nil_of_length_eq_zero HN.out
   go_wp2_with (first
    |(refine wpList_build_to rfl 53 #[] rfl [] #[.int .i64 0,.int .u64 0] rfl built53z ?_))
   have hN2:=(HB1.out.set 0 (.int .i64 0)).set 1 (.int .u64 0)
   have B9:Below w.heap.size w ((w1.setCell ⟨w.heap.size,0,none⟩ (.int .i64 0)).setCell ⟨w.heap.size,1,none⟩ (.int .u64 0)):=BL1.out.trans (((Chg.set ⟨w.heap.size,0,none⟩ (.int .i64 0) w1).below BL1.out.size (fun i hi=>by rw [show i=w.heap.size from hi];exact Nat.le_refl _)).trans ((Chg.set ⟨w.heap.size,1,none⟩ (.int .u64 0) _).below (by simp [World.setCell];omega) (fun i hi=>by rw [show i=w.heap.size from hi];exact Nat.le_refl _)))
   refine bodyPost_ret (res_lastQ _ _ w.heap.size (.int .i64 0) (.int .u64 0) (.bool false) rfl rfl (hN2.cell 0) (hN2.cell 1) rfl rfl) rfl ?_
   subst hA0
   exact ⟨rfl,B9⟩
 obtain ⟨z,hz⟩:∃z,A[N - 1]?=some z:=⟨A[N - 1]'(by have:=HN.out;omega),by simp⟩
 have hla:A.getLast?=some z:=by rw [List.getLast?_eq_getElem?,HN.out];exact hz
 have hne:A≠[]:=by rintro rfl;simp at hz
 obtain ⟨g,off,rfl,hgl,hcell⟩:=HS.out.at' hne
 obtain ⟨kt,kv⟩:=hcell (N - 1) z hz
 have e1:(N:Int) - 1=((N - 1:Nat):Int):=by omega
 have e2:((N - 1:Nat):Int)<(N:Int):=by omega
 obtain ⟨q,hq⟩:∃q,N - 1=q:=⟨_,rfl⟩
 rw [hq] at kt kv e1 e2
 have HLA:=zaa (And.intro hla hne)
 clear hz hla hne hcell hq
 obtain ⟨zt,zv⟩:=z
 dsimp only at kt kv
 go_wp2_with fail
 have hN2:=(HB1.out.set 0 (.int .i64 zt)).set 1 (.int .u64 (zv:Int))
 have B9:Below w.heap.size w ((w1.setCell ⟨w.heap.size,0,none⟩ (.int .i64 zt)).setCell ⟨w.heap.size,1,none⟩ (.int .u64 (zv:Int))):=BL1.out.trans (((Chg.set ⟨w.heap.size,0,none⟩ (.int .i64 zt) w1).below BL1.out.size (fun i hi=>by rw [show i=w.heap.size from hi];exact Nat.le_refl _)).trans ((Chg.set ⟨w.heap.size,1,none⟩ (.int .u64 (zv:Int)) _).below (by simp [World.setCell];omega) (fun i hi=>by rw [show i=w.heap.size from hi];exact Nat.le_refl _)))
 refine bodyPost_ret (res_lastQ _ _ w.heap.size (.int .i64 zt) (.int .u64 (zv:Int)) (.bool true) rfl rfl (hN2.cell 0) (hN2.cell 1) rfl rfl) rfl ?_
 refine ⟨?_,B9⟩
 rw [HLA.out.1]
 have:A.isEmpty=false:=by
  cases A with
  |nil=>exact absurd rfl HLA.out.2
  |cons a b=>rfl
 rw [this]
 rfl
end Go.Proofs.YtlppibigceeimaaGreatDoor
