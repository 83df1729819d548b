import Derived.Test.YtlppibigceeimaaGreatDoorPpB
import Derived.Test.YtlppibigceeimaaGreatDoorPlJ
set_option linter.unusedSimpArgs false
set_option linter.unusedVariables false
set_option maxHeartbeats 40000000
set_option maxRecDepth 100000
namespace Go.Proofs.YtlppibigceeimaaGreatDoor.K
open Go.RowKit
theorem str_eqR (s T:ByteArray):(s.toList==T.toList)=decide (s=T):=by
 rw [Bool.eq_iff_iff]
 simp only [beq_iff_eq,decide_eq_true_eq]
 constructor
 · intro h
   rw [ByteArray.toList_eq,ByteArray.toList_eq] at h
   obtain ⟨⟨x⟩⟩:=s
   obtain ⟨⟨y⟩⟩:=T
   simpa using h
 rintro rfl
 rfl
theorem slL_succ (st:Sx) (i:Nat) (o:ByteArray):slL st (i+1) o=slL st i o++(match st i with|some x=>if x.1=o then [(i:Int)] else []|none=>[]):=by
 unfold slL setL
 rw [List.range_succ,List.filterMap_append,List.map_append]
 congr 1
 cases e:st i with
 |none=>simp [e]
 |some x=>
  by_cases h:x.1=o
  · simp [e,h]
  simp [e,h]
theorem inf3':∃i0,Tryz.prog.info? 3=some i0∧i0.zero=some (.int .i64 0)∧i0.size=1∧i0.bytes=8:=info_parts (show (Tryz.prog.info? 3).map (fun i=>(i.zero,i.size,i.bytes))=some (some (.int .i64 0),1,8) by kernel_rfl)
theorem slL_le (st:Sx) (i:Nat) (o:ByteArray):(slL st i o).length≤i:=by rw [slL_len];exact setL_len st i o
theorem slotsR (o:ByteArray) (r q n:Nat) (st:Sx) (B:Nat→Value) (w:World) (h:RP w r q n st B):
 Calls Tryz.prog 56 #[.pointer (some ⟨r,0,none⟩),.string o] w fun e w'=>∃v,e=.returned v∧w'.ownsRow w.heap.size 3 1 v (slL st n o).length ((slL st n o).map encZ)∧Below w.heap.size w w':=by
 have hn:=h.n1
 have HR:=zaa h
 obtain ⟨i0,hi0,hz0,hz1,hz2⟩:=inf3'
 have HI0:=zaa (And.intro hi0 (And.intro hz0 (And.intro hz1 hz2)))
 clear h hi0 hz0 hz1 hz2
 go_enter Tryz.func56,Tryz.ntmps56
 go_wp2_with fail
 go_loopw [5,6] (fun v5 v6 wx=>∃(i:Nat) (ad:Option Addr) (c:Nat),v5=.slice ad (slL st i o).length c∧v6=.int .i64 (i:Int)∧i≤n∧Hid (wx.ownsRow w.heap.size 3 1 (.slice ad (slL st i o).length c) (slL st i o).length ((slL st i o).map encZ))∧Hid (Below w.heap.size w wx)) (fun _ v6 _=>n - (Go.RowKit.intOf v6).toNat)
 case atStart=>exact ⟨0,none,0,rfl,rfl,by omega,zaa (World.ownsRow_nil _ _ _ _),zaa (Below.refl _ _)⟩
 case round=>
  obtain ⟨i,ad,c,rfl,rfl,hi,hO,hB⟩:=hrel
  have R1:=zaa (HR.out.later hB.out)
  have c0:=R1.out.c0
  have hls:=slL_le st i o
  have hsu:=slL_succ st i o
  obtain ⟨L,hL⟩:∃L,(slL st i o).length=L:=⟨_,rfl⟩
  rw [hL] at hO hls ⊢
  have HL:=zaa hL
  have HSU:=zaa hsu
  have HSZ:=zaa hB.out.size
  clear hL hsu
  by_cases hin:i<n
  · have k1:=R1.out.k1 hin
    cases hs:st i with
    |none=>
     have k0:=R1.out.k0 hin (show (st i).isSome=false by rw [hs];rfl)
     have hnx:slL st (i+1) o=slL st i o:=by rw [HSU.out,hs];simp
     have HNX:=zaa hnx
     clear hnx hs k1
     go_wp2_with fail
     refine ⟨⟨i+1,ad,c,by rw [HNX.out,HL.out],by first|rfl|simp,by omega,by rw [HNX.out,HL.out];exact hO,hB⟩,?_⟩
     show n - ((i:Int)+1).toNat<n - (i:Int).toNat
     omega
    |some x=>
     have k0:=R1.out.k0 hin (show (st i).isSome=true by rw [hs];rfl)
     rw [hs] at k1
     simp only [Option.map_some,Option.getD_some] at k1
     by_cases hx:x.1=o
     · have hnx:slL st (i+1) o=slL st i o++[(i:Int)]:=by rw [HSU.out,hs];simp [hx]
       have HNX:=zaa hnx
       rw [hx] at k1
       clear hnx hs hx
       go_wp2_with (refine zaw _ rfl (.tmp 36) (.tmp 38) 92 rfl 3 i0 (.int .i64 0) 8 Tryz.underlying92 HI0.out.1 HI0.out.2.1 HI0.out.2.2.1 HI0.out.2.2.2 rfl w.heap.size (.slice ad L c) L ((slL st i o).map encZ) rfl (hO.out.alloc _) ⟨wr.heap.size,0,none⟩ (.int .i64 (i:Int)) rfl (by simp) rfl (by unfold maxLen;omega) (by omega) (by have:=HSZ.out;simp;omega) ?_;intro g9 c9 w9 h1 h2;have H9:=zaa h1;have B9:=zaa (hB.out.trans (h2.chg.1.below hB.out.size (fun k hk=>(hO.out.lt k hk).1)));clear h1 h2)
       refine ⟨⟨i+1,some ⟨g9,0,none⟩,c9,?_,by first|rfl|simp,by omega,?_,B9⟩,?_⟩
       · rw [HNX.out,List.length_append,HL.out];rfl
       · rw [HNX.out,List.length_append,HL.out,List.map_append];exact H9
       show n - ((i:Int)+1).toNat<n - (i:Int).toNat
       omega
     have hnx:slL st (i+1) o=slL st i o:=by rw [HSU.out,hs];simp [hx]
     have HNX:=zaa hnx
     have hb1:(x.1.toList==o.toList)=false:=by rw [str_eqR];simpa using hx
     clear hnx hs
     go_wp2_with fail
     refine ⟨⟨i+1,ad,c,by rw [HNX.out,HL.out],by first|rfl|simp,by omega,by rw [HNX.out,HL.out];exact hO,hB⟩,?_⟩
     show n - ((i:Int)+1).toNat<n - (i:Int).toNat
     omega
  have hni:i=n:=by omega
  subst hni
  go_wp2_with fail
  go_ret
  exact ⟨_,rfl,by rw [HL.out];exact hO.out,hB.out⟩
theorem Nw.trans {w w1:World} {F G K:Nat→Prop} (h:Nw w F G) (k:Nw w1 G K) (hs:w.heap.size≤w1.heap.size):Nw w F K:=fun i hi=>by
 rcases k i hi with h1|h1
 · exact h i h1
 exact .inr (by omega)
theorem RPo.trans {w w1 w2:World} {r q n:Nat} {st st' st'':Sx} {B B':Nat→Value} (h1:RP w1 r q n st' B') (h2:Chg (fun i=>i=q) w w1) (h3:Nw w (RG st B) (RG st' B')) (k:RPo w1 w2 r q n st' B' st''):RPo w w2 r q n st B st'':=by
 obtain ⟨B2,k1,k2,k3⟩:=k
 exact ⟨B2,k1,h2.trans k2 (fun _ _ e=>e),h3.trans k3 h2.size⟩
theorem RPo.later {w w1 w2:World} {r q n:Nat} {st st':Sx} {B:Nat→Value} (h:RPo w w1 r q n st B st') (b:Below w1.heap.size w1 w2):RPo w w2 r q n st B st':=by
 obtain ⟨B2,k1,k2,k3⟩:=h
 exact ⟨B2,k1.later b,k2.trans (Chg.of_below (F:=fun i=>i=q) b) (fun _ _ e=>e),k3⟩
theorem usedR (o:ByteArray) (r q n:Nat) (st:Sx) (B:Nat→Value) (w:World) (h:RP w r q n st B):
 Calls Tryz.prog 29 #[.pointer (some ⟨r,0,none⟩),.string o] w fun e w'=>e=.returned (.int .i64 ((setL st n o).length:Int))∧Below w.heap.size w w':=by
 have HS:=zaa (slotsR o r q n st B w h)
 have hle:=setL_len st n o
 have hn:=h.n1
 have e1:=slL_len st n o
 obtain ⟨L,hL⟩:∃L,(setL st n o).length=L:=⟨_,rfl⟩
 rw [hL] at e1 hle ⊢
 have E1:=zaa e1
 clear h e1 hL
 go_enter Tryz.func29,Tryz.ntmps29
 go_wp2_with (refine HS.out.mono ?_;clear HS;rintro e w1 ⟨v,rfl,h1,h2⟩;obtain ⟨ad,c,rfl⟩:=zal h1;rw [E1.out];have H2:=zaa h2;clear h1 h2)
 go_ret
 exact ⟨rfl,H2.out⟩
theorem dropR (o:ByteArray) (r q n:Nat) (st:Sx) (B:Nat→Value) (w:World) (h:RP w r q n st B):
 Calls Tryz.prog 61 #[.pointer (some ⟨r,0,none⟩),.string o] w fun e w'=>e=.returned (.int .i64 ((setL st n o).length:Int))∧RPo w w' r q n st B (drpS st o):=by
 have HS:=zaa (slotsR o r q n st B w h)
 have HR:=zaa h
 have hn:=h.n1
 have hln:=slL_len st n o
 have hle:=setL_len st n o
 have hb85:Tryz.prog.built 116 []=some #[.bool false,.string ⟨#[]⟩,.slice none 0 0]:=by kernel_rfl
 rw [←hln] at hle ⊢
 clear h hln
 go_enter Tryz.func61,Tryz.ntmps61
 go_wp2_with (refine HS.out.mono ?_;clear HS;rintro e w1 ⟨v,rfl,h1,h2⟩;obtain ⟨ad,c,rfl⟩:=zal h1;have H1:=zaa h1;have H2:=zaa h2;clear h1 h2)
 obtain ⟨l,hl⟩:∃l,slL st n o=l:=⟨_,rfl⟩
 have hmem:Hid (∀k (x:Int),l[k]?=some x→∃i:Nat,x=(i:Int)∧i<n∧∃d,st i=some (o,d)):=zaa (fun k x hx=>by
  have hm:=List.mem_of_getElem? hx
  rw [←hl,mem_slL] at hm
  obtain ⟨i,h1,h2,h3⟩:=hm
  exact ⟨i,h3,h1,h2⟩)
 have hall:Hid (relS st (l.take l.length).reverse=drpS st o):=zaa (by
  rw [List.take_length]
  refine rel_all (n:=n) HR.out.fin (fun p hp=>?_) (fun a ha=>?_)
  · rw [List.mem_reverse,←hl]
    exact List.mem_map_of_mem hp
  rw [List.mem_reverse,←hl,mem_slL] at ha
  obtain ⟨i,h1,⟨d,h2⟩,h3⟩:=ha
  exact ⟨i,d,h1,h2,h3⟩)
 have HHL:=zaa hl
 rw [hl] at hle H1 ⊢
 clear hl
 obtain ⟨L,hL⟩:∃L,l.length=L:=⟨_,rfl⟩
 have HL:=zaa hL
 rw [hL] at hle ⊢
 clear hL
 go_loopw [6] (fun v6 wx=>∃k:Nat,v6=.int .i64 (k:Int)∧k≤L∧Hid (wx.ownsRow w.heap.size 3 1 (.slice ad L c) l.length (l.map encZ))∧Hid (RPo w wx r q n st B (relS st (l.take k).reverse))) (fun v6 _=>L - (Go.RowKit.intOf v6).toNat)
 case atStart=>
  refine ⟨0,rfl,by omega,?_,zaa ?_⟩
  · have h:=H1.out;rw [HL.out] at h;rw [HL.out];exact zaa h
  rw [List.take_zero,List.reverse_nil,relS_nil];exact RPo.later HR.out.same H2.out
 case round=>
  obtain ⟨k,rfl,hk,hO,hP⟩:=hrel
  clear H1 H2
  obtain ⟨B1,R1,C1,N1⟩:=hP.out
  have HR1:=zaa R1
  have HC1:=zaa C1
  have HN1:=zaa N1
  clear R1 C1 N1 hP
  by_cases hkL:k<L
  · have hx:l[k]?=some (l[k]'(by have:=HL.out;omega)):=by simp
    generalize l[k]'(by have:=HL.out;omega)=x at hx
    obtain ⟨i,rfl,hi,-⟩:=hmem.out k x hx
    obtain ⟨g,rfl⟩:∃g,ad=some ⟨g,0,none⟩:=by
     rcases hO.out.2 with ⟨h0,h1⟩|⟨g',cap,cur,hv,_⟩
     · have:=HL.out;omega
     simp only [Value.slice.injEq] at hv;exact ⟨g',hv.1⟩
    have cx:=owns_at hO.out rfl hx
    have c0:=HR1.out.c0
    have k0:=HR1.out.k0 hi rfl
    have k1:=HR1.out.k1 hi
    obtain ⟨v2,k2⟩:=HR1.out.k2' hi
    have f0:=HR1.out.row.frozen (i*3)
    have f1:=HR1.out.row.frozen (i*3+1)
    have f2:=HR1.out.row.frozen (i*3+2)
    have htk:l.take (k+1)=l.take k++[(i:Int)]:=by rw [List.take_add_one,hx];rfl
    have HTK:=zaa htk
    clear hx htk
    go_wp2_with fail
    go_region
    all_goals
     go_wp2_with fail
     have h2:=HR1.out.three hi none (fun _ _ e=>by cases e)
     have hc:=h2
     obtain ⟨_,_,hc,_⟩:=hc
     have h3:=RPo.trans HR1.out HC1.out HN1.out h2
     have e9:relS st (l.take (k+1)).reverse=upS (relS st (l.take k).reverse) i none:=by rw [HTK.out,List.reverse_append,relS_cons];rfl
     have ho:=hc.owns hO.out (fun z hz e=>(zab hO.out z hz).ne HR1.out.row.tg (by decide) e)
     refine ⟨⟨k+1,by first|rfl|simp,by omega,zaa ((Chg.drew (fun _=>False) _).owns ho (fun _ _ h=>h)),zaa ?_⟩,?_⟩
     · rw [e9]
       exact h3.later (zah (Below.refl _ _) 1)
     show L - ((k:Int)+1).toNat<L - (k:Int).toNat
     omega
  have hkl:k=L:=by omega
  subst hkl
  go_wp2_with fail
  go_ret
  refine ⟨by rw [HHL.out,HL.out];rfl,?_⟩
  have h9:=hall.out
  rw [HL.out] at h9
  rw [←h9]
  exact ⟨B1,HR1.out,HC1.out,HN1.out⟩
theorem cof85:Tryz.prog.cellsOf 116=3:=by kernel_rfl
theorem fof85:Tryz.prog.cellsOf 116=3:=by kernel_rfl
theorem putr_r7 (r q n i m c:Nat) (ad:Option Addr) (l:List Int) (w:World) (a0:Act) (Q:Exit→Act→World→Prop) (hsz:a0.tmps.size=27)
 (s0:a0.tmps.getD 0 undef=.pointer (some ⟨r,0,none⟩))
 (s1:a0.tmps.getD 1 undef=.int .i64 (i:Int))
 (s2:a0.tmps.getD 2 undef=.slice ad m c)
 (s8:a0.tmps.getD 8 undef=.slice none 0 0)
 (hi1:(i:Int)<(n:Int)) (hi0:¬(i:Int)<0) (hc0:∀w1,Lat w w1→w1.cell? ⟨r,0,none⟩=some (.slice (some ⟨q,0,none⟩) n n)) (hsl:∀w1,Lat w w1→Sl w1 ad m l) (hno:ad=none→m=0∧c=0) (hm:m≤140737488355328)
 (u:Value) (hcell:∀w1,Lat w w1→w1.cell? ⟨q,i*3+2,none⟩=some u) (hfrz:∀w1,Lat w w1→w1.frozen? ⟨q,i*3+2,none⟩=false)
 (hQ:∀(v17 v18 v19 v20 v21 v22 v23 v24 v25 v26:Value) (w1:World) (a':Option Addr) (c':Nat),Lat w w1→Sl w1 a' m l→(a'=none→m=0∧c'=0)→(∀x,a'=some x→w.heap.size≤x.block∧Tg w1 x.block 5)→Q .normal ((((((((((a0.put (some 17) v17).put (some 18) v18).put (some 19) v19).put (some 20) v20).put (some 21) v21).put (some 22) v22).put (some 23) v23).put (some 24) v24).put (some 25) v25).put (some 26) v26) (w1.setCell ⟨q,i*3+2,none⟩ (.slice a' m c'))):
 Code.wp Tryz.prog ((Tryz.f74.body.bind (zag 7)).getD .skip) Q a0 w:=by
 conv=>arg 2;whnf
 refine zbf 10 Lat (TE [Ent.val (.pointer (some ⟨r,0,none⟩)),Ent.val (.pointer (some ⟨r,0,none⟩)),Ent.val (.pointer (some ⟨r,0,none⟩)),Ent.val (.slice (some ⟨q,0,none⟩) n n),Ent.val (.int .i64 (i:Int)),Ent.val (.slice none 0 0),Ent.val (.slice ad m c),(⟨fun v w1=>∃a c,v=.slice a m c∧Sl w1 a m l∧(a=none→m=0∧c=0)∧(∀x,a=some x→w.heap.size≤x.block∧Tg w1 x.block 5),fun v x y h hl=>by obtain ⟨a,c,h1,h2,h3,h4⟩:=h;exact ⟨a,c,h1,h2.later hl,h3,fun z hz=>⟨(h4 z hz).1,(h4 z hz).2.chg (Chg.of_below (F:=fun _=>False) hl) (fun h=>h)⟩⟩⟩:Ent Lat),Ent.val (.pointer (some ⟨q,i*3,none⟩)),Ent.val (.pointer (some ⟨q,i*3+2,none⟩))]) (by kernel_rfl) (by kernel_rfl) (by kernel_rfl) (by rw [hsz];kernel_rfl) (by kernel_rfl) (by kernel_rfl) Lat.refl Lat.trans (za4 _) (Lat.draw w) ?hop ?hlast
 case hlast=>
  intro o a w1 ho hL hS hT
  obtain rfl:=Option.some.inj ho
  have dA:a.tmps.getD 26 undef=.pointer (some ⟨q,i*3+2,none⟩):=hT 9 _ (by omega) rfl
  have dV0:=hT 7 _ (by omega) rfl
  obtain ⟨a',c',dVq,h1,h2,h3⟩:=dV0
  have dV:a.tmps.getD 24 undef=.slice a' m c':=dVq
  have he:=zam hS
  have hQ2:=hQ (a.tmps.getD 17 undef) (a.tmps.getD 18 undef) (a.tmps.getD 19 undef) (a.tmps.getD 20 undef) (a.tmps.getD 21 undef) (a.tmps.getD 22 undef) (a.tmps.getD 23 undef) (a.tmps.getD 24 undef) (a.tmps.getD 25 undef) (a.tmps.getD 26 undef) w1 a' c' hL h1 h2 h3
  have hc1:=hcell w1 hL
  have hf1:=hfrz w1 hL
  unfold Oper.wp
  simp [execOp,Act.eval,dA,dV,hc1,hf1,Result.andThen,go_sem]
  show Q .normal a _
  rw [he]
  exact hQ2
 case hop=>
  intro i o hlt hi
  rcases (show i=0∨i=1∨i=2∨i=3∨i=4∨i=5∨i=6∨i=7∨i=8∨i=9 by omega) with rfl|rfl|rfl|rfl|rfl|rfl|rfl|rfl|rfl|rfl
  all_goals obtain rfl:=Option.some.inj hi
  all_goals clear hi hlt
  all_goals intro a w1 hL hS hD
  · exact zye rfl (by simp [execOp,Act.eval,zs hS s0,go_sem])
  · exact zye rfl (by simp [execOp,Act.eval,zde hD 0 17,go_sem])
  · exact zye rfl (by simp [execOp,Act.eval,zde hD 1 18,go_sem])
  · exact zye rfl (by simp [execOp,Act.eval,zde hD 2 19,hc0 w1 hL,go_sem])
  · exact zye rfl (by simp [execOp,Act.eval,zs hS s1,go_sem])
  · exact zye rfl (by simp [execOp,Act.eval,zs hS s8,go_sem])
  · exact zye rfl (by simp [execOp,Act.eval,zs hS s2,go_sem])
  · have d5:=zde hD 5 22
    have d6:=zde hD 6 23
    refine zat rfl ?_
    obtain ⟨a',c',w',hr,h1,h2,h3,h4⟩:=run_apS w1 84 ad m c l (hsl w1 hL) hno hm
    unfold Oper.wp
    simp [execOp,resolve,invoke,builtin,Act.eval,d5,d6,hr,Result.andThen]
    exact ⟨_,rfl,h2,⟨a',c',rfl,h1,h3,fun x hx=>⟨Nat.le_trans hL.size (h4 x hx).1,(h4 x hx).2⟩⟩⟩
  · exact zye rfl (by simp [execOp,Act.eval,zde hD 3 20,zde hD 4 21,hi1,hi0,cof85,go_sem])
  exact zye rfl (by simp [execOp,Act.eval,zde hD 8 25,fof85,go_sem])
theorem zcd (l:List Int) (h:Byte l):bts (strOfNums l)=l:=by
 unfold bts strOfNums
 simp only [List.map_map]
 apply List.ext_getElem?
 intro j
 rw [List.getElem?_map]
 cases e:l[j]? with
 |none=>rfl
 |some x=>
  have:=h x (List.mem_of_getElem? e)
  simp
  omega
theorem set_id {l:List Value} {i:Nat} {v:Value} (h:l[i]?=some v):l.set i v=l:=by
 apply List.ext_getElem?
 intro j
 rw [List.getElem?_set]
 have hl:=(List.getElem?_eq_some_iff.1 h).1
 by_cases e:i=j
 · subst e;rw [if_pos rfl,if_pos hl,h]
 rw [if_neg e]
theorem size_str (l:List Int):(strOfNums l).size=l.length:=by
 unfold strOfNums
 simp [ByteArray.size]
theorem putR (k:Int) (ad:Option Addr) (m c:Nat) (l:List Int) (r q n:Nat) (st:Sx) (B:Nat→Value) (w:World) (h:RP w r q n st B) (hs:Sl w ad m l) (hno:ad=none→m=0∧c=0) (hm:m≤9223372036854775807):
 Calls Tryz.prog 74 #[.pointer (some ⟨r,0,none⟩),.int .i64 k,.slice ad m c] w fun e w'=>e=.returned (.int .i64 (putS st n k l).1)∧RPo w w' r q n st B (putS st n k l).2:=by
 have hn:=h.n1
 have HR:=zaa h
 have HIS:=zaa (atS_isR k r q n st B w h)
 have HS:=zaa hs
 have HN:=zaa hno
 clear h hs hno
 unfold putS
 rcases atS_cases st n k with ⟨e1,e2⟩|⟨i,o,d,e1,rfl,hi,hst,e2⟩
 · rw [e1] at HIS ⊢
   clear e2
   go_enter Tryz.func74,Tryz.ntmps74
   go_wp2_with (refine HIS.out.mono ?_;clear HIS;rintro e w1 ⟨rfl,rfl⟩)
   go_ret
   exact ⟨rfl,HR.out.same⟩
 rw [e1] at HIS ⊢
 clear e2
 simp only
 have hlen:=HS.out.len
 by_cases hl:128<l.length
 · rw [if_pos hl]
   rw [hlen] at hl
   clear hst hlen
   go_enter Tryz.func74,Tryz.ntmps74
   go_wp2_with (refine HIS.out.mono ?_;clear HIS;rintro e w1 ⟨rfl,rfl⟩)
   go_ret
   exact ⟨rfl,HR.out.same⟩
 rw [if_neg hl]
 rw [hlen] at hl
 obtain ⟨v2,k2⟩:=HR.out.k2' hi
 have HK2:=zaa k2
 have HST:=zaa hst
 have HLN:=zaa hlen
 have hmm:m≤128:=by omega
 clear hst k2 hlen hl hm
 go_enter Tryz.func74,Tryz.ntmps74
 go_wp2_with (first
  |(refine HIS.out.mono ?_;clear HIS;rintro e w1 ⟨rfl,rfl⟩)
  |(refine putr_r7 r q n i m c ad l _ _ _ rfl rfl rfl rfl rfl (by omega) (by omega) (fun w2 h2=>(HR.out.later h2).c0) (fun w2 h2=>HS.out.later h2) HN.out (by omega) v2 (fun w2 h2=>by rw [←HK2.out];exact h2.cell (p:=⟨q,i*3+2,none⟩) HR.out.row.lt) (fun w2 h2=>(HR.out.row.later h2).frozen _) ?_;intro v17 v18 v19 v20 v21 v22 v23 v24 v25 v26 w2 a' c' h2 h3 h4 h5;have H2:=zaa (And.intro h2 (And.intro h3 (And.intro h4 h5)));clear h2 h3 h4 h5;simp only [Act.put,List.setIfInBounds_toArray,List.set_cons_succ,List.set_cons_zero]))
 go_ret
 refine ⟨rfl,?_⟩
 obtain ⟨h2,h3,h4,h5⟩:=H2.out
 have R2:=HR.out.later h2
 have hk:=Chg.set ⟨q,i*3+2,none⟩ (.slice a' m c') w2
 have hsz:=size_str l
 rw [HLN.out] at hsz
 have hrow:Blk (w2.setCell ⟨q,i*3+2,none⟩ (.slice a' m c')) q 116 (rL n (upS st i (some (o,strOfNums l))) (upN B i (.slice a' m c'))):=by
  have e:=rL_set n i st B (some (o,strOfNums l)) (.slice a' m c') (fun h=>by cases h) hi
  have e0:(rL n st B).set (i*3) (.bool true)=rL n st B:=set_id (by have:=rL_at (r:=0) st B hi (by omega);rw [Nat.add_zero,rcV0,HST.out] at this;exact this)
  have e01:(rL n st B).set (i*3+1) (.string o)=rL n st B:=set_id (by have:=rL_at (r:=1) st B hi (by omega);rw [rcV1,HST.out] at this;exact this)
  rw [←e]
  simp only [Option.isSome_some,Option.map_some,Option.getD_some]
  rw [e0,e01]
  exact R2.row.set _ _
 refine ⟨_,R2.put (some (o,strOfNums l)) (.slice a' m c') hi hk hrow (fun o' d' e=>?_),(Chg.of_below (F:=fun i=>i=q) h2).trans hk (fun _ _ e=>e),?_⟩
 · injection e with e
   injection e with e e'
   subst e'
   rw [zcd l HS.out.byte,hsz]
   refine ⟨a',c',rfl,hk.sl h3 (fun x hx h0 e=>((h5 x hx).2.ne R2.row.tg (by decide)) e),h4,fun x hx h0=>(h5 x hx).2.chg hk (fun e=>((h5 x hx).2.ne R2.row.tg (by decide)) e)⟩
 refine rg_put (fun o' d' ad' c9 e1 e2 e3=>?_)
 simp only [Value.slice.injEq] at e2
 exact (h5 ad' e2.1).1
section
variable {w w':World} {t:TypeId} {v:Value} {xs:List Value}
theorem Rw.slice (h:Rw w t v xs):∃ad c,v=.slice ad xs.length c∧(xs.length≠0→∃g,ad=some ⟨g,0,none⟩):=by
 rcases h with ⟨rfl,rfl⟩|⟨g,cap,cur,mk,rfl,_⟩
 · exact ⟨none,0,rfl,fun h=>absurd rfl h⟩
 exact ⟨_,cap,rfl,fun _=>⟨g,rfl⟩⟩
theorem Rw.cell {g L c:Nat} (h:Rw w t (.slice (some ⟨g,0,none⟩) L c) xs) {j:Nat} {u:Value} (hj:xs[j]?=some u):w.cell? ⟨g,j,none⟩=some u:=by
 rcases h with ⟨h0,_⟩|⟨g',cap,cur,mk,hv,hh,hm,hs,hl,hc,ht⟩
 · cases h0
 simp only [Value.slice.injEq,Option.some.injEq,Addr.mk.injEq] at hv
 obtain ⟨⟨rfl,_⟩,_,rfl⟩:=hv
 have hlt:j<xs.length:=(List.getElem?_eq_some_iff.1 hj).1
 have h2:(cur.toList.take xs.length)[j]?=some u:=by rw [ht];exact hj
 rw [List.getElem?_take_of_lt hlt,Array.getElem?_toList] at h2
 simp only [World.cell?,hh]
 simpa using h2
theorem Rw.frozen {g L c:Nat} (h:Rw w t (.slice (some ⟨g,0,none⟩) L c) xs) {j:Nat} (hj:j<c):w.frozen? ⟨g,j,none⟩=false:=by
 rcases h with ⟨h0,_⟩|⟨g',cap,cur,mk,hv,hh,hm,hs,hl,hc,ht⟩
 · cases h0
 simp only [Value.slice.injEq,Option.some.injEq,Addr.mk.injEq] at hv
 obtain ⟨⟨rfl,_⟩,_,rfl⟩:=hv
 simp only [World.frozen?,hh]
 rcases hm with rfl|rfl <;> simp <;> omega
theorem Rw.lens {g L c:Nat} (h:Rw w t (.slice (some ⟨g,0,none⟩) L c) xs):L=xs.length∧xs.length≤c:=by
 rcases h with ⟨h0,_⟩|⟨g',cap,cur,mk,hv,hh,hm,hs,hl,hc,ht⟩
 · cases h0
 simp only [Value.slice.injEq,Option.some.injEq,Addr.mk.injEq] at hv
 obtain ⟨⟨rfl,_⟩,rfl,rfl⟩:=hv
 exact ⟨rfl,hl⟩
theorem Rw.chg {F:Nat→Prop} (h:Rw w t v xs) (k:Chg F w w') (hF:∀g,v.ownBlock=some g→¬F g):Rw w' t v xs:=by
 rcases h with ⟨h0,h1⟩|⟨g',cap,cur,mk,hv,hh,hr⟩
 · exact .inl ⟨h0,h1⟩
 refine .inr ⟨g',cap,cur,mk,hv,?_,hr⟩
 rw [k.block g' ((Array.getElem?_eq_some_iff.1 hh).1) (hF g' (by rw [hv];rfl))]
 exact hh
theorem Rw.later (h:Rw w t v xs) (k:Below w.heap.size w w'):Rw w' t v xs:=h.chg (F:=fun _=>False) (Chg.of_below k) (fun _ _ h=>h)
theorem Rw.set {g L c:Nat} (h:Rw w t (.slice (some ⟨g,0,none⟩) L c) xs) (j:Nat) (u:Value):Rw (w.setCell ⟨g,j,none⟩ u) t (.slice (some ⟨g,0,none⟩) L c) (xs.set j u):=by
 rcases h with ⟨h0,_⟩|⟨g',cap,cur,mk,hv,hh,hm,hs,hl,hc,ht⟩
 · cases h0
 simp only [Value.slice.injEq,Option.some.injEq,Addr.mk.injEq] at hv
 obtain ⟨⟨rfl,_⟩,rfl,rfl⟩:=hv
 refine .inr ⟨g,c,cur.setIfInBounds j u,mk,by rw [List.length_set],?_,hm,by simpa using hs,by rw [List.length_set];exact hl,hc,?_⟩
 · simp [World.setCell,Array.getElem?_modify,hh]
 rw [List.length_set,Array.toList_setIfInBounds,List.take_set,ht]
theorem Rw.of_owns {base:Nat} (h:w.ownsRow base t 1 v xs.length xs):Rw w t v xs:=by
 rcases h.2 with ⟨h0,h1⟩|⟨g,cap,cur,hv,hb,hh,hn,hc,hs,ht⟩
 · exact .inl ⟨h0,List.eq_nil_of_length_eq_zero h1⟩
 exact .inr ⟨g,cap,cur,(0,0),hv,hh,.inl rfl,by simpa using hs,hn,hc,by simpa using ht⟩
theorem Rw.push {P:Program} (h:Rw w t v xs) (T ty:TypeId) (i:TypeInfo) (z:Value) (bytes:Nat) (ht:P.underlying T=some (.slice t)) (hi:P.info? t=some i) (hz:i.zero=some z)
 (hsize:i.size=1) (hby:i.bytes=bytes) (hzs:z.cells.size=1) (ad:Addr) (u:Value) (hc:w.cell? ad=some u) (h1:u.oneCell'=true) (h63:xs.length+1≤maxLen) (hbytes:(xs.length+1)*bytes≤140737488355328):
 ∃g' c' w',(Builtin.append_ #[T,T] ty #[v,.slice (some ad) 1 1]).run P w=.ok (.slice (some ⟨g',0,none⟩) (xs.length+1) c') w'∧Rw w' t (.slice (some ⟨g',0,none⟩) (xs.length+1) c') (xs++[u])∧
  ((v.ownBlock=some g'∧∃cap,w'=w.setCell ⟨g',xs.length,none⟩ u∧v=.slice (some ⟨g',0,none⟩) xs.length cap)∨(w.heap.size≤g'∧Below w.heap.size w w')):=by
 have hspot:=World.cell?_spot hc
 have hnews:∀j x,[u][j]?=some x→w.cell? (ad.add j)=some x:=by
  intro j x hj
  match j,hj with
  |0,hj=>
   simp at hj
   subst hj
   obtain ⟨b,o,s⟩:=ad
   simp only at hspot
   subst hspot
   rw [Addr.add_lit]
   exact hc
 have hone:∀x∈[u],x.oneCell'=true:=by intro x hx;simp at hx;subst hx;exact h1
 have h':=h
 rcases h with ⟨rfl,rfl⟩|⟨g,cap,cur,mk,rfl,hh,hm,hs,hl,hcm,htk⟩
 · obtain ⟨v',w',hr,ho,hgr,hiff⟩:=run_append_own (P:=P) w w.heap.size T ty t i z 1 bytes ht hi hz hsize hby hzs (by omega) (.slice none 0 0) 0 [] (World.ownsRow_nil _ _ _ _) ad 1 1 [u] rfl hnews hone h63 hbytes (Nat.le_refl _)
   have ho':w'.ownsRow w.heap.size t 1 v' [u].length [u]:=by simpa using ho
   have hR:=Rw.of_owns ho'
   rcases ho.2 with ⟨_,h0⟩|⟨g',c',cur',rfl,hb',hh',hrest⟩
   · omega
   exact ⟨g',c',w',by simpa using hr,hR,.inr ⟨hb',zcm (e:=t) (size:=1) hgr (World.ownsRow_nil _ _ _ _) (Nat.le_refl _)⟩⟩
 by_cases hroom:xs.length+1≤cap
 · have hcell:(w.cell? ⟨g,xs.length,none⟩).isSome=true:=by
    simp only [World.cell?,hh]
    have:xs.length<cur.size:=by omega
    simp [this]
   have hr:=run_append_room_cells (P:=P) (w:=w) T ty t i ht hi g 0 xs.length cap ad 1 1 [u] (by simp [hsize]) hnews hone hroom (fun j hj=>by
    have:j=0:=by simpa using hj
    subst this
    simpa [hsize] using hcell) (fun j hj=>by
    have:j=0:=by simpa using hj
    subst this
    simpa [hsize] using h'.frozen (show xs.length<cap by omega))
   have hw:w.setCells g (0+xs.length*i.size) [u]=w.setCell ⟨g,xs.length,none⟩ u:=by
    simp [hsize,World.setCells]
   rw [hw] at hr
   refine ⟨g,cap,_,hr,?_,.inl ⟨rfl,cap,rfl,rfl⟩⟩
   refine .inr ⟨g,cap,cur.setIfInBounds xs.length u,mk,by simp,?_,hm,by simpa using hs,by simpa using hroom,hcm,?_⟩
   · simp [World.setCell,Array.getElem?_modify,hh]
   rw [List.length_append,Array.toList_setIfInBounds]
   have hlen:xs.length<cur.toList.length:=by simp;omega
   rw [List.length_singleton,List.take_add_one,List.getElem?_set_self hlen,List.take_set_of_le (Nat.le_refl _),htk]
   rfl
 obtain ⟨v',w',hr,ho,hgr⟩:=run_append_arg_grows (P:=P) w T ty t i z 1 bytes ht hi hz hsize hby hzs (by omega) ⟨g,0,none⟩ xs.length cap xs (by omega) (fun j x hx=>by rw [Addr.add_lit,Nat.zero_add];exact h'.cell hx) ad 1 1 [u] rfl hnews (by omega) h63 hbytes
 have ho':w'.ownsRow w.heap.size t 1 v' (xs++[u]).length (xs++[u]):=by simpa using ho
 have hR:=Rw.of_owns ho'
 rcases ho.2 with ⟨_,h0⟩|⟨g',c',cur',rfl,hb',hh',hrest⟩
 · omega
 exact ⟨g',c',w',hr,hR,.inr ⟨hb',(Below.refl _ _).grown hgr (Nat.le_refl _) (fun k hk=>by cases hk)⟩⟩
end
end Go.Proofs.YtlppibigceeimaaGreatDoor.K
