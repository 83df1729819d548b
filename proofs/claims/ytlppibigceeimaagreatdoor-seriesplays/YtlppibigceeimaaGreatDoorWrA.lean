import Derived.Test.YtlppibigceeimaaGreatDoorWld
import Derived.Test.YtlppibigceeimaaGreatDoorChecked
import Derived.Deep.QuietTactic
import Derived.BigQuiet
set_option linter.unusedSimpArgs false
set_option linter.unusedVariables false
set_option maxHeartbeats 40000000
set_option maxRecDepth 100000
namespace Go.Proofs.YtlppibigceeimaaGreatDoor
open Go.RowKit
theorem ze6:(Tryz.prog.info? 5).map (fun i=>(i.zero,i.size,i.bytes))=some (some (.int .u8 0),1,1):=by kernel_rfl
theorem info_parts {P:Program} {ty:TypeId} {z:Option Value} {s b:Nat} (h:(P.info? ty).map (fun i=>(i.zero,i.size,i.bytes))=some (z,s,b)):∃i,P.info? ty=some i∧i.zero=z∧i.size=s∧i.bytes=b:=by
 cases e:P.info? ty with
 |none=>rw [e] at h;cases h
 |some i=>
  rw [e] at h
  simp at h
  exact ⟨i,rfl,h.1,h.2.1,h.2.2⟩
theorem zco (n:Nat) (w:World) (hn:n≤1152921504606846976):Calls Tryz.prog 124 #[.int .i64 (n:Int)] w fun e w'=>e=.returned (.int .i64 (((n+7) / 8:Nat):Int))∧w'=w:=by
 go_enter Tryz.func124,Tryz.ntmps124
 go_wp2_with fail
 go_ret
 refine ⟨?_,rfl⟩
 show Ending.returned (.int .i64 (((n:Int)+8 - 1) / 8))=_
 congr 2
 omega
theorem len_any (p:Nat) (rb:Option Nat) (L:List Bool) (w:World) (h:WS w p rb L):Calls Tryz.prog 101 #[.pointer (some ⟨p,0,none⟩)] w fun e w'=>e=.returned (.int .i64 (L.length:Int))∧w'=w:=by
 obtain ⟨v,R,h⟩:=h
 have hB:=h.blk
 clear h
 have c1:w.cell? ⟨p,1,none⟩=some (.int .i64 (L.length:Int)):=hB.cell 1
 clear hB
 go_enter Tryz.func101,Tryz.ntmps101
 go_wp2_with fail
 go_ret
 exact ⟨rfl,rfl⟩
theorem built53:Tryz.prog.built 190 []=some #[.slice none 0 0,.int .i64 0]:=by kernel_rfl
theorem zgg (w:World):Calls Tryz.prog 100 #[] w fun e w'=>e=.returned (.pointer (some ⟨w.heap.size,0,none⟩))∧WS w' w.heap.size none []∧Below w.heap.size w w':=by
 have hb:=built53
 go_enter Tryz.func100,Tryz.ntmps100
 go_wp2_with (first
  |(refine wpList_build_to rfl 190 #[] rfl [] #[.slice none 0 0,.int .i64 0] ?_ hb ?_;kernel_rfl)
  |(refine zac rfl 190 (.tmp 1) rfl [.slice none 0 0,.int .i64 0] rfl ?_;intro w2 B2 bl2 hz2))
 go_ret
 exact ⟨rfl,⟨.slice none 0 0,[],by simp,rfl,B2,World.ownsRow_nil _ _ _ _,fun n hn=>by simp at hn,Rep.nil,by simp⟩,bl2⟩
def roomLen (p:Nat) (w:World):Nat:=match w.cell? ⟨p,0,none⟩ with|some (.slice _ n _)=>n|_=>0
theorem zfs {w:World} {p:Nat} {ad:Option Addr} {n c:Nat} (h:w.cell? ⟨p,0,none⟩=some (.slice ad n c)):roomLen p w=n:=by
 unfold roomLen
 rw [h]
theorem grow_any (p:Nat) (rb:Option Nat) (L:List Bool) (v:Value) (R:List Int) (count:Nat) (w:World) (h:WR w p rb L v R) (hc:count≤1099511627776):
 Calls Tryz.prog 160 #[.pointer (some ⟨p,0,none⟩),.int .i64 (count:Int)] w fun e w'=>e=.returned (.tuple #[])∧∃rb' v' R',WR w' p rb' L v' R'∧count≤R'.length∧Chg (fpt p rb) w w'∧Moved w rb rb':=by
 obtain ⟨i0,hi,hz0,hz1,hz2⟩:=info_parts ze6
 have HH:=zaa h
 clear h
 go_enter Tryz.func160,Tryz.ntmps160
 go_wp2_with fail
 go_loopw [] (fun wr=>∃rb' v' R',WR wr p rb' L v' R'∧Chg (fpt p rb) w wr∧Moved w rb rb') (fun wr=>count - roomLen p wr)
 case atStart=>exact ⟨rb,v,R,HH.out,Chg.refl _ _,.inl rfl⟩
 case round=>
  rename World=>wr
  obtain ⟨rb',v',R',hW,hC,hM⟩:=hrel
  obtain ⟨ad,c,rfl⟩:=zal hW.row
  have c0:wr.cell? ⟨p,0,none⟩=some (.slice ad R'.length c):=hW.blk.cell 0
  have hrl:=zfs c0
  have HRL:=zaa hrl
  have HW:=zaa hW
  have HC:=zaa hC
  have HM:=zaa hM
  clear hW hC hM hrl
  obtain ⟨n,hn⟩:∃n,R'.length=n:=⟨_,rfl⟩
  rw [hn] at c0
  have HN:=zaa hn
  clear hn
  by_cases hlt:n<count
  · go_wp2_with (first
     |(at_builtin;(refine zaw _ rfl _ _ 84 rfl 5 i0 (.int .u8 0) 1 Tryz.underlying84 hi hz0 hz1 hz2 rfl 0 (.slice ad n c) n (zae R') rfl (by rw [←HN.out];exact (Chg.alloc (fun _=>False) wr _).owns HW.out.row (fun _ _ h=>h)) ⟨wr.heap.size,0,none⟩ (.int .u8 0) rfl (by first|(simp;done)|(simp;omega)) rfl (by unfold maxLen;omega) (by omega) (Nat.zero_le _) ?_);intro g6 c6 w6 ho6 hp6;rw [HN.out] at HW;obtain ⟨B6,W6,C6,M6⟩:=HW.out.push HN.out ho6 hp6;have d0:w6.cell? ⟨p,0,none⟩=some (.slice ad n c):=B6.cell 0;have f0:=B6.frozen 0;have HW6:=zaa W6;have HC6:=zaa C6;have HM6:=zaa M6;clear W6 C6 M6 B6 ho6 hp6 c0))
    refine ⟨⟨_,_,_,HW6.out,HC.out.trans HC6.out (fun i hi hf=>fpt_moved HM.out i hi hf),HM.out.trans HM6.out HC.out.size⟩,?_⟩
    have e:=zfs (HW6.out.blk.cell 0)
    rw [e,HRL.out,HN.out]
    omega
  go_wp2_with fail
  go_end0
  exact ⟨rfl,_,_,_,HW.out,by rw [HN.out];omega,HC.out,HM.out⟩
theorem under29:Tryz.prog.underlying 84=some (.slice (Tryz.prog.elem 84)):=by kernel_rfl
theorem size29 (w:World):(sizeOf (Tryz.prog.elem 84)).run Tryz.prog w=.ok 1 w:=by kernel_rfl
theorem run_slice_ab (w:World) (g n c ca cb:Nat) (hab:ca≤cb) (hbc:cb≤c):
 (Instr.sliceAt 84 (.slice (some ⟨g,0,none⟩) n c) (some (.int .i64 (ca:Int))) (some (.int .i64 (cb:Int))) Option.none).run Tryz.prog w=.ok (.slice (if c=ca then some ⟨g,0,none⟩ else some ⟨g,ca,none⟩) (cb - ca) (c - ca)) w:=by
 rw [run_sliceAt_slice w 84 _ _ _ _ under29,run_slice_lh w 84 _ n c under29 .i64 .i64 ca cb (by omega) (by omega) (by omega),size29]
 simp [Result.andThen,sliced,Addr.add_lit]
theorem cut_r2 (p g n c k s ca cb:Nat) (AA:Option Addr) (F:World→World) (w:World) (a0:Act) (Q:Exit→Act→World→Prop) (hsz:a0.tmps.size=47)
 (s0:a0.tmps.getD 0 undef=.pointer (some ⟨p,0,none⟩))
 (s1:a0.tmps.getD 1 undef=.int .i64 (k:Int))
 (hc0:∀w1,Lat w w1→w1.cell? ⟨p,0,none⟩=some (.slice (some ⟨g,0,none⟩) n c)) (hc1:∀w1,Lat w w1→w1.cell? ⟨p,1,none⟩=some (.int .i64 (s:Int)))
 (h27a:∀w1,Calls Tryz.prog 124 #[.int .i64 (k:Int)] w1 fun e w2=>e=.returned (.int .i64 (ca:Int))∧w2=w1) (h27b:∀w1,Calls Tryz.prog 124 #[.int .i64 (s:Int)] w1 fun e w2=>e=.returned (.int .i64 (cb:Int))∧w2=w1)
 (hsl:∀w1,(Instr.sliceAt 84 (.slice (some ⟨g,0,none⟩) n c) (some (.int .i64 (ca:Int))) (some (.int .i64 (cb:Int))) Option.none).run Tryz.prog w1=.ok (.slice AA (cb - ca) (c - ca)) w1)
 (hclr:∀w1,Lat w w1→(Builtin.clear_ #[84] 0 #[.slice AA (cb - ca) (c - ca)]).run Tryz.prog w1=.ok (.tuple #[]) (F w1))
 (hQ:∀(v13 v14 v15 v16 v17 v18 v19 v20 v21 v22 v23 v24:Value) (w1:World),Lat w w1→Q .normal ((((((((((((a0.put (some 13) v13).put (some 14) v14).put (some 15) v15).put (some 16) v16).put (some 17) v17).put (some 18) v18).put (some 19) v19).put (some 20) v20).put (some 21) v21).put (some 22) v22).put (some 23) v23).put (some 24) v24) (F w1)):
 Code.wp Tryz.prog ((Tryz.f105.body.bind (zag 2)).getD .skip) Q a0 w:=by
 conv=>arg 2;whnf
 refine zbf 12 Lat (TV [.pointer (some ⟨p,0,none⟩),.pointer (some ⟨p,0,none⟩),.pointer (some ⟨p,0,none⟩),.slice (some ⟨g,0,none⟩) n c,.int .i64 (k:Int),.int .i64 (ca:Int),.pointer (some ⟨p,0,none⟩),.pointer (some ⟨p,0,none⟩),.pointer (some ⟨p,1,none⟩),.int .i64 (s:Int),.int .i64 (cb:Int),.slice AA (cb - ca) (c - ca)]) (by kernel_rfl) (by kernel_rfl) (by kernel_rfl) (by rw [hsz];kernel_rfl) (by kernel_rfl) (by kernel_rfl) Lat.refl Lat.trans (TV.stable _) (Lat.draw w) ?hop ?hlast
 case hlast=>
  intro o a w1 ho hL hS hT
  obtain rfl:=Option.some.inj ho
  have d11:a.tmps.getD 24 undef=.slice AA (cb - ca) (c - ca):=hT 11 _ (by omega) rfl _ rfl
  have he:=zam hS
  have hQ2:=hQ (a.tmps.getD 13 undef) (a.tmps.getD 14 undef) (a.tmps.getD 15 undef) (a.tmps.getD 16 undef) (a.tmps.getD 17 undef) (a.tmps.getD 18 undef) (a.tmps.getD 19 undef) (a.tmps.getD 20 undef) (a.tmps.getD 21 undef) (a.tmps.getD 22 undef) (a.tmps.getD 23 undef) (a.tmps.getD 24 undef) w1 hL
  have hr:=hclr w1 hL
  unfold Oper.wp
  simp [execOp,resolve,invoke,builtin,Act.eval,d11,hr,Result.andThen]
  show Q .normal a (F w1)
  rw [he]
  exact hQ2
 case hop=>
  intro i o hlt hi
  rcases (show i=0∨i=1∨i=2∨i=3∨i=4∨i=5∨i=6∨i=7∨i=8∨i=9∨i=10∨i=11 by omega) with rfl|rfl|rfl|rfl|rfl|rfl|rfl|rfl|rfl|rfl|rfl|rfl
  all_goals obtain rfl:=Option.some.inj hi
  all_goals clear hi hlt
  all_goals intro a w1 hL hS hD
  · exact zy rfl (by simp [execOp,Act.eval,zs hS s0,go_sem])
  · exact zy rfl (by simp [execOp,Act.eval,zd hD 0 13,go_sem])
  · exact zy rfl (by simp [execOp,Act.eval,zd hD 1 14,go_sem])
  · exact zy rfl (by simp [execOp,Act.eval,zd hD 2 15,hc0 w1 hL,go_sem])
  · exact zy rfl (by simp [execOp,Act.eval,zs hS s1,go_sem])
  · have d4:=zd hD 4 17
    refine zat rfl ?_
    refine zbb (f:=124) (args:=#[.int .i64 (k:Int)]) (by simp [execOp,resolve,Act.eval,d4,go_sem]) ?_
    refine (h27a w1).mono ?_
    rintro e w2 ⟨rfl,rfl⟩
    exact ⟨_,rfl,Lat.refl _,TV.mk rfl⟩
  · exact zy rfl (by simp [execOp,Act.eval,zs hS s0,go_sem])
  · exact zy rfl (by simp [execOp,Act.eval,zd hD 6 19,go_sem])
  · exact zy rfl (by simp [execOp,Act.eval,zd hD 7 20,go_sem])
  · exact zy rfl (by simp [execOp,Act.eval,zd hD 8 21,hc1 w1 hL,go_sem])
  · have d9:=zd hD 9 22
    refine zat rfl ?_
    refine zbb (f:=124) (args:=#[.int .i64 (s:Int)]) (by simp [execOp,resolve,Act.eval,d9,go_sem]) ?_
    refine (h27b w1).mono ?_
    rintro e w2 ⟨rfl,rfl⟩
    exact ⟨_,rfl,Lat.refl _,TV.mk rfl⟩
  exact zy rfl (by simp [execOp,Act.eval,zd hD 3 16,zd hD 5 18,zd hD 10 23,hsl w1,go_sem])
theorem clone_any (ad:Option Addr) (n c:Nat) (l:List Int) (w:World) (h:Sl w ad n l) (hn:n≤70368744177664) (hnone:ad=none→n=0∧c=0):
 Calls Tryz.prog 125 #[.slice ad n c] w fun e w'=>∃ad' c',e=.returned (.slice ad' n c')∧w'.ownsRow w.heap.size 5 1 (.slice ad' n c') n (zae l)∧Below w.heap.size w w':=by
 obtain ⟨i0,hi,hz0,hz1,hz2⟩:=info_parts ze6
 have HS:=zaa h
 clear h
 go_enter Tryz.func125,Tryz.ntmps125
 cases ad with
 |none=>
  obtain ⟨rfl,rfl⟩:=hnone rfl
  have heq:=fun (w:World)=>Go.Lib.run_eql_slice_nil (P:=Tryz.prog) w 84 5 none 0 0 0 0 Tryz.underlying84
  go_wp2_with fail
  go_ret
  have hl:l=[]:=List.eq_nil_of_length_eq_zero HS.out.len
  subst hl
  exact ⟨none,0,rfl,World.ownsRow_nil _ _ _ _,Below.refl _ _⟩
 |some x=>
  clear hnone
  have heq:=fun (w:World)=>Go.Lib.run_eql_slice_nil (P:=Tryz.prog) w 84 5 (some x) n c 0 0 Tryz.underlying84
  go_wp2_with (first
   |(at_builtin;refine zcq _ rfl _ _ 84 rfl w.heap.size 5 i0 (.int .u8 0) Tryz.underlying84 hi hz0 hz1 hz2 rfl (.slice (some ⟨w.heap.size,0,none⟩) 0 0) 0 [] rfl ?_ (some x) n c l rfl ?_ (fun h=>by cases h) (by omega) (by simp) ?_))
  · refine ⟨rfl,.inr ⟨w.heap.size,0,#[],rfl,Nat.le_refl _,?_,Nat.le_refl _,by unfold maxLen;omega,rfl,rfl⟩⟩
    exact heap_alloc_new w _
  · exact (Chg.alloc (fun _=>False) w _).sl HS.out (fun _ _ _ h=>h)
  intro ad' c' w' h1 h2
  have h3:Below w.heap.size w w':=((Below.refl _ _).alloc (Nat.le_refl _) (Obj.cells #[] 5)).grown h2 (by simp) (fun k hk=>by simp [Value.ownBlock] at hk;omega)
  have H1:=zaa h1
  have H3:=zaa h3
  clear h1 h2 h3
  go_wp2_with fail
  go_ret
  exact ⟨ad',c',rfl,H1.out,H3.out⟩
theorem bytes_any (p:Nat) (rb:Option Nat) (L:List Bool) (w:World) (h:WS w p rb L) (hL:L.length≤1099511627840):
 Calls Tryz.prog 106 #[.pointer (some ⟨p,0,none⟩)] w fun e w'=>∃ad' c' R,e=.returned (.slice ad' ((L.length+7) / 8) c')∧R.length=(L.length+7) / 8∧w'.ownsRow w.heap.size 5 1 (.slice ad' ((L.length+7) / 8) c') ((L.length+7) / 8) (zae R)∧Byte R∧Rep R L∧Below w.heap.size w w':=by
 obtain ⟨v,R,hW⟩:=h
 obtain ⟨ad,c,rfl⟩:=zal hW.row
 obtain ⟨m,hm⟩:∃m,L.length=m:=⟨_,rfl⟩
 obtain ⟨k,hk⟩:∃k,(m+7) / 8=k:=⟨_,rfl⟩
 obtain ⟨n,hn⟩:∃n,R.length=n:=⟨_,rfl⟩
 have c0:w.cell? ⟨p,0,none⟩=some (.slice ad n c):=by rw [←hn];exact hW.blk.cell 0
 have c1:w.cell? ⟨p,1,none⟩=some (.int .i64 (m:Int)):=by rw [←hm];exact hW.blk.cell 1
 have hlen:=hW.len
 rw [hm,hn] at hlen
 rw [hm] at hL ⊢
 rw [hk]
 obtain ⟨_,hnc,hcm,hnone⟩:=zc4 hW.row
 rw [hn] at hnc hnone
 have HNONE:Hid (ad=none→k=0∧c=0):=fun e=>by have:=hnone e;omega
 clear hnone
 have hkn:k≤n:=by omega
 have hcm2:c≤9223372036854775807:=by unfold maxLen at hcm;omega
 have hS:=zbp hW.row hW.byte
 rw [hn] at hS
 have HB:=zaa (fun w=>hk▸zco m w (by omega))
 have HC:=zaa (fun w (h:Sl w ad k (R.take k))=>clone_any ad k c (R.take k) w h (by omega))
 have HSK:Hid (Sl w ad k (R.take k)):=hS.take hkn
 have HW:=zaa hW
 have HK:=zaa hk
 have HM:=zaa hm
 have HN:=zaa hn
 clear hS hW hk hm hn
 go_enter Tryz.func106,Tryz.ntmps106
 go_wp2_with fail
 go_region_with (first
  |(refine (HB.out _).mono ?_;rintro e w' ⟨rfl,rfl⟩)
  |(refine (HC.out _ ((Chg.drew (fun _=>False) w).sl HSK.out (fun _ _ _ h=>h)) HNONE.out).mono ?_;rintro e w' ⟨ad',c',rfl,ho,hb⟩))
 all_goals
  have HO:Hid (w'.ownsRow w.heap.size 5 1 (Value.slice ad' k c') k (zae (List.take k R))):=ho
  have HBB:Hid (Below w.heap.size w w'):=((Below.refl _ w).drew).trans hb
  clear ho hb
  go_wp2_with fail
  go_ret
  have hk:=HK.out
  have hm:=HM.out
  refine ⟨ad',c',R.take k,rfl,by rw [List.length_take,HN.out];omega,HO.out,HW.out.byte.take k,HW.out.rep.take k (by omega),HBB.out⟩
end Go.Proofs.YtlppibigceeimaaGreatDoor
