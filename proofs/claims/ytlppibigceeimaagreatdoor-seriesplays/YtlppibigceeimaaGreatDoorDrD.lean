import Derived.Test.YtlppibigceeimaaGreatDoorDcD
import Derived.Deep.CutBlock
set_option linter.unusedSimpArgs false
set_option linter.unusedVariables false
set_option maxHeartbeats 40000000
set_option maxRecDepth 100000
namespace Go.Proofs.YtlppibigceeimaaGreatDoor
open Go.RowKit
def wdK (k:Nat):Nat:=if k=0 then 7 else if k=1 then 9 else if k=2 then 12 else 64
theorem zf8 {w s:Nat} {B c:List Bool} {d:Int} (h:rdW w s B=some (d,c)):w≤B.length∧sg (tkV w B) w=d∧B.drop w=c:=by
 unfold rdW at h
 split at h
 · rename_i hl
   split at h
   · cases h
   injection h with h
   injection h with h1 h2
   exact ⟨hl,by unfold tkV;rw [if_pos hl];exact h1,h2⟩
 cases h
theorem rdD_ones {B Bk cc:List Bool} {kk:Nat} {d0:Int} (hk:kk<4) (hB:B=List.replicate (kk+1) true++(if kk=3 then Bk else false :: Bk)) (h:rdD B=some (d0,cc)):wdK kk≤Bk.length∧sg (tkV (wdK kk) Bk) (wdK kk)=d0∧Bk.drop (wdK kk)=cc:=by
 subst hB
 rcases (show kk=0∨kk=1∨kk=2∨kk=3 by omega) with rfl|rfl|rfl|rfl
 · exact zf8 (s:=0) h
 · exact zf8 (s:=7) h
 · exact zf8 (s:=9) h
 exact zf8 (s:=12) h
theorem dD (w:World) (r c:Nat) (ad:Option Addr) (l:List Int) (B:List Bool) (bad:Bool) (h:YS w r ad c l B bad):
 Calls Tryz.prog 98 #[.pointer (some ⟨r,0,none⟩)] w fun e w'=>∃d:Int,e=.returned (.int .i64 d)∧I64 d∧XdP rdD w r c ad l B bad d w':=by
 have HY:=zaa h
 have hrl:r<w.heap.size:=by obtain ⟨t,_,hB,_⟩:=h.blk;exact hB.lt
 have G1:Hid (∀w1 B1 b1,YS w1 r ad c l B1 b1→Calls Tryz.prog 97 #[.pointer (some ⟨r,0,none⟩),.int .i64 1] w1 fun e w'=>e=.returned (.int .u64 (tkV 1 B1:Int))∧(∃B' bad',YS w' r ad c l B' bad'∧(1≤B1.length→B'=B1.drop 1∧bad'=b1)∧(¬1≤B1.length→bad'=true))∧Chg (fun i=>i=r) w1 w'):=zaa (fun w1 B1 b1 h1=>getD w1 r c 1 ad l B1 b1 h1 (by omega))
 clear h
 obtain ⟨gn,hgn⟩:∃gn,w.heap.size=gn:=⟨_,rfl⟩
 obtain ⟨w1,hw1⟩:∃w1,w.alloc (.cells #[.int .i64 7,.int .i64 9,.int .i64 12,.int .i64 64] 3)=w1:=⟨_,rfl⟩
 have hb1:Below w.heap.size w w1:=by rw [←hw1];exact (Below.refl _ _).alloc (Nat.le_refl _) _
 have HN1:Hid (Blk w1 gn 3 [.int .i64 7,.int .i64 9,.int .i64 12,.int .i64 64]):=zaa (by rw [←hw1,←hgn];exact Blk.new w 3 _)
 have Y1:=zaa (HY.out.later hb1)
 have C1:=zaa (Chg.of_below (F:=fun i=>i=r) hb1)
 go_enter Tryz.func98,Tryz.ntmps98
 go_upto_block 0 with (first|simp only [hw1,hgn]|fail)
 go_cut [4,5] from 7 to 14 (fun v4 v5 wx=>∃(k:Nat) (Bk:List Bool) (bk:Bool),k≤4∧v4=.int .i64 (k:Int)∧Hid (YS wx r ad c l Bk bk)∧Hid (Chg (fun i=>i=r) w1 wx)∧Hid (∀d0 cc,rdD B=some (d0,cc)→bk=bad∧B=List.replicate k true++(if k=4 then Bk else false :: Bk)))
 case first=>
  go_wp2_with fail
  go_loopw [4,5] (fun v4 v5 wx=>∃(k:Nat) (Bk:List Bool) (bk:Bool),k≤4∧v4=.int .i64 (k:Int)∧Hid (YS wx r ad c l Bk bk)∧Hid (Chg (fun i=>i=r) w1 wx)∧Hid (∀d0 cc,rdD B=some (d0,cc)→bk=bad∧B=List.replicate k true++Bk)) (fun v4 _ _=>4 - (intOf v4).toNat)
  case atStart=>
   refine ⟨0,B,bad,by omega,rfl,?_,?_,zaa (fun _ _ _=>⟨rfl,by simp⟩)⟩
   · first|exact Y1|(rw [hw1];exact Y1)
   first|exact zaa (Chg.refl _ _)|(rw [hw1];exact zaa (Chg.refl _ _))
  case round=>
   rename World=>wx
   obtain ⟨k,Bk,bk,hk,rfl,hY,hC,hI⟩:=hrel
   by_cases hlt:k<4
   · have hltz:(k:Int)<4:=by omega
     go_wp2_with fail
     refine (G1.out wx Bk bk hY.out).mono ?_
     rintro e w2 ⟨rfl,⟨B2,b2,hY2,hk2,_⟩,hc2⟩
     have Y2:=zaa hY2
     have C2:=zaa (hC.out.trans hc2 (fun _ _ e=>e))
     have K2:=zaa hk2
     clear hY2 hc2 hk2 hY hC
     by_cases hb:tkV 1 Bk=0
     · have HX:Hid (∀d0 cc,rdD B=some (d0,cc)→b2=bad∧B=List.replicate k true++(if k=4 then B2 else false :: B2)):=zaa (fun d0 cc hh=>by
        obtain ⟨e1,e2⟩:=hI.out d0 cc hh
        rw [if_neg (by omega)]
        rcases tk1 Bk with ⟨rfl,_⟩|⟨c1,rfl,_⟩|⟨c1,_,h2,_⟩
        · rw [e2] at hh
          rcases (show k=0∨k=1∨k=2∨k=3 by omega) with rfl|rfl|rfl|rfl <;> simp [List.replicate,rdD] at hh
        · obtain ⟨h7,h8⟩:=K2.out (by simp)
          refine ⟨by rw [h8,e1],?_⟩
          rw [e2,h7]
          rfl
        rw [h2] at hb;exact absurd hb (by omega))
       rw [hb]
       go_wp2_with fail
       go_meet
       exact ⟨k,B2,b2,by omega,rfl,Y2,C2,HX⟩
     have h1:tkV 1 Bk=1:=by
      rcases tk1 Bk with ⟨_,h2,_⟩|⟨c1,_,h2,_⟩|⟨c1,_,h2,_⟩
      · exact absurd h2 hb
      · exact absurd h2 hb
      exact h2
     have HX:Hid (∀d0 cc,rdD B=some (d0,cc)→b2=bad∧B=List.replicate (k+1) true++B2):=zaa (fun d0 cc hh=>by
      obtain ⟨e1,e2⟩:=hI.out d0 cc hh
      rcases tk1 Bk with ⟨_,h2,_⟩|⟨c1,_,h2,_⟩|⟨c1,rfl,_⟩
      · exact absurd h2 hb
      · exact absurd h2 hb
      obtain ⟨h7,h8⟩:=K2.out (by simp)
      refine ⟨by rw [h8,e1],?_⟩
      rw [e2,h7,List.replicate_succ']
      simp)
     rw [h1]
     clear hb h1
     go_wp2_with fail
     exact ⟨⟨k+1,B2,b2,by omega,by rw [Int.natCast_add];rfl,Y2,C2,HX⟩,by simp [intOf];omega⟩
   obtain rfl:k=4:=by omega
   rw [show ((4:Nat):Int)=4 from rfl]
   go_wp2_with fail
   go_meet
   exact ⟨4,Bk,bk,by omega,rfl,hY,hC,zaa (fun d0 cc hh=>by
    obtain ⟨e1,e2⟩:=hI.out d0 cc hh
    exact ⟨e1,by rw [if_pos rfl];exact e2⟩)⟩
 case rest=>
  rename World=>w2
  obtain ⟨k,Bk,bk,hk,rfl,hY,hC,hI⟩:=hcut
  by_cases hk0:k=0
  · subst hk0
    have FI:Hid (∀d0 cc,rdD B=some (d0,cc)→(0:Int)=d0∧Bk=cc∧bk=bad):=zaa (fun d0 cc hh=>by
     obtain ⟨e1,e2⟩:=hI.out d0 cc hh
     rw [e2] at hh
     simp only [List.replicate_zero,List.nil_append,if_neg (show ¬(0:Nat)=4 by omega),rdD] at hh
     injection hh with hh
     injection hh with h5 h6
     exact ⟨h5,h6,e1⟩)
    have CC:=zaa (C1.out.trans hC.out (fun _ _ e=>e))
    rw [show ((0:Nat):Int)=0 from rfl]
    go_wp2
    go_ret
    exact ⟨0,rfl,by unfold I64;omega,⟨Bk,bk,hY.out,FI.out⟩,CC.out⟩
  obtain ⟨kk,rfl⟩:∃kk,k=kk+1:=⟨k - 1,by omega⟩
  have hkk:kk<4:=by omega
  have hwd:wdK kk=7∨wdK kk=9∨wdK kk=12∨wdK kk=64:=by unfold wdK;split <;> (try split) <;> (try split) <;> simp
  have FI:Hid (∀d0 cc,rdD B=some (d0,cc)→wdK kk≤Bk.length∧sg (tkV (wdK kk) Bk) (wdK kk)=d0∧Bk.drop (wdK kk)=cc∧bk=bad):=zaa (fun d0 cc hh=>by
   obtain ⟨e1,e2⟩:=hI.out d0 cc hh
   have e3:B=List.replicate (kk+1) true++(if kk=3 then Bk else false :: Bk):=by
    rw [e2]
    congr 1
    by_cases h3:kk=3
    · rw [if_pos (by omega),if_pos h3]
    rw [if_neg (by omega),if_neg h3]
   obtain ⟨f1,f2,f3⟩:=rdD_ones hkk e3 hh
   exact ⟨f1,f2,f3,e1⟩)
  have CEL:Hid (∀wy,Chg (fun i=>i=r) w1 wy→wy.cell? ⟨gn,kk,none⟩=some (.int .i64 ((wdK kk:Nat):Int))):=zaa (fun wy hc=>by
   have:=(hc.blk HN1.out (by omega)).cell kk
   rw [this]
   rcases (show kk=0∨kk=1∨kk=2∨kk=3 by omega) with rfl|rfl|rfl|rfl <;> rfl)
  have hvl:=zd8 (n:=wdK kk) (B:=Bk) (by omega)
  have hsi:I64 (sg (tkV (wdK kk) Bk) (wdK kk)):=zfo (by omega)
  have SG:=zaa (fun wy=>signedD (tkV (wdK kk) Bk) (wdK kk) wy hvl (by omega))
  have GA:=zaa (fun wy (hy:YS wy r ad c l Bk bk)=>getD wy r c (wdK kk) ad l Bk bk hy (by omega))
  obtain ⟨wd,hwdE⟩:∃wd,wdK kk=wd:=⟨_,rfl⟩
  rw [hwdE] at hwd FI CEL hvl hsi SG GA
  obtain ⟨v,hv⟩:∃v,tkV wd Bk=v:=⟨_,rfl⟩
  rw [hv] at hvl hsi SG GA FI
  obtain ⟨dd,hdd⟩:∃dd,sg v wd=dd:=⟨_,rfl⟩
  rw [hdd] at hsi SG FI
  have hwd64:wd≤64:=by omega
  clear hwdE hv hdd
  have hkz:((kk+1:Nat):Int)=(kk:Int)+1:=by omega
  rw [hkz]
  have hkn:¬(kk:Int)+1=0:=by omega
  clear hkz
  go_upto_region 9 with fail
  refine d_r9 r gn kk wd v dd (fun wy=>YS wy r ad c l Bk bk∧Chg (fun i=>i=r) w1 wy) (fun wy=>(∃B' b',YS wy r ad c l B' b'∧(wd≤Bk.length→B'=Bk.drop wd∧b'=bk))∧Chg (fun i=>i=r) w1 wy) w2 _ _ (by rfl) (by rfl) (by rfl) (by rfl) (zds (by omega) (by omega)) (by omega) (by omega) ?_ ?_ ?_ (fun wy=>SG.out wy) ?_
  · exact ⟨hY.out.later ((Below.refl _ _).drew),hC.out.trans (Chg.drew (fun i=>i=r) w2) (fun _ _ e=>e)⟩
  · intro wy hh
    rcases hh with hh|hh <;> exact CEL.out wy hh.2
  · rintro wy ⟨h1,h2⟩
    refine (GA.out wy h1).mono ?_
    rintro e w3 ⟨rfl,⟨B',b',h3,h4,_⟩,h5⟩
    exact ⟨rfl,⟨B',b',h3,h4⟩,h2.trans h5 (fun _ _ e=>e)⟩
  intro v17 v18 v19 v20 v21 v22 v23 v24 v25 v26 v27 v28 v29 v2 w3 hI1 h29
  subst h29
  obtain ⟨⟨B',b',hy3,hk3⟩,hc3⟩:=hI1
  have FIN:Hid (XdP rdD w r c ad l B bad dd w3):=zaa ⟨⟨B',b',hy3,fun d0 cc hh=>by
   obtain ⟨f1,f2,f3,f4⟩:=FI.out d0 cc hh
   obtain ⟨g1,g2⟩:=hk3 f1
   exact ⟨f2,by rw [g1];exact f3,by rw [g2];exact f4⟩⟩,C1.out.trans hc3 (fun _ _ e=>e)⟩
  clear hy3 hk3 hc3 FI CEL SG GA hY hC hI
  simp only [Act.put,List.setIfInBounds_toArray,List.set_cons_succ,List.set_cons_zero]
  go_wp2
  go_ret
  exact ⟨dd,rfl,hsi,FIN.out⟩
theorem zeo {l:List Sm} (h:l≠[]):l.length≤4*(encC l).length:=by
 cases l with
 |nil=>exact absurd rfl h
 |cons s t=>
  have h1:=zbl (l:=s :: t) (by simp)
  have h2:=moB_ge t (tr0 s)
  have h3:(rowB (s :: t)).length=128+(moB (tr0 s) t).length:=by simp [rowB,fiB,zaq];omega
  simp only [List.length_cons] at h1 ⊢
  omega
theorem zel {b:List Int} {L:List Sm} (hb:Byte b) (hn:b≠[]) (h:rdR b=some L):
 L≠[]∧(∀x∈L,OkS x)∧encC L=b∧(Q.dec b).1=L.length∧∃pad,ub (b.drop (Q.dec b).2)=rowB L++pad:=by
 obtain ⟨h1,h2,h3⟩:=enc_rd hb h
 have hL:L≠[]:=fun e=>hn (h3 e)
 have hlen:L.length<18446744073709551616:=by
  have:=zeo hL
  rw [h1] at this
  have hd:=Q.dec_bound b hb
  unfold rdR at h
  rw [if_neg hn] at h
  split at h
  · cases h
  unfold rdB at h
  split at h
  · cases h
  split at h
  · cases h
  rename_i l' B3 h4
  split at h
  · injection h with h
    have h5:=(zf9 _ _ _ _ _ (tr0_ok (fiR_fiB (by assumption)).2) h4).1
    rw [←h,List.length_cons,h5]
    omega
  cases h
 have hE:b=Q.enc L.length++pk (rowB L):=by rw [←h1];unfold encC;rw [if_neg hL]
 have hd:Q.dec b=(L.length,Q.grp L.length+1):=by rw [hE];exact Q.dec_enc _ hlen _
 refine ⟨hL,h2,h1,by rw [hd],List.replicate (8*(pk (rowB L)).length - (rowB L).length) false,?_⟩
 rw [hd]
 have hdr:b.drop (Q.grp L.length+1)=pk (rowB L):=by rw [hE,←Q.enc_length,List.drop_left]
 show ub (b.drop (Q.grp L.length+1))=_
 rw [hdr,ub_rep (pk_rep _) (by rw [zc9];omega)]
theorem rowB_pre (l m:List Sm):∃t,rowB (l++m)=rowB l++t:=by
 cases l with
 |nil=>exact ⟨rowB m,rfl⟩
 |cons s t=>exact ⟨moB (trE (tr0 s) t) m,by show fiB s++moB (tr0 s) (t++m)=_;rw [zd1];simp [rowB]⟩
def DX (b:List Int) (T:List Bool) (i:Nat) (out:List Sm) (st:Int) (Bi:List Bool) (bi:Bool):Prop:=
 ∀L,rdR b=some L→bi=false∧out=L.take i∧st=(tl (L.take i)).st∧T=rowB (L.take i)++Bi
theorem DX.start (b:List Int) (T:List Bool):DX b T 0 [] 0 T false:=fun L _=>⟨rfl,rfl,rfl,rfl⟩
theorem DX.first {b:List Int} {T B1 B2:List Bool} {b1 b2:Bool} (hb:Byte b) (hn:b≠[]) (hT:T=ub (b.drop (Q.dec b).2)) (h1:64≤T.length→B1=T.drop 64∧b1=false) (h2:64≤B1.length→B2=B1.drop 64∧b2=b1):
 DX b T 1 [⟨wr (tkV 64 T:Nat),tkV 64 B1⟩] 0 B2 b2:=by
 intro L hL
 obtain ⟨k1,k2,k3,k4,pad,k5⟩:=zel hb hn hL
 cases L with
 |nil=>exact absurd rfl k1
 |cons s t=>
  have hs:=k2 s (by simp)
  have e:T=low (un s.t) 64++(low s.v 64++(moB (tr0 s) t++pad)):=by rw [hT,k5];simp [rowB,fiB]
  have l1:64≤T.length:=by rw [e];simp [zaq]
  obtain ⟨i1,i2⟩:=h1 l1
  have e1:B1=low s.v 64++(moB (tr0 s) t++pad):=by rw [i1,e,zb8]
  have l2:64≤B1.length:=by rw [e1];simp [zaq]
  obtain ⟨i3,i4⟩:=h2 l2
  have e2:B2=moB (tr0 s) t++pad:=by rw [i3,e1,zb8]
  have v1:tkV 64 T=un s.t:=by unfold tkV;rw [if_pos l1,e,zch,zed (by have:=un_lt s.t;omega)]
  have v2:tkV 64 B1=s.v:=by unfold tkV;rw [if_pos l2,e1,zch,zed (by have:=hs.v;omega)]
  refine ⟨by rw [i4,i2],?_,rfl,?_⟩
  · rw [v1,v2,wr_un hs.t];rfl
  rw [e,e2];simp [rowB,moB,fiB]
theorem DX.step {b:List Int} {T Bi B1 B2:List Bool} {bi b1 b2:Bool} {i:Nat} {out:List Sm} {st d:Int} {x:Nat} {y:Sm} (hb:Byte b) (hn:b≠[]) (hT:T=ub (b.drop (Q.dec b).2)) (h:DX b T (i+1) out st Bi bi) (hi:i+1<(Q.dec b).1) (hy:out[i]?=some y)
 (hD:∀d0 cc,rdD Bi=some (d0,cc)→d=d0∧B1=cc∧b1=bi) (hX:∀x0 cc,rdX B1=some (x0,cc)→x=x0∧B2=cc∧b2=b1):
 DX b T (i+1+1) (out++[⟨wr (y.t+wr (st+d)),y.v ^^^ x⟩]) (wr (st+d)) B2 b2:=by
 intro L hL
 obtain ⟨k1,k2,k3,k4,pad,k5⟩:=zel hb hn hL
 obtain ⟨j1,j2,j3,j4⟩:=h L hL
 rw [k4] at hi
 obtain ⟨z,hz⟩:∃z,L[i+1]?=some z:=⟨L[i+1],by simp [hi]⟩
 have hyL:L[i]?=some y:=by
  rw [j2,List.getElem?_take] at hy
  split at hy
  · exact hy
  cases hy
 have okz:=k2 z (List.mem_of_getElem? hz)
 have oky:=k2 y (List.mem_of_getElem? hyL)
 obtain ⟨s1,s2⟩:=tl_step hyL hz
 rw [←j3] at s1
 have hst:I64 st:=by rw [j3];exact (tl_ok (fun q hq=>k2 q (List.mem_of_mem_take hq))).s
 obtain ⟨t2,ht2⟩:=rowB_pre (L.take (i+1+1)) (L.drop (i+1+1))
 rw [List.take_append_drop] at ht2
 have hBi:Bi=drB (wr (wr (z.t - y.t) - st))++(flB (z.v ^^^ y.v)++(t2++pad)):=by
  have:rowB (L.take (i+1))++Bi=rowB (L.take (i+1))++(drB (wr (wr (z.t - y.t) - st))++(flB (z.v ^^^ y.v)++(t2++pad))):=by
   rw [←j4,hT,k5,ht2,s1]
   simp
  exact List.append_cancel_left this
 have hdr:I64 (wr (wr (z.t - y.t) - st)):=zbv _
 obtain ⟨d1,d2,d3⟩:=hD _ _ (by rw [hBi];exact rdD_drB hdr _)
 obtain ⟨x1,x2,x3⟩:=hX _ _ (by rw [d2];exact rdX_flB (xor_lt okz.v oky.v) _)
 have e1:wr (st+d)=wr (z.t - y.t):=by rw [d1];unfold I64 at hst;unfold wr;omega
 have e2:wr (y.t+wr (st+d))=z.t:=by
  rw [e1]
  have h3:=okz.t
  unfold I64 at h3
  unfold wr
  omega
 have e3:y.v ^^^ x=z.v:=by rw [x1,Nat.xor_comm z.v y.v,←Nat.xor_assoc,Nat.xor_self,Nat.zero_xor]
 refine ⟨by rw [x3,d3,j1],?_,by rw [e1,s2],?_⟩
 · rw [e2,e3,j2]
   exact zdj hz
 rw [hT,k5,ht2,x2]
 simp
theorem DX.bad {b:List Int} {T Bi:List Bool} {i:Nat} {out:List Sm} {st:Int} (h:DX b T i out st Bi true):rdR b=none:=by
 cases hr:rdR b with
 |none=>rfl
 |some L=>exact absurd (h L hr).1 (by simp)
theorem DX.done {b:List Int} {T Bi:List Bool} {bi:Bool} {i:Nat} {out:List Sm} {st:Int} (hb:Byte b) (hn:b≠[]) (h:DX b T i out st Bi bi) (hi:i=(Q.dec b).1) (ho:∀x∈out,OkS x) (hl:out.length<18446744073709551616):
 (bi=false∧encC out=b→rdR b=some out)∧(¬(bi=false∧encC out=b)→rdR b=none):=by
 refine ⟨fun hh=>by rw [←hh.2];exact rd_enc ho hl,fun hh=>?_⟩
 cases hr:rdR b with
 |none=>rfl
 |some L=>
  exfalso
  obtain ⟨k1,k2,k3,k4,_⟩:=zel hb hn hr
  obtain ⟨j1,j2,_⟩:=h L hr
  have:out=L:=by rw [j2,hi,k4,List.take_of_length_le (Nat.le_refl _)]
  exact hh ⟨j1,by rw [this];exact k3⟩
def EntB (E:List Int):Ent Lat:=⟨fun v w=>∃ad c',v=.slice ad E.length c'∧Sl w ad E.length E,fun _ _ _ h hb=>by obtain ⟨ad,c',h1,h2⟩:=h;exact ⟨ad,c',h1,h2.later hb⟩⟩
theorem read_r20 (r m c7 len cap:Nat) (a7 ad:Option Addr) (E b:List Int) (w:World) (a0:Act) (Q:Exit→Act→World→Prop) (hsz:a0.tmps.size=107)
 (s6:a0.tmps.getD 6 undef=.pointer (some ⟨r,0,none⟩))
 (s7:a0.tmps.getD 7 undef=.slice a7 m c7)
 (s0:a0.tmps.getD 0 undef=.slice ad len cap)
 (hbad:∀w1,Lat w w1→w1.cell? ⟨r,2,none⟩=some (.bool false))
 (hs2:∀w1,Lat w w1→(convert 84 9 (.slice ad len cap)).run Tryz.prog w1=.ok (.string (strOfNums b)) w1)
 (hen:∀wx,Lat w wx→Calls Tryz.prog 90 #[.slice a7 m c7] wx fun e w'=>∃ad c',e=.returned (.slice ad E.length c')∧Sl w' ad E.length E∧Lat wx w')
 (hQ:∀(v94 v95 v96 v97 v98 v99 v100 v101 v102 v103 v104 v105:Value) (w1:World),Lat w w1→v105=.bool ((strOfNums E).toList !=(strOfNums b).toList)→Q .normal ((((((((((((a0.put (some 94) v94).put (some 95) v95).put (some 96) v96).put (some 97) v97).put (some 98) v98).put (some 99) v99).put (some 100) v100).put (some 101) v101).put (some 102) v102).put (some 103) v103).put (some 104) v104).put (some 105) v105) w1):
 Code.wp Tryz.prog ((Tryz.f82.body.bind (zag 20)).getD .skip) Q a0 w:=by
 conv=>arg 2;whnf
 refine zay Lat (TE [Ent.val (.pointer (some ⟨r,0,none⟩)),Ent.val (.pointer (some ⟨r,0,none⟩)),Ent.val (.pointer (some ⟨r,2,none⟩)),Ent.val (.bool false),Ent.val (.bool false),Ent.val (.slice a7 m c7),EntB E,Ent.val (.string (strOfNums E)),Ent.val (.slice ad len cap),Ent.val (.string (strOfNums b)),Ent.val (.bool ((strOfNums E).toList !=(strOfNums b).toList)),Ent.val (.bool ((strOfNums E).toList !=(strOfNums b).toList))]) (by kernel_rfl) (by kernel_rfl) (by kernel_rfl) (by rw [hsz];kernel_rfl) (by kernel_rfl) Lat.refl Lat.trans (za4 _) (Lat.draw w) ?hop ?hdone
 case hdone=>
  intro a w1 hL hS hT
  have he:=zam hS
  rw [he]
  exact hQ (a.tmps.getD 94 undef) (a.tmps.getD 95 undef) (a.tmps.getD 96 undef) (a.tmps.getD 97 undef) (a.tmps.getD 98 undef) (a.tmps.getD 99 undef) (a.tmps.getD 100 undef) (a.tmps.getD 101 undef) (a.tmps.getD 102 undef) (a.tmps.getD 103 undef) (a.tmps.getD 104 undef) (a.tmps.getD 105 undef) w1 hL (hT 11 _ rfl)
 case hop=>
  intro i o hi
  have hlt:i<12:=(Array.getElem?_eq_some_iff.1 hi).1
  rcases (show i=0∨i=1∨i=2∨i=3∨i=4∨i=5∨i=6∨i=7∨i=8∨i=9∨i=10∨i=11 by omega) with rfl|rfl|rfl|rfl|rfl|rfl|rfl|rfl|rfl|rfl|rfl|rfl
  all_goals obtain rfl:=Option.some.inj hi
  all_goals clear hi hlt
  all_goals intro a w1 hL hS hD
  · exact zye rfl (by simp [execOp,Act.eval,zs hS s6,go_sem])
  · exact zye rfl (by simp [execOp,Act.eval,zde hD 0 94,go_sem])
  · exact zye rfl (by simp [execOp,Act.eval,zde hD 1 95,go_sem])
  · exact zye rfl (by simp [execOp,Act.eval,zde hD 2 96,hbad w1 hL,go_sem])
  · exact zye rfl (by simp [execOp,Act.eval,zde hD 3 97,go_sem])
  · exact zyge (zge hD 4 98) rfl (by simp [execOp,Act.eval,zs hS s7,go_sem])
  · have d4:=zge hD 4 98
    have d5:=zde hD 5 99
    refine zat (zas rfl rfl rfl d4) ?_
    refine zbb (f:=90) (args:=#[.slice a7 m c7]) (by simp [execOp,resolve,Act.eval,d5,go_sem]) ?_
    refine (hen w1 hL).mono ?_
    rintro e w2 ⟨ad5,c5,rfl,hs,b5⟩
    exact ⟨_,rfl,b5,ad5,c5,rfl,hs⟩
  · have d4:=zge hD 4 98
    have d6:=hD ⟨6,.data⟩ (by simp) rfl _ rfl
    refine zat (zas rfl rfl rfl d4) ?_
    obtain ⟨ad5,c5,h5,hs⟩:=d6
    have h7:a.tmps.getD 100 undef=.slice ad5 E.length c5:=h5
    have h6:a.tmps[100]?.getD undef=.slice ad5 E.length c5:=by simpa using h7
    have hc:=zav (P:=Tryz.prog) 84 5 9 Tryz.underlying84 Tryz.underlying5 Tryz.underlying9 (cap:=c5) hs
    exact zbu Lat.refl (.string (strOfNums E)) (by simp [execOp,Act.eval,h6,hc,go_sem]) rfl
  · exact zyge (zge hD 4 98) rfl (by simp [execOp,Act.eval,zs hS s0,go_sem])
  · exact zyge (zge hD 4 98) rfl (by simp [execOp,Act.eval,zde hD 8 102,hs2 w1 hL,go_sem])
  · exact zyge (zge hD 4 98) rfl (by simp [execOp,Act.eval,zde hD 7 101,zde hD 9 103,bne,go_sem])
  exact zye rfl (by simp [execOp,Act.eval,zde hD 4 98,zde hD 10 104,go_sem])
theorem read_r20t (r:Nat) (w:World) (a0:Act) (Q:Exit→Act→World→Prop) (hsz:a0.tmps.size=107)
 (s6:a0.tmps.getD 6 undef=.pointer (some ⟨r,0,none⟩))
 (hbad:∀w1,Lat w w1→w1.cell? ⟨r,2,none⟩=some (.bool true))
 (hQ:∀(v94 v95 v96 v97 v98 v99 v100 v101 v102 v103 v104:Value) (w1:World),Lat w w1→Q .normal ((((((((((((a0.put (some 94) v94).put (some 95) v95).put (some 96) v96).put (some 97) v97).put (some 98) v98).put (some 99) v99).put (some 100) v100).put (some 101) v101).put (some 102) v102).put (some 103) v103).put (some 104) v104).put (some 105) (.bool true)) w1):
 Code.wp Tryz.prog ((Tryz.f82.body.bind (zag 20)).getD .skip) Q a0 w:=by
 conv=>arg 2;whnf
 refine zay Lat (TV [.pointer (some ⟨r,0,none⟩),.pointer (some ⟨r,0,none⟩),.pointer (some ⟨r,2,none⟩),.bool true,.bool true,undef,undef,undef,undef,undef,undef,.bool true]) (by kernel_rfl) (by kernel_rfl) (by kernel_rfl) (by rw [hsz];kernel_rfl) (by kernel_rfl) Lat.refl Lat.trans (TV.stable _) (Lat.draw w) ?hop ?hdone
 case hdone=>
  intro a w1 hL hS hT
  have k105:a.tmps.getD 105 undef=.bool true:=hT 11 _ rfl _ rfl
  have he:=zam hS
  have hQ2:=hQ (a.tmps.getD 94 undef) (a.tmps.getD 95 undef) (a.tmps.getD 96 undef) (a.tmps.getD 97 undef) (a.tmps.getD 98 undef) (a.tmps.getD 99 undef) (a.tmps.getD 100 undef) (a.tmps.getD 101 undef) (a.tmps.getD 102 undef) (a.tmps.getD 103 undef) (a.tmps.getD 104 undef) w1 hL
  rw [←k105] at hQ2
  rw [he]
  exact hQ2
 case hop=>
  intro i o hi
  have hlt:i<12:=(Array.getElem?_eq_some_iff.1 hi).1
  rcases (show i=0∨i=1∨i=2∨i=3∨i=4∨i=5∨i=6∨i=7∨i=8∨i=9∨i=10∨i=11 by omega) with rfl|rfl|rfl|rfl|rfl|rfl|rfl|rfl|rfl|rfl|rfl|rfl
  all_goals obtain rfl:=Option.some.inj hi
  all_goals clear hi hlt
  all_goals intro a w1 hL hS hD
  · exact zy rfl (by simp [execOp,Act.eval,zs hS s6,go_sem])
  · exact zy rfl (by simp [execOp,Act.eval,zd hD 0 94,go_sem])
  · exact zy rfl (by simp [execOp,Act.eval,zd hD 1 95,go_sem])
  · exact zy rfl (by simp [execOp,Act.eval,zd hD 2 96,hbad w1 hL,go_sem])
  · exact zy rfl (by simp [execOp,Act.eval,zd hD 3 97,go_sem])
  · exact zn (zg hD 4 98)
  · exact zn (zg hD 4 98)
  · exact zn (zg hD 4 98)
  · exact zn (zg hD 4 98)
  · exact zn (zg hD 4 98)
  · exact zn (zg hD 4 98)
  exact zy rfl (by simp [execOp,Act.eval,zd hD 4 98,zd hD 10 104,go_sem])
theorem zdk {l m:List Int} (hl:Byte l) (hm:Byte m) (h:strOfNums l=strOfNums m):l=m:=by
 have h2:=congrArg (fun s:ByteArray=>s.data.toList) h
 simp only [strOfNums_data] at h2
 have hlen:l.length=m.length:=by simpa using congrArg List.length h2
 apply List.ext_getElem hlen
 intro i h1 h3
 have h4:=congrArg (fun s=>s[i]?) h2
 simp only [List.getElem?_map,List.getElem?_eq_getElem h1,List.getElem?_eq_getElem h3,Option.map_some,Option.some.injEq] at h4
 have b1:=hl _ (List.getElem_mem h1)
 have b2:=hm _ (List.getElem_mem h3)
 have h5:=congrArg UInt8.toNat h4
 simp only [UInt8.toNat_ofNat'] at h5
 omega
theorem str_neB {l m:List Int} (hl:Byte l) (hm:Byte m) (h:¬l=m):((strOfNums l).toList !=(strOfNums m).toList)=true:=by
 rw [bne_iff_ne]
 intro e
 apply h
 apply zdk hl hm
 rw [ByteArray.toList_eq,ByteArray.toList_eq] at e
 have e2:(strOfNums l).data=(strOfNums m).data:=by
  rw [←Array.toArray_toList (xs:=(strOfNums l).data),e]
 cases h1:strOfNums l
 cases h2:strOfNums m
 rw [h1,h2] at e2
 simp only at e2
 rw [e2]
theorem encC_byteD (l:List Sm) (h:l.length<18446744073709551616):Byte (encC l):=by
 unfold encC
 split
 · intro x hx;exact absurd hx (by simp)
 intro x hx
 rcases List.mem_append.1 hx with hx|hx
 · exact Q.enc_byte _ h x hx
 exact zgb _ x hx
theorem built69 (ad:Option Addr) (n c:Nat):Tryz.prog.built 164 [(0,.slice ad n c)]=some #[.slice ad n c,.int .i64 0,.bool false]:=by kernel_rfl
theorem zdf {wx:World} {v:Value} {n g b:Nat} {xs vs:List Value} (h:wx.ownsRow b 53 2 v n xs) (hB:Blk wx g 164 vs):∀i,v.ownBlock=some i→¬i=g:=by
 rintro i hi rfl
 rcases h.2 with ⟨rfl,_⟩|⟨g',cap,cur,rfl,_,hg,_⟩
 · exact absurd hi (by simp [Value.ownBlock])
 simp [Value.ownBlock] at hi
 subst hi
 have:=hB.symm.trans hg
 injection this with this
 injection this with _ h2 _
 exact absurd h2 (by decide)
structure RL (w wx:World) (r c2:Nat) (ad2:Option Addr) (b bs:List Int) (T:List Bool) (v:Value) (i:Nat) (out:List Sm) (st:Int) (Bi:List Bool) (bi:Bool):Prop where
 ys:YS wx r ad2 c2 bs Bi bi
 own:wx.ownsRow w.heap.size 53 2 v i (cS out)
 len:out.length=i
 ok:∀x∈out,OkS x
 ist:I64 st
 bel:Below w.heap.size w wx
 dx:DX b T i out st Bi bi
theorem step_pushM (w:World) {ops:Array Oper} {o:Oper} {a:Act} {K:Act→World→Prop} {Q:Exit→Act→World→Prop} {E:Prop} (hgd:o.guard=none) (s x:Operand)
 (ho:o.op=.call { callee:=.builtin .append,args:=#[s,x],argTypes:=#[46,46] }) (base:Nat) (v:Value) (n:Nat) (xs:List Sm) (hs:a.eval s=v) (w0:World) (hown:w0.ownsRow base 53 2 v n (cS xs)) (y:Sm)
 (hw:w=w0.alloc (.cells #[.int .i64 y.t,.int .u64 (y.v:Int)] 53)) (hx:a.eval x=.slice (some ⟨w0.heap.size,0,none⟩) 1 1) (hn:n≤1000000000) (hbase:base≤w0.heap.size)
 (h:∀g' c' w',w'.ownsRow base 53 2 (.slice (some ⟨g',0,none⟩) (n+1) c') (n+1) (cS (xs++[y]))→Below base w0 w'→Chg (fun i=>v.ownBlock=some i) w0 w'→K (a.put o.dst (.slice (some ⟨g',0,none⟩) (n+1) c')) w'):
 if Region.wanted o (yielded ops a.tmps)=true then Oper.wp Tryz.prog o a w K Q else E:=by
 subst hw
 obtain ⟨i0,hi0,hz0,hz1,hz2⟩:=info_parts info32
 refine zfp _ hgd s x 46 ho 53 i0 (.agg #[.int .i64 0,.int .u64 0]) 16 Tryz.underlying46 hi0 hz0 hz1 hz2 rfl base v n (cS xs) hs (hown.alloc _) ⟨w0.heap.size,0,none⟩ [.int .i64 y.t,.int .u64 (y.v:Int)] hx rfl (fun j u hu=>by
  have:=(Blk.new w0 53 [.int .i64 y.t,.int .u64 (y.v:Int)]).cell (0+j)
  rw [Addr.add_lit,this,Nat.zero_add]
  exact hu) (by intro u hu;simp at hu;rcases hu with rfl|rfl <;> rfl) (by unfold maxLen;omega) (by omega) (by simp;omega) ?_
 intro g' c' w' ho' hp'
 exact h g' c' w' (by rw [zbs];exact ho') (hp'.chg.1.below hbase (fun q hq=>(hown.lt q hq).1)) hp'.chg.1
theorem DX.first2 {b:List Int} {T Bi B1 B2:List Bool} {bi b1 b2:Bool} {st:Int} (hb:Byte b) (hn:b≠[]) (hT:T=ub (b.drop (Q.dec b).2)) (h:DX b T 0 [] st Bi bi) (h1:64≤Bi.length→B1=Bi.drop 64∧b1=bi) (h2:64≤B1.length→B2=B1.drop 64∧b2=b1):
 DX b T 1 [⟨wr (tkV 64 Bi:Nat),tkV 64 B1⟩] st B2 b2:=by
 intro L hL
 obtain ⟨j1,_,j3,j4⟩:=h L hL
 have e:T=Bi:=by rw [j4];rfl
 subst e
 have hst:st=0:=j3
 subst hst
 exact DX.first hb hn hT (fun hh=>by obtain ⟨i1,i2⟩:=h1 hh;exact ⟨i1,by rw [i2,j1]⟩) h2 L hL
theorem RL.ch {w wx wy:World} {r c2 i:Nat} {ad2:Option Addr} {b bs:List Int} {T Bi B':List Bool} {v:Value} {out:List Sm} {st:Int} {bi b':Bool} (h:RL w wx r c2 ad2 b bs T v i out st Bi bi) (hr:w.heap.size≤r) (hy:YS wy r ad2 c2 bs B' b') (hc:Chg (fun i=>i=r) wx wy):wy.ownsRow w.heap.size 53 2 v i (cS out)∧Below w.heap.size w wy:=by
 obtain ⟨t,_,hB,_⟩:=h.ys.blk
 exact ⟨hc.owns h.own (zdf h.own hB),h.bel.trans (hc.below h.bel.size (fun i hi=>by omega))⟩
theorem readD (w:World) (ad:Option Addr) (len cap:Nat) (b:List Int) (h:Sl w ad len b) (hl:len≤100000) (hlc:len≤cap) (hcm:cap≤9223372036854775807) (hno:ad=none→len=0∧cap=0):
 Calls Tryz.prog 82 #[.slice ad len cap] w (RdP w b):=by
 have HS:=zaa h
 have hlen:=h.len
 have HU:=zaa (Q.refUint_any ad len cap b w h (by omega))
 have hdb:=Q.dec_bound b h.byte
 by_cases h0:len=0
 · subst h0
   have HR:Hid (rdR b=some []):=zaa (by rw [List.eq_nil_of_length_eq_zero hlen];rfl)
   clear h hno hlen hdb HU
   go_enter Tryz.func82,Tryz.ntmps82
   go_wp2
   go_ret2
   exact ⟨none,0,[],0,rfl,World.ownsRow_nil _ _ _ _,by simp,Below.refl _ _,.inl ⟨HR.out,rfl⟩⟩
 have hbn:b≠[]:=fun e=>h0 (by rw [←hlen,e];rfl)
 have h0z:¬(len:Int)=0:=by omega
 obtain ⟨n,hn⟩:∃n,(Q.dec b).1=n:=⟨_,rfl⟩
 obtain ⟨k,hk⟩:∃k,(Q.dec b).2=k:=⟨_,rfl⟩
 rw [hn,hk] at HU
 have HNN:=zaa hn
 have HKK:=zaa hk
 rw [hn,hk] at hdb
 have HBN:=zaa hbn
 obtain ⟨bb,off,rfl,hbl,_⟩:=h.at (by omega)
 by_cases hg:k=0∨n=0∨4*len<n
 · have HR:Hid (rdR b=none):=zaa (by
    cases hr:rdR b with
    |none=>rfl
    |some L=>
     exfalso
     obtain ⟨k1,k2,k3,k4,_⟩:=zel HS.out.byte HBN.out hr
     have k5:=zeo k1
     rw [k3,hlen] at k5
     rw [HNN.out] at k4
     rcases hg with hg|hg|hg
     · have:=Q.decAt_nil b 0 0 (by show (Q.dec b).2=0;rw [HKK.out,hg])
       have h6:(Q.dec b).1=0:=this
       rw [HNN.out] at h6
       exact k1 (List.eq_nil_of_length_eq_zero (by omega))
     · exact k1 (List.eq_nil_of_length_eq_zero (by omega))
     omega)
   have hgz:(k:Int)=0∨(¬(k:Int)=0∧(n:Int)=0)∨(¬(k:Int)=0∧¬(n:Int)=0∧4*(len:Int)<(n:Int)):=by omega
   clear h hno hlen hg hn hk hbn
   rcases hgz with g1|⟨g1,g2⟩|⟨g1,g2,g3⟩
   all_goals
    go_enter Tryz.func82,Tryz.ntmps82
    go_wp2_with fail
    refine HU.out.mono ?_
    rintro e w1 ⟨rfl,rfl⟩
    go_wp2
    go_ret2
    exact ⟨none,0,[],100,rfl,World.ownsRow_nil _ _ _ _,by simp,Below.refl _ _,.inr ⟨HR.out,rfl,rfl⟩⟩
 have g1:¬(k:Int)=0:=by omega
 have g2:¬(n:Int)=0:=by omega
 have g3:¬4*(len:Int)<(n:Int):=by omega
 have CUT:=zaa (fun (ad:Option Addr) (hh:0<len - k→ad=some ⟨bb,off+k,none⟩)=>sl_tail HS.out (show k≤len by omega) hh)
 have hkl:k≤len:=by omega
 have hBL:(b.drop k).length=len - k:=by rw [List.length_drop,hlen]
 clear h hno hg hn hk hbn
 have gb1:((k:Int)==0)=false:=by simp;omega
 have gb2:((n:Int)==0)=false:=by simp;omega
 have gb3:decide (4*(len:Int)<(n:Int))=false:=by simp;omega
 go_enter Tryz.func82,Tryz.ntmps82
 go_wp2_with fail
 refine HU.out.mono ?_
 rintro e w1 ⟨rfl,rfl⟩
 go_upto_region 6 with fail
 go_cut [6] from 36 to 40 (fun s6 wx=>∃(r c2:Nat) (ad2:Option Addr),s6=.pointer (some ⟨r,0,none⟩)∧Hid (YS wx r ad2 c2 (b.drop k) (ub (b.drop k)) false)∧Hid (Below w1.heap.size w1 wx)∧Hid (w1.heap.size≤r∧∀z,ad2=some z→z.block<w1.heap.size))
 case first=>
  by_cases hck:cap=k
  · have hcl:len=cap:=by omega
    subst hck
    subst hcl
    have hBL0:(b.drop len).length=0:=by rw [hBL];omega
    have CUT0:Sl w1 (some ⟨bb,off,none⟩) 0 (b.drop len):=by have:=CUT.out (some ⟨bb,off,none⟩) (by intro hh;omega);rwa [Nat.sub_self] at this
    go_wp2_with (first
     |(refine wpList_build_to rfl 164 #[(0,.tmp 38)] rfl [(0,.slice (some ⟨bb,off,none⟩) 0 0)] #[.slice (some ⟨bb,off,none⟩) 0 0,.int .i64 0,.bool false] rfl (built69 _ _ _) ?_)
     |(refine zac rfl 164 (.tmp 39) rfl [.slice (some ⟨bb,off,none⟩) 0 0,.int .i64 0,.bool false] rfl ?_;intro w3 B3 bl3 hz3;have HB3:=zaa B3;have BL3:=zaa bl3;clear B3 bl3 hz3))
    go_meet
    refine ⟨w1.heap.size,_,_,rfl,zaa ⟨⟨0,by omega,by rw [hBL0];exact HB3.out,by rw [List.drop_zero]⟩,by rw [hBL0];exact CUT0.later BL3.out,fun z hz _ e=>?_,by rw [hBL0];omega⟩,BL3,zaa ⟨Nat.le_refl _,fun z hz=>?_⟩⟩
    · injection hz with hz
      subst hz
      simp only at e
      omega
    injection hz with hz
    subst hz
    exact hbl
  have hckz:¬(cap:Int)=(k:Int):=by omega
  go_wp2_with (first
   |(refine wpList_build_to rfl 164 #[(0,.tmp 38)] rfl [(0,.slice (some ⟨bb,off+k,none⟩) (len - k) (cap - k))] #[.slice (some ⟨bb,off+k,none⟩) (len - k) (cap - k),.int .i64 0,.bool false] rfl (built69 _ _ _) ?_)
   |(refine zac rfl 164 (.tmp 39) rfl [.slice (some ⟨bb,off+k,none⟩) (len - k) (cap - k),.int .i64 0,.bool false] rfl ?_;intro w3 B3 bl3 hz3;have HB3:=zaa B3;have BL3:=zaa bl3;clear B3 bl3 hz3))
  go_meet
  refine ⟨w1.heap.size,_,_,rfl,zaa ⟨⟨0,by omega,by rw [hBL];exact HB3.out,by rw [List.drop_zero]⟩,by rw [hBL];exact (CUT.out _ (by first|(intro _;rfl)|(intro hh;omega))).later BL3.out,fun z hz _ e=>?_,by rw [hBL];omega⟩,BL3,zaa ⟨Nat.le_refl _,fun z hz=>?_⟩⟩
  · injection hz with hz
    subst hz
    simp only at e
    omega
  injection hz with hz
  subst hz
  exact hbl
 case rest=>
  rename World=>w2
  obtain ⟨r,c2,ad2,rfl,hY,hB2,hR⟩:=hcut
  obtain ⟨T,hT⟩:∃T,ub (b.drop k)=T:=⟨_,rfl⟩
  have HT:Hid (T=ub (b.drop (Q.dec b).2)):=zaa (by rw [HKK.out,hT])
  rw [hT] at hY
  have hn4:n≤400000:=by omega
  generalize b.drop k=bs at*
  have RL0:Hid (RL w1 w2 r c2 ad2 b bs T (.slice none 0 0) 0 [] 0 T false):=zaa ⟨hY.out,World.ownsRow_nil _ _ _ _,rfl,by simp,by unfold I64;omega,hB2.out,DX.start b T⟩
  clear hY hB2 CUT HU hT hBL gb1 gb2 gb3 g1 g2 g3
  generalize ((k:Int)==0)=z1 at*
  generalize ((n:Int)==0)=z2 at*
  generalize decide (4*(len:Int)<(n:Int))=z3 at*
  go_upto_block 0 with fail
  go_cut [7,8,9,10,11,12,13] from 41 to 93 (fun v7 v8 v9 v10 v11 v12 v13 wx=>∃(i:Nat) (out:List Sm) (st:Int) (Bi:List Bool) (bi:Bool),(∃a7 c7,v7=.slice a7 i c7)∧i≤n∧(i=n∨bi=true)∧Hid (RL w1 wx r c2 ad2 b bs T v7 i out st Bi bi))
  case first=>
   go_wp2_with fail
   go_loopw [7,8,9,10,11,12,13] (fun v7 v8 v9 v10 v11 v12 v13 wx=>∃(i:Nat) (out:List Sm) (st:Int) (Bi:List Bool) (bi:Bool),(∃a7 c7,v7=.slice a7 i c7)∧v8=.int .i64 st∧v9=.int .i64 (i:Int)∧i≤n∧Hid (RL w1 wx r c2 ad2 b bs T v7 i out st Bi bi)) (fun _ _ v9 _ _ _ _ _=>n - (intOf v9).toNat)
   case atStart=>exact ⟨0,[],0,T,false,⟨_,_,rfl⟩,rfl,rfl,by omega,RL0⟩
   case round=>
    rename World=>wx
    obtain ⟨i,out,st,Bi,bi,⟨a7,c7,rfl⟩,rfl,rfl,hi,hP⟩:=hrel
    clear RL0
    obtain ⟨t,-,hBk,-⟩:=hP.out.ys.blk
    have cb:=hBk.cell 2
    simp at cb
    clear hBk
    by_cases hlt:i<n
    · have hltz:(i:Int)<(n:Int):=by omega
      cases bi with
      |true=>
       go_wp2_with fail
       go_meet
       exact ⟨i,out,st,Bi,true,⟨_,_,rfl⟩,by omega,.inr rfl,hP⟩
      |false=>
       by_cases hi0:i=0
       · subst hi0
         have ho:out=[]:=List.eq_nil_of_length_eq_zero hP.out.len
         subst ho
         rw [show ((0:Nat):Int)=0 from rfl]
         have G64:Hid (∀wq B1 b1,YS wq r ad2 c2 bs B1 b1→Calls Tryz.prog 97 #[.pointer (some ⟨r,0,none⟩),.int .i64 64] wq fun e w'=>e=.returned (.int .u64 (tkV 64 B1:Int))∧(∃B' bad',YS w' r ad2 c2 bs B' bad'∧(64≤B1.length→B'=B1.drop 64∧bad'=b1)∧(¬64≤B1.length→bad'=true))∧Chg (fun i=>i=r) wq w'):=zaa (fun wq B1 b1 h1=>getD wq r c2 64 ad2 bs B1 b1 h1 (by omega))
         go_wp2_with fail
         refine (G64.out wx Bi false hP.out.ys).mono ?_
         rintro e w3 ⟨rfl,⟨B3,b3,hY3,hk3,_⟩,hc3⟩
         have Y3:=zaa hY3
         have C3:=zaa hc3
         have K3:=zaa hk3
         clear hY3 hc3 hk3
         go_wp2_with fail
         refine (G64.out w3 B3 b3 Y3.out).mono ?_
         rintro e w4 ⟨rfl,⟨B4,b4,hY4,hk4,_⟩,hc4⟩
         have Y4:=zaa hY4
         have RC:=zaa (hP.out.ch hR.out.1 hY4 (C3.out.trans hc4 (fun _ _ e=>e)))
         have DX4:=zaa (DX.first2 HS.out.byte HBN.out HT.out hP.out.dx K3.out hk4)
         clear hY4 hk4 hc4
         have hv1:=zd8 (n:=64) (B:=Bi) (by omega)
         have hv2:=zd8 (n:=64) (B:=B3) (by omega)
         have hcv:IntKind.i64.wrap ((tkV 64 Bi:Nat):Int)=wr (tkV 64 Bi:Nat):=by
          rw [IntKind.wrap_i64]
          unfold wr
          rfl
         have HOKn:Hid (OkS ⟨wr (tkV 64 Bi:Nat),tkV 64 B3⟩):=zaa ⟨zbv _,hv2⟩
         rw [←hcv] at DX4 HOKn
         generalize hW:IntKind.i64.wrap ((tkV 64 Bi:Nat):Int)=W at*
         generalize tkV 64 B3=V2 at*
         clear hcv
         have hbs:=RC.out.2.size
         go_wp2_with (first
          |simp only [hW]
          |(refine wpList_build_to rfl 53 #[(0,.tmp 62),(1,.tmp 63)] rfl [(0,.int .i64 W),(1,.int .u64 (V2:Int))] #[.int .i64 W,.int .u64 (V2:Int)] rfl (built32 _ _ _ _ rfl rfl) ?_)
          |(refine zbo _ rfl (.tmp 60) (.tmp 65) rfl w1.heap.size (.slice a7 0 c7) 0 [] rfl w4 RC.out.1 ⟨W,V2⟩ rfl rfl (by omega) hbs ?_
            intro g9 c9 w9 o9 b9 ch9
            have O9:=zaa o9
            have B9:=zaa b9
            have CH9:=zaa ch9
            clear o9 b9 ch9))
         have RL9:Hid (RL w1 w9 r c2 ad2 b bs T (.slice (some ⟨g9,0,none⟩) (0+1) c9) (0+1) [⟨W,V2⟩] st B4 b4):=zaa (by
          obtain ⟨t4,q1,q2,q3⟩:=Y4.out.blk
          refine ⟨⟨⟨t4,q1,CH9.out.blk q2 (fun e=>zdf RC.out.1 q2 r e rfl),q3⟩,CH9.out.sl Y4.out.sl (fun z hz _ e=>?_),Y4.out.ne,Y4.out.len⟩,O9.out,rfl,?_,hP.out.ist,RC.out.2.trans B9.out,DX4.out⟩
          · have h1:=hR.out.2 z hz
            have h2:=(RC.out.1.lt z.block e).1
            omega
          intro y hy
          rw [List.mem_singleton.1 hy]
          exact HOKn.out)
         exact ⟨⟨0+1,_,st,B4,b4,⟨_,_,rfl⟩,rfl,rfl,by omega,RL9⟩,by simp [intOf];omega⟩
       obtain ⟨j,rfl⟩:∃j,i=j+1:=⟨i - 1,by omega⟩
       have hjz:((j+1:Nat):Int)=(j:Int)+1:=by omega
       rw [hjz]
       have hj0:¬(j:Int)+1=0:=by omega
       have hj1:(j:Int)+1<(n:Int):=by omega
       clear hjz hltz
       go_wp2_with fail
       refine (dD wx r c2 ad2 bs Bi false hP.out.ys).mono ?_
       rintro e w3 ⟨dd,rfl,hdi,⟨B3,b3,hY3,hk3⟩,hc3⟩
       have Y3:=zaa hY3
       have C3:=zaa hc3
       have K3:=zaa hk3
       unfold I64 at hdi
       clear hY3 hc3 hk3
       go_wp2_with fail
       refine (xD w3 r c2 ad2 bs B3 b3 Y3.out).mono ?_
       rintro e w4 ⟨xx,rfl,hxl,⟨B4,b4,hY4,hk4⟩,hc4⟩
       have Y4:=zaa hY4
       have RC:=zaa (hP.out.ch hR.out.1 hY4 (C3.out.trans hc4 (fun _ _ e=>e)))
       obtain ⟨y,hy⟩:∃y,out[j]?=some y:=⟨out[j]'(by rw [hP.out.len];omega),by simp [hP.out.len]⟩
       have DX4:=zaa (DX.step HS.out.byte HBN.out HT.out hP.out.dx (by rw [HNN.out];exact hlt) hy K3.out hk4)
       clear hY4 hk4 hc4
       obtain ⟨g0,o0,y',e0,_,hy',_,d0,d1,oky⟩:=(zan (by have:=RC.out.1;exact this) hP.out.ok).get (i:=j) (by rw [hP.out.len];omega)
       obtain rfl:y'=y:=by rw [hy] at hy';exact (Option.some.inj hy').symm
       have hist:=hP.out.ist
       unfold I64 at hist
       have hyt:=oky.t
       unfold I64 at hyt
       have hyv:=oky.v
       have hW1:=i64w (st+dd)
       have hee:I64 (wr (st+dd)):=zbv _
       have hW2:=i64w (y'.t+wr (st+dd))
       have hxor:=bits_xor_u64_nat y'.v xx hyv hxl
       have HOKn:Hid (OkS ⟨wr (y'.t+wr (st+dd)),y'.v ^^^ xx⟩):=zaa ⟨zbv _,xor_lt hyv hxl⟩
       have HEE:=zaa hee
       generalize wr (y'.t+wr (st+dd))=T2 at*
       generalize wr (st+dd)=ee at*
       generalize y'.v ^^^ xx=V2 at*
       have hwj:IntKind.i64.wrap (j:Int)=(j:Int):=zds (by omega) (by omega)
       have hjn:j<j+1:=by omega
       have hjn2:(j:Int)<(j:Int)+1:=by omega
       have hbs:=RC.out.2.size
       unfold I64 at hee
       subst e0
       go_upto_region 19 with fail
       go_region_law (first
        |(refine step_pushM _ (by rfl) (.tmp 74) (.tmp 92) (by rfl) w1.heap.size (.slice (some ⟨g0,o0,none⟩) (j+1) c7) (j+1) out (by rfl) w4.drew RC.out.1 ⟨T2,V2⟩ (by rfl) (by rfl) (by omega) hbs ?_
          intro g9 c9 w9 o9 b9 ch9
          have O9:=zaa o9
          have B9:=zaa b9
          have CH9:=zaa ch9
          clear o9 b9 ch9))
       all_goals
        go_wp2_with fail
        have RL9:Hid (RL w1 w9 r c2 ad2 b bs T (.slice (some ⟨g9,0,none⟩) (j+1+1) c9) (j+1+1) (out++[⟨T2,V2⟩]) ee B4 b4):=zaa (by
         obtain ⟨t4,q1,q2,q3⟩:=Y4.out.blk
         have CX:=(Chg.drew _ w4).trans CH9.out (fun _ _ e=>e)
         refine ⟨⟨⟨t4,q1,CX.blk q2 (fun e=>zdf RC.out.1 q2 r e rfl),q3⟩,CX.sl Y4.out.sl (fun z hz _ e=>?_),Y4.out.ne,Y4.out.len⟩,O9.out,by rw [List.length_append,hP.out.len];rfl,?_,HEE.out,RC.out.2.drew.trans B9.out,DX4.out⟩
         · have h1:=hR.out.2 z hz
           have h2:=(RC.out.1.lt z.block e).1
           omega
         intro y hy
         rcases List.mem_append.1 hy with hy|hy
         · exact hP.out.ok y hy
         rw [List.mem_singleton.1 hy]
         exact HOKn.out)
        exact ⟨⟨j+1+1,_,ee,B4,b4,⟨_,_,rfl⟩,rfl,by simp,by omega,RL9⟩,by simp [intOf];omega⟩
    have hge:¬(i:Int)<(n:Int):=by omega
    go_wp2_with fail
    go_meet
    exact ⟨i,out,st,Bi,bi,⟨_,_,rfl⟩,by omega,.inl (by omega),hP⟩
  case rest=>
   rename World=>wx
   obtain ⟨i,out,st,Bi,bi,⟨a7,c7,rfl⟩,hi,hor,hP⟩:=hcut
   clear RL0
   have hlo:=hP.out.len
   subst hlo
   obtain ⟨t,-,hBk,-⟩:=hP.out.ys.blk
   have cb:=hBk.cell 2
   simp at cb
   have HBk:=zaa hBk
   clear hBk
   cases bi with
   |true=>
    have HRN:=zaa hP.out.dx.bad
    go_upto_region 20 with fail
    refine read_r20t r wx _ _ (by rfl) (by rfl) (fun w5 h5=>by have:=(HBk.out.later h5).cell 2;simpa using this) ?_
    intro v94 v95 v96 v97 v98 v99 v100 v101 v102 v103 v104 w6 hL6
    have HL6:Hid (Below w1.heap.size w1 w6):=zaa (hP.out.bel.trans (hL6.mono hP.out.bel.size))
    clear hL6 cb HBk
    simp only [Act.put,List.setIfInBounds_toArray,List.set_cons_succ,List.set_cons_zero]
    go_wp2
    go_ret2
    exact ⟨none,0,[],100,rfl,World.ownsRow_nil _ _ _ _,by simp,HL6.out,.inr ⟨HRN.out,rfl,rfl⟩⟩
   |false=>
    have hin:out.length=n:=by
     rcases hor with hh|hh
     · exact hh
     exact absurd hh (by simp)
    have HD:=zaa (hP.out.dx.done HS.out.byte HBN.out (by rw [HNN.out];exact hin) hP.out.ok (by omega))
    have HEB:Hid (Byte (encC out)):=zaa (encC_byteD _ (by omega))
    go_upto_region 20 with fail
    refine read_r20 r out.length c7 len cap a7 (some ⟨bb,off,none⟩) (encC out) b wx _ _ (by rfl) (by rfl) (by rfl) (by rfl) (fun w5 h5=>by have:=(HBk.out.later h5).cell 2;simpa using this) (fun w5 h5=>zav (P:=Tryz.prog) 84 5 9 Tryz.underlying84 Tryz.underlying5 Tryz.underlying9 (cap:=cap) (HS.out.later (hP.out.bel.trans (h5.mono hP.out.bel.size)))) (fun w5 h5=>(encodeD w5 a7 out.length c7 out (zan (owl hP.out.own h5) hP.out.ok) rfl (by omega)).mono (by rintro e w6 ⟨ad6,c6,rfl,o6,b6⟩;exact ⟨ad6,c6,rfl,zbp o6 HEB.out,b6⟩)) ?_
    intro v94 v95 v96 v97 v98 v99 v100 v101 v102 v103 v104 v105 w6 hL6 h105
    have HO6:=zaa (owl hP.out.own hL6)
    have HL6:Hid (Below w1.heap.size w1 w6):=zaa (hP.out.bel.trans (hL6.mono hP.out.bel.size))
    clear hL6
    by_cases he:encC out=b
    · have HRS:=zaa (HD.out.1 ⟨rfl,he⟩)
      rw [he,show ((strOfNums b).toList !=(strOfNums b).toList)=false by simp] at h105
      subst h105
      clear he HD cb HBk
      simp only [Act.put,List.setIfInBounds_toArray,List.set_cons_succ,List.set_cons_zero]
      go_wp2
      go_ret2
      exact ⟨a7,c7,out,0,rfl,HO6.out,hP.out.ok,HL6.out,.inl ⟨HRS.out,rfl⟩⟩
    have HRS:=zaa (HD.out.2 (fun hh=>he hh.2))
    rw [str_neB HEB.out HS.out.byte he] at h105
    subst h105
    clear he HD cb HBk
    simp only [Act.put,List.setIfInBounds_toArray,List.set_cons_succ,List.set_cons_zero]
    go_wp2
    go_ret2
    exact ⟨none,0,[],100,rfl,World.ownsRow_nil _ _ _ _,by simp,HL6.out,.inr ⟨HRS.out,rfl,rfl⟩⟩
end Go.Proofs.YtlppibigceeimaaGreatDoor
