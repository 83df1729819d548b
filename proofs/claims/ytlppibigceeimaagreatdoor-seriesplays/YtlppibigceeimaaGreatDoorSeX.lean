import Derived.Test.YtlppibigceeimaaGreatDoorSeT
import Derived.Test.YtlppibigceeimaaGreatDoorMlR
set_option linter.unusedSimpArgs false
set_option linter.unusedVariables false
set_option maxHeartbeats 40000000
set_option maxRecDepth 100000
namespace Go.Proofs.YtlppibigceeimaaGreatDoor
open Go.RowKit
theorem Ck.pushS {D:Nat→Prop} {w1 w2 w3 w4:World} {base:Nat} {v:Value} {L:List (List Int)} {b:List Int} {ad:Option Addr} {n c g' c':Nat} (h:Ck w1 base v L D) (hB:base≤w1.heap.size) (hn:b.length=n)
 (s:Sl w2 ad n b) (hcap:n≤c∧c≤maxLen) (had:∀x,ad=some x→w1.heap.size≤x.block∧x.block<w2.heap.size) (b2:Below w1.heap.size w1 w2) (b3:Below w2.heap.size w2 w3) {xs:List Value}
 (hxs:w1.ownsRow base 84 1 v L.length xs∧∀(i:Nat) (b:List Int),L[i]?=some b→∃(ad:Option Addr) (c:Nat),xs[i]?=some (Value.slice ad b.length c)∧Sl w1 ad b.length b∧b.length≤c∧c≤maxLen∧(∀x,ad=some x→D x.block))
 (o4:w4.ownsRow base 84 1 (.slice (some ⟨g',0,none⟩) (L.length+1) c') (L.length+1) (xs++[.slice ad n c])) (hp:Pushed w3 w4 v g'):
 Ck w4 base (.slice (some ⟨g',0,none⟩) (L.length+1) c') (L++[b]) (fun i=>D i∨(w1.heap.size≤i∧∃x,ad=some x∧x.block=i))∧Chg (fun i=>v.ownBlock=some i) w1 w4∧Moved w1 v.ownBlock (some g'):=by
 subst hn
 have s2:=b2.size
 have s3:=b3.size
 have hvlt:=h.vlt
 have hb13:Below w1.heap.size w1 w3:=b2.trans (b3.mono s2)
 have hc4:Chg (fun i=>v.ownBlock=some i) w3 w4:=by
  rcases hp with ⟨h1,h2⟩|⟨h1,h2⟩
  · exact Chg.of_grown h2 (fun i hi=>by rw [h1];exact hi)
  exact Chg.of_grown h2 (fun i hi=>by cases hi)
 have hc:Chg (fun i=>v.ownBlock=some i) w1 w4:=(Chg.of_below (F:=fun i=>v.ownBlock=some i) hb13).trans hc4 (fun _ _ h=>h)
 have hmv:Moved w1 v.ownBlock (some g'):=by
  rcases hp with ⟨h1,h2⟩|⟨h1,h2⟩
  · exact .inl h1.symm
  exact .inr ⟨g',rfl,by omega⟩
 have hg':∀x,ad=some x→x.block≠g':=by
  intro x hx e
  rcases hp with ⟨h1,h2⟩|⟨h1,h2⟩
  · have:=(hvlt g' h1).2
    have:=(had x hx).1
    omega
  have:=(had x hx).2
  omega
 refine ⟨⟨?_,?_,xs++[.slice ad b.length c],?_,?_⟩,hc,hmv⟩
 · rintro i (hi|⟨hi,x,hx,rfl⟩)
   · exact ⟨(h.lt i hi).1,Nat.lt_of_lt_of_le (h.lt i hi).2 hc.size⟩
   exact ⟨by omega,Nat.lt_of_lt_of_le (had x hx).2 (Nat.le_trans s3 hc4.size)⟩
 · intro g hg
   obtain rfl:g'=g:=by simpa [Value.ownBlock] using hg
   rintro (hi|⟨hi,x,hx,e⟩)
   · rcases hmv with e|⟨g2,e,hg2⟩
     · exact h.off _ e.symm hi
     cases e
     have:=(h.lt _ hi).2
     omega
   exact hg' x hx e
 · rw [List.length_append]
   exact o4
 intro i b' hb'
 by_cases hi:i<L.length
 · rw [List.getElem?_append_left hi] at hb'
   obtain ⟨ad',c2,a1,a2,a3,a4,a5⟩:=hxs.2 i b' hb'
   have hxl:xs.length=L.length:=by have:=hxs.1.1;simpa using this
   exact ⟨ad',c2,by rw [List.getElem?_append_left (by omega)];exact a1,hc.sl a2 (fun x hx _ e=>h.off _ e (a5 x hx)),a3,a4,fun x hx=>.inl (a5 x hx)⟩
 have hi2:i=L.length:=by
  have:=(List.getElem?_eq_some_iff.1 hb').1
  rw [List.length_append] at this
  simp at this
  omega
 subst hi2
 simp at hb'
 subst hb'
 have hxl:xs.length=L.length:=by have:=hxs.1.1;simpa using this
 refine ⟨ad,c,by rw [←hxl];simp,?_,hcap.1,hcap.2,fun x hx=>.inr ⟨(had x hx).1,x,hx,rfl⟩⟩
 refine hc4.sl (s.later b3) (fun x hx _ e=>?_)
 have:=(hvlt _ e).2
 have:=(had x hx).1
 omega
theorem schunksP (o:ByteArray) (k:Int) (F:Nat→Prop) (S p n:Nat) (st:K.Sx) (Z:ByteArray→List En) (w:World) (h:SQ F w S p n st Z):
 Calls Tryz.prog 17 #[.pointer (some ⟨S,0,none⟩),.string o,.int .i64 k] w fun e w'=>CksP w w.heap.size ((gO (gF (enL (Z o) k).2)).map encC) e w':=by
 have hz:=h.sz
 have hen:=hz.en o k
 have hfew:=hz.few o k
 have hmem:=zbz (l:=Z o) (k:=k)
 obtain ⟨T,sh,R,G,h1,h2,h3,h4,h5⟩:=h
 have hn1:=h2.n1
 have hrow:=h1.slots o k (hz.key o)
 obtain ⟨a0,c0,hv⟩:=zal hrow
 have c1:w.cell? ⟨S,1,none⟩=some (.map (some T)):=h1.blk.cell 1
 have l1:=h1.lookT o
 have l2:=h1.lookS o k
 rw [hv] at hrow l2
 have HBI:=zaa (fun (s:Nat) (wx:World) (hb:Below w.heap.size w wx)=>bytesInP S _ (s:Int) G p n st wx (h1.blk.later hb) (h2.later hb) hz.small)
 have hlt:∀s∈(enL (Z o) k).1,s<n:=fun s hs=>by
  have:=(zdd k (hz.key o)).mem_iff (a:=s)
  exact ((hz.mem o s).1 (this.2 (List.mem_append.2 (.inl hs)))).1
 generalize enL (Z o) k=q9 at*
 obtain ⟨sl,A⟩:=q9
 simp only at*
 have HAT:Hid (∀(i s:Nat),sl[i]?=some s→∃d,K.atS st n (s:Int)=some (s,o,d)∧((gO (gF A)).map encC)[i]?=some (K.bts d)∧0<d.size):=zaa (fun i s hs=>by
  have h9:=hen.1.1
  have hi:=(List.getElem?_eq_some_iff.1 hs).1
  obtain ⟨g,hg⟩:∃g,(gO (gF A))[i]?=some g:=⟨(gO (gF A))[i]'(by omega),by simp⟩
  obtain ⟨d,e1,e2⟩:=hen.1.2 i s g hs hg
  refine ⟨d,?_,by rw [List.getElem?_map,hg,e2];rfl,?_⟩
  rotate_left
  · rw [←K.bts_length,e2,zbl (zcs (okG hen.2.2.1) g (List.mem_of_getElem? hg)).1]
    omega
  unfold K.atS
  have:=hlt s (List.mem_of_getElem? hs)
  rw [if_pos ⟨by omega,by omega⟩,Int.toNat_natCast,e1]
  rfl)
 have hLl:((gO (gF A)).map encC).length=sl.length:=by rw [List.length_map];exact hen.1.1.symm
 obtain ⟨L,hL⟩:∃L,(gO (gF A)).map encC=L:=⟨_,rfl⟩
 rw [hL] at HAT hLl ⊢
 obtain ⟨M,hM⟩:∃M,sl.length=M:=⟨_,rfl⟩
 rw [hM] at l2 hrow hfew hLl
 have HLl:=zaa (And.intro hLl hM)
 have HR:=zaa (zci hrow)
 have hM9:M≤65536:=by omega
 obtain ⟨i7,hi7,hz7,hs7,hb7⟩:=zcw
 clear h1 h2 h3 h4 h5 hz hen hfew hmem hn1 hrow hv hlt hL hLl hM
 generalize sh o=sho at*
 go_enter Tryz.func17,Tryz.ntmps17
 go_wp2_with fail
 go_loopw [7,19] (fun v7 v19 wx=>∃i:Nat,v19=.int .i64 (i:Int)∧i≤M∧Hid (∃D,Ck wx w.heap.size v7 (L.take i) D∧Below w.heap.size w wx)) (fun _ v19 _=>M - (intOf v19).toNat)
 case atStart=>exact ⟨0,rfl,by omega,zaa ⟨_,by rw [List.take_zero];exact Ck.nil w _,Below.refl _ _⟩⟩
 case round=>
  obtain ⟨i,rfl,hi,hI⟩:=hrel
  clear c1 l1 l2
  obtain ⟨D,ck,bw⟩:=hI.out
  obtain ⟨ad7,c7,hv7⟩:=ck.form
  subst hv7
  have hli:(L.take i).length=i:=by rw [List.length_take];have:=HLl.out.1;omega
  rw [hli] at ck ⊢
  have CK:=zaa ck
  have BW:=zaa bw
  by_cases hin:i<M
  · obtain ⟨s,hs⟩:∃s,sl[i]?=some s:=⟨sl[i]'(by have:=HLl.out.2;omega),by simp⟩
    obtain ⟨g,off,rfl,hlt,hcell⟩:=(HR.out.later bw).at' (by rintro rfl;simp at hs)
    have hcs:=hcell i s hs
    obtain ⟨d,hat,hLi,hd0⟩:=HAT.out i s hs
    have HA:=zaa (And.intro hat (And.intro hLi hd0))
    obtain ⟨xs,hxs⟩:=ck.row
    have OX2:=zaa hxs
    clear hI ck bw hcell hlt hs hat hLi hxs hd0
    go_wp2_with fail
    refine (HBI.out s wr BW.out).mono ?_
    rintro e w1 ⟨b1,hh⟩
    rcases hh with ⟨hno,_⟩|⟨i2,o2,d2,ga,cg,hat2,rfl,hga,hsl,hcg,hcg2⟩
    · rw [HA.out.1] at hno;cases hno
    have hd2:d=d2:=by rw [HA.out.1] at hat2;simp only [Option.some.injEq,Prod.mk.injEq] at hat2;exact hat2.2.2
    subst hd2
    obtain ⟨m,hm⟩:∃m,d.size=m:=⟨_,rfl⟩
    have HM:=zaa hm
    rw [hm] at hsl hcg ⊢
    have H1:=zaa (And.intro b1 (And.intro hga (And.intro hsl (And.intro hcg hcg2))))
    have hgt:ga<w1.heap.size:=hsl.lt _ rfl (by rw [←hm];exact HA.out.2.2)
    have HGT:=zaa hgt
    have B1:Hid (Below w.heap.size w w1):=zaa (BW.out.trans (b1.mono BW.out.size))
    have OX:Hid (∀wx,Below wr.heap.size wr wx→wx.ownsRow w.heap.size 84 1 (.slice ad7 i c7) i xs):=zaa (fun wx hb=>by have q:=owl OX2.out.1 hb;rw [hli] at q;exact q)
    have HLI:=zaa hli
    clear b1 hga hsl hcg hcg2 hat2 hm hgt hli
    go_wp2_with (refine zaw _ rfl (.tmp 23) (.tmp 27) 34 rfl 84 i7 (.slice none 0 0) 24 Tryz.underlying34 hi7 hz7 hs7 hb7 rfl w.heap.size (.slice ad7 i c7) i xs rfl (OX.out _ (H1.out.1.trans (((Below.refl _ _).alloc (Nat.le_refl _) _).mono H1.out.1.size))) ⟨w1.heap.size,0,none⟩ (.slice (some ⟨ga,0,none⟩) m cg) rfl ((Blk.new w1 84 [.slice (some ⟨ga,0,none⟩) m cg]).cell 0) rfl (by unfold maxLen;omega) (by omega) (by have:=B1.out.size;simp;omega) ?_;intro g5 c5 w5 o5 p5;have O5:=zaa (And.intro o5 p5);clear o5 p5)
    have HC:=zaa (Ck.pushS CK.out BW.out.size (by rw [K.bts_length];exact HM.out) H1.out.2.2.1 ⟨H1.out.2.2.2.1,by have:=H1.out.2.2.2.2;unfold maxLen;omega⟩ (fun x hx=>by cases hx;exact ⟨H1.out.2.1,HGT.out⟩) H1.out.1 ((Below.refl _ _).alloc (Nat.le_refl _) (.cells #[.slice (some ⟨ga,0,none⟩) m cg] 84)) OX2.out (by rw [HLI.out];exact O5.out.1) O5.out.2)
    have htk:L.take (i+1)=L.take i++[K.bts d]:=by rw [List.take_add_one,HA.out.2.1];rfl
    refine ⟨⟨i+1,by first|rfl|simp,by omega,zaa ⟨_,by rw [htk];rw [HLI.out] at HC;exact HC.out.1,BW.out.trans (HC.out.2.1.below BW.out.size (fun j hj=>(CK.out.vlt j hj).1))⟩⟩,?_⟩
    show M - ((i:Int)+1).toNat<M - (i:Int).toNat
    omega
  have e9:L.take i=L:=List.take_of_length_le (by have:=HLl.out.1;omega)
  rw [e9] at CK
  have hiM:i=M:=by omega
  have HI:=zaa hiM
  clear hI ck bw hiM e9
  go_wp2_with fail
  go_ret
  refine ⟨ad7,c7,D,?_,?_,BW.out⟩
  · rw [HLl.out.1,←HI.out];rfl
  rw [HLl.out.1,←HI.out];exact CK.out
theorem sum_rows (Zo:List En):(Zo.flatMap slF).length=(Zo.map fun e=>e.2.1.length).sum:=by
 induction Zo with
 |nil=>rfl
 |cons e Zo ih=>rw [List.flatMap_cons,List.length_append,ih,List.map_cons,List.sum_cons];rfl
def cntK (Zo:List En) (dn:List Int):Nat:=((Zo.filter fun e=>decide (e.1∈dn)).map fun e=>e.2.1.length).sum
theorem zfb:∀{Zo:List En} {dn:List Int} {e:En},Zo.Pairwise (fun p q=>¬p.1=q.1)→e∈Zo→¬e.1∈dn→cntK Zo (e.1 :: dn)=cntK Zo dn+e.2.1.length
 |[],dn,e,_,he,_=>by simp at he
 |x :: Zo,dn,e,h,he,hn=>by
  have h2:=List.pairwise_cons.1 h
  unfold cntK
  rcases List.mem_cons.1 he with rfl|he
  · have e1:(Zo.filter fun y=>decide (y.1∈e.1 :: dn))=Zo.filter fun y=>decide (y.1∈dn):=by
     refine List.filter_congr (fun y hy=>?_)
     have:=h2.1 y hy
     refine decide_eq_decide.2 ⟨fun hm=>?_,fun hm=>List.mem_cons.2 (.inr hm)⟩
     rcases List.mem_cons.1 hm with e9|hm
     · exact absurd e9.symm this
     exact hm
    rw [List.filter_cons_of_pos (by simp),List.filter_cons_of_neg (by simpa using hn),e1]
    simp only [List.map_cons,List.sum_cons]
    omega
  have ih:=zfb h2.2 he hn
  unfold cntK at ih
  have hxe:¬x.1=e.1:=h2.1 e he
  by_cases hx:x.1∈dn
  · rw [List.filter_cons_of_pos (by simp [hx]),List.filter_cons_of_pos (by simp [hx])]
    simp only [List.map_cons,List.sum_cons]
    omega
  rw [List.filter_cons_of_neg (by simp [hx,hxe]),List.filter_cons_of_neg (by simp [hx])]
  exact ih
theorem cntK_all {Zo:List En} {dn:List Int} (h:∀e∈Zo,e.1∈dn):cntK Zo dn=(Zo.flatMap slF).length:=by
 unfold cntK
 rw [List.filter_eq_self.2 (fun e he=>by simpa using h e he),sum_rows]
theorem cntK_le (Zo:List En) (dn:List Int):cntK Zo dn≤(Zo.flatMap slF).length:=by
 unfold cntK
 rw [sum_rows]
 induction Zo with
 |nil=>simp
 |cons e Zo ih=>
  by_cases h:e.1∈dn
  · rw [List.filter_cons_of_pos (by simpa using h)]
    simp only [List.map_cons,List.sum_cons]
    omega
  rw [List.filter_cons_of_neg (by simpa using h)]
  simp only [List.map_cons,List.sum_cons]
  omega
theorem sslotsP (o:ByteArray) (F:Nat→Prop) (S p n:Nat) (st:K.Sx) (Z:ByteArray→List En) (w:World) (h:SQ F w S p n st Z):
 Calls Tryz.prog 18 #[.pointer (some ⟨S,0,none⟩),.string o] w fun e w'=>e=.returned (.int .i64 (((Z o).flatMap slF).length:Int))∧Below w.heap.size w w':=by
 have hz:=h.sz
 have hused:=hz.used o
 obtain ⟨T,sh,R,G,h1,h2,h3,h4,h5⟩:=h
 have hn1:=h2.n1
 have hle:((Z o).flatMap slF).length≤65536:=by
  have h3:(K.setL st n o).length≤n:=by
   unfold K.setL
   have:=List.length_filterMap_le (fun i=>match st i with|some x=>if x.1=o then some ((i:Int),K.uV) else none|none=>none) (List.range n)
   rw [List.length_range] at this
   exact this
  omega
 have c1:w.cell? ⟨S,1,none⟩=some (.map (some T)):=h1.blk.cell 1
 have l1:=h1.lookT o
 cases hsh:sh o with
 |none=>
  rw [hsh] at l1
  have hz0:=h1.non o hsh
  rw [hz0]
  have r1:=run_range_nilMap (P:=Tryz.prog) w 95 3 92 Tryz.underlying95
  have r2:=run_next_nilMap (P:=Tryz.prog) w 0 0 0 #[]
  obtain ⟨w1,hw1⟩:∃w1,w.alloc (.mapIter none 0 #[] 0)=w1:=⟨_,rfl⟩
  rw [hw1] at r1 r2
  have b1:Below w.heap.size w w1:=by rw [←hw1];exact (Below.refl _ _).alloc (Nat.le_refl _) _
  have B1:=zaa b1
  clear hw1 h1 h2 h3 h4 h5 hz hused hn1 hle hz0 b1 hsh
  go_enter Tryz.func18,Tryz.ntmps18
  go_wp2_with fail
  go_loopw [5] (fun v5 wx=>v5=.int .i64 0∧wx=w1) (fun _ _=>0)
  case atStart=>exact ⟨rfl,rfl⟩
  case round=>
   obtain ⟨rfl,rfl⟩:=hrel
   go_wp2_with fail
   go_ret
   exact ⟨rfl,B1.out⟩
 |some sb=>
  rw [hsh] at l1
  obtain ⟨s1,s2⟩:=h1.set o sb hsh
  obtain ⟨w1,r1,m1,b1⟩:=s1.range (P:=Tryz.prog) Tryz.underlying95
  have HM1:=zaa m1
  have HB1:=zaa b1
  have HROW:=zaa (fun e (he:e∈Z o)=>h1.row o e he)
  have HKEY:=zaa (hz.key o)
  have hsl:=s1.lt
  clear m1 b1 h1 h2 h3 h4 h5 hz hused hn1 s1 hsh
  go_enter Tryz.func18,Tryz.ntmps18
  go_wp2_with fail
  go_loopw [5] (fun v5 wx=>∃c:Nat,v5=.int .i64 (c:Int)∧Hid (∃dn cnt,c=cntK (Z o) dn∧Mr K.K3 wx sb w.heap.size ((Z o).map fun e=>(e.1,R o e.1)) dn cnt∧Below w.heap.size w wx)) (fun _ wx=>wx.rangeLeft sb w.heap.size)
  case atStart=>exact ⟨0,rfl,zaa ⟨[],_,by unfold cntK;rw [List.filter_eq_nil_iff.2 (by simp)];rfl,HM1.out,HB1.out⟩⟩
  case round=>
   obtain ⟨c,rfl,hI⟩:=hrel
   obtain ⟨dn,cnt,hc,hM,hB⟩:=hI.out
   rcases hM.next (P:=Tryz.prog) K.kyI 0 with ⟨hall,hr⟩|⟨a,v,w2,cnt',hav,hnd,hcnt,hr,hM2,hc2,hent⟩
   · have HC:Hid (c=((Z o).flatMap slF).length):=zaa (by rw [hc];exact cntK_all (fun e he=>hall (e.1,R o e.1) (List.mem_map.2 ⟨e,he,rfl⟩)))
     have HB:=zaa hB
     clear hI hc hM hB hall
     go_wp2_with fail
     go_ret
     exact ⟨by rw [←HC.out];rfl,HB.out⟩
   obtain ⟨e,he,hev⟩:=List.mem_map.1 hav
   simp only [Prod.mk.injEq] at hev
   obtain ⟨rfl,rfl⟩:=hev
   obtain ⟨ade,ce,hve⟩:=zal (HROW.out e he)
   rw [hve] at hr hent
   have hck:=zfb (dn:=dn) HKEY.out he hnd
   have hle2:=cntK_le (Z o) (e.1 :: dn)
   rw [hck,←hc] at hle2
   have HE:Hid (∃dn cnt,c+e.2.1.length=cntK (Z o) dn∧Mr K.K3 w2 sb w.heap.size ((Z o).map fun e=>(e.1,R o e.1)) dn cnt∧Below w.heap.size w w2):=zaa ⟨e.1 :: dn,cnt',by rw [hck,hc],hM2,hB.trans (hc2.below hB.size (fun i hi=>by rw [hi];exact Nat.le_refl _))⟩
   have HL:Hid (w2.rangeLeft sb w.heap.size<wr.rangeLeft sb w.heap.size):=zaa (by rw [hM2.left,hM.left];exact hcnt)
   obtain ⟨q,hq⟩:∃q,e.2.1.length=q:=⟨_,rfl⟩
   rw [hq] at hr hent HE hle2
   unfold K.K3 at hr hent
   clear hI hc hM hB hav hnd hcnt hM2 hc2 hck hve hq
   go_wp2_with fail
   refine ⟨⟨c+q,by first|rfl|simp,zaa HE.out⟩,HL.out⟩
theorem res_last (tmps:Array Value) (w:World) (g:Nat) (a b c:Value) (hp:tmps.getD 6 undef=.pointer (some ⟨g,0,none⟩)) (hc:tmps.getD 7 undef=c) (h0:w.cell? ⟨g,0,none⟩=some a) (h1:w.cell? ⟨g,1,none⟩=some b) (ha:a.oneCell'=true) (hb:b.oneCell'=true):
 (results Tryz.f16 tmps).run Tryz.prog w=.ok (.tuple #[.agg #[a,b],c]) w:=by
 have h:Tryz.f16.results=#[.cell 6 53,.tmp 7]:=by kernel_rfl
 have hp':tmps[6]?.getD undef=.pointer (some ⟨g,0,none⟩):=by simpa using hp
 have hc':tmps[7]?.getD undef=c:=by simpa using hc
 simp [results,h,hp',hc',asAddr,loadVar,h0,h1,go_sem]
theorem info35:(Tryz.prog.info? 53).map (fun i=>i.zero.map (·.cells))=some (some [Value.int .i64 0,.int .u64 0].toArray):=by kernel_rfl
theorem lastP (o:ByteArray) (k:Int) (F:Nat→Prop) (S p n:Nat) (st:K.Sx) (Z:ByteArray→List En) (w:World) (h:SQ F w S p n st Z) (hG:Gv w) (hlo:2≤w.heap.size):
 Calls Tryz.prog 16 #[.pointer (some ⟨S,0,none⟩),.string o,.int .i64 k] w fun e w'=>e=.returned (.tuple #[.agg #[.int .i64 ((enL (Z o) k).2.getLast?.getD z0).t,.int .u64 (((enL (Z o) k).2.getLast?.getD z0).v:Int)],.bool (!(enL (Z o) k).2.isEmpty)])∧Below w.heap.size w w':=by
 have hz:=h.sz
 have hen:=hz.en o k
 have HO:=zaa (fun (wx:World) (hb:Below w.heap.size w wx)=>openP o k F S p n st Z wx (h.later hb) (hG.later hb) (Nat.le_trans hlo hb.size))
 generalize enL (Z o) k=q9 at*
 obtain ⟨sl,A⟩:=q9
 simp only at*
 have hokg:=okG hen.2.2.1
 have hris:=(ris_open (l:=[]) hen.2.2.1 hen.2.1).1
 have hnil:=zcy hen.2.2.1
 have hfl:(gF A).1.flatten++(gF A).2=A:=by rw [←zd3];exact zbd A
 have hla:A.getLast?.getD z0=(gF A).2.getLast?.getD z0∧(!A.isEmpty)=(!(gF A).2.isEmpty):=by
  by_cases h0:(gF A).2=[]
  · have:A=[]:=hnil.1 h0
    rw [h0,this]
    exact ⟨rfl,rfl⟩
  have hA:A≠[]:=fun e=>h0 (hnil.2 e)
  refine ⟨?_,by cases hq1:A with|nil=>exact absurd hq1 hA|cons a b=>(cases hq2:(gF (a :: b)).2 with|nil=>(rw [hq1] at h0;exact absurd hq2 h0)|cons c d=>rfl)⟩
  have e1:A.getLast?=(gF A).2.getLast?:=by
   rw [←hfl,List.getLast?_append]
   cases e:(gF A).2.getLast? with
   |none=>exact absurd (List.getLast?_eq_none_iff.1 e) h0
   |some x=>rw [hfl,e];rfl
  rw [e1]
 rw [hla.1,hla.2]
 obtain ⟨op,hop⟩:∃op,(gF A).2=op:=⟨_,rfl⟩
 have hok2:∀x∈op,OkS x:=by rw [←hop];exact hokg.ok2
 have hfew:op.length≤1000:=by rw [←hop];exact za8 hokg.fit2
 rw [hop] at HO hris ⊢
 have HR:=zaa hris
 have HK:=zaa hok2
 clear h hz hen hG hlo hokg hris hnil hfl hla hop hok2
 go_enter Tryz.func16,Tryz.ntmps16
 go_wp2_with (first
  |(refine zap rfl 53 rfl 6 rfl [.int .i64 0,.int .u64 0] info35 ?_;intro w1 B1 bl1 hz1;have HB1:=zaa B1;have BL1:=zaa bl1;clear B1 bl1)
  |(refine zap rfl 98 rfl 8 rfl (riC z0 false) info75 ?_;intro w2 B2 bl2 hz2;have HB2:=zaa B2;have BL2:=zaa bl2;clear B2 bl2))
 have B02:Hid (Below w.heap.size w w2):=zaa (BL1.out.trans (BL2.out.mono BL1.out.size))
 refine (HO.out w2 B02.out).mono ?_
 rintro e w3 ⟨ad1,c1,rfl,o1,k1,b1⟩
 have S1:=zaa (zan o1 HK.out)
 have B3:=zaa b1
 have hadl:∀x,ad1=some x→w2.heap.size≤x.block:=by
  intro x hx
  rcases o1.2 with ⟨e0,_⟩|⟨g9,cap,cur,e0,hg9,_⟩
  · simp only [Value.slice.injEq] at e0
    rw [e0.1] at hx;cases hx
  simp only [Value.slice.injEq] at e0
  rw [e0.1] at hx
  cases hx
  exact hg9
 have HAD:=zaa hadl
 clear o1 k1 b1 hadl
 obtain ⟨M,hM⟩:∃M,op.length=M:=⟨_,rfl⟩
 have HM:=zaa hM
 rw [hM] at hfew ⊢
 clear hM
 go_wp2_with fail
 have HB3:Hid (Blk w3 (w.heap.size+1) 98 (riC z0 false)):=zaa (by have q:=HB2.out;rw [hz1] at q;exact q.later B3.out)
 refine (zeq w3 (w.heap.size+1) (z0,false) ad1 M c1 op HB3.out S1.out HM.out (by omega) (fun x hx h0 e=>by
  have:=HAD.out x hx
  omega)).mono ?_
 rintro e w4 ⟨rfl,t4,g4⟩
 have hrf:=zdn op
 rw [decide_eq_true HR.out] at hrf
 rw [hrf.2 hrf.1] at t4
 have c0:w4.cell? ⟨w.heap.size+1,0,none⟩=some (.int .i64 (op.getLast?.getD z0).t):=t4.cell 0
 have c2:w4.cell? ⟨w.heap.size+1,1,none⟩=some (.int .u64 ((op.getLast?.getD z0).v:Int)):=t4.cell 1
 have c3:w4.cell? ⟨w.heap.size+1,2,none⟩=some (.bool (!op.isEmpty)):=t4.cell 2
 have hB4:Blk w4 w.heap.size 53 [.int .i64 0,.int .u64 0]:=g4.blk ((HB1.out.later BL2.out).later B3.out) (by omega)
 have HB4:=zaa hB4
 have d0:w4.cell? ⟨w.heap.size,0,none⟩=some (.int .i64 0):=hB4.cell 0
 have d1:w4.cell? ⟨w.heap.size,1,none⟩=some (.int .u64 0):=hB4.cell 1
 have f0:=hB4.frozen 0
 have f1:=hB4.frozen 1
 have hlt1:=hB4.lt
 have hlt2:=t4.lt
 have B4:Hid (Below w.heap.size w w4):=zaa ((B02.out.trans (B3.out.mono B02.out.size)).trans (g4.below (Nat.le_trans B02.out.size B3.out.size) (fun i hi=>by rw [hi];omega)))
 clear t4 g4 hB4 hrf
 generalize (zau riS op (z0,false)).1=rr
 obtain ⟨lt,hlt⟩:∃lt,(op.getLast?.getD z0).t=lt:=⟨_,rfl⟩
 obtain ⟨lv,hlv⟩:∃lv,(op.getLast?.getD z0).v=lv:=⟨_,rfl⟩
 obtain ⟨lb,hlb⟩:∃lb,(!op.isEmpty)=lb:=⟨_,rfl⟩
 rw [hlt] at c0
 rw [hlv] at c2
 rw [hlb] at c3
 have HV:=zaa (And.intro hlt (And.intro hlv hlb))
 clear hlt hlv hlb
 go_wp2_with fail
 go_region
 have hN:=((HB4.out.set 0 (.int .i64 lt)).set 1 (.int .u64 (lv:Int))).drew
 obtain ⟨w9,hw9⟩:∃w9,((w4.setCell ⟨w.heap.size,0,none⟩ (.int .i64 lt)).setCell ⟨w.heap.size,1,none⟩ (.int .u64 (lv:Int))).drew=w9:=⟨_,rfl⟩
 rw [hw9] at hN ⊢
 have HN:=zaa hN
 have B9:Hid (Below w.heap.size w w9):=zaa (by
  rw [←hw9]
  exact B4.out.trans ((((Chg.set ⟨w.heap.size,0,none⟩ (.int .i64 lt) w4).below B4.out.size (fun i hi=>by rw [hi];exact Nat.le_refl _)).trans ((Chg.set ⟨w.heap.size,1,none⟩ (.int .u64 (lv:Int)) _).below (by simp [World.setCell];omega) (fun i hi=>by rw [hi];exact Nat.le_refl _))).drew))
 clear hN hw9
 go_wp2_with fail
 refine bodyPost_ret (res_last _ _ w.heap.size (.int .i64 lt) (.int .u64 (lv:Int)) (.bool lb) rfl rfl (HN.out.cell 0) (HN.out.cell 1) rfl rfl) rfl ?_
 exact ⟨by rw [HV.out.1,HV.out.2.1,HV.out.2.2],B9.out⟩
theorem res_sam (tmps:Array Value) (w:World) (g:Nat) (a b:Value) (hp:tmps.getD 4 undef=.pointer (some ⟨g,0,none⟩)) (h0:w.cell? ⟨g,0,none⟩=some a) (h1:w.cell? ⟨g,1,none⟩=some b) (ha:a.oneCell'=true) (hb:b.oneCell'=true):
 (results Tryz.f13 tmps).run Tryz.prog w=.ok (.agg #[a,b]) w:=by
 have h:Tryz.f13.results=#[.cell 4 53]:=by kernel_rfl
 have hp':tmps[4]?.getD undef=.pointer (some ⟨g,0,none⟩):=by simpa using hp
 simp [results,h,hp',asAddr,loadVar,h0,h1,go_sem]
theorem zbt (t v:Int) (w:World):Calls Tryz.prog 13 #[.int .i64 t,.int .u64 v] w fun e w'=>e=.returned (.agg #[.int .i64 t,.int .u64 v])∧Below w.heap.size w w':=by
 go_enter Tryz.func13,Tryz.ntmps13
 go_wp2_with fail
 have hN:=Blk.new w 53 [.int .i64 t,.int .u64 v]
 refine bodyPost_ret (res_sam _ _ w.heap.size (.int .i64 t) (.int .u64 v) rfl (hN.cell 0) (hN.cell 1) rfl rfl) rfl ?_
 exact ⟨rfl,(Below.refl _ _).alloc (Nat.le_refl _) _⟩
def relN (st:K.Sx) (gv:List Nat):K.Sx:=fun j=>if j∈gv then none else st j
theorem relN_nil (st:K.Sx):relN st []=st:=by funext j;simp [relN]
theorem relN_cons (st:K.Sx) (gv:List Nat) (i:Nat):K.upS (relN st gv) i none=relN st (gv++[i]):=by
 funext j
 unfold K.upS relN
 by_cases h:j=i
 · simp [h]
 simp [h]
def rmZ (Z:ByteArray→List En) (o:ByteArray):ByteArray→List En:=fun o'=>if o'=o then [] else Z o'
theorem SZ.drop {n:Nat} {st:K.Sx} {Z:ByteArray→List En} (h:SZ n st Z) (o:ByteArray) {gv:List Nat} (hg:∀i,i∈gv↔i∈(Z o).flatMap slF):SZ n (relN st gv) (rmZ Z o):=by
 have hin:∀i,i∈gv↔i<n∧∃d,st i=some (o,d):=fun i=>(hg i).trans (h.mem o i)
 have hoth:∀o',¬o'=o→∀i d,relN st gv i=some (o',d)↔st i=some (o',d):=by
  intro o' ho i d
  unfold relN
  by_cases hi:i∈gv
  · rw [if_pos hi]
    obtain ⟨_,d2,e⟩:=(hin i).1 hi
    rw [e]
    constructor
    · intro e2;cases e2
    intro e2;cases e2;exact absurd rfl ho
  rw [if_neg hi]
 refine ⟨?_,?_,?_,?_,?_⟩
 · intro o'
   unfold rmZ
   split
   · exact List.Pairwise.nil
   exact h.key o'
 · intro o' e he
   unfold rmZ at he
   split at he
   · simp at he
   next ho=>
   refine (h.each o' e he).same (fun s hs=>?_)
   obtain ⟨_,d,e2⟩:=(h.mem o' s).1 (List.mem_flatMap.2 ⟨e,he,hs⟩)
   rw [e2]
   exact (hoth o' ho s d).2 e2
 · intro o'
   unfold rmZ
   split
   · simp
   exact h.nd o'
 · intro o' i
   unfold rmZ
   split
   · next ho=>
     subst ho
     simp only [List.flatMap_nil,List.not_mem_nil,false_iff]
     rintro ⟨h1,d,h2⟩
     unfold relN at h2
     split at h2
     · cases h2
     next h3=>exact h3 ((hin i).2 ⟨h1,d,h2⟩)
   next ho=>
   rw [h.mem o' i]
   constructor
   · rintro ⟨h1,d,h2⟩
     exact ⟨h1,d,(hoth o' ho i d).2 h2⟩
   rintro ⟨h1,d,h2⟩
   exact ⟨h1,d,(hoth o' ho i d).1 h2⟩
 intro i o' d e
 unfold relN at e
 split at e
 · cases e
 exact h.small i o' d e
structure DM (w:World) (p n:Nat) (G:Nat→Prop) (st:K.Sx) (gv:List Nat) (r:Nat) (wx:World):Prop where
 pool:∃Gx,K.PQ Gx wx p n (relN st gv)∧∀i,Gx i→G i∨(w.heap.size≤i∧i≠r)
 chg:Chg (fun j=>G j∨j=r) w wx
 lt:r<wx.heap.size
 ge:w.heap.size≤r
theorem DM.give {w:World} {p n:Nat} {G:Nat→Prop} {st:K.Sx} {gv:List Nat} {r:Nat} {wx:World} (h:DM w p n G st gv r wx) {s:Nat} {o d:ByteArray} (hn:s<n) (hs:st s=some (o,d)) (hg:s∉gv):
 Calls Tryz.prog 43 #[.pointer (some ⟨p,0,none⟩),.int .i64 (s:Int)] wx fun e w2=>e=.returned (.int .i64 0)∧DM w p n G st (gv++[s]) r w2∧Chg (fun i=>G i∨(w.heap.size≤i∧i≠r)) wx w2:=by
 obtain ⟨Gx,h1,h2⟩:=h.pool
 have e:K.giveS (relN st gv) n (s:Int)=(0,relN st (gv++[s])):=by
  unfold K.giveS K.atS
  rw [if_pos ⟨by omega,by omega⟩,Int.toNat_natCast]
  have:relN st gv s=some (o,d):=by unfold relN;rw [if_neg hg];exact hs
  rw [this]
  simp only [Option.map_some]
  rw [←relN_cons]
 refine (K.giveX (s:Int) Gx p n (relN st gv) wx h1).mono ?_
 rw [e]
 rintro e w2 ⟨rfl,F',k1,k2,k3⟩
 refine ⟨rfl,⟨⟨F',k1,fun i hi=>?_⟩,h.chg.trans k2 (fun i hi e=>?_),Nat.lt_of_lt_of_le h.lt k2.size,h.ge⟩,k2.mono (fun i _ e=>h2 i e)⟩
 · rcases k3 i hi with e|e
   · exact h2 i e
   have:=h.chg.size
   have:=h.lt
   exact .inr ⟨by omega,by omega⟩
 rcases h2 i e with e|⟨e,_⟩
 · exact .inl e
 omega
def DpP (F:Nat→Prop) (w:World) (S p n:Nat) (st:K.Sx) (Z:ByteArray→List En) (o:ByteArray) (w':World):Prop:=
 ∃F' gv,SQ F' w' S p n (relN st gv) (rmZ Z o)∧Chg F w w'∧K.Nw w F F'∧∀i,i∈gv↔i∈(Z o).flatMap slF
theorem dp_end {F:Nat→Prop} {w wx wz:World} {S p n T r:Nat} {st:K.Sx} {Z:ByteArray→List En} {sh:ByteArray→Option Nat} {R:ByteArray→Int→Value} {G:Nat→Prop} {o:ByteArray} {gv:List Nat} {lo:List (ByteArray×Value)}
 (hst:Stm w S p T sh R Z) (hG:∀i,G i→¬SFp T sh R Z i) (hF:∀i,F i↔(SFp T sh R Z i∨G i)) (hZ:SZ n st Z) (hP0:K.PQ G w p n st) (hD:DM w p n G st gv r wx) (hgv:∀i,i∈gv↔i∈(Z o).flatMap slF)
 (hlo:∀o,al lo o=(sh o).map fun sb=>Value.map (some sb)) (htop:Ml Value.string wz T (rm lo o)) (hcz:Chg (fun i=>i=T) wx wz):DpP F w S p n st Z o wz:=by
 obtain ⟨Gx,hp,hnw⟩:=hD.pool
 have hcx:=hD.chg
 have hr:=hD.ge
 have hszx:=hcx.size
 have hTlt:T<w.heap.size:=(hst.tag (.inl rfl)).1
 have hTtag:∀t,¬Tg w T t:=by obtain ⟨lo,l1,_⟩:=hst.top;exact l1.tg
 have hn1:∀i,SFp T sh R Z i→¬(G i∨i=r):=by
  rintro i hi (e|e)
  · exact hG i e hi
  have:=(hst.tag hi).1;omega
 have hSn:¬(G S∨S=r):=by
  rintro (e|e)
  · have:=hP0.tag e 75 hst.blk.tg;cases this
  have:=hst.blk.lt;omega
 have hST:¬S=T:=fun e=>hTtag 75 (e▸hst.blk.tg)
 have hpT:¬p=T:=fun e=>hTtag 69 (e▸hP0.own)
 have hGxT:∀i,Gx i→¬i=T:=by
  rintro i hi rfl
  rcases hnw i hi with e|⟨e,_⟩
  · exact hG i e (.inl rfl)
  omega
 have hStm:Stm wz S p T (fun o'=>if o'=o then none else sh o') R (rmZ Z o):=by
  refine ⟨hcz.blk (hcx.blk hst.blk hSn) hST,⟨_,htop,fun o'=>?_⟩,?_,?_,?_,?_,?_⟩
  · by_cases ho:o'=o
    · subst ho
      rw [if_pos rfl]
      exact zdh (fun q hq e=>by
       unfold rm at hq
       have:=(List.mem_filter.1 hq).2
       simp only [decide_eq_true_eq] at this
       exact this e)
    rw [if_neg ho,K.al_rm_off lo ho,hlo o']
  · intro o' sb e
    by_cases ho:o'=o
    · rw [if_pos ho] at e;cases e
    rw [if_neg ho] at e
    have e2:rmZ Z o o'=Z o':=by unfold rmZ;rw [if_neg ho]
    rw [e2]
    exact ⟨((hst.set o' sb e).1.chg hcx (hn1 sb (.inr (.inl ⟨o',e⟩)))).chg hcz (hst.set o' sb e).2,(hst.set o' sb e).2⟩
  · intro o' e
    unfold rmZ
    by_cases ho:o'=o
    · rw [if_pos ho]
    rw [if_neg ho] at e ⊢
    exact hst.non o' e
  · intro a b sb ea eb
    by_cases ha:a=o
    · rw [if_pos ha] at ea;cases ea
    rw [if_neg ha] at ea
    by_cases hb:b=o
    · rw [if_pos hb] at eb;cases eb
    rw [if_neg hb] at eb
    exact hst.inj a b sb ea eb
  · intro o' e he
    unfold rmZ at he
    split at he
    · simp at he
    have h1:=hst.row o' e he
    refine hcz.owns (hcx.owns h1 (fun g hg=>hn1 g (.inr (.inr ⟨o',e,he,hg⟩)))) (fun g hg e2=>?_)
    have ht:=zab h1 g hg
    rw [e2] at ht
    exact hTtag 3 ht
  intro a ea b eb g h1 h2
  unfold rmZ at h1 h2
  split at h1
  · simp at h1
  split at h2
  · simp at h2
  exact hst.rin a ea b eb g h1 h2
 have hsub:∀i,SFp T (fun o'=>if o'=o then none else sh o') R (rmZ Z o) i→SFp T sh R Z i:=by
  rintro i (rfl|⟨o',e⟩|⟨o',e,he,hg⟩)
  · exact .inl rfl
  · simp only at e
    by_cases ho:o'=o
    · rw [if_pos ho] at e;cases e
    rw [if_neg ho] at e;exact .inr (.inl ⟨o',e⟩)
  unfold rmZ at he
  split at he
  · simp at he
  exact .inr (.inr ⟨o',e,he,hg⟩)
 refine ⟨fun i=>SFp T (fun o'=>if o'=o then none else sh o') R (rmZ Z o) i∨Gx i,gv,⟨T,_,R,Gx,hStm,hp.chg hcz hGxT hpT,hZ.drop o hgv,?_,fun i=>Iff.rfl⟩,?_,?_,hgv⟩
 · intro i hi hs
   have hs:=hsub i hs
   rcases hnw i hi with e|⟨e,_⟩
   · exact hG i e hs
   have:=(hst.tag hs).1;omega
 · refine (hcx.mono (fun i hi e=>?_)).trans hcz (fun i hi e=>?_)
   · rcases e with e|e
     · exact (hF i).2 (.inr e)
     omega
   rw [e];exact (hF T).2 (.inl (.inl rfl))
 rintro i (hi|hi)
 · exact .inl ((hF i).2 (.inl (hsub i hi)))
 rcases hnw i hi with e|⟨e,_⟩
 · exact .inl ((hF i).2 (.inr e))
 exact .inr e
theorem sdropP (o:ByteArray) (F:Nat→Prop) (S p n:Nat) (st:K.Sx) (Z:ByteArray→List En) (w:World) (h:SQ F w S p n st Z):
 Calls Tryz.prog 20 #[.pointer (some ⟨S,0,none⟩),.string o] w fun e w'=>e=.returned (.int .i64 (((Z o).flatMap slF).length:Int))∧DpP F w S p n st Z o w':=by
 have hz:=h.sz
 have hused:=hz.used o
 obtain ⟨T,sh,R,G,h1,h2,h3,h4,h5⟩:=h
 have hn1:=h2.n1
 have hle:((Z o).flatMap slF).length≤65536:=by
  have h3:(K.setL st n o).length≤n:=by
   unfold K.setL
   have:=List.length_filterMap_le (fun i=>match st i with|some x=>if x.1=o then some ((i:Int),K.uV) else none|none=>none) (List.range n)
   rw [List.length_range] at this
   exact this
  omega
 have c1:w.cell? ⟨S,1,none⟩=some (.map (some T)):=h1.blk.cell 1
 have l1:=h1.lookT o
 have HSn:Hid (∀{gv r wx},DM w p n G st gv r wx→Blk wx S 75 [.pointer (some ⟨p,0,none⟩),.map (some T)]):=zaa (fun hD=>hD.chg.blk h1.blk (by
  rintro (e|e)
  · have:=h2.tag e 75 h1.blk.tg;cases this
  have:=h1.blk.lt;have:=hD.ge;omega))
 have HTO:Hid (∀{gv r wx},DM w p n G st gv r wx→∃lo:List (ByteArray×Value),Ml Value.string wx T lo∧∀o,al lo o=(sh o).map fun sb=>Value.map (some sb)):=zaa (fun hD=>by
  obtain ⟨lo,q1,q2⟩:=h1.top
  refine ⟨lo,q1.chg hD.chg ?_,q2⟩
  rintro (e|e)
  · exact h4 T e (.inl rfl)
  have:=q1.lt;have:=hD.ge;omega)
 have HEND:Hid (∀{gv r wx wz} {lo:List (ByteArray×Value)},DM w p n G st gv r wx→(∀i,i∈gv↔i∈(Z o).flatMap slF)→(∀o,al lo o=(sh o).map fun sb=>Value.map (some sb))→Ml Value.string wz T (rm lo o)→Chg (fun i=>i=T) wx wz→DpP F w S p n st Z o wz):=zaa (fun a b c d e=>dp_end h1 h4 h5 hz h2 a b c d e)
 have HP0:=zaa h2
 cases hsh:sh o with
 |none=>
  rw [hsh] at l1
  have hz0:=h1.non o hsh
  have r1:=run_range_nilMap (P:=Tryz.prog) w 95 3 92 Tryz.underlying95
  have r2:=run_next_nilMap (P:=Tryz.prog) w 0 0 0 #[]
  obtain ⟨w1,hw1⟩:∃w1,w.alloc (.mapIter none 0 #[] 0)=w1:=⟨_,rfl⟩
  rw [hw1] at r1 r2
  have b1:Below w.heap.size w w1:=by rw [←hw1];exact (Below.refl _ _).alloc (Nat.le_refl _) _
  have z1:w.heap.size<w1.heap.size:=by rw [←hw1];simp
  have hD:DM w p n G st [] w.heap.size w1:=⟨⟨G,by rw [relN_nil];exact h2.later b1,fun i hi=>.inl hi⟩,Chg.of_below b1,z1,Nat.le_refl _⟩
  obtain ⟨lo,q1,q2⟩:=HTO.out hD
  obtain ⟨w3,r3,s3,k3,z3⟩:=q1.drop (P:=Tryz.prog) (ty:=0) K.kyS Tryz.underlying73 o
  have d1:w1.cell? ⟨S,1,none⟩=some (.map (some T)):=(HSn.out hD).cell 1
  have HE:=zaa (HEND.out hD (by rw [hz0];simp) q2 s3 k3)
  rw [hz0]
  clear hw1 h1 h2 h3 h4 h5 hz hused hn1 hle hz0 b1 hsh hD q1 q2 s3 k3 z3 HEND HSn HTO
  go_enter Tryz.func20,Tryz.ntmps20
  go_wp2_with fail
  go_loopw [5] (fun v5 wx=>v5=.int .i64 0∧wx=w1) (fun _ _=>0)
  case atStart=>exact ⟨rfl,rfl⟩
  case round=>
   obtain ⟨rfl,rfl⟩:=hrel
   go_wp2_with fail
   go_ret
   exact ⟨rfl,HE.out⟩
 |some sb=>
  rw [hsh] at l1
  obtain ⟨s1,s2⟩:=h1.set o sb hsh
  obtain ⟨w1,r1,m1,b1⟩:=s1.range (P:=Tryz.prog) Tryz.underlying95
  have z1:w.heap.size<w1.heap.size:=m1.lt
  have HD1:Hid (DM w p n G st [] w.heap.size w1):=zaa ⟨⟨G,by rw [relN_nil];exact h2.later b1,fun i hi=>.inl hi⟩,Chg.of_below b1,z1,Nat.le_refl _⟩
  have HM1:=zaa m1
  have HROW:Hid (∀e∈Z o,w.ownsRow 0 3 1 (R o e.1) e.2.1.length (cI e.2.1)):=zaa (fun e he=>h1.row o e he)
  have HRX:Hid (∀{gv r wx} e (he:e∈Z o) ad q c,R o e.1=.slice ad q c→DM w p n G st gv r wx→SlI wx ad e.2.1):=zaa (fun e he ad q c hv hD=>by
   have h9:=hD.chg.owns (h1.row o e he) (fun g hg=>by
    rintro (e2|e2)
    · exact h4 g e2 (.inr (.inr ⟨o,e,he,hg⟩))
    have:=za0 (h1.row o e he) g hg;have:=hD.ge;omega)
   rw [hv] at h9
   obtain ⟨ad2,c2,e2⟩:=zal h9
   simp only [Value.slice.injEq] at e2
   rw [e2.2.1] at h9
   exact zci h9)
  have HSB:Hid (¬G sb∧sb<w.heap.size):=zaa ⟨fun e=>h4 sb e (.inr (.inl ⟨o,hsh⟩)),s1.lt⟩
  have HKEY:=zaa (hz.key o)
  have HOWN:Hid (∀e∈Z o,∀s∈e.2.1,s<n∧∃d,st s=some (o,d)):=zaa (fun e he s hs=>(hz.mem o s).1 (List.mem_flatMap.2 ⟨e,he,hs⟩))
  have HND:=zaa (List.pairwise_flatMap.1 (hz.nd o))
  clear m1 b1 h1 h2 h3 h4 h5 hz hused hn1 s1 hsh z1
  go_enter Tryz.func20,Tryz.ntmps20
  go_wp2_with fail
  go_loopw [5] (fun v5 wx=>∃c:Nat,v5=.int .i64 (c:Int)∧Hid (∃dn cnt gv,c=cntK (Z o) dn∧Mr K.K3 wx sb w.heap.size ((Z o).map fun e=>(e.1,R o e.1)) dn cnt∧DM w p n G st gv w.heap.size wx∧∀i,i∈gv↔∃e∈Z o,e.1∈dn∧i∈e.2.1)) (fun _ wx=>wx.rangeLeft sb w.heap.size)
  case atStart=>exact ⟨0,rfl,zaa ⟨[],_,[],by unfold cntK;rw [List.filter_eq_nil_iff.2 (by simp)];rfl,HM1.out,HD1.out,by simp⟩⟩
  case round=>
   obtain ⟨c,rfl,hI⟩:=hrel
   obtain ⟨dn,cnt,gv,hc,hM,hD,hgv⟩:=hI.out
   rcases hM.next (P:=Tryz.prog) K.kyI 0 with ⟨hall,hr⟩|⟨a,v,w2,cnt',hav,hnd,hcnt,hr,hM2,hc2,hent⟩
   · have hall2:∀e∈Z o,e.1∈dn:=fun e he=>hall (e.1,R o e.1) (List.mem_map.2 ⟨e,he,rfl⟩)
     have HC:Hid (c=((Z o).flatMap slF).length):=zaa (by rw [hc];exact cntK_all hall2)
     obtain ⟨lo,q1,q2⟩:=HTO.out hD
     obtain ⟨w3,r3,s3,k3,z3⟩:=q1.drop (P:=Tryz.prog) (ty:=0) K.kyS Tryz.underlying73 o
     have d1:wr.cell? ⟨S,1,none⟩=some (.map (some T)):=(HSn.out hD).cell 1
     have HE:=zaa (HEND.out hD (fun i=>by
      rw [hgv i,List.mem_flatMap]
      constructor
      · rintro ⟨e,he,_,h3⟩;exact ⟨e,he,h3⟩
      rintro ⟨e,he,h3⟩;exact ⟨e,he,hall2 e he,h3⟩) q2 s3 k3)
     clear hI hc hM hD hgv hall hall2 q1 q2 s3 k3 z3
     go_wp2_with fail
     go_ret
     exact ⟨by rw [←HC.out];rfl,HE.out⟩
   obtain ⟨e,he,hev⟩:=List.mem_map.1 hav
   simp only [Prod.mk.injEq] at hev
   obtain ⟨rfl,rfl⟩:=hev
   obtain ⟨ade,ce,hve⟩:=zal (HROW.out e he)
   have hrr:=hve
   rw [hve] at hr hent
   have hck:=zfb (dn:=dn) HKEY.out he hnd
   have hle2:=cntK_le (Z o) (e.1 :: dn)
   rw [hck,←hc] at hle2
   have HCK:Hid (c+e.2.1.length=cntK (Z o) (e.1 :: dn)):=zaa (by rw [hck,hc])
   have HL:Hid (∀{wx cnt2},Mr K.K3 wx sb w.heap.size ((Z o).map fun e=>(e.1,R o e.1)) (e.1 :: dn) cnt2→cnt2=cnt'→wx.rangeLeft sb w.heap.size<wr.rangeLeft sb w.heap.size):=zaa (fun hm e2=>by rw [hm.left,hM.left,e2];exact hcnt)
   have hD2:DM w p n G st gv w.heap.size w2:=by
    obtain ⟨Gx,g1,g2⟩:=hD.pool
    refine ⟨⟨Gx,g1.chg hc2 (fun i hi e2=>?_) (fun e2=>?_),g2⟩,hD.chg.trans hc2 (fun i _ e2=>.inr e2),Nat.lt_of_lt_of_le hD.lt hc2.size,hD.ge⟩
    · rcases g2 i hi with e3|⟨_,e3⟩
      · have:=HP0.out.lt e3;omega
      exact e3 e2
    have:=HP0.out.own.lt;omega
   have HSL:Hid (∀{gv wx},DM w p n G st gv w.heap.size wx→SlI wx ade e.2.1):=zaa (fun hD=>HRX.out e he ade _ ce hrr hD)
   have HGV:=zaa hgv
   have HE0:=zaa (And.intro he hnd)
   have hnd2:∀(i s:Nat),e.2.1[i]?=some s→s∉gv++e.2.1.take i:=by
    intro i s hs hm
    rcases List.mem_append.1 hm with hm|hm
    · obtain ⟨e3,he3,hd3,hs3⟩:=(hgv s).1 hm
      by_cases h9:e3=e
      · rw [h9] at hd3;exact hnd hd3
      have hpw:=HND.out.2
      have hs0:=List.mem_of_getElem? hs
      rcases List.mem_iff_getElem.1 he with ⟨a,ha,rfl⟩
      rcases List.mem_iff_getElem.1 he3 with ⟨b,hb,rfl⟩
      rw [List.pairwise_iff_getElem] at hpw
      rcases Nat.lt_trichotomy a b with hab|hab|hab
      · exact hpw a b ha hb hab s hs0 s hs3 rfl
      · subst hab;exact h9 rfl
      exact hpw b a hb ha hab s hs3 s hs0 rfl
    have h8:=HND.out.1 e he
    obtain ⟨b,hb,hbs⟩:=List.mem_take_iff_getElem.1 hm
    have h7:=(List.getElem?_eq_some_iff.1 hs)
    obtain ⟨a1,a2⟩:=h7
    have:=(List.pairwise_iff_getElem.1 h8) b i (by omega) a1 (by omega)
    exact this (by rw [hbs,a2])
   have HN2:=zaa hnd2
   obtain ⟨q,hq⟩:∃q,e.2.1.length=q:=⟨_,rfl⟩
   rw [hq] at hr hent hle2
   have HQL:=zaa hq
   have hq9:q≤65536:=by omega
   have HM2:=zaa hM2
   have HD2:=zaa hD2
   unfold K.K3 at hr hent
   clear hI hc hM hD hav hnd hcnt hM2 hc2 hck hve hq hrr hgv hnd2 hD2 he
   go_wp2_with fail
   go_loopw [23] (fun v23 wx=>∃i:Nat,v23=.int .i64 (i:Int)∧i≤q∧Hid (Mr K.K3 wx sb w.heap.size ((Z o).map fun e=>(e.1,R o e.1)) (e.1 :: dn) cnt'∧DM w p n G st (gv++e.2.1.take i) w.heap.size wx)) (fun v23 _=>q - (intOf v23).toNat)
   case atStart=>exact ⟨0,rfl,by omega,zaa ⟨HM2.out,by rw [List.take_zero,List.append_nil];exact HD2.out⟩⟩
   case round=>
    obtain ⟨i,rfl,hi,hJ⟩:=hrel
    by_cases hin:i<q
    · obtain ⟨s,hs⟩:∃s,e.2.1[i]?=some s:=⟨e.2.1[i]'(by have:=HQL.out;omega),by simp⟩
      obtain ⟨g,off,hade,hlt,hcell⟩:=(HSL.out hJ.out.2).at' (fun e0=>by rw [e0] at hs;simp at hs)
      subst hade
      have hcs:=hcell i s hs
      have d0:wr.cell? ⟨S,0,none⟩=some (.pointer (some ⟨p,0,none⟩)):=(HSn.out hJ.out.2).cell 0
      obtain ⟨hsn,d,hsd⟩:=HOWN.out e HE0.out.1 s (List.mem_of_getElem? hs)
      have HGI:=zaa (hJ.out.2.give hsn hsd (HN2.out i s hs))
      have htk:e.2.1.take (i+1)=e.2.1.take i++[s]:=by rw [List.take_add_one,hs];rfl
      have HTK:=zaa htk
      clear hcell hs hsn hsd htk hlt
      go_wp2_with fail
      refine HGI.out.mono ?_
      rintro e9 w5 ⟨rfl,k1,k2⟩
      have H5:=zaa (And.intro (hJ.out.1.chg k2 (fun e2=>by
       rcases e2 with e2|⟨e2,_⟩
       · exact HSB.out.1 e2
       · have:=HSB.out.2;omega) (fun e2=>by
       rcases e2 with e2|⟨_,e2⟩
       · have:=HP0.out.lt e2;omega
       exact e2 rfl)) k1)
      clear k1 k2
      go_wp2_with fail
      refine ⟨⟨i+1,by first|rfl|simp,by omega,zaa ⟨H5.out.1,by rw [HTK.out,←List.append_assoc];exact H5.out.2⟩⟩,?_⟩
      show q - ((i:Int)+1).toNat<q - (i:Int).toNat
      omega
    have hq:e.2.1.take i=e.2.1:=List.take_of_length_le (by have:=HQL.out;omega)
    have HE:Hid (∃dn' cnt gv',c+q=cntK (Z o) dn'∧Mr K.K3 wr sb w.heap.size ((Z o).map fun e=>(e.1,R o e.1)) dn' cnt∧DM w p n G st gv' w.heap.size wr∧∀i,i∈gv'↔∃e∈Z o,e.1∈dn'∧i∈e.2.1):=zaa ⟨e.1 :: dn,cnt',gv++e.2.1,by rw [←HQL.out];exact HCK.out,hJ.out.1,by have q9:=hJ.out.2;rw [hq] at q9;exact q9,fun i=>by
     rw [List.mem_append,HGV.out i]
     constructor
     · rintro (⟨e3,h3,h4,h5⟩|h5)
       · exact ⟨e3,h3,List.mem_cons.2 (.inr h4),h5⟩
       exact ⟨e,HE0.out.1,List.mem_cons_self ..,h5⟩
     rintro ⟨e3,h3,h4,h5⟩
     rcases List.mem_cons.1 h4 with h4|h4
     · right
       have:e3=e:=by
        by_cases h9:e3=e
        · exact h9
        have hpw:=HKEY.out
        rcases List.mem_iff_getElem.1 HE0.out.1 with ⟨a,ha,rfl⟩
        rcases List.mem_iff_getElem.1 h3 with ⟨b,hb,rfl⟩
        rw [List.pairwise_iff_getElem] at hpw
        rcases Nat.lt_trichotomy a b with hab|hab|hab
        · exact absurd h4.symm (hpw a b ha hb hab)
        · subst hab;rfl
        exact absurd h4 (hpw b a hb ha hab)
       rw [this] at h5
       exact h5
     exact .inl ⟨e3,h3,h4,h5⟩⟩
    have HLT:=zaa (HL.out hJ.out.1 rfl)
    clear hJ hq
    go_wp2_with fail
    refine ⟨⟨c+q,by first|rfl|simp,zaa HE.out⟩,HLT.out⟩
theorem SZ.perm {n:Nat} {st:K.Sx} {Z Y:ByteArray→List En} (h:SZ n st Z) (hp:∀o,(Y o).Perm (Z o)):SZ n st Y:=by
 have hf:∀o,((Y o).flatMap fun e=>e.2.1).Perm ((Z o).flatMap fun e=>e.2.1):=fun o=>(hp o).flatMap_right _
 exact ⟨fun o=>((hp o).pairwise_iff (fun {x y} e e2=>e e2.symm)).2 (h.key o),fun o e he=>h.each o e ((hp o).mem_iff.1 he),fun o=>(hf o).nodup_iff.2 (h.nd o),fun o i=>(hf o).mem_iff.trans (h.mem o i),h.small⟩
theorem enL_in {l:List En} (h:l.Pairwise (fun p q=>¬p.1=q.1)) {e:En} (he:e∈l):enL l e.1=e.2:=by
 induction l with
 |nil=>simp at he
 |cons x l ih=>
  have h2:=List.pairwise_cons.1 h
  rcases List.mem_cons.1 he with rfl|he
  · simp [enL]
  have hx:¬x.1=e.1:=h2.1 e he
  have:=ih h2.2 he
  unfold enL at this ⊢
  rw [List.find?_cons_of_neg (by simpa using hx)]
  exact this
theorem zgm {l:List En} {k:Int} (h:∀p∈l,¬p.1=k):enL l k=([],[]):=by
 unfold enL
 rw [List.find?_eq_none.2 (fun p hp=>by simpa using h p hp)]
 rfl
def kS (l:List En):List (Int×List Sm):=l.map fun e=>(e.1,e.2.2)
def Eqv (Z Y:ByteArray→List En):Prop:=∀o,(kS (Z o)).Perm (kS (Y o))
theorem Eqv.mem {Z Y:ByteArray→List En} (h:Eqv Z Y) {o:ByteArray} {e:En} (he:e∈Z o):∃d∈Y o,d.1=e.1∧d.2.2=e.2.2:=by
 have h1:(e.1,e.2.2)∈kS (Z o):=List.mem_map.2 ⟨e,he,rfl⟩
 obtain ⟨d,hd,e2⟩:=List.mem_map.1 ((h o).mem_iff.1 h1)
 injection e2 with e3 e4
 exact ⟨d,hd,e3,e4⟩
theorem Eqv.symm {Z Y:ByteArray→List En} (h:Eqv Z Y):Eqv Y Z:=fun o=>(h o).symm
theorem Eqv.smp {Z Y:ByteArray→List En} (h:Eqv Z Y) {o:ByteArray} (hz:(Z o).Pairwise (fun p q=>¬p.1=q.1)) (hy:(Y o).Pairwise (fun p q=>¬p.1=q.1)) (k:Int):(enL (Z o) k).2=(enL (Y o) k).2:=by
 rcases zbz (l:=Z o) (k:=k) with h1|⟨h1,h2⟩
 · obtain ⟨d,hd,e1,e2⟩:=h.mem h1
   have:=enL_in hy hd
   rw [e1] at this
   simp only at this e2
   rw [this,e2]
 rw [h1,zgm (l:=Y o) (fun p hp e=>by
  obtain ⟨d,hd,e1,_⟩:=h.symm.mem hp
  exact h2 d hd (e1.trans e))]
theorem kS_rm (l:List En) (k:Int):kS (rmE l k)=(kS l).filter (fun p=>decide (¬p.1=k)):=by
 unfold kS rmE
 rw [List.filter_map]
 rfl
theorem Eqv.set {Z Y:ByteArray→List En} (h:Eqv Z Y) (o:ByteArray) (k:Int) {x y:List Nat×List Sm} (hxy:x.2=y.2):Eqv (setZ Z o k x) (setZ Y o k y):=by
 intro o'
 unfold setZ
 by_cases ho:o'=o
 · rw [if_pos ho,if_pos ho]
   show ((k,x.2) :: kS (rmE (Z o) k)).Perm ((k,y.2) :: kS (rmE (Y o) k))
   rw [hxy,kS_rm,kS_rm]
   exact ((h o).filter _).cons _
 rw [if_neg ho,if_neg ho]
 exact h o'
theorem Eqv.rm {Z Y:ByteArray→List En} (h:Eqv Z Y) (o:ByteArray):Eqv (rmZ Z o) (rmZ Y o):=by
 intro o'
 unfold rmZ
 by_cases ho:o'=o
 · rw [if_pos ho,if_pos ho]
 rw [if_neg ho,if_neg ho]
 exact h o'
theorem Eqv.perm {Z Y Y':ByteArray→List En} (h:Eqv Z Y) (hp:∀o,(Y' o).Perm (Y o)):Eqv Z Y':=fun o=>(h o).trans ((hp o).map _).symm
theorem slots_sum {n:Nat} {st:K.Sx} {Z:ByteArray→List En} (h:SZ n st Z) (o:ByteArray):((Z o).flatMap slF).length=((kS (Z o)).map fun p=>(gO (gF p.2)).length).sum:=by
 have h1:∀l:List En,(∀e∈l,OkE st o e)→(l.flatMap slF).length=((kS l).map fun p=>(gO (gF p.2)).length).sum:=by
  intro l
  induction l with
  |nil=>intro _;rfl
  |cons e l ih=>
   intro hl
   rw [List.flatMap_cons,List.length_append,ih (fun x hx=>hl x (by simp [hx]))]
   have:=(hl e (by simp)).lies.1
   show e.2.1.length+_=(gO (gF e.2.2)).length+_
   rw [this]
   rfl
 exact h1 _ (fun e he=>h.each o e he)
theorem Eqv.slots {n m:Nat} {st su:K.Sx} {Z Y:ByteArray→List En} (h:Eqv Z Y) (hz:SZ n st Z) (hy:SZ m su Y) (o:ByteArray):((Z o).flatMap slF).length=((Y o).flatMap slF).length:=by
 rw [slots_sum hz,slots_sum hy]
 exact ((h o).map _).sum_nat
abbrev De:=ByteArray×Int×List Sm×List Nat
def enD (e:De):En:=(e.2.1,(e.2.2.2,e.2.2.1))
def zE (E:List De):ByteArray→List En:=fun o=>(E.filter fun e=>decide (e.1=o)).map enD
theorem zE_mem {E:List De} {e:De} (h:e∈E):enD e∈zE E e.1:=List.mem_map.2 ⟨e,List.mem_filter.2 ⟨h,by simp⟩,rfl⟩
theorem zE_out {E:List De} {o:ByteArray} {k:Int} (h:∀e∈E,¬(e.1=o∧e.2.1=k)):∀p∈zE E o,¬p.1=k:=by
 intro p hp hk
 obtain ⟨e,he,rfl⟩:=List.mem_map.1 hp
 obtain ⟨h1,h2⟩:=List.mem_filter.1 he
 exact h e h1 ⟨by simpa using h2,hk⟩
theorem zfl (A B:List De) (o:ByteArray):zE (A++B) o=zE A o++zE B o:=by
 unfold zE
 rw [List.filter_append,List.map_append]
theorem zE_one (e:De) (o:ByteArray):zE [e] o=if e.1=o then [enD e] else []:=by
 unfold zE
 by_cases h:e.1=o <;> simp [h]
theorem rmE_app (A B:List En) (k:Int):rmE (A++B) k=rmE A k++rmE B k:=by
 unfold rmE
 rw [List.filter_append]
theorem zE_new {E:List De} {o:ByteArray} {k:Int} (h:∀e∈E,¬(e.1=o∧e.2.1=k)) (l:List Sm) (sl:List Nat) (o':ByteArray):(zE (E++[(o,k,l,sl)]) o').Perm (setZ (zE E) o k (sl,l) o'):=by
 rw [zfl,zE_one]
 unfold setZ
 by_cases ho:o'=o
 · subst ho
   rw [if_pos rfl,if_pos rfl,rmE_no (zE_out h)]
   exact List.perm_append_comm
 rw [if_neg (fun e=>ho e.symm),if_neg ho,List.append_nil]
theorem zE_set {E:List De} {i:Nat} {o:ByteArray} {k:Int} {l l':List Sm} {sl sl':List Nat} (hi:E[i]?=some (o,k,l,sl)) (hk:(zE E o).Pairwise (fun p q=>¬p.1=q.1)) (o':ByteArray):(zE (E.set i (o,k,l',sl')) o').Perm (setZ (zE E) o k (sl',l') o'):=by
 have hlt:=(List.getElem?_eq_some_iff.1 hi).1
 have hE:E=E.take i++(o,k,l,sl) :: E.drop (i+1):=by
  have h1:=(List.take_append_drop i E).symm
  rw [List.drop_eq_getElem_cons hlt,(List.getElem?_eq_some_iff.1 hi).2] at h1
  exact h1
 have hS:E.set i (o,k,l',sl')=E.take i++(o,k,l',sl') :: E.drop (i+1):=List.set_eq_take_append_cons_drop (l:=E) (i:=i) (a:=(o,k,l',sl'))▸(by rw [if_pos hlt])
 have e1:∀(x:De) (o':ByteArray),zE (E.take i++x :: E.drop (i+1)) o'=zE (E.take i) o'++((if x.1=o' then [enD x] else [])++zE (E.drop (i+1)) o'):=fun x o'=>by
  rw [show E.take i++x :: E.drop (i+1)=E.take i++([x]++E.drop (i+1)) from rfl,zfl,zfl,zE_one]
 unfold setZ
 rw [hS,e1]
 by_cases ho:o'=o
 · subst ho
   rw [if_pos rfl,if_pos rfl]
   have hz:zE E o'=zE (E.take i) o'++([enD (o',k,l,sl)]++zE (E.drop (i+1)) o'):=by
    conv=>lhs;rw [hE]
    rw [e1,if_pos rfl]
   rw [hz] at hk ⊢
   obtain ⟨p1,p2,p3⟩:=List.pairwise_append.1 hk
   obtain ⟨q1,q2⟩:=List.pairwise_cons.1 p2
   have r1:rmE (zE (E.take i) o') k=zE (E.take i) o':=rmE_no (fun p hp e=>p3 p hp (enD (o',k,l,sl)) (by simp) e)
   have r2:rmE (zE (E.drop (i+1)) o') k=zE (E.drop (i+1)) o':=rmE_no (fun p hp e=>q1 p hp e.symm)
   have r3:rmE [enD (o',k,l,sl)] k=[]:=by simp [rmE,enD]
   rw [rmE_app,rmE_app,r1,r2,r3,List.nil_append]
   exact List.perm_middle
 rw [if_neg (fun e=>ho e.symm),if_neg ho,List.nil_append]
 conv=>rhs;rw [hE]
 rw [e1,if_neg (fun e=>ho e.symm),List.nil_append]
theorem zE_drop (E:List De) (o:ByteArray):zE (E.filter fun e=>decide (¬e.1=o))=rmZ (zE E) o:=by
 funext o'
 unfold rmZ zE
 rw [List.filter_filter]
 by_cases ho:o'=o
 · rw [if_pos ho,List.filter_eq_nil_iff.2 (fun e he=>by subst ho;simp)]
   rfl
 rw [if_neg ho]
 congr 1
 refine List.filter_congr fun e he=>?_
 by_cases h:e.1=o'
 · have:¬e.1=o:=fun e2=>ho (h.symm.trans e2)
   simp [h,ho]
 simp [h]
theorem bts_inj {a b:ByteArray} (h:K.bts a=K.bts b):a=b:=by
 have h1:a.data.toList=b.data.toList:=(List.map_inj_right (fun x y e=>UInt8.toNat_inj.1 (Int.ofNat.inj e))).1 h
 exact ByteArray.ext (Array.toList_inj.1 h1)
theorem put_eq {st:K.Sx} {s:Nat} {o d:ByteArray} {b:List Int} (hs:st s=some (o,d)) (hd:K.bts d=b) (hb:Byte b):K.upS st s (some (o,strOfNums b))=st:=by
 have e:strOfNums b=d:=bts_inj (by rw [zcd b hb,hd])
 funext j
 unfold K.upS
 split
 · next h=>rw [h,hs,e]
 rfl
def AI (n:Nat) (o:ByteArray) (st:K.Sx) (sl:List Nat) (A m:List Sm) (i:Nat) (news:List Nat) (sti:K.Sx):Prop:=KI n o st sl (gO (gB A m)) (i - (sl.length - hadL sl)) news sti
section
variable {n:Nat} {o:ByteArray} {st:K.Sx} {Z:ByteArray→List En} {k:Int} {sl:List Nat} {A m:List Sm} {i:Nat} {news:List Nat} {sti:K.Sx}
theorem SZ.hlen (h:SZ n st Z) (o:ByteArray) (k:Int):(enL (Z o) k).1.length=(gF (enL (Z o) k).2).1.length+hadL (enL (Z o) k).1:=by
 obtain ⟨hL,hR,hO,hE⟩:=h.en o k
 rw [hL.1]
 unfold hadL
 by_cases h0:(enL (Z o) k).2=[]
 · have h1:=hE.2 h0
   rw [h0,h1]
   rfl
 have h2:(gF (enL (Z o) k).2).2≠[]:=fun e=>h0 ((zcy hO).1 e)
 have h3:(enL (Z o) k).1≠[]:=fun e=>h0 (hE.1 e)
 have h4:=List.length_pos_iff.2 h3
 rw [zcx h2]
 simp
 omega
theorem AI.len (h:AI n o st sl A m i news sti):news.length=i - sl.length:=by
 have h1:=KI.len h
 unfold hadL at h1
 omega
theorem AI.start (h:∀i o d,st i=some (o,d)→d.size≤128):AI n o st sl A m 0 [] st:=by
 unfold AI
 rw [Nat.zero_sub]
 exact KI.start h
theorem AI.old (h:AI n o st sl A m i news sti) (hi:i≤sl.length - hadL sl):news=[]∧sti=st:=by
 have h1:KI n o st sl (gO (gB A m)) 0 news sti:=by
  have h2:=h
  unfold AI at h2
  rw [show i - (sl.length - hadL sl)=0 by omega] at h2
  exact h2
 have h3:news=[]:=List.eq_nil_of_length_eq_zero (by have:=h1.len;omega)
 exact ⟨h3,funext fun s=>h1.off s (by rw [h3];simp) (.inl rfl)⟩
theorem AI.put (h:AI n o st sl A m i news sti) (hZ:∀i o d,st i=some (o,d)→d.size≤128) (hlen:sl.length=(gF A).1.length+hadL sl) (hL:Lies st o sl (gO (gF A))) (hA:∀x∈A++m,OkS x) (hsn:∀s∈sl,s<n) {g:List Sm} (hg:(gO (gF (A++m)))[i]?=some g) (hi:i<sl.length) {s:Nat} (hs:sl[i]?=some s):
 AI n o st sl A m (i+1) [] (K.upS sti s (some (o,strOfNums (encC g))))∧∃d,sti s=some (o,d):=by
 obtain ⟨hg1,hg2,hg3⟩:=zcs (okG hA) g (List.mem_of_getElem? hg)
 have hby:Byte (encC g):=zb5 g (by have:=za8 hg2;omega)
 have hd1:(strOfNums (encC g)).size≤128:=by rw [zei hby];exact hg2
 have hh:hadL sl=1:=by unfold hadL;omega
 obtain ⟨h1,h2⟩:=h.old (by omega)
 subst h1
 subst h2
 have hil:i<(gO (gF A)).length:=by rw [←hL.1];exact hi
 obtain ⟨d0,e0,b0⟩:=hL.2 i s _ hs (List.getElem?_eq_getElem hil)
 refine ⟨?_,d0,e0⟩
 rw [zby] at hg
 by_cases hq:i<sl.length - hadL sl
 · have hig:i<(gF A).1.length:=by omega
   rw [List.getElem?_append_left hig] at hg
   have h4:(gF A).2≠[]:=by
    intro e
    have:A=[]:=(zcy (fun x hx=>hA x (by simp [hx]))).1 e
    subst this
    simp [gF] at hig
   have e1:(gO (gF A))[i]?=some g:=by rw [zcx h4,List.getElem?_append_left hig];exact hg
   rw [List.getElem?_eq_getElem hil] at e1
   rw [Option.some.inj e1] at b0
   rw [put_eq e0 b0 hby]
   unfold AI
   rw [show i+1 - (sl.length - hadL sl)=0 by omega]
   exact KI.start hZ
 have hie:i=sl.length - hadL sl:=by omega
 rw [List.getElem?_append_right (by omega),show i - (gF A).1.length=0 by omega] at hg
 unfold AI
 rw [show i+1 - (sl.length - hadL sl)=1 by omega]
 exact KI.put0 hZ hg (by rw [List.getLast?_eq_getElem?,←hs];congr 1;omega) (hsn s (List.mem_of_getElem? hs)) e0 _ (zcd _ hby) hd1
theorem AI.take (h:AI n o st sl A m i news sti) (hlen:sl.length=(gF A).1.length+hadL sl) (hA:∀x∈A++m,OkS x) {g:List Sm} (hg:(gO (gF (A++m)))[i]?=some g) (hi:sl.length≤i) {j:Nat} (hf:K.fst1 sti n=some j):
 AI n o st sl A m (i+1) (news++[j]) (K.upS (K.upS sti j (some (o,K.emp))) j (some (o,strOfNums (encC g)))):=by
 obtain ⟨hg1,hg2,hg3⟩:=zcs (okG hA) g (List.mem_of_getElem? hg)
 have hby:Byte (encC g):=zb5 g (by have:=za8 hg2;omega)
 have hd1:(strOfNums (encC g)).size≤128:=by rw [zei hby];exact hg2
 have hh:hadL sl=min sl.length 1:=rfl
 rw [upS_twice]
 rw [zby,List.getElem?_append_right (by omega),show i - (gF A).1.length=i - (sl.length - hadL sl) by omega] at hg
 unfold AI
 rw [show i+1 - (sl.length - hadL sl)=i - (sl.length - hadL sl)+1 by omega]
 refine (KI.take h hg ?_ hf _ (zcd _ hby) hd1).1
 by_cases h0:sl.length=0
 · exact .inr (List.eq_nil_of_length_eq_zero h0)
 left
 omega
theorem AI.room (h:AI n o st sl A m i news sti) (hlen:sl.length=(gF A).1.length+hadL sl) (hi:sl.length≤i) (hic:i<(gO (gF (A++m))).length) (hr:(gO (gF (A++m))).length+(K.tkL st n).length≤n+sl.length):∃j,K.fst1 sti n=some j:=by
 have hh:hadL sl=min sl.length 1:=rfl
 rw [zby,List.length_append] at hic hr
 refine KI.room h (by omega) ?_ (by omega)
 by_cases h0:sl.length=0
 · exact .inr (List.eq_nil_of_length_eq_zero h0)
 left
 omega
theorem AI.done (h:AI n o st sl A m i news sti) (hlen:sl.length=(gF A).1.length+hadL sl) (hi:i=(gO (gF (A++m))).length):KI n o st sl (gO (gB A m)) (gO (gB A m)).length news sti:=by
 have hh:hadL sl=min sl.length 1:=rfl
 rw [zby,List.length_append] at hi
 have h2:=h
 unfold AI at h2
 rw [show i - (sl.length - hadL sl)=(gO (gB A m)).length by omega] at h2
 exact h2
end
end Go.Proofs.YtlppibigceeimaaGreatDoor
namespace Go.Proofs.YtlppibigceeimaaGreatDoor
open Go Go.RowKit
theorem ap_r14a (g gb off i N c:Nat) (x y:Int) (w:World) (a0:Act) (Q:Exit→Act→World→Prop) (hsz:a0.tmps.size=143)
 (s19:a0.tmps.getD 19 undef=.int .i64 (i:Int))
 (s4:a0.tmps.getD 4 undef=.slice (some ⟨gb,off,none⟩) N c)
 (s11:a0.tmps.getD 11 undef=.slice (some ⟨g,0,none⟩) (N+4) (N+4))
 (hi4:(i:Int)<(N:Int)+4) (hi0:¬(i:Int)<0) (cof53:Tryz.prog.cellsOf 53=2) (hiN:(i:Int)<(N:Int)) (hge:¬(N:Int)≤(i:Int))
 (m0:∀w1,Lat w w1→w1.cell? ⟨g,i*2,none⟩=some (.int .i64 x)) (m1:∀w1,Lat w w1→w1.cell? ⟨g,i*2+1,none⟩=some (.int .u64 y))
 (l0:∀w1,Lat w w1→w1.cell? ⟨gb,off+i*2,none⟩=some (.int .i64 x)) (l1:∀w1,Lat w w1→w1.cell? ⟨gb,off+i*2+1,none⟩=some (.int .u64 y))
 (hQ:∀(v97 v98 v99 v100 v101 v102 v103 v104 v105 v106 v107 v108 v109 v110 v111 v112 v113 v114 v115 v116 v117 v118 v119 v120 v121 v122 v123 v124:Value) (w1:World),Lat w w1→Q .normal (((((((((((((((((((((((((((((a0.put (some 97) v97).put (some 98) v98).put (some 99) v99).put (some 100) v100).put (some 101) v101).put (some 102) v102).put (some 103) v103).put (some 104) v104).put (some 105) v105).put (some 106) v106).put (some 107) v107).put (some 108) v108).put (some 109) v109).put (some 110) v110).put (some 111) v111).put (some 112) v112).put (some 113) v113).put (some 114) v114).put (some 115) v115).put (some 116) v116).put (some 117) v117).put (some 118) v118).put (some 119) v119).put (some 120) v120).put (some 121) v121).put (some 122) v122).put (some 123) v123).put (some 124) v124).put (some 125) (.bool false)) w1):
 Code.wp Tryz.prog ((Tryz.f22.body.bind (zag 14)).getD .skip) Q a0 w:=by
 conv=>arg 2;whnf
 refine zay Lat (TV [.int .i64 (i:Int),.slice (some ⟨gb,off,none⟩) N c,.int .i64 (N:Int),.bool true,.bool true,.slice (some ⟨g,0,none⟩) (N+4) (N+4),.int .i64 (i:Int),.pointer (some ⟨g,i*2,none⟩),.agg #[.int .i64 x,.int .u64 y],.slice (some ⟨gb,off,none⟩) N c,.int .i64 (i:Int),.pointer (some ⟨gb,off+i*2,none⟩),.agg #[.int .i64 x,.int .u64 y],.bool false,.bool false,.bool false,.int .i64 (i:Int),.slice (some ⟨gb,off,none⟩) N c,.int .i64 (N:Int),.bool false,.bool false,undef,undef,undef,undef,undef,undef,.bool false,.bool false]) (by kernel_rfl) (by kernel_rfl) (by kernel_rfl) (by rw [hsz];kernel_rfl) (by kernel_rfl) Lat.refl Lat.trans (TV.stable _) (Lat.draw w) ?hop ?hdone
 case hdone=>
  intro a w1 hL hS hT
  have k125:a.tmps.getD 125 undef=.bool false:=hT 28 _ rfl _ rfl
  have he:=zam hS
  have hQ2:=hQ (a.tmps.getD 97 undef) (a.tmps.getD 98 undef) (a.tmps.getD 99 undef) (a.tmps.getD 100 undef) (a.tmps.getD 101 undef) (a.tmps.getD 102 undef) (a.tmps.getD 103 undef) (a.tmps.getD 104 undef) (a.tmps.getD 105 undef) (a.tmps.getD 106 undef) (a.tmps.getD 107 undef) (a.tmps.getD 108 undef) (a.tmps.getD 109 undef) (a.tmps.getD 110 undef) (a.tmps.getD 111 undef) (a.tmps.getD 112 undef) (a.tmps.getD 113 undef) (a.tmps.getD 114 undef) (a.tmps.getD 115 undef) (a.tmps.getD 116 undef) (a.tmps.getD 117 undef) (a.tmps.getD 118 undef) (a.tmps.getD 119 undef) (a.tmps.getD 120 undef) (a.tmps.getD 121 undef) (a.tmps.getD 122 undef) (a.tmps.getD 123 undef) (a.tmps.getD 124 undef) w1 hL
  rw [←k125] at hQ2
  rw [he]
  exact hQ2
 case hop=>
  intro i o hi
  have hlt:i<29:=(Array.getElem?_eq_some_iff.1 hi).1
  rcases (show i=0∨i=1∨i=2∨i=3∨i=4∨i=5∨i=6∨i=7∨i=8∨i=9∨i=10∨i=11∨i=12∨i=13∨i=14∨i=15∨i=16∨i=17∨i=18∨i=19∨i=20∨i=21∨i=22∨i=23∨i=24∨i=25∨i=26∨i=27∨i=28 by omega) with rfl|rfl|rfl|rfl|rfl|rfl|rfl|rfl|rfl|rfl|rfl|rfl|rfl|rfl|rfl|rfl|rfl|rfl|rfl|rfl|rfl|rfl|rfl|rfl|rfl|rfl|rfl|rfl|rfl
  all_goals obtain rfl:=Option.some.inj hi
  all_goals clear hi hlt
  all_goals intro a w1 hL hS hD
  · exact zy rfl (by simp [execOp,Act.eval,zs hS s19,go_sem])
  · exact zy rfl (by simp [execOp,Act.eval,zs hS s4,go_sem])
  · exact zy rfl (by simp [execOp,Act.eval,zd hD 1 98,go_sem])
  · exact zy rfl (by simp [execOp,Act.eval,zd hD 0 97,zd hD 2 99,hiN,go_sem])
  · exact zy rfl (by simp [execOp,Act.eval,zd hD 3 100,go_sem])
  · exact zyg (zg hD 4 101) rfl (by simp [execOp,Act.eval,zs hS s11,go_sem])
  · exact zyg (zg hD 4 101) rfl (by simp [execOp,Act.eval,zs hS s19,go_sem])
  · exact zyg (zg hD 4 101) rfl (by simp [execOp,Act.eval,zd hD 5 102,zd hD 6 103,hi4,hi0,cof53,go_sem])
  · exact zyg (zg hD 4 101) rfl (by simp [execOp,Act.eval,zd hD 7 104,m0 w1 hL,m1 w1 hL,go_sem])
  · exact zyg (zg hD 4 101) rfl (by simp [execOp,Act.eval,zs hS s4,go_sem])
  · exact zyg (zg hD 4 101) rfl (by simp [execOp,Act.eval,zs hS s19,go_sem])
  · exact zyg (zg hD 4 101) rfl (by simp [execOp,Act.eval,zd hD 9 106,zd hD 10 107,hiN,hi0,cof53,go_sem])
  · exact zyg (zg hD 4 101) rfl (by simp [execOp,Act.eval,zd hD 11 108,l0 w1 hL,l1 w1 hL,go_sem])
  · exact zyg (zg hD 4 101) rfl (by simp [execOp,Act.eval,zd hD 8 105,zd hD 12 109,go_sem])
  · exact zy rfl (by simp [execOp,Act.eval,zd hD 4 101,zd hD 13 110,go_sem])
  · exact zy rfl (by simp [execOp,Act.eval,zd hD 14 111,go_sem])
  · exact zyg (zg hD 15 112) rfl (by simp [execOp,Act.eval,zs hS s19,go_sem])
  · exact zyg (zg hD 15 112) rfl (by simp [execOp,Act.eval,zs hS s4,go_sem])
  · exact zyg (zg hD 15 112) rfl (by simp [execOp,Act.eval,zd hD 17 114,go_sem])
  · exact zyg (zg hD 15 112) rfl (by simp [execOp,Act.eval,zd hD 16 113,zd hD 18 115,hge,go_sem])
  · exact zyg (zg hD 15 112) rfl (by simp [execOp,Act.eval,zd hD 19 116,go_sem])
  · exact zn (zg hD 20 117)
  · exact zn (zg hD 20 117)
  · exact zn (zg hD 20 117)
  · exact zn (zg hD 20 117)
  · exact zn (zg hD 20 117)
  · exact zn (zg hD 20 117)
  · exact zyg (zg hD 15 112) rfl (by simp [execOp,Act.eval,zd hD 20 117,zd hD 26 123,go_sem])
  exact zy rfl (by simp [execOp,Act.eval,zd hD 15 112,zd hD 27 124,go_sem])
theorem ap_r14b (g i N c:Nat) (ad:Option Addr) (w:World) (a0:Act) (Q:Exit→Act→World→Prop) (hsz:a0.tmps.size=143)
 (s19:a0.tmps.getD 19 undef=.int .i64 (i:Int))
 (s4:a0.tmps.getD 4 undef=.slice ad N c)
 (s11:a0.tmps.getD 11 undef=.slice (some ⟨g,0,none⟩) (N+4) (N+4))
 (hi4:(i:Int)<(N:Int)+4) (hi0:¬(i:Int)<0) (cof53:Tryz.prog.cellsOf 53=2) (hge:¬(i:Int)<(N:Int)) (hge2:(N:Int)≤(i:Int))
 (m0:∀w1,Lat w w1→w1.cell? ⟨g,i*2,none⟩=some (.int .i64 1)) (m1:∀w1,Lat w w1→w1.cell? ⟨g,i*2+1,none⟩=some (.int .u64 201))
 (hQ:∀(v97 v98 v99 v100 v101 v102 v103 v104 v105 v106 v107 v108 v109 v110 v111 v112 v113 v114 v115 v116 v117 v118 v119 v120 v121 v122 v123 v124:Value) (w1:World),Lat w w1→Q .normal (((((((((((((((((((((((((((((a0.put (some 97) v97).put (some 98) v98).put (some 99) v99).put (some 100) v100).put (some 101) v101).put (some 102) v102).put (some 103) v103).put (some 104) v104).put (some 105) v105).put (some 106) v106).put (some 107) v107).put (some 108) v108).put (some 109) v109).put (some 110) v110).put (some 111) v111).put (some 112) v112).put (some 113) v113).put (some 114) v114).put (some 115) v115).put (some 116) v116).put (some 117) v117).put (some 118) v118).put (some 119) v119).put (some 120) v120).put (some 121) v121).put (some 122) v122).put (some 123) v123).put (some 124) v124).put (some 125) (.bool false)) w1):
 Code.wp Tryz.prog ((Tryz.f22.body.bind (zag 14)).getD .skip) Q a0 w:=by
 conv=>arg 2;whnf
 refine zay Lat (TV [.int .i64 (i:Int),.slice ad N c,.int .i64 (N:Int),.bool false,.bool false,undef,undef,undef,undef,undef,undef,undef,undef,undef,.bool false,.bool false,.int .i64 (i:Int),.slice ad N c,.int .i64 (N:Int),.bool true,.bool true,.slice (some ⟨g,0,none⟩) (N+4) (N+4),.int .i64 (i:Int),.pointer (some ⟨g,i*2,none⟩),.agg #[.int .i64 1,.int .u64 201],.agg #[.int .i64 1,.int .u64 201],.bool false,.bool false,.bool false]) (by kernel_rfl) (by kernel_rfl) (by kernel_rfl) (by rw [hsz];kernel_rfl) (by kernel_rfl) Lat.refl Lat.trans (TV.stable _) (Lat.draw w) ?hop ?hdone
 case hdone=>
  intro a w1 hL hS hT
  have k125:a.tmps.getD 125 undef=.bool false:=hT 28 _ rfl _ rfl
  have he:=zam hS
  have hQ2:=hQ (a.tmps.getD 97 undef) (a.tmps.getD 98 undef) (a.tmps.getD 99 undef) (a.tmps.getD 100 undef) (a.tmps.getD 101 undef) (a.tmps.getD 102 undef) (a.tmps.getD 103 undef) (a.tmps.getD 104 undef) (a.tmps.getD 105 undef) (a.tmps.getD 106 undef) (a.tmps.getD 107 undef) (a.tmps.getD 108 undef) (a.tmps.getD 109 undef) (a.tmps.getD 110 undef) (a.tmps.getD 111 undef) (a.tmps.getD 112 undef) (a.tmps.getD 113 undef) (a.tmps.getD 114 undef) (a.tmps.getD 115 undef) (a.tmps.getD 116 undef) (a.tmps.getD 117 undef) (a.tmps.getD 118 undef) (a.tmps.getD 119 undef) (a.tmps.getD 120 undef) (a.tmps.getD 121 undef) (a.tmps.getD 122 undef) (a.tmps.getD 123 undef) (a.tmps.getD 124 undef) w1 hL
  rw [←k125] at hQ2
  rw [he]
  exact hQ2
 case hop=>
  intro i o hi
  have hlt:i<29:=(Array.getElem?_eq_some_iff.1 hi).1
  rcases (show i=0∨i=1∨i=2∨i=3∨i=4∨i=5∨i=6∨i=7∨i=8∨i=9∨i=10∨i=11∨i=12∨i=13∨i=14∨i=15∨i=16∨i=17∨i=18∨i=19∨i=20∨i=21∨i=22∨i=23∨i=24∨i=25∨i=26∨i=27∨i=28 by omega) with rfl|rfl|rfl|rfl|rfl|rfl|rfl|rfl|rfl|rfl|rfl|rfl|rfl|rfl|rfl|rfl|rfl|rfl|rfl|rfl|rfl|rfl|rfl|rfl|rfl|rfl|rfl|rfl|rfl
  all_goals obtain rfl:=Option.some.inj hi
  all_goals clear hi hlt
  all_goals intro a w1 hL hS hD
  · exact zy rfl (by simp [execOp,Act.eval,zs hS s19,go_sem])
  · exact zy rfl (by simp [execOp,Act.eval,zs hS s4,go_sem])
  · exact zy rfl (by simp [execOp,Act.eval,zd hD 1 98,go_sem])
  · exact zy rfl (by simp [execOp,Act.eval,zd hD 0 97,zd hD 2 99,hge,go_sem])
  · exact zy rfl (by simp [execOp,Act.eval,zd hD 3 100,go_sem])
  · exact zn (zg hD 4 101)
  · exact zn (zg hD 4 101)
  · exact zn (zg hD 4 101)
  · exact zn (zg hD 4 101)
  · exact zn (zg hD 4 101)
  · exact zn (zg hD 4 101)
  · exact zn (zg hD 4 101)
  · exact zn (zg hD 4 101)
  · exact zn (zg hD 4 101)
  · exact zy rfl (by simp [execOp,Act.eval,zd hD 4 101,zd hD 13 110,go_sem])
  · exact zy rfl (by simp [execOp,Act.eval,zd hD 14 111,go_sem])
  · exact zyg (zg hD 15 112) rfl (by simp [execOp,Act.eval,zs hS s19,go_sem])
  · exact zyg (zg hD 15 112) rfl (by simp [execOp,Act.eval,zs hS s4,go_sem])
  · exact zyg (zg hD 15 112) rfl (by simp [execOp,Act.eval,zd hD 17 114,go_sem])
  · exact zyg (zg hD 15 112) rfl (by simp [execOp,Act.eval,zd hD 16 113,zd hD 18 115,hge2,go_sem])
  · exact zyg (zg hD 15 112) rfl (by simp [execOp,Act.eval,zd hD 19 116,go_sem])
  · exact zyg (zg hD 20 117) rfl (by simp [execOp,Act.eval,zs hS s11,go_sem])
  · exact zyg (zg hD 20 117) rfl (by simp [execOp,Act.eval,zs hS s19,go_sem])
  · exact zyg (zg hD 20 117) rfl (by simp [execOp,Act.eval,zd hD 21 118,zd hD 22 119,hi4,hi0,cof53,go_sem])
  · exact zyg (zg hD 20 117) rfl (by simp [execOp,Act.eval,zd hD 23 120,m0 w1 hL,m1 w1 hL,go_sem])
  · have d20:=zg hD 20 117
    refine zat (zas rfl rfl rfl d20) ?_
    refine zbb (f:=13) (args:=#[.int .i64 1,.int .u64 201]) (by simp [execOp,resolve,Act.eval,go_sem]) ?_
    refine (zbt 1 201 w1).mono ?_
    rintro e w2 ⟨rfl,h2⟩
    exact ⟨_,rfl,h2,TV.mk rfl⟩
  · exact zyg (zg hD 20 117) rfl (by simp [execOp,Act.eval,zd hD 24 121,zd hD 25 122,go_sem])
  · exact zyg (zg hD 15 112) rfl (by simp [execOp,Act.eval,zd hD 20 117,zd hD 26 123,go_sem])
  exact zy rfl (by simp [execOp,Act.eval,zd hD 15 112,zd hD 27 124,go_sem])
end Go.Proofs.YtlppibigceeimaaGreatDoor
