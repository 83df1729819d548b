import Derived.Test.YtlppibigceeimaaGreatDoorDrD
import Derived.Test.YtlppibigceeimaaGreatDoorSgP
set_option linter.unusedSimpArgs false
set_option linter.unusedVariables false
set_option maxHeartbeats 40000000
set_option maxRecDepth 100000
namespace Go.Proofs.YtlppibigceeimaaGreatDoor
open Go.RowKit
def LyD (F:Nat→Prop) (w:World) (d r n:Nat) (st:K.Sx) (E:List De) (o:ByteArray) (k:Int) (C:List (List Int)) (A:List Sm) (X lf:Nat) (e:Ending) (w':World):Prop:=
 (Below w.heap.size w w'∧(((k<0∨A≠[])∧e=.returned (.int .i64 1))∨(0≤k∧A=[]∧(∀l,¬LayOk C l)∧e=.returned (.int .i64 100))∨(0≤k∧A=[]∧(∃l,LayOk C l)∧lf<X∧e=.returned (.int .i64 110))))∨
 (0≤k∧A=[]∧X≤lf∧e=.returned (.int .i64 0)∧∃l,LayOk C l∧ApD F w d r n st E o k [] l X w')
structure AQ (C:List (List Int)) (i:Nat) (G:List (List Sm)):Prop where
 rd:RdAll (C.take i) G
 ok:∀x∈G.flatten,OkS x
 few:G.flatten.length≤800*i
theorem AQ.next {C:List (List Int)} {i:Nat} {G:List (List Sm)} (h:AQ C i G) {b:List Int} {g:List Sm} (hb:C[i]?=some b) (hr:rdR b=some g) (hby:Byte b) (hb1:b.length≤200):AQ C (i+1) (G++[g]):=by
 obtain ⟨e1,e2,_⟩:=enc_rd hby hr
 have hf:g.length≤800:=by
  by_cases h0:g=[]
  · subst h0;simp
  have:=zeo h0
  rw [e1] at this
  omega
 refine ⟨?_,fun x hx=>?_,?_⟩
 · rw [List.take_add_one,hb]
   exact h.rd.snoc hr
 · simp only [List.flatten_append,List.flatten_cons,List.flatten_nil,List.append_nil,List.mem_append] at hx
   rcases hx with hx|hx
   · exact h.ok x hx
   exact e2 x hx
 have:=h.few
 simp only [List.flatten_append,List.flatten_cons,List.flatten_nil,List.append_nil,List.length_append]
 omega
theorem LayOk.many {C:List (List Int)} {l:List Sm} (h:LayOk C l) {i:Nat} {G:List (List Sm)} (k:RdAll (C.take i) G) (hi:i≤C.length):i≤G.flatten.length:=by
 have h1:=h.all
 unfold RdAll at h1 k
 have h2:(C.map rdR).take i=G.map some:=by rw [←List.map_take];exact k
 rw [h1,←List.map_take] at h2
 have h3:(gO (gF l)).take i=G:=(List.map_inj_right (fun x y h=>Option.some.inj h)).1 h2
 have h4:(gO (gF l)).length=C.length:=by have:=congrArg List.length h.eq;simpa using this
 have h5:∀g∈G,1≤g.length:=fun g hg=>by
  rw [←h3] at hg
  exact List.length_pos_iff.2 (zcs (okG h.ok) g (List.mem_of_mem_take hg)).1
 have h6:G.length=i:=by rw [←h3,List.length_take];omega
 have h7:∀G:List (List Sm),(∀g∈G,1≤g.length)→G.length≤G.flatten.length:=by
  intro G
  induction G with
  |nil=>intro _;simp
  |cons g G ih=>
   intro hh
   have:=ih (fun x hx=>hh x (by simp [hx]))
   have:=hh g (by simp)
   simp only [List.length_cons,List.flatten_cons,List.length_append]
   omega
 have:=h7 G h5
 omega
theorem layQ (o:ByteArray) (k:Int) (F:Nat→Prop) (d r n:Nat) (st:K.Sx) (E:List De) (w:World) (h:DQr F w d r n st E) (hE:E.length≤100000) (ad:Option Addr) (X cc:Nat) (C:List (List Int)) (hC:Lbs w ad C) (hX:C.length=X) (hX9:X≤40) (hl:∀b∈C,b.length≤200):
 Calls Tryz.prog 60 #[.pointer (some ⟨d,0,none⟩),.string o,.int .i64 k,.slice ad X cc] w (LyD F w d r n st E o k C (enL (zE E o) k).2 X (n - (K.tkL st n).length)):=by
 have HDQ:=zaa h
 have hsz:=h.sz
 obtain ⟨q,B,v,XX,h1,rfl,h3,h4,h5⟩:=h
 have hXX:XX.length≤100000:=by unfold esD at hE;rw [List.length_map] at hE;exact hE
 have HPL:=zaa (placeR o k d r v XX w h1 (by omega))
 have HLF:=zaa (fun (wx:World) (hb:Below w.heap.size w wx)=>K.leftR r q n st B wx (h3.later hb))
 have HC0:Hid (∀wx,Below w.heap.size w wx→wx.cell? ⟨d,0,none⟩=some (.pointer (some ⟨r,0,none⟩))):=zaa (fun wx hb=>(h1.later hb).blk.cell 0)
 have htl:=K.tkL_len st n
 have hn1:=h3.n1
 have HC:=zaa hC
 have HX:=zaa hX
 have HL:=zaa hl
 have HSZ:=zaa hsz
 have HE:=zaa hE
 obtain ⟨lf,hlf⟩:∃lf,n - (K.tkL st n).length=lf:=⟨_,rfl⟩
 rw [hlf] at HLF ⊢
 have HLFE:=zaa hlf
 clear h1 h3 h4 h5 hsz hC hX hl hE hlf hXX
 by_cases hk:k<0
 · have HK:=zaa hk
   go_enter Tryz.func60,Tryz.ntmps60
   go_wp2_with fail
   go_ret
   unfold LyD
   exact .inl ⟨Below.refl _ _,.inl ⟨.inl HK.out,rfl⟩⟩
 have hk0:decide (k<0)=false:=by simpa using hk
 have HK:=zaa (show 0≤k by omega)
 go_enter Tryz.func60,Tryz.ntmps60
 go_wp2_with fail
 refine HPL.out.mono ?_
 rintro e w1 ⟨⟨z,rfl,hpl⟩,hw⟩
 obtain rfl:=hw.symm
 clear hw HPL
 rcases hpl with ⟨rfl,hno⟩|⟨i,e,rfl,hi,ho,hk2⟩
 · have hA:(enL (zE (esD XX) o) k).2=[]:=by rw [zgm (zE_out hno)]
   have HA:=zaa hA
   clear hno
   rw [hA]
   go_wp2_with fail
   go_loopw [9,10] (fun s9 s10 wx=>∃(i m:Nat) (a9:Option Addr) (c9:Nat),s9=.slice a9 m c9∧s10=.int .i64 (i:Int)∧i≤X∧m≤800*i∧Hid (∃G,AQ C i G∧m=G.flatten.length∧wx.ownsRow w.heap.size 53 2 (.slice a9 m c9) m (cS G.flatten))∧Hid (Below w.heap.size w wx)) (fun _ s10 _=>X - nOf s10)
   case atStart=>exact ⟨0,0,none,0,rfl,rfl,by omega,by omega,zaa ⟨[],⟨by simp [RdAll],by simp,by simp⟩,rfl,World.ownsRow_nil _ _ _ _⟩,zaa (Below.refl _ _)⟩
   case round=>
    rename World=>wr
    obtain ⟨i,m,a9,c9,rfl,rfl,hi,hm9,hG,hB⟩:=hrel
    obtain ⟨G,hAQ,hmG,hOW⟩:=hG.out
    have HAQ:=zaa hAQ
    have HMG:=zaa hmG
    have HOW:=zaa hOW
    have HSS:=zaa (zan hOW hAQ.ok)
    clear hG hAQ hmG hOW
    by_cases hlt:i<X
    · have hltz:(i:Int)<(X:Int):=by omega
      by_cases him:i≤m
      · have himz:(i:Int)≤(m:Int):=by omega
        obtain ⟨c,hc⟩:∃c,C[i]?=some c:=⟨C[i]'(by rw [HX.out];exact hlt),by simp⟩
        obtain ⟨g,off,ad',c',rfl,hgl,hcell,hsl,hcap,hcm,hnn⟩:=(HC.out.later hB.out) i c hc
        have hc9:=HL.out c (List.mem_of_getElem? hc)
        have HCC:=zaa hc
        have HSL:=zaa hsl
        have hby:=zaa hsl.byte
        unfold maxLen at hcm
        have HRD:=zaa (readD wr ad' c.length c' c hsl (by omega) hcap (by omega) (fun e=>by
         have h0:=hnn e
         exact ⟨by omega,h0⟩))
        obtain ⟨cl,hcl⟩:∃cl,c.length=cl:=⟨_,rfl⟩
        rw [hcl] at hcell HRD
        have HCL:=zaa hcl
        clear hc hsl hcap hcm hnn hcl
        go_wp2_with fail
        refine HRD.out.mono ?_
        rintro e w3 ⟨ad3,c3,l3,ec,rfl,o3,k3,b3,hcs⟩
        have O3:=zaa o3
        have K3:=zaa k3
        have B3:=zaa b3
        obtain ⟨_,_,e9,hn3,_⟩:=za3 o3
        simp only [Value.slice.injEq] at e9
        have HN3:Hid (ad3=none→l3=[]∧c3=0):=zaa (fun e=>by
         rw [←e9.1,←e9.2.2] at hn3
         have:=hn3 e
         exact ⟨List.eq_nil_of_length_eq_zero this.1,this.2⟩)
        obtain ⟨N3,hN3⟩:∃N3,l3.length=N3:=⟨_,rfl⟩
        rw [hN3] at O3 ⊢
        have HN:=zaa hN3
        rcases hcs with ⟨hrd,rfl⟩|⟨hrd,rfl,rfl⟩
        · have hn8:N3≤800:=by
           by_cases h0:l3=[]
           · rw [←hN3,h0];simp
           have h8:=zeo h0
           rw [(enc_rd hby.out hrd).1,hN3] at h8
           omega
          have HRDE:=zaa hrd
          have HW3:Hid (w3.ownsRow w.heap.size 53 2 (.slice a9 m c9) m (cS G.flatten)):=zaa (owl HOW.out b3)
          have hb3s:Hid (Below w.heap.size w w3):=zaa (hB.out.trans (b3.mono hB.out.size))
          clear o3 k3 b3 hN3 hrd e9 hn3 hcell hgl
          go_wp2_with (first
           |(refine zb1 _ rfl (.tmp 46) (.tmp 47) rfl w.heap.size (.slice a9 m c9) m G.flatten rfl HW3.out ad3 N3 c3 l3 rfl (zan O3.out K3.out) HN.out HN3.out (m+N3) rfl (by omega) hb3s.out.size ?_
             intro a4 c4 w4 o4 b4
             have O4:=zaa o4
             have B4:=zaa b4
             clear o4 b4))
          have e2:(G++[l3]).flatten=G.flatten++l3:=by simp
          refine ⟨⟨i+1,m+N3,a4,c4,rfl,by first|rfl|simp,by omega,by omega,zaa ⟨G++[l3],HAQ.out.next HCC.out HRDE.out hby.out (HL.out c (List.mem_of_getElem? HCC.out)),by rw [e2,List.length_append,←HMG.out,HN.out],by rw [e2];exact O4.out⟩,zaa (hb3s.out.trans B4.out)⟩,?_⟩
          simp [nOf]
          omega
        have HRDE:=zaa hrd
        clear o3 k3 b3 hN3 hrd e9 hn3 hcell hgl
        go_wp2_with fail
        go_ret
        unfold LyD
        refine .inl ⟨hB.out.trans (B3.out.mono hB.out.size),.inr (.inl ⟨HK.out,HA.out,fun l hl=>?_,rfl⟩)⟩
        obtain ⟨g9,_,_,_,h9,_⟩:=hl.grp HCC.out
        rw [HRDE.out] at h9
        cases h9
      have himz:¬(i:Int)≤(m:Int):=by omega
      have HNL:Hid (∀l,¬LayOk C l):=zaa (fun l hl=>by
       have h9:=hl.many HAQ.out.rd (by rw [HX.out];exact hi)
       rw [←HMG.out] at h9
       omega)
      have hgl:(gO (gF G.flatten)).length≤m:=by
       have h9:=zdt (okG HAQ.out.ok)
       rw [zbd,←HMG.out] at h9
       exact h9
      have HGL:=zaa hgl
      go_wp2_with fail
      refine (zc7 wr a9 m c9 G.flatten HSS.out HMG.out.symm (by omega)).mono ?_
      rintro e w3 ⟨a3,c3,D3,rfl,k3,b3⟩
      rw [List.length_map] at k3 ⊢
      have B3:Hid (Below w.heap.size w w3):=zaa (hB.out.trans (b3.mono hB.out.size))
      clear k3 b3
      obtain ⟨P,hP⟩:∃P,(gO (gF G.flatten)).length=P:=⟨_,rfl⟩
      rw [hP] at hgl ⊢
      by_cases hm0:m=0
      · subst hm0
        go_wp2_with fail
        go_ret
        unfold LyD
        exact .inl ⟨B3.out,.inr (.inl ⟨HK.out,HA.out,HNL.out,rfl⟩)⟩
      have hm0z:((m:Int)==0)=false:=by simpa using hm0
      have hpx:((P:Int) !=(X:Int))=true:=by
       simp only [bne_iff_ne,ne_eq]
       omega
      go_wp2_with fail
      go_ret
      unfold LyD
      exact .inl ⟨B3.out,.inr (.inl ⟨HK.out,HA.out,HNL.out,rfl⟩)⟩
    have hltz:¬(i:Int)<(X:Int):=by omega
    have hiX:C.take i=C:=List.take_of_length_le (by rw [HX.out];omega)
    have hrd:=HAQ.out.rd
    rw [hiX] at hrd
    have HRD:=zaa hrd
    have HOK:=zaa HAQ.out.ok
    obtain ⟨L,hL⟩:∃L,G.flatten=L:=⟨_,rfl⟩
    have HFL:Hid (∀l,LayOk C l→L=l):=zaa (fun l hl=>by rw [←hL];exact hl.flat HRD.out)
    rw [hL] at HSS HOK HMG HOW
    clear hrd hiX hL HAQ HRD
    go_wp2_with fail
    refine (zc7 wr a9 m c9 L HSS.out HMG.out.symm (by omega)).mono ?_
    rintro e w3 ⟨a3,c3,D3,rfl,k3,b3⟩
    have hP9:(gO (gF L)).length≤m:=by
     have h9:=zdt (okG HOK.out)
     rw [zbd,←HMG.out] at h9
     exact h9
    rw [List.length_map] at k3 ⊢
    have B3:Hid (Below w.heap.size w w3):=zaa (hB.out.trans (b3.mono hB.out.size))
    have HS3:=zaa (HSS.out.later b3)
    obtain ⟨P,hP⟩:∃P,(gO (gF L)).length=P:=⟨_,rfl⟩
    rw [hP] at k3 hP9 ⊢
    have K3:=zaa k3
    have HP:=zaa hP
    clear k3 b3 hP
    by_cases hm0:m=0
    · subst hm0
      go_wp2_with fail
      go_ret
      unfold LyD
      refine .inl ⟨B3.out,.inr (.inl ⟨HK.out,HA.out,fun l hl=>hl.ne ?_,rfl⟩)⟩
      rw [←HFL.out l hl]
      exact List.eq_nil_of_length_eq_zero HMG.out.symm
    have hm0z:((m:Int)==0)=false:=by simpa using hm0
    by_cases hpx:P=X
    · have hpxz:((P:Int) !=(X:Int))=false:=by simp [hpx]
      have HPX:=zaa hpx
      clear hpx
      go_wp2_with fail
      refine (followR w3 none a9 0 m 0 c9 [] L (Ss.nil w3 none) HS3.out rfl HMG.out.symm List.Pairwise.nil ⟨by omega,by omega⟩).mono ?_
      rintro e w4 ⟨rfl,hc4⟩
      rw [List.nil_append]
      have B34:Hid (Below w3.heap.size w3 w4):=zaa (hc4.below (Nat.le_refl _) (fun i h=>h.elim))
      have B4:Hid (Below w.heap.size w w4):=zaa (B3.out.trans (B34.out.mono B3.out.size))
      clear hc4
      by_cases hr:Ris L
      · have HR:=zaa hr
        rw [decide_eq_true hr]
        clear hr
        go_wp2_with fail
        go_loopw [14] (fun s14 wx=>∃t:Nat,s14=.int .i64 (t:Int)∧t≤P∧Hid (((gO (gF L)).map encC).take t=C.take t)∧Hid (Below w3.heap.size w3 wx)) (fun s14 _=>P - nOf s14)
        case atStart=>exact ⟨0,rfl,by omega,zaa (by simp),B34⟩
        case round=>
         rename World=>wq
         obtain ⟨t,rfl,ht,hE,hBq⟩:=hrel
         by_cases htl2:t<P
         · have htz:(t:Int)<(P:Int):=by omega
           have htx:(t:Int)<(X:Int):=by have:=HPX.out;omega
           obtain ⟨b,hb⟩:∃b,((gO (gF L)).map encC)[t]?=some b:=⟨((gO (gF L)).map encC)[t]'(by rw [List.length_map,HP.out];exact htl2),List.getElem?_eq_getElem _⟩
           obtain ⟨c,hc⟩:∃c,C[t]?=some c:=⟨C[t]'(by rw [HX.out];omega),by simp⟩
           obtain ⟨g1,d1,e1,rfl,q1⟩:=K3.out.at (by rw [List.length_map];exact HP.out) t b hb
           obtain ⟨k1,k2⟩:=q1 (fun _=>False) wq (Chg.of_below hBq.out) (fun _ _ h=>h) (fun _ _ h=>h)
           obtain ⟨g2,off,ad',c',rfl,hgl,hcell,hsl,_⟩:=(HC.out.later (B3.out.trans (hBq.out.mono B3.out.size))) t c hc
           have hc1:∀q,(convert 84 9 (.slice d1 b.length e1)).run Tryz.prog (wq.drewN q)=.ok (.string (strOfNums b)) (wq.drewN q):=fun q=>zav 84 5 9 Tryz.underlying84 Tryz.underlying5 Tryz.underlying9 (k2.later (zah (Below.refl _ _) q))
           have hc2:∀q,(convert 84 9 (.slice ad' c.length c')).run Tryz.prog (wq.drewN q)=.ok (.string (strOfNums c)) (wq.drewN q):=fun q=>zav 84 5 9 Tryz.underlying84 Tryz.underlying5 Tryz.underlying9 (hsl.later (zah (Below.refl _ _) q))
           have heq:=K.str_eqR (strOfNums b) (strOfNums c)
           have HB:=zaa hb
           have HCC:=zaa hc
           have HBY:=zaa (And.intro k2.byte hsl.byte)
           obtain ⟨bl,hbl⟩:∃bl,b.length=bl:=⟨_,rfl⟩
           obtain ⟨cl,hcl⟩:∃cl,c.length=cl:=⟨_,rfl⟩
           rw [hbl] at k1 hc1
           rw [hcl] at hcell hc2
           have HNXT:Hid (b=c→((gO (gF L)).map encC).take (t+1)=C.take (t+1)):=zaa (fun e=>by
            rw [List.take_add_one,List.take_add_one,HB.out,HCC.out,hE.out,e])
           clear hb hc q1 k2 hsl hbl hcl
           by_cases hbc:b=c
           · rw [decide_eq_true (by rw [hbc])] at heq
             have HBC:=zaa (HNXT.out hbc)
             generalize strOfNums b=sb at*
             generalize strOfNums c=sc at*
             clear hbc HNXT
             go_wp2_with fail
             go_quiet (fail)
             go_wp2
             refine ⟨⟨t+1,by first|rfl|simp,by omega,HBC,zaa (zah hBq.out _)⟩,?_⟩
             simp [nOf]
             omega
           have hsn:¬strOfNums b=strOfNums c:=fun e=>hbc (str_inj HBY.out.1 HBY.out.2 e)
           rw [decide_eq_false hsn] at heq
           have HBC:=zaa hbc
           generalize strOfNums b=sb at*
           generalize strOfNums c=sc at*
           clear hbc hsn HNXT
           go_wp2_with fail
           go_quiet (fail)
           go_wp2
           go_ret
           unfold LyD
           refine .inl ⟨B3.out.trans ((zah hBq.out _).mono B3.out.size),.inr (.inl ⟨HK.out,HA.out,fun l hl=>HBC.out ?_,rfl⟩)⟩
           have h9:=HB.out
           rw [HFL.out l hl,hl.eq,HCC.out] at h9
           exact (Option.some.inj h9).symm
         have htz:¬(t:Int)<(P:Int):=by omega
         have hCE:(gO (gF L)).map encC=C:=by
          have h9:=hE.out
          rw [List.take_of_length_le (by rw [List.length_map,HP.out];omega),List.take_of_length_le (by rw [HX.out,←HPX.out];omega)] at h9
          exact h9
         have hLO:LayOk C L:=⟨fun e=>hm0 (by rw [HMG.out,e];rfl),HR.out,HOK.out,hCE⟩
         have HLO:=zaa hLO
         have Bq:Hid (Below w.heap.size w wq):=zaa (B3.out.trans (hBq.out.mono B3.out.size))
         have cd0:=HC0.out wq Bq.out
         clear hE hCE hLO
         go_wp2_with fail
         refine (HLF.out wq Bq.out).mono ?_
         rintro e w5 ⟨rfl,hw5⟩
         obtain rfl:=hw5.symm
         clear hw5
         by_cases hroom:P > lf
         · have hroomz:(P:Int) > (lf:Int):=by omega
           go_wp2_with fail
           go_ret
           unfold LyD
           exact .inl ⟨Bq.out,.inr (.inr ⟨HK.out,HA.out,⟨L,HLO.out⟩,by rw [←HPX.out];exact hroom,rfl⟩)⟩
         have hroomz:¬(P:Int) > (lf:Int):=by omega
         have HRM:=zaa hroom
         clear hroom
         go_wp2_with fail
         refine (appendQ o k F d r n st (esD XX) wq (HDQ.out.later Bq.out) HE.out (by rw [HA.out];simp) a9 m c9 L (HS3.out.later hBq.out) HMG.out.symm (by omega) (fun e=>?_) (fun z hz _ e=>?_)).mono ?_
         · subst e
           obtain ⟨_,_,e9,hn3,_⟩:=za3 HOW.out
           simp only [Value.slice.injEq] at e9
           have:=hn3 e9.1.symm
           exact ⟨List.eq_nil_of_length_eq_zero (by rw [←HMG.out];exact this.1),by rw [e9.2.2];exact this.2⟩
         · have h9:=(HOW.out.lt z.block (by
            rw [hz]
            rcases HOW.out.2 with ⟨e1,_⟩|⟨g9,cap,cur,e1,_⟩
            · injection e1 with e1
              rw [hz] at e1
              cases e1
            injection e1 with e1
            rw [hz] at e1
            cases e1
            rfl)).1
           have:=HDQ.out.lt e
           omega
         rintro e w6 hap
         rw [HA.out] at hap
         have HAP:=zaa hap
         have hev:∃q:Int,e=.returned (.int .i64 q):=by
          unfold ApV at hap
          rcases hap with ⟨_,h|h|h|h⟩|h
          · exact ⟨_,h.2⟩
          · exact ⟨_,h.2.2⟩
          · exact ⟨_,h.2.2.2⟩
          · exact ⟨_,h.2.2.2⟩
          exact ⟨_,h.2.2.2.2.1⟩
         obtain ⟨qe,rfl⟩:=hev
         clear hap
         go_wp2_with fail
         go_ret
         unfold LyD
         have h9:=HAP.out
         unfold ApV at h9
         have hz0:(gO (gF ([]:List Sm))).length=0:=rfl
         rw [hz0,List.nil_append,HP.out,HLFE.out] at h9
         have hne:=HLO.out.ne
         have hri:=HLO.out.ris
         have hrm:=HRM.out
         have hkk:=HK.out
         rcases h9 with ⟨_,h|h|h|h⟩|h
         · omega
         · exact absurd hri h.2.1
         · omega
         · exact absurd h.2.2.1 hne
         obtain ⟨_,_,_,h4,h5,F',st',E',sl',k1,k2,k3,k4,k5,k6⟩:=h
         refine .inr ⟨hkk,HA.out,by rw [←HPX.out];omega,h5,L,HLO.out,F',st',E',sl',k1,(Chg.of_below (F:=F) Bq.out).trans k2 (fun _ _ e=>e),fun i hi=>(k3 i hi).imp id (fun e=>Nat.le_trans Bq.out.size e),by rw [←HPX.out];exact k4,k5,k6⟩
      have HR:=zaa hr
      rw [decide_eq_false hr]
      clear hr
      go_wp2_with fail
      go_ret
      unfold LyD
      exact .inl ⟨B4.out,.inr (.inl ⟨HK.out,HA.out,fun l hl=>HR.out (by rw [HFL.out l hl];exact hl.ris),rfl⟩)⟩
    have hpxz:((P:Int) !=(X:Int))=true:=by
     simp only [bne_iff_ne,ne_eq]
     omega
    have HPX:=zaa hpx
    clear hpx
    go_wp2_with fail
    go_ret
    unfold LyD
    refine .inl ⟨B3.out,.inr (.inl ⟨HK.out,HA.out,fun l hl=>HPX.out ?_,rfl⟩)⟩
    have h9:=congrArg List.length hl.eq
    rw [←HFL.out l hl,List.length_map,HP.out,HX.out] at h9
    exact h9
 have hiz:(i:Int)≥0:=by omega
 have hne:(enL (zE (esD XX) o) k).2≠[]:=by
  have h9:=zE_mem (List.mem_of_getElem? hi)
  rw [ho] at h9
  have h8:=enL_in (HSZ.out.key o) h9
  have h7:=HSZ.out.each o _ h9
  rw [show (enD e).1=k from hk2] at h8
  rw [h8]
  exact h7.ne
 have HNE:=zaa hne
 clear hi ho hk2 hne
 go_wp2_with fail
 go_ret
 unfold LyD
 exact .inl ⟨Below.refl _ _,.inl ⟨.inr HNE.out,rfl⟩⟩
structure RowK (RW:World→Value→Nat→Nat→Prop) (t:TypeId):Prop where
 chg:∀{F:Nat→Prop} {w w':World} {u:Value} {i k:Nat},RW w u i k→Chg F w w'→(∀g,u.ownBlock=some g→¬F g)→RW w' u i k
 tg:∀{w:World} {u:Value} {i k:Nat},RW w u i k→∀g,u.ownBlock=some g→Tg w g t
def mkS (i:Nat):Sm:=⟨-1000 - (i:Int),77⟩
def mkB (i:Nat):Int:=(i:Int)%256
def RWs (w:World) (u:Value) (i k:Nat):Prop:=w.ownsRow 0 53 2 u k (cS (List.replicate k (mkS i)))
def RWb (w:World) (u:Value) (i k:Nat):Prop:=K.Rw w 5 u (zae (List.replicate k (mkB i)))
theorem zf3 {w:World} {t:TypeId} {v:Value} {xs:List Value} (h:K.Rw w t v xs) {g:Nat} (hg:v.ownBlock=some g):Tg w g t:=by
 rcases h with ⟨rfl,_⟩|⟨g',cap,cur,mk,rfl,hh,_⟩
 · cases hg
 have:some g'=some g:=hg
 injection this with this
 subst this
 exact ⟨cur,mk,hh⟩
theorem zfr {F:Nat→Prop} {w w':World} {t:TypeId} {v:Value} {xs:List Value} (h:K.Rw w t v xs) (k:Chg F w w') (hF:∀g,v.ownBlock=some g→¬F g):K.Rw w' t v xs:=by
 rcases h with ⟨h0,h1⟩|⟨g',cap,cur,mk,hv,hh,hr⟩
 · exact .inl ⟨h0,h1⟩
 refine .inr ⟨g',cap,cur,mk,hv,?_,hr⟩
 rw [k.block g' ((Array.getElem?_eq_some_iff.1 hh).1) (hF g' (by rw [hv];rfl))]
 exact hh
theorem rkS:RowK RWs 53:=⟨fun h c hF=>c.owns h hF,fun h g hg=>zab h g hg⟩
theorem rkB:RowK RWb 5:=⟨fun h c hF=>zfr h c hF,fun h g hg=>zf3 h hg⟩
def OB (L:List Value):Nat→Prop:=fun g=>∃u,u∈L∧u.ownBlock=some g
structure OtL (RW:World→Value→Nat→Nat→Prop) (base:Nat) (w:World) (L:List Value):Prop where
 row:∀(i:Nat) (u:Value),L[i]?=some u→∃k,k≤1000000∧RW w u i k
 apt:∀(i j:Nat) (u u':Value),i≠j→L[i]?=some u→L[j]?=some u'→∀g,u.ownBlock=some g→¬u'.ownBlock=some g
 lo:∀g,OB L g→base≤g
section
variable {RW:World→Value→Nat→Nat→Prop} {t:TypeId} {base:Nat} {w w':World} {L:List Value}
theorem OtL.tg (h:OtL RW base w L) (K:RowK RW t) {g:Nat} (hg:OB L g):Tg w g t:=by
 obtain ⟨v,hv,e⟩:=hg
 obtain ⟨i,hi⟩:=List.getElem?_of_mem hv
 obtain ⟨k,_,hr⟩:=h.row i v hi
 exact K.tg hr g e
theorem OtL.chg {F:Nat→Prop} (h:OtL RW base w L) (K:RowK RW t) (k:Chg F w w') (hF:∀g,OB L g→¬F g):OtL RW base w' L:=
 ⟨fun i v hi=>by
  obtain ⟨m,hm,hr⟩:=h.row i v hi
  exact ⟨m,hm,K.chg hr k (fun g hg=>hF g ⟨v,List.mem_of_getElem? hi,hg⟩)⟩,h.apt,h.lo⟩
theorem OtL.add {a:Value} {k:Nat} (h:OtL RW base w L) (hk:k≤1000000) (hr:RW w a L.length k) (hn:∀g,a.ownBlock=some g→base≤g∧¬OB L g):OtL RW base w (L++[a]):=by
 have hat:∀i v,(L++[a])[i]?=some v→(L[i]?=some v)∨(i=L.length∧v=a):=by
  intro i v hi
  by_cases e:i<L.length
  · rw [List.getElem?_append_left e] at hi;exact .inl hi
  rw [List.getElem?_append_right (by omega)] at hi
  have hi0:i - L.length=0:=by
   have:=(List.getElem?_eq_some_iff.1 hi).1
   simpa using this
  rw [hi0] at hi
  simp at hi
  exact .inr ⟨by omega,hi.symm⟩
 refine ⟨fun i v hi=>?_,fun i j v v' hij hi hj g hg hg'=>?_,fun g hg=>?_⟩
 · rcases hat i v hi with h1|⟨rfl,rfl⟩
   · exact h.row i v h1
   exact ⟨k,hk,hr⟩
 · rcases hat i v hi with h1|⟨rfl,rfl⟩
   · rcases hat j v' hj with h2|⟨rfl,rfl⟩
     · exact h.apt i j v v' hij h1 h2 g hg hg'
     exact (hn g hg').2 ⟨v,List.mem_of_getElem? h1,hg⟩
   rcases hat j v' hj with h2|⟨rfl,rfl⟩
   · exact (hn g hg).2 ⟨v',List.mem_of_getElem? h2,hg'⟩
   exact hij rfl
 obtain ⟨v,hv,e⟩:=hg
 rcases List.mem_append.1 hv with h1|h1
 · exact h.lo g ⟨v,h1,e⟩
 simp at h1;subst h1;exact (hn g e).1
end
theorem DQr.tag {F:Nat→Prop} {w:World} {d r n:Nat} {st:K.Sx} {E:List De} (h:DQr F w d r n st E) {i:Nat} (hi:F i):∃t,Tg w i t∧t∈[78,114,53,3,72,116,5]:=by
 obtain ⟨q,B,v,X,h1,h2,h3,h4,h5⟩:=h
 rcases (h5 i).1 hi with h|rfl|rfl|h
 · rcases (DF.tag h1 h).2 with h|h|h|h
   · exact ⟨_,h,by simp⟩
   · exact ⟨_,h,by simp⟩
   · exact ⟨_,h,by simp⟩
   exact ⟨_,h,by simp⟩
 · exact ⟨_,h3.blk.tg,by simp⟩
 · exact ⟨_,h3.row.tg,by simp⟩
 exact ⟨_,K.RG.tg h3 h,by simp⟩
theorem DQr.no {F:Nat→Prop} {w:World} {d r n:Nat} {st:K.Sx} {E:List De} (h:DQr F w d r n st E) {i:Nat} {t:TypeId} (ht:Tg w i t) (hn:t∉[78,114,53,3,72,116,5]):¬F i:=fun hi=>by
 obtain ⟨s,hs,hm⟩:=h.tag hi
 rw [ht.one hs] at hn
 exact hn hm
theorem SQ.no {F:Nat→Prop} {w:World} {S p n:Nat} {st:K.Sx} {Z:ByteArray→List En} (h:SQ F w S p n st Z) {i:Nat} {t:TypeId} (ht:Tg w i t) (h3:t≠3) (h5:t≠51):¬F i:=fun hi=>by
 rcases (h.tag hi).2 t ht with e|e
 · exact h3 e
 exact h5 e
def upF {α:Type} (f:Nat→α) (k:Nat) (x:α):Nat→α:=fun j=>if j=k then x else f j
theorem zar {α:Type} (f:Nat→α) (k:Nat) (x:α):upF f k x k=x:=if_pos rfl
theorem zaj {α:Type} (f:Nat→α) {k j:Nat} (x:α) (h:¬j=k):upF f k x j=f j:=if_neg h
def pV (p:Nat):Value:=.pointer (some ⟨p,0,none⟩)
def wkC (P S R D:Nat→Nat) (vl vc:Value):List Value:=[pV (P 0),pV (P 1),pV (S 0),pV (S 1),pV (R 0),pV (R 1),pV (D 0),pV (D 1),vl,vc]
structure WK (w0 w:World) (v:Nat) (P S R D n:Nat→Nat) (st su:Nat→K.Sx) (Z:Nat→ByteArray→List En) (E:Nat→List De) (F H:Nat→Nat→Prop) (vl vc:Value) (Ll Lc:List Value):Prop where
 bel:Below w0.heap.size w0 w
 gv:Gv w
 lo2:2≤w0.heap.size
 blk:Blk w v 36 (wkC P S R D vl vc)
 sq:∀k,k<2→SQ (F k) w (S k) (P k) (n k) (st k) (Z k)
 dq:∀k,k<2→DQr (H k) w (D k) (R k) (n k) (su k) (E k)
 ol:w.ownsRow w0.heap.size 46 1 vl Ll.length Ll
 oc:w.ownsRow w0.heap.size 84 1 vc Lc.length Lc
 tl:OtL RWs w0.heap.size w Ll
 tc:OtL RWb w0.heap.size w Lc
 len:Ll.length≤60∧Lc.length≤120
 lo:w0.heap.size≤v∧(∀k i,k<2→F k i→w0.heap.size≤i)∧(∀k i,k<2→H k i→w0.heap.size≤i)
 nn:∀k,k<2→n k≤60
 ff:∀k j,k<2→j<2→k≠j→∀i,F k i→¬F j i
 hh:∀k j,k<2→j<2→k≠j→∀i,H k i→¬H j i
 fh:∀k j,k<2→j<2→∀i,F k i→¬H j i
 ho:∀k,k<2→∀i,H k i→¬OB Ll i∧¬OB Lc i
section
variable {w0 w w':World} {v:Nat} {P S R D n:Nat→Nat} {st su:Nat→K.Sx} {Z:Nat→ByteArray→List En} {E:Nat→List De} {F H:Nat→Nat→Prop} {vl vc:Value} {Ll Lc:List Value} {k:Nat}
theorem WK.ltF (h:WK w0 w v P S R D n st su Z E F H vl vc Ll Lc) (hk:k<2) {i:Nat} (hi:F k i):i<w.heap.size:=((h.sq k hk).tag hi).1
theorem WK.ltH (h:WK w0 w v P S R D n st su Z E F H vl vc Ll Lc) (hk:k<2) {i:Nat} (hi:H k i):i<w.heap.size:=(h.dq k hk).lt hi
theorem WK.later (h:WK w0 w v P S R D n st su Z E F H vl vc Ll Lc) (b:Below w.heap.size w w'):WK w0 w' v P S R D n st su Z E F H vl vc Ll Lc:=
 ⟨h.bel.trans (b.mono h.bel.size),h.gv.later b,h.lo2,h.blk.later b,fun k hk=>(h.sq k hk).later b,fun k hk=>(h.dq k hk).later b,owl h.ol b,owl h.oc b,h.tl.chg rkS (Chg.of_below (F:=fun _=>False) b) (fun _ _ e=>e),h.tc.chg rkB (Chg.of_below (F:=fun _=>False) b) (fun _ _ e=>e),h.len,h.lo,h.nn,h.ff,h.hh,h.fh,h.ho⟩
theorem WK.scall (h:WK w0 w v P S R D n st su Z E F H vl vc Ll Lc) (hk:k<2) {F':Nat→Prop} {st':K.Sx} {Z':ByteArray→List En} (hp:SQ F' w' (S k) (P k) (n k) st' Z') (c:Chg (F k) w w') (hn:K.Nw w (F k) F'):WK w0 w' v P S R D n (upF st k st') su (upF Z k Z') E (upF F k F') H vl vc Ll Lc:=by
 have hT:∀i t,Tg w i t→t≠3→t≠51→¬F k i:=fun i t ht a b=>(h.sq k hk).no ht a b
 have hl:=h.bel.size
 refine ⟨h.bel.trans (c.below h.bel.size (fun i hi=>h.lo.2.1 k i hk hi)),h.gv.chg c (fun i hi=>by have:=h.lo.2.1 k i hk hi;have:=h.lo2;omega),h.lo2,c.blk h.blk (hT v 36 h.blk.tg (by decide) (by decide)),fun j hj=>?_,fun j hj=>(h.dq j hj).chg c (fun i hi e=>h.fh k j hk hj i e hi),c.owns h.ol (fun g hg=>hT g 46 (zab h.ol g hg) (by decide) (by decide)),c.owns h.oc (fun g hg=>hT g 84 (zab h.oc g hg) (by decide) (by decide)),h.tl.chg rkS c (fun g hg=>hT g 53 (h.tl.tg rkS hg) (by decide) (by decide)),h.tc.chg rkB c (fun g hg=>hT g 5 (h.tc.tg rkB hg) (by decide) (by decide)),h.len,⟨h.lo.1,fun j i hj hi=>?_,h.lo.2.2⟩,h.nn,fun j j' hj hj' hne i hi hi'=>?_,h.hh,fun j j' hj hj' i hi hi'=>?_,h.ho⟩
 · by_cases e:j=k
   · subst e;rw [zar,zar,zar];exact hp
   rw [zaj _ _ e,zaj _ _ e,zaj _ _ e]
   exact (h.sq j hj).chg c (hT _ 75 (h.sq j hj).blk.1 (by decide) (by decide)) (hT _ 69 (h.sq j hj).blk.2 (by decide) (by decide)) (fun i hi hi'=>h.ff j k hj hk e i hi hi')
 · by_cases e:j=k
   · subst e;rw [zar] at hi
     rcases hn i hi with h1|h1
     · exact h.lo.2.1 j i hj h1
     omega
   rw [zaj _ _ e] at hi;exact h.lo.2.1 j i hj hi
 · by_cases e:j=k
   · subst e
     rw [zar] at hi
     rw [zaj _ _ (fun e=>hne e.symm)] at hi'
     rcases hn i hi with h1|h1
     · exact h.ff j j' hj hj' hne i h1 hi'
     have:=h.ltF hj' hi';omega
   rw [zaj _ _ e] at hi
   by_cases e':j'=k
   · subst e'
     rw [zar] at hi'
     rcases hn i hi' with h1|h1
     · exact h.ff j j' hj hj' hne i hi h1
     have:=h.ltF hj hi;omega
   rw [zaj _ _ e'] at hi'
   exact h.ff j j' hj hj' hne i hi hi'
 by_cases e:j=k
 · subst e
   rw [zar] at hi
   rcases hn i hi with h1|h1
   · exact h.fh j j' hj hj' i h1 hi'
   have:=h.ltH hj' hi';omega
 rw [zaj _ _ e] at hi
 exact h.fh j j' hj hj' i hi hi'
theorem WK.dcall (h:WK w0 w v P S R D n st su Z E F H vl vc Ll Lc) (hk:k<2) {H':Nat→Prop} {su':K.Sx} {E':List De} (hp:DQr H' w' (D k) (R k) (n k) su' E') (c:Chg (H k) w w') (hn:K.Nw w (H k) H'):WK w0 w' v P S R D n st (upF su k su') Z (upF E k E') F (upF H k H') vl vc Ll Lc:=by
 have hT:∀i t,Tg w i t→t∉[78,114,53,3,72,116,5]→¬H k i:=fun i t ht a=>(h.dq k hk).no ht a
 have hl:=h.bel.size
 refine ⟨h.bel.trans (c.below h.bel.size (fun i hi=>h.lo.2.2 k i hk hi)),h.gv.chg c (fun i hi=>by have:=h.lo.2.2 k i hk hi;have:=h.lo2;omega),h.lo2,c.blk h.blk (hT v 36 h.blk.tg (by decide)),fun j hj=>(h.sq j hj).chg c (hT _ 75 (h.sq j hj).blk.1 (by decide)) (hT _ 69 (h.sq j hj).blk.2 (by decide)) (fun i hi e=>h.fh j k hj hk i hi e),fun j hj=>?_,c.owns h.ol (fun g hg=>hT g 46 (zab h.ol g hg) (by decide)),c.owns h.oc (fun g hg=>hT g 84 (zab h.oc g hg) (by decide)),h.tl.chg rkS c (fun g hg e=>(h.ho k hk g e).1 hg),h.tc.chg rkB c (fun g hg e=>(h.ho k hk g e).2 hg),h.len,⟨h.lo.1,h.lo.2.1,fun j i hj hi=>?_⟩,h.nn,h.ff,fun j j' hj hj' hne i hi hi'=>?_,fun j j' hj hj' i hi hi'=>?_,fun j hj i hi=>?_⟩
 · by_cases e:j=k
   · subst e;rw [zar,zar,zar];exact hp
   rw [zaj _ _ e,zaj _ _ e,zaj _ _ e]
   exact (h.dq j hj).chg c (fun i hi hi'=>h.hh j k hj hk e i hi hi')
 · by_cases e:j=k
   · subst e;rw [zar] at hi
     rcases hn i hi with h1|h1
     · exact h.lo.2.2 j i hj h1
     omega
   rw [zaj _ _ e] at hi;exact h.lo.2.2 j i hj hi
 · by_cases e:j=k
   · subst e
     rw [zar] at hi
     rw [zaj _ _ (fun e=>hne e.symm)] at hi'
     rcases hn i hi with h1|h1
     · exact h.hh j j' hj hj' hne i h1 hi'
     have:=h.ltH hj' hi';omega
   rw [zaj _ _ e] at hi
   by_cases e':j'=k
   · subst e'
     rw [zar] at hi'
     rcases hn i hi' with h1|h1
     · exact h.hh j j' hj hj' hne i hi h1
     have:=h.ltH hj hi;omega
   rw [zaj _ _ e'] at hi'
   exact h.hh j j' hj hj' hne i hi hi'
 · by_cases e:j'=k
   · subst e
     rw [zar] at hi'
     rcases hn i hi' with h1|h1
     · exact h.fh j j' hj hj' i hi h1
     have:=h.ltF hj hi;omega
   rw [zaj _ _ e] at hi'
   exact h.fh j j' hj hj' i hi hi'
 by_cases e:j=k
 · subst e
   rw [zar] at hi
   rcases hn i hi with h1|h1
   · exact h.ho j hj i h1
   exact ⟨fun e=>by have:=(h.tl.tg rkS e).lt;omega,fun e=>by have:=(h.tc.tg rkB e).lt;omega⟩
 rw [zaj _ _ e] at hi
 exact h.ho j hj i hi
structure EqK (n:Nat) (st su:K.Sx) (Z:ByteArray→List En) (E:List De):Prop where
 eqv:Eqv Z (zE E)
 cnt:(K.tkL st n).length=(K.tkL su n).length
def WX (w0:World) (v:Nat) (P S R D n:Nat→Nat) (T:Nat) (w:World):Prop:=∃st su Z E F H vl vc Ll Lc,WK w0 w v P S R D n st su Z E F H vl vc Ll Lc∧(∀k,k<2→EqK (n k) (st k) (su k) (Z k) (E k))∧∀k,k<2→(E k).length≤T
theorem WX.later {T:Nat} (h:WX w0 v P S R D n T w) (b:Below w.heap.size w w'):WX w0 v P S R D n T w':=by
 obtain ⟨st,su,Z,E,F,H,vl,vc,Ll,Lc,h1,h2⟩:=h
 exact ⟨st,su,Z,E,F,H,vl,vc,Ll,Lc,h1.later b,h2⟩
theorem two {k:Nat} (h:k<2):k=0∨k=1:=by omega
theorem WK.cp (h:WK w0 w v P S R D n st su Z E F H vl vc Ll Lc) (hk:k<2):w.cell? ⟨v,k,none⟩=some (.pointer (some ⟨P k,0,none⟩))∧w.cell? ⟨v,2+k,none⟩=some (.pointer (some ⟨S k,0,none⟩))∧w.cell? ⟨v,4+k,none⟩=some (.pointer (some ⟨R k,0,none⟩))∧w.cell? ⟨v,6+k,none⟩=some (.pointer (some ⟨D k,0,none⟩)):=by
 rw [h.blk.cell,h.blk.cell,h.blk.cell,h.blk.cell]
 rcases two hk with rfl|rfl <;> exact ⟨rfl,rfl,rfl,rfl⟩
theorem WK.c8 (h:WK w0 w v P S R D n st su Z E F H vl vc Ll Lc):w.cell? ⟨v,8,none⟩=some vl∧w.cell? ⟨v,9,none⟩=some vc:=⟨h.blk.cell 8,h.blk.cell 9⟩
end
theorem bytesInW (S:Nat) (V:Value) (k:Int) (F:Nat→Prop) (p n:Nat) (st:K.Sx) (w:World) (hS:Blk w S 75 [.pointer (some ⟨p,0,none⟩),V]) (h:K.PQ F w p n st) (hd:∀i o d,st i=some (o,d)→d.size≤128):
 Calls Tryz.prog 42 #[.pointer (some ⟨S,0,none⟩),.int .i64 k] w fun e w'=>Below w.heap.size w w'∧((K.atS st n k=none∧e=.returned (.slice none 0 0))∨∃i o d ga c,K.atS st n k=some (i,o,d)∧e=.returned (.slice (some ⟨ga,0,none⟩) d.size c)∧w.heap.size≤ga∧K.Rw w' 5 (.slice (some ⟨ga,0,none⟩) d.size c) (zae (K.bts d))):=by
 have c0:w.cell? ⟨S,0,none⟩=some (.pointer (some ⟨p,0,none⟩)):=hS.cell 0
 have HQ:=zaa (K.getX k F p n st w h hd)
 clear hS h
 go_enter Tryz.func42,Tryz.ntmps42
 go_wp2_with fail
 refine HQ.out.mono ?_
 clear HQ
 rintro e w1 ⟨b1,h1⟩
 have B1:=zaa b1
 clear b1
 rcases h1 with ⟨h1,rfl⟩|⟨i,o,d,ga,c,h1,rfl,h2,h3,h4⟩
 · have H1:=zaa h1
   clear h1
   go_wp2_with fail
   go_ret
   exact ⟨B1.out,.inl ⟨H1.out,rfl⟩⟩
 have H1:=zaa (And.intro h1 (And.intro h2 (And.intro h3 h4)))
 clear h1 h2 h3 h4
 obtain ⟨m,hm⟩:∃m,d.size=m:=⟨_,rfl⟩
 have HM:=zaa hm
 rw [hm]
 clear hm
 go_wp2_with fail
 go_ret
 exact ⟨B1.out,.inr ⟨i,o,d,ga,c,H1.out.1,by rw [HM.out];rfl,H1.out.2.1,H1.out.2.2.2⟩⟩
structure CkW (w:World) (base:Nat) (v:Value) (L:List (List Int)) (us:List Value):Prop where
 row:w.ownsRow base 84 1 v L.length us
 each:∀(i:Nat) (b:List Int),L[i]?=some b→∃g c,us[i]?=some (.slice (some ⟨g,0,none⟩) b.length c)∧K.Rw w 5 (.slice (some ⟨g,0,none⟩) b.length c) (zae b)∧base≤g∧Byte b
 apt:∀(i j:Nat) (u u':Value),i≠j→us[i]?=some u→us[j]?=some u'→∀g,u.ownBlock=some g→¬u'.ownBlock=some g
theorem CkW.len {w:World} {base:Nat} {v:Value} {L:List (List Int)} {us:List Value} (h:CkW w base v L us):us.length=L.length:=by have:=h.row.1;omega
theorem CkW.blk {w:World} {base:Nat} {v:Value} {L:List (List Int)} {us:List Value} (h:CkW w base v L us) {u:Value} (hu:u∈us) {g:Nat} (hg:u.ownBlock=some g):Tg w g 5∧base≤g:=by
 obtain ⟨i,hi⟩:=List.getElem?_of_mem hu
 have hil:=(List.getElem?_eq_some_iff.1 hi).1
 rw [h.len] at hil
 obtain ⟨g',c,e1,e2,e3,_⟩:=h.each i _ (List.getElem?_eq_getElem hil)
 rw [hi] at e1
 cases e1
 cases hg
 exact ⟨zf3 e2 rfl,e3⟩
theorem CkW.chg {F:Nat→Prop} {w w':World} {base:Nat} {v:Value} {L:List (List Int)} {us:List Value} (h:CkW w base v L us) (hc:Chg F w w') (hv:∀g,v.ownBlock=some g→¬F g) (hu:∀u∈us,∀g,u.ownBlock=some g→¬F g):CkW w' base v L us:=
 ⟨hc.owns h.row hv,fun i b hb=>by
  obtain ⟨g,c,e1,e2,e3,e4⟩:=h.each i b hb
  exact ⟨g,c,e1,zfr e2 hc (fun x hx=>hu _ (List.mem_of_getElem? e1) x hx),e3,e4⟩,h.apt⟩
theorem CkW.push {w1 w2 w4:World} {ob:Obj} {base ga cg g' c':Nat} {v:Value} {L:List (List Int)} {us:List Value} {b:List Int} (h:CkW w1 base v L us) (hB:base≤w1.heap.size) (b2:Below w1.heap.size w1 w2) (hr:K.Rw w2 5 (.slice (some ⟨ga,0,none⟩) b.length cg) (zae b)) (hga:w1.heap.size≤ga) (hby:Byte b)
 (o4:w4.ownsRow base 84 1 (.slice (some ⟨g',0,none⟩) (L.length+1) c') (L.length+1) (us++[.slice (some ⟨ga,0,none⟩) b.length cg])) (hp:Pushed (w2.alloc ob) w4 v g'):
 CkW w4 base (.slice (some ⟨g',0,none⟩) (L.length+1) c') (L++[b]) (us++[.slice (some ⟨ga,0,none⟩) b.length cg]):=by
 obtain ⟨k1,k2⟩:=hp.chg
 have hc:Chg (fun i=>v.ownBlock=some i) w1 w4:=(Chg.of_below (F:=fun i=>v.ownBlock=some i) b2).trans k1 (fun _ _ e=>e)
 have hvt:∀g,v.ownBlock=some g→Tg w1 g 84:=fun g hg=>zab h.row g hg
 have hlen:=h.len
 refine ⟨by rw [List.length_append];exact o4,fun i b' hb'=>?_,fun i j u u' hij hi hj g hg hg'=>?_⟩
 · by_cases hi:i<L.length
   · rw [List.getElem?_append_left hi] at hb'
     obtain ⟨g,c,e1,e2,e3,e4⟩:=h.each i b' hb'
     refine ⟨g,c,by rw [List.getElem?_append_left (by omega)];exact e1,zfr e2 hc (fun x hx e=>?_),e3,e4⟩
     have:=(hvt x e).one (zf3 e2 hx)
     cases this
   have hi2:i=L.length:=by
    have:=(List.getElem?_eq_some_iff.1 hb').1
    rw [List.length_append] at this
    simp at this
    omega
   subst hi2
   simp at hb'
   subst hb'
   refine ⟨ga,cg,by rw [←hlen];simp,zfr hr k1 (fun x hx e=>?_),by omega,hby⟩
   cases hx
   have:=za0 h.row ga e
   omega
 have key:∀(i:Nat) (u:Value),(us++[.slice (some ⟨ga,0,none⟩) b.length cg])[i]?=some u→(us[i]?=some u∧(u.ownBlock=some g→g<w1.heap.size))∨(i=us.length∧u=.slice (some ⟨ga,0,none⟩) b.length cg):=by
  intro i u hi
  by_cases e:i<us.length
  · rw [List.getElem?_append_left e] at hi
    exact .inl ⟨hi,fun hg=>(h.blk (List.mem_of_getElem? hi) hg).1.lt⟩
  rw [List.getElem?_append_right (by omega)] at hi
  have hi0:i - us.length=0:=by
   have:=(List.getElem?_eq_some_iff.1 hi).1
   simpa using this
  rw [hi0] at hi
  simp at hi
  exact .inr ⟨by omega,hi.symm⟩
 rcases key i u hi with ⟨h1,h1'⟩|⟨rfl,rfl⟩
 · rcases key j u' hj with ⟨h2,h2'⟩|⟨rfl,rfl⟩
   · exact h.apt i j u u' hij h1 h2 g hg hg'
   have:=h1' hg
   have e:ga=g:=by simpa [Value.ownBlock] using hg'
   omega
 rcases key j u' hj with ⟨h2,h2'⟩|⟨rfl,rfl⟩
 · have:=h2' hg'
   have e:ga=g:=by simpa [Value.ownBlock] using hg
   omega
 exact hij rfl
theorem schunksW (o:ByteArray) (k:Int) (F:Nat→Prop) (S p n:Nat) (st:K.Sx) (Z:ByteArray→List En) (w:World) (h:SQ F w S p n st Z):
 Calls Tryz.prog 17 #[.pointer (some ⟨S,0,none⟩),.string o,.int .i64 k] w fun e w'=>∃ad cc us,e=.returned (.slice ad ((gO (gF (enL (Z o) k).2)).map encC).length cc)∧CkW w' w.heap.size (.slice ad ((gO (gF (enL (Z o) k).2)).map encC).length cc) ((gO (gF (enL (Z o) k).2)).map encC) us∧Below w.heap.size w w':=by
 have hz:=h.sz
 have hen:=hz.en o k
 have hfew:=hz.few o k
 have hmem:=zbz (l:=Z o) (k:=k)
 obtain ⟨T,sh,R,G,h1,h2,h3,h4,h5⟩:=h
 have hn1:=h2.n1
 have hrow:=h1.slots o k (hz.key o)
 obtain ⟨a0,c0,hv⟩:=zal hrow
 have c1:w.cell? ⟨S,1,none⟩=some (.map (some T)):=h1.blk.cell 1
 have l1:=h1.lookT o
 have l2:=h1.lookS o k
 rw [hv] at hrow l2
 have HBI:=zaa (fun (s:Nat) (wx:World) (hb:Below w.heap.size w wx)=>bytesInW S _ (s:Int) G p n st wx (h1.blk.later hb) (h2.later hb) hz.small)
 have hlt:∀s∈(enL (Z o) k).1,s<n:=fun s hs=>by
  have:=(zdd k (hz.key o)).mem_iff (a:=s)
  exact ((hz.mem o s).1 (this.2 (List.mem_append.2 (.inl hs)))).1
 generalize enL (Z o) k=q9 at*
 obtain ⟨sl,A⟩:=q9
 simp only at*
 have HAT:Hid (∀(i s:Nat),sl[i]?=some s→∃d,K.atS st n (s:Int)=some (s,o,d)∧((gO (gF A)).map encC)[i]?=some (K.bts d)∧0<d.size):=zaa (fun i s hs=>by
  have h9:=hen.1.1
  have hi:=(List.getElem?_eq_some_iff.1 hs).1
  obtain ⟨g,hg⟩:∃g,(gO (gF A))[i]?=some g:=⟨(gO (gF A))[i]'(by omega),by simp⟩
  obtain ⟨d,e1,e2⟩:=hen.1.2 i s g hs hg
  refine ⟨d,?_,by rw [List.getElem?_map,hg,e2];rfl,?_⟩
  rotate_left
  · rw [←K.bts_length,e2,zbl (zcs (okG hen.2.2.1) g (List.mem_of_getElem? hg)).1]
    omega
  unfold K.atS
  have:=hlt s (List.mem_of_getElem? hs)
  rw [if_pos ⟨by omega,by omega⟩,Int.toNat_natCast,e1]
  rfl)
 have hLl:((gO (gF A)).map encC).length=sl.length:=by rw [List.length_map];exact hen.1.1.symm
 obtain ⟨L,hL⟩:∃L,(gO (gF A)).map encC=L:=⟨_,rfl⟩
 rw [hL] at HAT hLl ⊢
 obtain ⟨M,hM⟩:∃M,sl.length=M:=⟨_,rfl⟩
 rw [hM] at l2 hrow hfew hLl
 have HLl:=zaa (And.intro hLl hM)
 have HR:=zaa (zci hrow)
 have hM9:M≤65536:=by omega
 obtain ⟨i7,hi7,hz7,hs7,hb7⟩:=zcw
 clear h1 h2 h3 h4 h5 hz hen hfew hmem hn1 hrow hv hlt hL hLl hM
 generalize sh o=sho at*
 go_enter Tryz.func17,Tryz.ntmps17
 go_wp2_with fail
 go_loopw [7,19] (fun v7 v19 wx=>∃i:Nat,v19=.int .i64 (i:Int)∧i≤M∧Hid (∃us,CkW wx w.heap.size v7 (L.take i) us∧Below w.heap.size w wx)) (fun _ v19 _=>M - nOf v19)
 case atStart=>exact ⟨0,rfl,by omega,zaa ⟨[],by rw [List.take_zero];exact ⟨World.ownsRow_nil _ _ _ _,fun i b h=>by simp at h,fun i j u u' _ h=>by simp at h⟩,Below.refl _ _⟩⟩
 case round=>
  obtain ⟨i,rfl,hi,hI⟩:=hrel
  clear c1 l1 l2
  obtain ⟨us,ck,bw⟩:=hI.out
  obtain ⟨ad7,c7,hv7⟩:=zal ck.row
  subst hv7
  have hli:(L.take i).length=i:=by rw [List.length_take];have:=HLl.out.1;omega
  rw [hli] at ck ⊢
  have CK:=zaa ck
  have BW:=zaa bw
  by_cases hin:i<M
  · obtain ⟨s,hs⟩:∃s,sl[i]?=some s:=⟨sl[i]'(by have:=HLl.out.2;omega),by simp⟩
    obtain ⟨g,off,rfl,hlt,hcell⟩:=(HR.out.later bw).at' (by rintro rfl;simp at hs)
    have hcs:=hcell i s hs
    obtain ⟨d,hat,hLi,hd0⟩:=HAT.out i s hs
    have HA:=zaa (And.intro hat (And.intro hLi hd0))
    have OX2:=zaa ck.row
    clear hI ck bw hcell hlt hs hat hLi hd0
    go_wp2_with fail
    refine (HBI.out s wr BW.out).mono ?_
    rintro e w1 ⟨b1,hh⟩
    rcases hh with ⟨hno,_⟩|⟨i2,o2,d2,ga,cg,hat2,rfl,hga,hrw⟩
    · rw [HA.out.1] at hno;cases hno
    have hd2:d=d2:=by rw [HA.out.1] at hat2;simp only [Option.some.injEq,Prod.mk.injEq] at hat2;exact hat2.2.2
    subst hd2
    obtain ⟨m,hm⟩:∃m,d.size=m:=⟨_,rfl⟩
    have HM:=zaa hm
    rw [hm] at hrw ⊢
    have H1:=zaa (And.intro b1 (And.intro hga hrw))
    have B1:Hid (Below w.heap.size w w1):=zaa (BW.out.trans (b1.mono BW.out.size))
    have OX:Hid (∀wx,Below wr.heap.size wr wx→wx.ownsRow w.heap.size 84 1 (.slice ad7 i c7) i us):=zaa (fun wx hb=>by have q:=owl OX2.out hb;rw [hli] at q;exact q)
    have HLI:=zaa hli
    clear b1 hga hrw hat2 hm hli
    go_wp2_with (refine zaw _ rfl (.tmp 23) (.tmp 27) 34 rfl 84 i7 (.slice none 0 0) 24 Tryz.underlying34 hi7 hz7 hs7 hb7 rfl w.heap.size (.slice ad7 i c7) i us rfl (OX.out _ (H1.out.1.trans (((Below.refl _ _).alloc (Nat.le_refl _) _).mono H1.out.1.size))) ⟨w1.heap.size,0,none⟩ (.slice (some ⟨ga,0,none⟩) m cg) rfl ((Blk.new w1 84 [.slice (some ⟨ga,0,none⟩) m cg]).cell 0) rfl (by unfold maxLen;omega) (by omega) (by have:=B1.out.size;simp;omega) ?_;intro g5 c5 w5 o5 p5;have O5:=zaa (And.intro o5 p5);clear o5 p5)
    have HC:=zaa (CkW.push (b:=K.bts d) CK.out BW.out.size H1.out.1 (by rw [K.bts_length,HM.out];exact H1.out.2.2) H1.out.2.1 (K.bts_byte d) (by rw [HLI.out,K.bts_length,HM.out];exact O5.out.1) (by exact O5.out.2))
    have q5:=O5.out.2.chg.1
    have htk:L.take (i+1)=L.take i++[K.bts d]:=by rw [List.take_add_one,HA.out.2.1];rfl
    refine ⟨⟨i+1,by first|rfl|simp,by omega,zaa ⟨_,by rw [htk];rw [HLI.out] at HC;exact HC.out,(BW.out.trans (H1.out.1.mono BW.out.size)).trans (q5.below (Nat.le_trans BW.out.size H1.out.1.size) (fun j hj=>(CK.out.row.lt j hj).1))⟩⟩,?_⟩
    simp [nOf]
    omega
  have e9:L.take i=L:=List.take_of_length_le (by have:=HLl.out.1;omega)
  rw [e9] at CK
  have hiM:i=M:=by omega
  have HI:=zaa hiM
  clear hI ck bw hiM e9
  go_wp2_with fail
  go_ret
  refine ⟨ad7,c7,us,?_,?_,BW.out⟩
  · rw [HLl.out.1,←HI.out];rfl
  rw [HLl.out.1,←HI.out];exact CK.out
theorem CkW.ck {w:World} {base:Nat} {v:Value} {L:List (List Int)} {us:List Value} (h:CkW w base v L us) (hpos:∀b∈L,0<b.length):Ck w base v L (fun i=>∃u∈us,u.ownBlock=some i):=by
 refine ⟨fun i hi=>?_,fun g hg hi=>?_,us,h.row,fun i b hb=>?_⟩
 · obtain ⟨u,hu,e⟩:=hi
   exact ⟨(h.blk hu e).2,(h.blk hu e).1.lt⟩
 · obtain ⟨u,hu,e⟩:=hi
   have:=(zab h.row g hg).one (h.blk hu e).1
   cases this
 obtain ⟨g,c,e1,e2,e3,e4⟩:=h.each i b hb
 have hl:=e2.lens
 rw [zaf] at hl
 refine ⟨some ⟨g,0,none⟩,c,e1,⟨rfl,e4,fun j hj=>⟨⟨g,0,none⟩,rfl,?_⟩⟩,hl.2,?_,fun x hx=>⟨_,List.mem_of_getElem? e1,by cases hx;rfl⟩⟩
 · rw [Addr.add_lit,Nat.zero_add]
   exact e2.cell (by simp [zae,List.getD,hj])
 rcases e2 with ⟨h0,_⟩|⟨g',cap,cur,mk,hv,_,_,_,_,hm,_⟩
 · cases h0
 simp only [Value.slice.injEq] at hv
 rw [hv.2.2]
 exact hm
section
variable {w0 w w' w6:World} {v:Nat} {P S R D n:Nat→Nat} {st su:Nat→K.Sx} {Z:Nat→ByteArray→List En} {E:Nat→List De} {F H:Nat→Nat→Prop} {vl vc:Value} {Ll Lc:List Value}
theorem WK.chg {G:Nat→Prop} (h:WK w0 w v P S R D n st su Z E F H vl vc Ll Lc) (k:Chg G w w') (hlo:∀i,G i→w0.heap.size≤i) (hG:∀i,G i→i<w.heap.size→(Tg w i 53∨Tg w i 5)∧(∀k,k<2→¬H k i)∧¬OB Ll i∧¬OB Lc i):WK w0 w' v P S R D n st su Z E F H vl vc Ll Lc:=by
 have hT:∀i t,Tg w i t→t≠53→t≠5→¬G i:=fun i t ht a b hg=>by
  rcases (hG i hg ht.lt).1 with e|e
  · exact a (ht.one e)
  exact b (ht.one e)
 refine ⟨h.bel.trans (k.below h.bel.size hlo),h.gv.chg k (fun i hi=>by have:=hlo i hi;have:=h.lo2;omega),h.lo2,k.blk h.blk (hT v 36 h.blk.tg (by decide) (by decide)),fun j hj=>(h.sq j hj).chg k (hT _ 75 (h.sq j hj).blk.1 (by decide) (by decide)) (hT _ 69 (h.sq j hj).blk.2 (by decide) (by decide)) (fun i hi hg=>?_),fun j hj=>(h.dq j hj).chg k (fun i hi hg=>(hG i hg (h.ltH hj hi)).2.1 j hj hi),k.owns h.ol (fun g hg=>hT g 46 (zab h.ol g hg) (by decide) (by decide)),k.owns h.oc (fun g hg=>hT g 84 (zab h.oc g hg) (by decide) (by decide)),h.tl.chg rkS k (fun g hg e=>(hG g e (h.tl.tg rkS hg).lt).2.2.1 hg),h.tc.chg rkB k (fun g hg e=>(hG g e (h.tc.tg rkB hg).lt).2.2.2 hg),h.len,h.lo,h.nn,h.ff,h.hh,h.fh,h.ho⟩
 rcases (hG i hg (h.ltF hj hi)).1 with e|e
 · rcases ((h.sq j hj).tag hi).2 53 e with e|e <;> cases e
 rcases ((h.sq j hj).tag hi).2 5 e with e|e <;> cases e
theorem WK.addL {ob:Obj} {u:Value} {g6 c6 m:Nat} (h:WK w0 w v P S R D n st su Z E F H vl vc Ll Lc) (hl:Ll.length<60) (ho:w6.ownsRow w0.heap.size 46 1 (.slice (some ⟨g6,0,none⟩) (Ll.length+1) c6) (Ll.length+1) (Ll++[u])) (hp:Pushed (w.alloc ob) w6 vl g6)
 (hu:RWs w u Ll.length m) (hm:m≤1000000) (hn:∀g,u.ownBlock=some g→w0.heap.size≤g∧¬OB Ll g∧∀k,k<2→¬H k g):WK w0 (w6.setCell ⟨v,8,none⟩ (.slice (some ⟨g6,0,none⟩) (Ll.length+1) c6)) v P S R D n st su Z E F H (.slice (some ⟨g6,0,none⟩) (Ll.length+1) c6) vc (Ll++[u]) Lc:=by
 obtain ⟨k1,k2⟩:=hp.chg
 have hvt:∀b,vl.ownBlock=some b→Tg w b 46:=fun b e=>zab h.ol b e
 have hv6:¬vl.ownBlock=some v:=fun e=>by have:=(hvt v e).one h.blk.tg;cases this
 have hT:∀i t,Tg w i t→t≠46→t≠36→¬(vl.ownBlock=some i∨i=v):=by
  rintro i t ht a b (e|e)
  · exact a (ht.one (hvt i e))
  rw [e] at ht;exact b (ht.one h.blk.tg)
 have c:Chg (fun b=>vl.ownBlock=some b∨b=v) w (w6.setCell ⟨v,8,none⟩ (.slice (some ⟨g6,0,none⟩) (Ll.length+1) c6)):=(k1.mono (fun b _ e=>.inl e)).trans (Chg.set ⟨v,8,none⟩ _ w6) (fun b _ e=>.inr e)
 have hlo:∀b,(vl.ownBlock=some b∨b=v)→w0.heap.size≤b:=by
  rintro b (e|e)
  · exact (h.ol.lt b e).1
  rw [e];exact h.lo.1
 refine ⟨h.bel.trans (c.below h.bel.size hlo),h.gv.chg c (fun i hi=>by have:=hlo i hi;have:=h.lo2;omega),h.lo2,?_,fun j hj=>(h.sq j hj).chg c (hT _ 75 (h.sq j hj).blk.1 (by decide) (by decide)) (hT _ 69 (h.sq j hj).blk.2 (by decide) (by decide)) (fun i hi hg=>?_),fun j hj=>(h.dq j hj).chg c (fun i hi hg=>?_),?_,c.owns h.oc (fun g hg=>hT g 84 (zab h.oc g hg) (by decide) (by decide)),(h.tl.add hm hu (fun g hg=>⟨(hn g hg).1,(hn g hg).2.1⟩)).chg rkS c (fun g hg=>?_),h.tc.chg rkB c (fun g hg=>hT g 5 (h.tc.tg rkB hg) (by decide) (by decide)),⟨by rw [List.length_append];simp;omega,h.len.2⟩,h.lo,h.nn,h.ff,h.hh,h.fh,fun j hj i hi=>⟨fun e=>?_,(h.ho j hj i hi).2⟩⟩
 · exact (k1.blk h.blk hv6).set 8 _
 · rcases hg with e|e
   · exact (h.sq j hj).no (hvt i e) (by decide) (by decide) hi
   rw [e] at hi
   exact (h.sq j hj).no h.blk.tg (by decide) (by decide) hi
 · rcases hg with e|e
   · exact (h.dq j hj).no (hvt i e) (by decide) hi
   rw [e] at hi
   exact (h.dq j hj).no h.blk.tg (by decide) hi
 · rw [List.length_append]
   refine (Chg.set ⟨v,8,none⟩ _ w6).owns ho (fun g hg e=>?_)
   have h1:=zab ho g hg
   rw [show g=v from e] at h1
   have:=h1.one (k1.blk h.blk hv6).tg
   cases this
 · obtain ⟨x,hx,e⟩:=hg
   rcases List.mem_append.1 hx with hx|hx
   · exact hT g 53 (h.tl.tg rkS ⟨x,hx,e⟩) (by decide) (by decide)
   rw [List.mem_singleton.1 hx] at e
   exact hT g 53 (rkS.tg hu g e) (by decide) (by decide)
 obtain ⟨x,hx,e2⟩:=e
 rcases List.mem_append.1 hx with hx|hx
 · exact (h.ho j hj i hi).1 ⟨x,hx,e2⟩
 rw [List.mem_singleton.1 hx] at e2
 exact (hn i e2).2.2 j hj hi
theorem WK.addC {ob:Obj} {u:Value} {g6 c6 m:Nat} (h:WK w0 w v P S R D n st su Z E F H vl vc Ll Lc) (hl:Lc.length<120) (ho:w6.ownsRow w0.heap.size 84 1 (.slice (some ⟨g6,0,none⟩) (Lc.length+1) c6) (Lc.length+1) (Lc++[u])) (hp:Pushed (w.alloc ob) w6 vc g6)
 (hu:RWb w u Lc.length m) (hm:m≤1000000) (hn:∀g,u.ownBlock=some g→w0.heap.size≤g∧¬OB Lc g∧∀k,k<2→¬H k g):WK w0 (w6.setCell ⟨v,9,none⟩ (.slice (some ⟨g6,0,none⟩) (Lc.length+1) c6)) v P S R D n st su Z E F H vl (.slice (some ⟨g6,0,none⟩) (Lc.length+1) c6) Ll (Lc++[u]):=by
 obtain ⟨k1,k2⟩:=hp.chg
 have hvt:∀b,vc.ownBlock=some b→Tg w b 84:=fun b e=>zab h.oc b e
 have hv6:¬vc.ownBlock=some v:=fun e=>by have:=(hvt v e).one h.blk.tg;cases this
 have hT:∀i t,Tg w i t→t≠84→t≠36→¬(vc.ownBlock=some i∨i=v):=by
  rintro i t ht a b (e|e)
  · exact a (ht.one (hvt i e))
  rw [e] at ht;exact b (ht.one h.blk.tg)
 have c:Chg (fun b=>vc.ownBlock=some b∨b=v) w (w6.setCell ⟨v,9,none⟩ (.slice (some ⟨g6,0,none⟩) (Lc.length+1) c6)):=(k1.mono (fun b _ e=>.inl e)).trans (Chg.set ⟨v,9,none⟩ _ w6) (fun b _ e=>.inr e)
 have hlo:∀b,(vc.ownBlock=some b∨b=v)→w0.heap.size≤b:=by
  rintro b (e|e)
  · exact (h.oc.lt b e).1
  rw [e];exact h.lo.1
 refine ⟨h.bel.trans (c.below h.bel.size hlo),h.gv.chg c (fun i hi=>by have:=hlo i hi;have:=h.lo2;omega),h.lo2,?_,fun j hj=>(h.sq j hj).chg c (hT _ 75 (h.sq j hj).blk.1 (by decide) (by decide)) (hT _ 69 (h.sq j hj).blk.2 (by decide) (by decide)) (fun i hi hg=>?_),fun j hj=>(h.dq j hj).chg c (fun i hi hg=>?_),c.owns h.ol (fun g hg=>hT g 46 (zab h.ol g hg) (by decide) (by decide)),?_,h.tl.chg rkS c (fun g hg=>hT g 53 (h.tl.tg rkS hg) (by decide) (by decide)),(h.tc.add hm hu (fun g hg=>⟨(hn g hg).1,(hn g hg).2.1⟩)).chg rkB c (fun g hg=>?_),⟨h.len.1,by rw [List.length_append];simp;omega⟩,h.lo,h.nn,h.ff,h.hh,h.fh,fun j hj i hi=>⟨(h.ho j hj i hi).1,fun e=>?_⟩⟩
 · exact (k1.blk h.blk hv6).set 9 _
 · rcases hg with e|e
   · exact (h.sq j hj).no (hvt i e) (by decide) (by decide) hi
   rw [e] at hi
   exact (h.sq j hj).no h.blk.tg (by decide) (by decide) hi
 · rcases hg with e|e
   · exact (h.dq j hj).no (hvt i e) (by decide) hi
   rw [e] at hi
   exact (h.dq j hj).no h.blk.tg (by decide) hi
 · rw [List.length_append]
   refine (Chg.set ⟨v,9,none⟩ _ w6).owns ho (fun g hg e=>?_)
   have h1:=zab ho g hg
   rw [show g=v from e] at h1
   have:=h1.one (k1.blk h.blk hv6).tg
   cases this
 · obtain ⟨x,hx,e⟩:=hg
   rcases List.mem_append.1 hx with hx|hx
   · exact hT g 5 (h.tc.tg rkB ⟨x,hx,e⟩) (by decide) (by decide)
   rw [List.mem_singleton.1 hx] at e
   exact hT g 5 (rkB.tg hu g e) (by decide) (by decide)
 obtain ⟨x,hx,e2⟩:=e
 rcases List.mem_append.1 hx with hx|hx
 · exact (h.ho j hj i hi).2 ⟨x,hx,e2⟩
 rw [List.mem_singleton.1 hx] at e2
 exact (hn i e2).2.2 j hj hi
end
theorem res_mark (tmps:Array Value) (w:World) (g:Nat) (a b:Value) (hp:tmps.getD 2 undef=.pointer (some ⟨g,0,none⟩)) (h0:w.cell? ⟨g,0,none⟩=some a) (h1:w.cell? ⟨g,1,none⟩=some b) (ha:a.oneCell'=true) (hb:b.oneCell'=true):
 (results Tryz.f33 tmps).run Tryz.prog w=.ok (.agg #[a,b]) w:=by
 have h:Tryz.f33.results=#[.cell 2 53]:=by kernel_rfl
 have hp':tmps[2]?.getD undef=.pointer (some ⟨g,0,none⟩):=by simpa using hp
 simp [results,h,hp',asAddr,loadVar,h0,h1,go_sem]
theorem markP (i:Nat) (hi:i≤1000000) (w:World):Calls Tryz.prog 33 #[.int .i64 (i:Int)] w fun e w'=>e=.returned (.agg #[.int .i64 (mkS i).t,.int .u64 ((mkS i).v:Int)])∧Below w.heap.size w w':=by
 go_enter Tryz.func33,Tryz.ntmps33
 go_wp2_with (first
  |(refine zap rfl 53 rfl 2 rfl [.int .i64 0,.int .u64 0] info35 ?_;intro w1 B1 bl1 hz1;have HB1:=zaa B1;have BL1:=zaa bl1;clear B1 bl1))
 refine (zbt (-1000 - (i:Int)) 77 w1).mono ?_
 rintro e w2 ⟨rfl,b2⟩
 have HB2:=zaa (HB1.out.later b2)
 have B2:Hid (Below w.heap.size w w2):=zaa (BL1.out.trans (b2.mono BL1.out.size))
 have d0:w2.cell? ⟨w.heap.size,0,none⟩=some (.int .i64 0):=HB2.out.cell 0
 have d1:w2.cell? ⟨w.heap.size,1,none⟩=some (.int .u64 0):=HB2.out.cell 1
 have f0:=HB2.out.frozen 0
 have f1:=HB2.out.frozen 1
 clear b2
 go_wp2_with fail
 have hN2:=(HB2.out.set 0 (.int .i64 (-1000 - (i:Int)))).set 1 (.int .u64 77)
 have B9:Below w.heap.size w ((w2.setCell ⟨w.heap.size,0,none⟩ (.int .i64 (-1000 - (i:Int)))).setCell ⟨w.heap.size,1,none⟩ (.int .u64 77)):=B2.out.trans (((Chg.set ⟨w.heap.size,0,none⟩ (.int .i64 (-1000 - (i:Int))) w2).below B2.out.size (fun i hi=>by rw [show i=w.heap.size from hi];exact Nat.le_refl _)).trans ((Chg.set ⟨w.heap.size,1,none⟩ (.int .u64 77) _).below (by have:=B2.out.size;simp [World.setCell];omega) (fun i hi=>by rw [show i=w.heap.size from hi];exact Nat.le_refl _)))
 refine bodyPost_ret (res_mark _ _ w.heap.size (.int .i64 (-1000 - (i:Int))) (.int .u64 77) rfl (hN2.cell 0) (hN2.cell 1) rfl rfl) rfl ?_
 exact ⟨rfl,B9⟩
theorem cS_set:∀(l:List Sm) (k:Nat) (x:Sm),cS (l.set k x)=((cS l).set (k*2) (.int .i64 x.t)).set (k*2+1) (.int .u64 (x.v:Int))
 |[],k,x=>by simp [cS]
 |y :: t,0,x=>by simp [cS,encS]
 |y :: t,k+1,x=>by
  have e:∀z:List Sm,cS (y :: z)=[.int .i64 y.t,.int .u64 (y.v:Int)]++cS z:=fun z=>by simp [cS,encS]
  rw [List.set_cons_succ,e,e,cS_set t k x,show (k+1)*2=k*2+1+1 by omega,show k*2+1+1+1=(k*2+1)+1+1 by omega]
  simp
theorem owns_setS {w:World} {base g n cap k:Nat} {l:List Sm} {x:Sm} (hO:w.ownsRow base 53 2 (.slice (some ⟨g,0,none⟩) n cap) n (cS l)):
 ((w.setCell ⟨g,k*2,none⟩ (.int .i64 x.t)).setCell ⟨g,k*2+1,none⟩ (.int .u64 (x.v:Int))).ownsRow base 53 2 (.slice (some ⟨g,0,none⟩) n cap) n (cS (l.set k x)):=by
 rw [cS_set]
 exact zdp (zdp hO (k*2) (.int .i64 x.t)) (k*2+1) (.int .u64 (x.v:Int))
theorem zej (w:World) (g k:Nat) (x y:Value):Chg (fun i=>i=g) w ((w.setCell ⟨g,k*2,none⟩ x).setCell ⟨g,k*2+1,none⟩ y):=
 (Chg.set ⟨g,k*2,none⟩ _ w).trans (Chg.set ⟨g,k*2+1,none⟩ _ _) (fun _ _ e=>e)
theorem zdq {α:Type} {B:List α} {i:Nat} {u:α} (hi:i<B.length):(List.replicate i u++B.drop i).set i u=List.replicate (i+1) u++B.drop (i+1):=by
 rw [List.set_append_right _ _ (by simp),List.length_replicate,Nat.sub_self,List.drop_eq_getElem_cons hi,List.set_cons_zero,List.replicate_succ',List.append_assoc]
 rfl
theorem newQr (r q n:Nat) (B:Nat→Value) (w:World) (h:K.RP w r q n (fun _=>none) B):
 Calls Tryz.prog 9 #[.pointer (some ⟨r,0,none⟩)] w fun e w'=>∃d F,e=.returned (.pointer (some ⟨d,0,none⟩))∧DQr F w' d r n (fun _=>none) []∧Below w.heap.size w w'∧w.heap.size≤d∧∀i,F i→i=r∨i=q∨w.heap.size≤i:=by
 have HP:=zaa h
 clear h
 go_enter Tryz.func9,Tryz.ntmps9
 go_wp2_with (first
  |(refine wpList_build_to rfl 78 #[(0,.tmp 3)] rfl [(0,.pointer (some ⟨r,0,none⟩))] #[.pointer (some ⟨r,0,none⟩),.slice none 0 0] rfl (built78q _) ?_)
  |(refine zac rfl 78 (.tmp 4) rfl [.pointer (some ⟨r,0,none⟩),.slice none 0 0] rfl ?_;intro w2 B2 bl2 hz2))
 go_ret
 refine ⟨_,fun i=>DF w.heap.size (.slice none 0 0) [] i∨i=r∨i=q∨K.RG (fun _=>none) B i,rfl,⟨q,B,.slice none 0 0,[],⟨B2,World.ownsRow_nil _ _ _ _,by simp,by simp,fun i j x y g hx=>by simp at hx⟩,rfl,HP.out.later bl2,sz_none n,fun i=>Iff.rfl⟩,bl2,Nat.le_refl _,?_⟩
 rintro i ((rfl|hi|⟨x,hx,_⟩)|rfl|rfl|⟨j,o,d,ad,c,hj,_⟩)
 · exact .inr (.inr (Nat.le_refl _))
 · cases hi
 · simp at hx
 · exact .inl rfl
 · exact .inr (.inl rfl)
 cases hj
def pcV (K:Nat) (p:Nat→Nat) (j:Nat):Value:=if j<K then .pointer (some ⟨p j,0,none⟩) else .pointer none
def wiC (K:Nat) (P S R D:Nat→Nat):List Value:=[pcV K P 0,pcV K P 1,pcV K S 0,pcV K S 1,pcV K R 0,pcV K R 1,pcV K D 0,pcV K D 1,.slice none 0 0,.slice none 0 0]
structure WI (w0 w:World) (v K:Nat) (P S R D n:Nat→Nat) (F H:Nat→Nat→Prop):Prop where
 bel:Below w0.heap.size w0 w
 gv:Gv w
 lo2:2≤w0.heap.size
 blk:Blk w v 36 (wiC K P S R D)
 sq:∀k,k<K→SQ (F k) w (S k) (P k) (n k) (fun _=>none) (fun _=>[])
 dq:∀k,k<K→DQr (H k) w (D k) (R k) (n k) (fun _=>none) []
 lo:w0.heap.size≤v∧(∀k i,k<K→F k i→w0.heap.size≤i)∧(∀k i,k<K→H k i→w0.heap.size≤i)
 nn:∀k,k<K→n k≤60
 ff:∀k j,k<K→j<K→k≠j→∀i,F k i→¬F j i
 hh:∀k j,k<K→j<K→k≠j→∀i,H k i→¬H j i
 fh:∀k j,k<K→j<K→∀i,F k i→¬H j i
section
variable {w0 w w':World} {v K:Nat} {P S R D n:Nat→Nat} {F H:Nat→Nat→Prop}
theorem zec (f:Nat→Nat) (K x j:Nat) (h:j<2):pcV (K+1) (upF f K x) j=if j=K then .pointer (some ⟨x,0,none⟩) else pcV K f j:=by
 unfold pcV upF
 by_cases e:j=K
 · subst e;rw [if_pos rfl,if_pos (by omega),if_pos rfl]
 rw [if_neg e]
 by_cases e2:j<K
 · rw [if_pos (by omega),if_pos e2,if_neg e]
 rw [if_neg (by omega),if_neg e2,if_neg e]
theorem wiC_add (K:Nat) (hK:K<2) (P S R D:Nat→Nat) (p s r d:Nat):((((wiC K P S R D).set K (.pointer (some ⟨p,0,none⟩))).set (4+K) (.pointer (some ⟨r,0,none⟩))).set (2+K) (.pointer (some ⟨s,0,none⟩))).set (6+K) (.pointer (some ⟨d,0,none⟩))=wiC (K+1) (upF P K p) (upF S K s) (upF R K r) (upF D K d):=by
 unfold wiC
 rw [zec P K p 0 (by omega),zec P K p 1 (by omega),zec S K s 0 (by omega),zec S K s 1 (by omega),zec R K r 0 (by omega),zec R K r 1 (by omega),zec D K d 0 (by omega),zec D K d 1 (by omega)]
 rcases two hK with rfl|rfl <;> rfl
theorem WI.add {w7:World} {p s r d m:Nat} {F' H':Nat→Prop} (hK:K<2) (h:WI w0 w v K P S R D n F H) (hm:m≤60) (c:Chg (fun i=>i=v) w w7) (hb:Blk w7 v 36 ((((((wiC K P S R D).set K (.pointer (some ⟨p,0,none⟩))).set (4+K) (.pointer (some ⟨r,0,none⟩))).set (2+K) (.pointer (some ⟨s,0,none⟩))).set (6+K) (.pointer (some ⟨d,0,none⟩)))))
 (hs:SQ F' w7 s p m (fun _=>none) (fun _=>[])) (hd:DQr H' w7 d r m (fun _=>none) []) (hF:∀i,F' i→w.heap.size≤i) (hH:∀i,H' i→w.heap.size≤i) (hFH:∀i,F' i→¬H' i):
 WI w0 w7 v (K+1) (upF P K p) (upF S K s) (upF R K r) (upF D K d) (upF n K m) (upF F K F') (upF H K H'):=by
 have hT:∀i t,Tg w i t→t≠36→¬i=v:=fun i t ht hne=>ht.ne h.blk.tg hne
 have hl:=h.bel.size
 rw [wiC_add K hK] at hb
 have ltF:∀k i,k<K→F k i→i<w.heap.size:=fun k i hk hi=>((h.sq k hk).tag hi).1
 have ltH:∀k i,k<K→H k i→i<w.heap.size:=fun k i hk hi=>(h.dq k hk).lt hi
 refine ⟨h.bel.trans (c.below hl (fun i (e:i=v)=>by rw [e];exact h.lo.1)),h.gv.chg c (fun i (e:i=v)=>by have:=h.lo.1;have:=h.lo2;omega),h.lo2,hb,fun k hk=>?_,fun k hk=>?_,⟨h.lo.1,fun k i hk hi=>?_,fun k i hk hi=>?_⟩,fun k hk=>?_,fun k j hk hj hne i hi hi'=>?_,fun k j hk hj hne i hi hi'=>?_,fun k j hk hj i hi hi'=>?_⟩
 · by_cases e:k=K
   · subst e;rw [zar,zar,zar,zar];exact hs
   rw [zaj _ _ e,zaj _ _ e,zaj _ _ e,zaj _ _ e]
   have hq:=h.sq k (by omega)
   exact hq.chg c (hT _ 75 hq.blk.1 (by decide)) (hT _ 69 hq.blk.2 (by decide)) (fun i hi (e:i=v)=>hq.no (show Tg w i 36 by rw [e];exact h.blk.tg) (by decide) (by decide) hi)
 · by_cases e:k=K
   · subst e;rw [zar,zar,zar,zar];exact hd
   rw [zaj _ _ e,zaj _ _ e,zaj _ _ e,zaj _ _ e]
   have hq:=h.dq k (by omega)
   exact hq.chg c (fun i hi (e:i=v)=>hq.no (show Tg w i 36 by rw [e];exact h.blk.tg) (by decide) hi)
 · by_cases e:k=K
   · subst e;rw [zar] at hi;have:=hF i hi;omega
   rw [zaj _ _ e] at hi;exact h.lo.2.1 k i (by omega) hi
 · by_cases e:k=K
   · subst e;rw [zar] at hi;have:=hH i hi;omega
   rw [zaj _ _ e] at hi;exact h.lo.2.2 k i (by omega) hi
 · by_cases e:k=K
   · subst e;rw [zar];exact hm
   rw [zaj _ _ e];exact h.nn k (by omega)
 · by_cases e:k=K
   · subst e
     rw [zar] at hi
     rw [zaj _ _ (fun e=>hne e.symm)] at hi'
     have:=hF i hi
     have:=ltF j i (by omega) hi'
     omega
   rw [zaj _ _ e] at hi
   by_cases e':j=K
   · subst e'
     rw [zar] at hi'
     have:=hF i hi'
     have:=ltF k i (by omega) hi
     omega
   rw [zaj _ _ e'] at hi'
   exact h.ff k j (by omega) (by omega) hne i hi hi'
 · by_cases e:k=K
   · subst e
     rw [zar] at hi
     rw [zaj _ _ (fun e=>hne e.symm)] at hi'
     have:=hH i hi
     have:=ltH j i (by omega) hi'
     omega
   rw [zaj _ _ e] at hi
   by_cases e':j=K
   · subst e'
     rw [zar] at hi'
     have:=hH i hi'
     have:=ltH k i (by omega) hi
     omega
   rw [zaj _ _ e'] at hi'
   exact h.hh k j (by omega) (by omega) hne i hi hi'
 by_cases e:k=K
 · subst e
   rw [zar] at hi
   by_cases e':j=k
   · subst e'
     rw [zar] at hi'
     exact hFH i hi hi'
   rw [zaj _ _ e'] at hi'
   have:=hF i hi
   have:=ltH j i (by omega) hi'
   omega
 rw [zaj _ _ e] at hi
 by_cases e':j=K
 · subst e'
   rw [zar] at hi'
   have:=hH i hi'
   have:=ltF k i (by omega) hi
   omega
 rw [zaj _ _ e'] at hi'
 exact h.fh k j (by omega) (by omega) i hi hi'
theorem WI.wx (h:WI w0 w v 2 P S R D n F H):WX w0 v P S R D n 0 w:=by
 refine ⟨fun _ _=>none,fun _ _=>none,fun _ _=>[],fun _=>[],F,H,.slice none 0 0,.slice none 0 0,[],[],⟨h.bel,h.gv,h.lo2,h.blk,h.sq,h.dq,World.ownsRow_nil _ _ _ _,World.ownsRow_nil _ _ _ _,?_,?_,by simp,h.lo,h.nn,h.ff,h.hh,h.fh,fun k hk i hi=>⟨fun hO=>?_,fun hO=>?_⟩⟩,fun k hk=>⟨fun o=>by simp [zE],rfl⟩,fun k hk=>Nat.le_refl _⟩
 · exact ⟨fun i v hi=>by simp at hi,fun i j v v' _ hi=>by simp at hi,fun g hg=>by obtain ⟨v,hv,_⟩:=hg;cases hv⟩
 · exact ⟨fun i v hi=>by simp at hi,fun i j v v' _ hi=>by simp at hi,fun g hg=>by obtain ⟨v,hv,_⟩:=hg;cases hv⟩
 · obtain ⟨v,hv,_⟩:=hO;cases hv
 obtain ⟨v,hv,_⟩:=hO;cases hv
end
theorem info46p:∃i,Tryz.prog.info? 46=some i∧i.zero=some (.slice none 0 0)∧i.size=1∧i.bytes=24:=K.info_parts (show (Tryz.prog.info? 46).map (fun i=>(i.zero,i.size,i.bytes))=some (some (.slice none 0 0),1,24) by kernel_rfl)
theorem owns_zero {w:World} {b e s n:Nat} {v:Value} {xs:List Value} (h:w.ownsRow b e s v n xs):w.ownsRow 0 e s v n xs:=zbq h (fun _ _=>Nat.zero_le _)
theorem mkS_ok {i:Nat} (hi:i≤1000000):OkS (mkS i):=⟨by unfold I64 mkS;simp only;omega,by show 77<_;omega⟩
section
variable {w0:World} {v:Nat} {P S R D n:Nat→Nat} {st su:Nat→K.Sx} {Z:Nat→ByteArray→List En} {E:Nat→List De} {F H:Nat→Nat→Prop} {vl vc:Value} {Ll Lc:List Value}
theorem keepsP (w:World) (h:WK w0 w v P S R D n st su Z E F H vl vc Ll Lc) (base N c:Nat) (ad:Option Addr) (l:List Sm) (hO:w.ownsRow base 53 2 (.slice ad N c) N (cS l)) (hN:l.length=N) (hN9:N≤1000000) (hok:∀x∈l,OkS x)
 (hb:∀g,(Value.slice ad N c).ownBlock=some g→w0.heap.size≤g∧¬OB Ll g∧∀k,k<2→¬H k g):
 Calls Tryz.prog 53 #[pV v,.slice ad N c] w fun e w'=>e=.returned (.tuple #[])∧(∃vl' Ll',WK w0 w' v P S R D n st su Z E F H vl' vc Ll' Lc)∧Chg (fun b=>(Value.slice ad N c).ownBlock=some b∨vl.ownBlock=some b∨b=v) w w':=by
 obtain ⟨al,cl,hvl⟩:=zal h.ol
 have c8:=h.c8.1
 have f8:=h.blk.frozen 8
 rw [hvl] at c8
 obtain ⟨M,hM⟩:∃M,Ll.length=M:=⟨_,rfl⟩
 rw [hM] at c8 hvl
 have hM60:=h.len.1
 rw [hM] at hM60
 have HW:=zaa h
 have HO:=zaa hO
 have HN:=zaa hN
 have HOK:=zaa hok
 have HB:=zaa hb
 have HM:=zaa hM
 have HVL:=zaa hvl
 clear h hO hN hok hb hM hvl
 unfold pV
 by_cases h60:M≥60
 · have h60z:(M:Int)≥60:=by omega
   go_enter Tryz.func53,Tryz.ntmps53
   go_wp2_with fail
   refine bodyPost_ret (results_none rfl _ _ _) rfl ?_
   exact ⟨rfl,⟨_,_,HW.out⟩,Chg.refl _ _⟩
 have h60z:¬(M:Int)≥60:=by omega
 obtain ⟨i4,hi4,hz4,hs4,hb4⟩:=info46p
 go_enter Tryz.func53,Tryz.ntmps53
 go_wp2_with fail
 refine (markP M (by omega) w).mono ?_
 rintro e w1 ⟨rfl,b1⟩
 have B1:=zaa b1
 have hmk:=zaa (mkS_ok (i:=M) (by omega))
 obtain ⟨x,hx⟩:∃x,mkS M=x:=⟨_,rfl⟩
 rw [hx] at hmk ⊢
 have HX:=zaa hx
 clear b1 hx
 go_wp2_with (first
  |(refine zap rfl 53 rfl 4 rfl [.int .i64 0,.int .u64 0] info35 ?_
    intro w2 B2 bl2 hz2
    have HB2:=zaa B2
    have BL2:=zaa bl2
    have d0:w2.cell? ⟨w1.heap.size,0,none⟩=some (.int .i64 0):=B2.cell 0
    have d1:w2.cell? ⟨w1.heap.size,1,none⟩=some (.int .u64 0):=B2.cell 1
    have f0:=B2.frozen 0
    have f1:=B2.frozen 1
    clear B2 bl2))
 obtain ⟨w3,hw3⟩:∃w3,(w2.setCell ⟨w1.heap.size,0,none⟩ (.int .i64 x.t)).setCell ⟨w1.heap.size,1,none⟩ (.int .u64 (x.v:Int))=w3:=⟨_,rfl⟩
 have B3b:Hid (Blk w3 w1.heap.size 53 [.int .i64 x.t,.int .u64 (x.v:Int)]):=zaa (by rw [←hw3];exact (HB2.out.set 0 _).set 1 _)
 have B3:Hid (Below w.heap.size w w3):=zaa (by
  rw [←hw3]
  have q1:=B1.out.trans (BL2.out.mono B1.out.size)
  refine q1.trans ((zej w2 w1.heap.size 0 (.int .i64 x.t) (.int .u64 (x.v:Int))).below q1.size (fun i hi=>?_))
  rw [show i=w1.heap.size from hi]
  exact B1.out.size)
 have hw1:w.heap.size≤w1.heap.size:=B1.out.size
 rw [hw3]
 obtain ⟨gb,hgb⟩:∃gb,w1.heap.size=gb:=⟨_,rfl⟩
 rw [hgb] at B3b hw1 ⊢
 clear hw3 HB2 BL2 d0 d1 f0 f1 hgb
 go_loopw [5] (fun s5 wx=>∃i:Nat,s5=.int .i64 (i:Int)∧i≤N∧Hid (wx.ownsRow base 53 2 (.slice ad N c) N (cS (List.replicate i x++l.drop i)))∧Hid (Chg (fun b=>(Value.slice ad N c).ownBlock=some b) w3 wx)) (fun s5 _=>N - nOf s5)
 case atStart=>exact ⟨0,rfl,by omega,zaa (by simpa using owl HO.out B3.out),zaa (Chg.refl _ _)⟩
 case round=>
  rename World=>wr
  obtain ⟨i,rfl,hi,hR,hC⟩:=hrel
  have hbr:∀g,(Value.slice ad N c).ownBlock=some g→g<w.heap.size:=fun g hg=>za0 HO.out g hg
  have Bb:=hC.out.blk B3b.out (fun e=>by have:=hbr _ e;omega)
  have e0:wr.cell? ⟨gb,0,none⟩=some (.int .i64 x.t):=Bb.cell 0
  have e1:wr.cell? ⟨gb,1,none⟩=some (.int .u64 (x.v:Int)):=Bb.cell 1
  by_cases hlt:i<N
  · have hltz:(i:Int)<(N:Int):=by omega
    have hln:=HN.out
    have hne:(List.replicate i x++l.drop i)≠[]:=fun e=>by
     have:=congrArg List.length e
     simp at this
     omega
    obtain ⟨y,hy⟩:∃y,(List.replicate i x++l.drop i)[i]?=some y:=⟨(List.replicate i x++l.drop i)[i]'(by simp;omega),List.getElem?_eq_getElem _⟩
    obtain ⟨g,off,hg,hgl,hcell⟩:=(zan hR.out (fun y hy=>by
     rcases List.mem_append.1 hy with hy|hy
     · rw [(List.mem_replicate.1 hy).2];exact hmk.out
     exact HOK.out y (List.mem_of_mem_drop hy))).at' hne
    obtain ⟨rfl,rfl⟩:ad=some ⟨g,0,none⟩∧off=0:=by
     obtain ⟨_,_,e9,_,h9,_⟩:=za3 hR.out
     injection e9 with e9
     rw [←e9] at h9
     have:=(h9 _ hg).1
     simp only at this
     subst this
     exact ⟨hg,rfl⟩
    obtain ⟨k0,k1⟩:=hcell i y hy
    rw [Nat.zero_add] at k0
    simp only [Nat.zero_add] at k1
    have g0:wr.frozen? ⟨g,i*2,none⟩=false:=zem hR.out _
    have g1:wr.frozen? ⟨g,i*2+1,none⟩=false:=zem hR.out _
    have HNX:Hid (((wr.setCell ⟨g,i*2,none⟩ (.int .i64 x.t)).setCell ⟨g,i*2+1,none⟩ (.int .u64 (x.v:Int))).ownsRow base 53 2 (.slice (some ⟨g,0,none⟩) N c) N (cS (List.replicate (i+1) x++l.drop (i+1)))):=zaa (by
     rw [←zdq (by omega)]
     exact owns_setS hR.out)
    clear hcell hy hg hne hbr
    go_wp2_with fail
    refine ⟨⟨i+1,by first|rfl|simp,by omega,HNX,zaa (hC.out.trans (zej wr g i _ _) (fun b _ e=>by rw [show b=g from e];rfl))⟩,?_⟩
    simp [nOf]
    omega
  have hltz:¬(i:Int)<(N:Int):=by omega
  have hR2:=hR.out
  rw [show i=N by omega,List.drop_of_length_le (by rw [HN.out];omega),List.append_nil] at hR2
  have hW3:=HW.out.later B3.out
  have hWr:=hW3.chg hC.out (fun b e=>(HB.out b e).1) (fun b e hlt=>⟨.inl (zab (owl HO.out B3.out) b e),(HB.out b e).2.2,(HB.out b e).2.1,fun e2=>by
   have:=(HW.out.tc.tg rkB e2).one (zab HO.out b e)
   cases this⟩)
  have HR2:=zaa hR2
  have HWR:=zaa hWr
  have c8r:wr.cell? ⟨v,8,none⟩=some (.slice al M cl):=by rw [hWr.c8.1,HVL.out]
  have f8r:=hWr.blk.frozen 8
  have hol:=hWr.ol
  rw [HM.out,HVL.out] at hol
  have HOL:=zaa hol
  have hsz:=zaa hWr.bel.size
  have HPU:Hid (∀(g6 c6:Nat) (w6:World) (ob:Obj),w6.ownsRow w0.heap.size 46 1 (.slice (some ⟨g6,0,none⟩) (M+1) c6) (M+1) (Ll++[.slice ad N c])→Pushed (wr.alloc ob) w6 (.slice al M cl) g6→WK w0 (w6.setCell ⟨v,8,none⟩ (.slice (some ⟨g6,0,none⟩) (M+1) c6)) v P S R D n st su Z E F H (.slice (some ⟨g6,0,none⟩) (M+1) c6) vc (Ll++[.slice ad N c]) Lc∧Chg (fun b=>(Value.slice ad N c).ownBlock=some b∨vl.ownBlock=some b∨b=v) w (w6.setCell ⟨v,8,none⟩ (.slice (some ⟨g6,0,none⟩) (M+1) c6))):=zaa (fun g6 c6 w6 ob ho hp=>by
   have hq:=hp.chg.1
   rw [←HVL.out] at hp hq
   have hh:=WK.addL (u:=.slice ad N c) (m:=N) (g6:=g6) (c6:=c6) hWr (by rw [HM.out];omega) (by rw [HM.out];exact ho) hp (by unfold RWs;rw [HM.out,HX.out];exact owns_zero hR2) hN9 HB.out
   rw [HM.out] at hh
   refine ⟨hh,?_⟩
   refine (((Chg.of_below (F:=fun b=>(Value.slice ad N c).ownBlock=some b∨vl.ownBlock=some b∨b=v) B3.out).trans hC.out (fun b _ e=>.inl e)).trans hq (fun b _ e=>.inr (.inl e))).trans (Chg.set ⟨v,8,none⟩ _ w6) (fun b _ e=>.inr (.inr e)))
  have hvb:Hid (∀(g6:Nat) (w6:World) (ob:Obj),Pushed (wr.alloc ob) w6 (.slice al M cl) g6→w6.cell? ⟨v,8,none⟩=some (.slice al M cl)∧w6.frozen? ⟨v,8,none⟩=false):=zaa (fun g6 w6 ob hp=>by
   have h9:=hp.chg.1.blk hWr.blk (fun e=>by rw [←HVL.out] at e;have:=(zab hWr.ol v e).one hWr.blk.tg;cases this)
   exact ⟨by rw [h9.cell 8,←HVL.out];rfl,h9.frozen 8⟩)
  clear hR2 hW3 hWr hol hbr
  go_wp2_with (first
   |(refine zaw _ rfl (.tmp 32) (.tmp 34) 33 rfl 46 i4 (.slice none 0 0) 24 Tryz.underlying33 hi4 hz4 hs4 hb4 rfl w0.heap.size (.slice al M cl) M Ll rfl (HOL.out.alloc _) ⟨wr.heap.size,0,none⟩ (.slice ad N c) rfl ((Blk.new wr 46 [.slice ad N c]).cell 0) rfl (by unfold maxLen;omega) (by omega) (by have:=hsz.out;simp;omega) ?_
     intro g6 c6 w6 o6 p6
     have P6:=zaa (And.intro o6 p6)
     obtain ⟨v1,v2⟩:=hvb.out _ _ _ p6
     clear o6 p6))
  refine bodyPost_end (results_none rfl _ _ _) rfl ?_
  obtain ⟨q1,q2⟩:=HPU.out _ _ _ _ P6.out.1 P6.out.2
  exact ⟨rfl,⟨_,_,q1⟩,q2⟩
end
end Go.Proofs.YtlppibigceeimaaGreatDoor
