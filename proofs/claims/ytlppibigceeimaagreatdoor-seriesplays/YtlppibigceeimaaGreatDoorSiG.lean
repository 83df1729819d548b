import Derived.Test.YtlppibigceeimaaGreatDoorShE
import Derived.Test.YtlppibigceeimaaGreatDoorSiC
set_option linter.unusedSimpArgs false
set_option linter.unusedVariables false
set_option maxHeartbeats 40000000
set_option maxRecDepth 100000
namespace Go.Proofs.YtlppibigceeimaaGreatDoor
open Go.RowKit
theorem looksP (w0 w:World) (v:Nat) (P S R D n:Nat→Nat) (st su:Nat→K.Sx) (Z:Nat→ByteArray→List En) (E:Nat→List De) (F H:Nat→Nat→Prop) (vl vc:Value) (Ll Lc:List Value) (h:WK w0 w v P S R D n st su Z E F H vl vc Ll Lc):
 Calls Tryz.prog 11 #[pV v] w fun e w'=>e=.returned (.bool true)∧Below w0.heap.size w0 w':=by
 obtain ⟨bd,bc,rfl⟩:=zal h.ol
 obtain ⟨nd,nc,rfl⟩:=zal h.oc
 obtain ⟨nb,hnb⟩:∃nb,Ll.length=nb:=⟨_,rfl⟩
 obtain ⟨nn,hnn⟩:∃nn,Lc.length=nn:=⟨_,rfl⟩
 have hbd:nb≠0→∃g,bd=some ⟨g,0,none⟩:=fun e=>by
  obtain ⟨g,hg,_⟩:=zbc h.ol (by omega)
  exact ⟨g,hg⟩
 have hnd:nn≠0→∃g,nd=some ⟨g,0,none⟩:=fun e=>by
  obtain ⟨g,hg,_⟩:=zbc h.oc (by omega)
  exact ⟨g,hg⟩
 have hlen:=h.len
 have hK:=LK.ofWK h
 generalize hb2:w.heap.size=b2 at hK
 clear hb2
 rw [hnb,hnn] at hK hlen
 obtain ⟨hn6,hn7⟩:=hlen
 have HK0:=zaa hK
 have HNB:=zaa hnb
 have HNN:=zaa hnn
 have HBD:=zaa hbd
 have HND:=zaa hnd
 obtain ⟨i4,hi4⟩:=info46p
 obtain ⟨i7,hi7⟩:=zcw
 clear h hK hnb hnn hbd hnd
 unfold pV
 go_enter Tryz.func11,Tryz.ntmps11
 go_wp2_with fail
 go_loopw [3,4] (fun vA vI wx=>∃(i:Nat) (ad1:Option Addr) (c1:Nat) (A1:List Value),vA=.slice ad1 i c1∧vI=.int .i64 (i:Int)∧i≤nb∧Hid (LK b2 w0 wx v (wkC P S R D (.slice bd nb bc) (.slice nd nn nc)) (.slice bd nb bc) (.slice nd nn nc) (.slice ad1 i c1) (.slice none 0 0) Ll Lc A1 [])∧Hid (A1.length=i)) (fun _ vI _=>nb - nOf vI)
 case atStart=>exact ⟨0,none,0,[],rfl,rfl,by omega,HK0,zaa rfl⟩
 case round=>
  rename World=>wr
  obtain ⟨i,ad1,c1,A1,rfl,rfl,hi,hK,hAl⟩:=hrel
  clear HK0
  have cF:wr.cell? ⟨v,8,none⟩=some (.slice bd nb bc):=by rw [hK.out.blk.cell];rfl
  by_cases hin:i<nb
  · have hinz:(i:Int)<(nb:Int):=by omega
    have hi0:¬(i:Int)<0:=by omega
    obtain ⟨x,hx⟩:∃x,Ll[i]?=some x:=⟨Ll[i]'(by have:=HNB.out;omega),List.getElem?_eq_getElem _⟩
    obtain ⟨g0,hg0⟩:=HBD.out (by omega)
    have cX:wr.cell? ⟨g0,i,none⟩=some x:=by
     have h9:=hK.out.ol
     rw [HNB.out,hg0] at h9
     exact zai h9 i x hx
    obtain ⟨k,hC⟩:=Cur.new hK.out.fl hx
    obtain ⟨xa,xc,hxe,-⟩:=zf4 hC.row
    subst hxe
    have HC0:=zaa hC
    have hk6:=hC.le
    clear hx hC
    rw [hg0] at cF
    clear hg0
    go_wp2_with fail
    clear cF cX
    go_loopw [5,6] (fun vU vM wx=>∃(m:Nat) (ua:Option Addr) (uc:Nat),vU=.slice ua (k+m) uc∧vM=.int .i64 (m:Int)∧m≤40∧Hid (LK b2 w0 wx v (wkC P S R D (.slice bd nb bc) (.slice nd nn nc)) (.slice bd nb bc) (.slice nd nn nc) (.slice ad1 i c1) (.slice none 0 0) Ll Lc A1 [])∧Hid (Cur RWs b2 wx Ll A1 i m k (.slice xa k xc) (.slice ua (k+m) uc))) (fun _ vM _=>40 - nOf vM)
    case atStart=>exact ⟨0,xa,xc,rfl,rfl,by omega,hK,HC0⟩
    case round=>
     rename World=>wy
     obtain ⟨m,ua,uc,rfl,rfl,hm,hK2,hC2⟩:=hrel
     clear hK HC0
     by_cases hm4:m<40
     · have hmz:(m:Int)<40:=by omega
       go_wp2_with fail
       refine (markP i (by omega) wy).mono ?_
       rintro e w3 ⟨rfl,b3⟩
       obtain ⟨g9,c9,w9,hr,hk9,hc9⟩:=(hK2.out.later b3).pushL hAl.out (hC2.out.later rkS b3) (by omega)
       have HR:=zaa hr
       have HK9:=zaa hk9
       have HC9:=zaa hc9
       clear hr hk9 hc9 b3
       go_wp2_with (refine K.wpList_app_eq rfl (.tmp 35) (.tmp 38) 46 rfl (.slice ua (k+m) uc) (.slice (some ⟨w3.heap.size,0,none⟩) 1 1) (.slice (some ⟨g9,0,none⟩) (k+m+1) c9) rfl rfl HR.out ?_)
       refine ⟨⟨m+1,some ⟨g9,0,none⟩,c9,by first|rfl|simp,by first|rfl|simp,by omega,HK9,HC9⟩,?_⟩
       simp [nOf]
       omega
     have hmz:¬(m:Int)<40:=by omega
     have hm40:m=40:=by omega
     subst hm40
     have HQ:Hid (∀(g9 c9:Nat) (w9:World),w9.ownsRow w0.heap.size 46 1 (.slice (some ⟨g9,0,none⟩) (i+1) c9) (i+1) (A1++[.slice ua (k+40) uc])→Pushed (wy.alloc (.cells #[.slice ua (k+40) uc] 46)) w9 (.slice ad1 i c1) g9→LK b2 w0 w9 v (wkC P S R D (.slice bd nb bc) (.slice nd nn nc)) (.slice bd nb bc) (.slice nd nn nc) (.slice (some ⟨g9,0,none⟩) (i+1) c9) (.slice none 0 0) Ll Lc (A1++[.slice ua (k+40) uc]) []):=zaa (fun g9 c9 w9 h1 h2=>by
      obtain rfl:=hAl.out
      exact hK2.out.addL hC2.out h2 h1)
     have hO:=hK2.out.oa
     rw [hAl.out] at hO
     have hsz:=hK2.out.bel.size
     have HO:=zaa hO
     have HSZ:=zaa hsz
     clear hO hsz
     go_wp2_with (refine zaw _ rfl (.tmp 40) (.tmp 42) 33 rfl 46 i4 (.slice none 0 0) 24 Tryz.underlying33 hi4.1 hi4.2.1 hi4.2.2.1 hi4.2.2.2 rfl w0.heap.size (.slice ad1 i c1) i A1 rfl (HO.out.alloc _) ⟨wy.heap.size,0,none⟩ (.slice ua (k+40) uc) rfl ((Blk.new wy 46 [.slice ua (k+40) uc]).cell 0) rfl (by unfold maxLen;omega) (by omega) (by have:=HSZ.out;simp;omega) ?_;intro g9 c9 w9 h1 h2;have H9:=zaa (HQ.out g9 c9 w9 h1 h2);clear h1 h2)
     refine ⟨⟨i+1,some ⟨g9,0,none⟩,c9,A1++[.slice ua (k+40) uc],by first|rfl|simp,by first|rfl|simp,by omega,H9,zaa (by rw [List.length_append,hAl.out];rfl)⟩,?_⟩
     simp [nOf]
     omega
  have hinz:¬(i:Int)<(nb:Int):=by omega
  have hie:nb=i:=by omega
  subst hie
  go_wp2_with fail
  clear cF hinz hin
  have HK1:=hK
  have HA1:=hAl
  clear hK hAl
  go_loopw [7,8] (fun vA vI wx=>∃(i:Nat) (ad2:Option Addr) (c2:Nat) (B1:List Value),vA=.slice ad2 i c2∧vI=.int .i64 (i:Int)∧i≤nn∧Hid (LK b2 w0 wx v (wkC P S R D (.slice bd nb bc) (.slice nd nn nc)) (.slice bd nb bc) (.slice nd nn nc) (.slice ad1 nb c1) (.slice ad2 i c2) Ll Lc A1 B1)∧Hid (B1.length=i)) (fun _ vI _=>nn - nOf vI)
  case atStart=>exact ⟨0,none,0,[],rfl,rfl,by omega,HK1,zaa rfl⟩
  case round=>
   rename World=>wr
   obtain ⟨i,ad2,c2,B1,rfl,rfl,hi,hK,hAl⟩:=hrel
   clear HK1
   have cF:wr.cell? ⟨v,9,none⟩=some (.slice nd nn nc):=by rw [hK.out.blk.cell];rfl
   by_cases hin:i<nn
   · have hinz:(i:Int)<(nn:Int):=by omega
     have hi0:¬(i:Int)<0:=by omega
     obtain ⟨x,hx⟩:∃x,Lc[i]?=some x:=⟨Lc[i]'(by have:=HNN.out;omega),List.getElem?_eq_getElem _⟩
     obtain ⟨g0,hg0⟩:=HND.out (by omega)
     have cX:wr.cell? ⟨g0,i,none⟩=some x:=by
      have h9:=hK.out.oc
      rw [HNN.out,hg0] at h9
      exact zai h9 i x hx
     obtain ⟨k,hC⟩:=Cur.new hK.out.fc hx
     obtain ⟨xa,xc,hxe,-⟩:=rowform (show K.Rw wr 5 x (zae (List.replicate k (mkB i))) from hC.row) (N:=k) (by rw [zaf,List.length_replicate])
     subst hxe
     have HC0:=zaa hC
     have hk6:=hC.le
     clear hx hC
     rw [hg0] at cF
     clear hg0
     go_wp2_with fail
     clear cF cX
     go_loopw [9,10] (fun vU vM wx=>∃(m:Nat) (ua:Option Addr) (uc:Nat),vU=.slice ua (k+m) uc∧vM=.int .i64 (m:Int)∧m≤64∧Hid (LK b2 w0 wx v (wkC P S R D (.slice bd nb bc) (.slice nd nn nc)) (.slice bd nb bc) (.slice nd nn nc) (.slice ad1 nb c1) (.slice ad2 i c2) Ll Lc A1 B1)∧Hid (Cur RWb b2 wx Lc B1 i m k (.slice xa k xc) (.slice ua (k+m) uc))) (fun _ vM _=>64 - nOf vM)
     case atStart=>exact ⟨0,xa,xc,rfl,rfl,by omega,hK,HC0⟩
     case round=>
      rename World=>wy
      obtain ⟨m,ua,uc,rfl,rfl,hm,hK2,hC2⟩:=hrel
      clear hK HC0
      by_cases hm4:m<64
      · have hmz:(m:Int)<64:=by omega
        obtain ⟨g9,c9,w9,hr,hk9,hc9⟩:=hK2.out.pushC hAl.out hC2.out (by omega)
        rw [mkB_id (i:=i) (by omega)] at hr
        have HR:=zaa hr
        have HK9:=zaa hk9
        have HC9:=zaa hc9
        have hcv:=u8_id i (by omega)
        clear hr hk9 hc9
        go_wp2_with (refine K.wpList_app_eq rfl (.tmp 64) (.tmp 67) 84 rfl (.slice ua (k+m) uc) (.slice (some ⟨wy.heap.size,0,none⟩) 1 1) (.slice (some ⟨g9,0,none⟩) (k+m+1) c9) rfl rfl HR.out ?_)
        refine ⟨⟨m+1,some ⟨g9,0,none⟩,c9,by first|rfl|simp,by first|rfl|simp,by omega,HK9,HC9⟩,?_⟩
        simp [nOf]
        omega
      have hmz:¬(m:Int)<64:=by omega
      have hm40:m=64:=by omega
      subst hm40
      have HQ:Hid (∀(g9 c9:Nat) (w9:World),w9.ownsRow w0.heap.size 84 1 (.slice (some ⟨g9,0,none⟩) (i+1) c9) (i+1) (B1++[.slice ua (k+64) uc])→Pushed (wy.alloc (.cells #[.slice ua (k+64) uc] 84)) w9 (.slice ad2 i c2) g9→LK b2 w0 w9 v (wkC P S R D (.slice bd nb bc) (.slice nd nn nc)) (.slice bd nb bc) (.slice nd nn nc) (.slice ad1 nb c1) (.slice (some ⟨g9,0,none⟩) (i+1) c9) Ll Lc A1 (B1++[.slice ua (k+64) uc])):=zaa (fun g9 c9 w9 h1 h2=>by
       obtain rfl:=hAl.out
       exact hK2.out.addC hC2.out h2 h1)
      have hO:=hK2.out.od
      rw [hAl.out] at hO
      have hsz:=hK2.out.bel.size
      have HO:=zaa hO
      have HSZ:=zaa hsz
      clear hO hsz
      go_wp2_with (refine zaw _ rfl (.tmp 69) (.tmp 71) 34 rfl 84 i7 (.slice none 0 0) 24 Tryz.underlying34 hi7.1 hi7.2.1 hi7.2.2.1 hi7.2.2.2 rfl w0.heap.size (.slice ad2 i c2) i B1 rfl (HO.out.alloc _) ⟨wy.heap.size,0,none⟩ (.slice ua (k+64) uc) rfl ((Blk.new wy 84 [.slice ua (k+64) uc]).cell 0) rfl (by unfold maxLen;omega) (by omega) (by have:=HSZ.out;simp;omega) ?_;intro g9 c9 w9 h1 h2;have H9:=zaa (HQ.out g9 c9 w9 h1 h2);clear h1 h2)
      refine ⟨⟨i+1,some ⟨g9,0,none⟩,c9,B1++[.slice ua (k+64) uc],by first|rfl|simp,by first|rfl|simp,by omega,H9,zaa (by rw [List.length_append,hAl.out];rfl)⟩,?_⟩
      simp [nOf]
      omega
   have hinz:¬(i:Int)<(nn:Int):=by omega
   have hie:nn=i:=by omega
   subst hie
   go_wp2_with fail
   clear cF hinz hin
   have HK2:=hK
   have HB1:=hAl
   clear hK hAl
   go_loopw [11] (fun vI wx=>∃i:Nat,vI=.int .i64 (i:Int)∧i≤nb∧Hid (LK b2 w0 wx v (wkC P S R D (.slice bd nb bc) (.slice nd nn nc)) (.slice bd nb bc) (.slice nd nn nc) (.slice ad1 nb c1) (.slice ad2 nn c2) Ll Lc A1 B1)) (fun vI _=>nb - nOf vI)
   case atStart=>exact ⟨0,rfl,by omega,HK2⟩
   case round=>
    rename World=>wr
    obtain ⟨i,rfl,hi,hK⟩:=hrel
    clear HK2
    by_cases hin:i<nb
    · have hinz:(i:Int)<(nb:Int):=by omega
      have hi0:¬(i:Int)<0:=by omega
      obtain ⟨a,ha⟩:∃a,A1[i]?=some a:=⟨A1[i]'(by have:=HA1.out;omega),List.getElem?_eq_getElem _⟩
      obtain ⟨x,k,hx,hk6,hRx,hRa,-⟩:=hK.out.fl.grown i a ha
      obtain ⟨g0,hg0⟩:=HBD.out (by omega)
      have hoa:=hK.out.oa
      rw [HA1.out] at hoa
      obtain ⟨g1,hg1,-⟩:=zbc hoa (by omega)
      clear hoa
      subst hg1 hg0
      obtain ⟨aa,ac,hae,hga⟩:=zf4 hRa
      obtain ⟨ga,hga⟩:=hga (by omega)
      obtain ⟨xa,xc,hxe,hgx⟩:=zf4 hRx
      subst hae hga hxe
      have cF:∀wx,Lat wr wx→wx.cell? ⟨v,8,none⟩=some (.slice (some ⟨g0,0,none⟩) nb bc):=fun wx hb=>by rw [(hK.out.later hb).blk.cell];rfl
      have cX:∀wx,Lat wr wx→wx.cell? ⟨g0,i,none⟩=some (.slice xa k xc):=fun wx hb=>by
       have h9:=(hK.out.later hb).ol
       rw [HNB.out] at h9
       exact zai h9 i _ hx
      have cA:∀wx,Lat wr wx→wx.cell? ⟨g1,i,none⟩=some (.slice (some ⟨ga,0,none⟩) (k+40) ac):=fun wx hb=>by
       have h9:=(hK.out.later hb).oa
       rw [HA1.out] at h9
       exact zai h9 i _ ha
      have HCF:=zaa cF
      have HCX:=zaa cX
      have HCA:=zaa cA
      have HRa:=zaa hRa
      have HRx:=zaa hRx
      have HGX:=zaa hgx
      clear ha hx hRx hRa hgx cF cX cA
      go_wp2_with fail
      go_loopw [12] (fun vK wx=>∃z:Nat,vK=.int .i64 (z:Int)∧z≤k+40∧Hid (Lat wr wx)) (fun vK _=>(k+40) - nOf vK)
      case atStart=>exact ⟨0,rfl,by omega,zaa (Lat.refl _)⟩
      case round=>
       rename World=>wy
       obtain ⟨z,rfl,hz,hY⟩:=hrel
       have cAy:=HCA.out wy hY.out
       by_cases hzk:z<k+40
       · have hzz:(z:Int)<((k+40:Nat):Int):=by omega
         have hz0:¬(z:Int)<0:=by omega
         go_upto_region 27 with fail
         by_cases hzk2:z<k
         · obtain ⟨gx,rfl⟩:=HGX.out (by omega)
           refine lk_r27a v g0 g1 ga gx nb bc c1 (k+40) ac k xc i z (mkS i).t ((mkS i).v:Int) wy _ _ (by rfl) (by rfl) (by rfl) (by rfl) (by rfl) (by omega) (by omega) (by omega) (by omega) (by kernel_rfl) (by kernel_rfl) (fun wx hl=>HCA.out wx (hY.out.trans _ _ _ hl)) (fun wx hl=>(zc3 (rkS.later HRa.out (hY.out.trans _ _ _ hl)) hzk).1) (fun wx hl=>(zc3 (rkS.later HRa.out (hY.out.trans _ _ _ hl)) hzk).2) (fun wx hl=>HCF.out wx (hY.out.trans _ _ _ hl)) (fun wx hl=>markP i (by omega) wx) (by omega) (fun wx hl=>HCX.out wx (hY.out.trans _ _ _ hl)) (fun wx hl=>(zc3 (rkS.later HRx.out (hY.out.trans _ _ _ hl)) hzk2).1) (fun wx hl=>(zc3 (rkS.later HRx.out (hY.out.trans _ _ _ hl)) hzk2).2) ?_
           intros
           rename_i w5 hl5
           have HY5:=zaa (Lat.trans _ _ _ hY.out hl5)
           simp only [Act.put,List.setIfInBounds_toArray,List.set_cons_succ,List.set_cons_zero]
           clear hl5 cAy
           go_wp2_with fail
           refine ⟨⟨z+1,by first|rfl|simp,by omega,HY5⟩,?_⟩
           simp [nOf]
           omega
         refine lk_r27b v g0 g1 ga nb bc c1 (k+40) ac k xc i z xa (mkS i).t ((mkS i).v:Int) wy _ _ (by rfl) (by rfl) (by rfl) (by rfl) (by rfl) (by omega) (by omega) (by omega) (by omega) (by kernel_rfl) (by kernel_rfl) (fun wx hl=>HCA.out wx (hY.out.trans _ _ _ hl)) (fun wx hl=>(zc3 (rkS.later HRa.out (hY.out.trans _ _ _ hl)) hzk).1) (fun wx hl=>(zc3 (rkS.later HRa.out (hY.out.trans _ _ _ hl)) hzk).2) (fun wx hl=>HCF.out wx (hY.out.trans _ _ _ hl)) (fun wx hl=>markP i (by omega) wx) (by omega) (fun wx hl=>HCX.out wx (hY.out.trans _ _ _ hl)) ?_
         intros
         rename_i w5 hl5
         have HY5:=zaa (Lat.trans _ _ _ hY.out hl5)
         simp only [Act.put,List.setIfInBounds_toArray,List.set_cons_succ,List.set_cons_zero]
         clear hl5 cAy
         go_wp2_with fail
         refine ⟨⟨z+1,by first|rfl|simp,by omega,HY5⟩,?_⟩
         simp [nOf]
         omega
       have hzz:¬(z:Int)<((k+40:Nat):Int):=by omega
       have HK9:=zaa (hK.out.later hY.out)
       go_wp2_with fail
       refine ⟨⟨i+1,by first|rfl|simp,by omega,HK9⟩,?_⟩
       simp [nOf]
       omega
    have hinz:¬(i:Int)<(nb:Int):=by omega
    go_wp2_with fail
    have HK3:=hK
    clear hK hinz hin
    go_loopw [13] (fun vI wx=>∃i:Nat,vI=.int .i64 (i:Int)∧i≤nn∧Hid (LK b2 w0 wx v (wkC P S R D (.slice bd nb bc) (.slice nd nn nc)) (.slice bd nb bc) (.slice nd nn nc) (.slice ad1 nb c1) (.slice ad2 nn c2) Ll Lc A1 B1)) (fun vI _=>nn - nOf vI)
    case atStart=>exact ⟨0,rfl,by omega,HK3⟩
    case round=>
     rename World=>wr
     obtain ⟨i,rfl,hi,hK⟩:=hrel
     clear HK3
     by_cases hin:i<nn
     · have hinz:(i:Int)<(nn:Int):=by omega
       have hi0:¬(i:Int)<0:=by omega
       obtain ⟨a,ha⟩:∃a,B1[i]?=some a:=⟨B1[i]'(by have:=HB1.out;omega),List.getElem?_eq_getElem _⟩
       obtain ⟨x,k,hx,hk6,hRx,hRa,-⟩:=hK.out.fc.grown i a ha
       obtain ⟨g0,hg0⟩:=HND.out (by omega)
       have hoa:=hK.out.od
       rw [HB1.out] at hoa
       obtain ⟨g1,hg1,-⟩:=zbc hoa (by omega)
       clear hoa
       subst hg1 hg0
       obtain ⟨aa,ac,hae,hga⟩:=rowform (show K.Rw wr 5 a (zae (List.replicate (k+64) (mkB i))) from hRa) (N:=k+64) (by rw [zaf,List.length_replicate])
       obtain ⟨ga,hga⟩:=hga (by omega)
       obtain ⟨xa,xc,hxe,hgx⟩:=rowform (show K.Rw wr 5 x (zae (List.replicate k (mkB i))) from hRx) (N:=k) (by rw [zaf,List.length_replicate])
       subst hae hga hxe
       have cF:∀wx,Lat wr wx→wx.cell? ⟨v,9,none⟩=some (.slice (some ⟨g0,0,none⟩) nn nc):=fun wx hb=>by rw [(hK.out.later hb).blk.cell];rfl
       have cX:∀wx,Lat wr wx→wx.cell? ⟨g0,i,none⟩=some (.slice xa k xc):=fun wx hb=>by
        have h9:=(hK.out.later hb).oc
        rw [HNN.out] at h9
        exact zai h9 i _ hx
       have cA:∀wx,Lat wr wx→wx.cell? ⟨g1,i,none⟩=some (.slice (some ⟨ga,0,none⟩) (k+64) ac):=fun wx hb=>by
        have h9:=(hK.out.later hb).od
        rw [HB1.out] at h9
        exact zai h9 i _ ha
       have HCF:=zaa cF
       have HCX:=zaa cX
       have HCA:=zaa cA
       have HRa:=zaa hRa
       have HRx:=zaa hRx
       have HGX:=zaa hgx
       clear ha hx hRx hRa hgx cF cX cA
       go_wp2_with fail
       go_loopw [14] (fun vK wx=>∃z:Nat,vK=.int .i64 (z:Int)∧z≤k+64∧Hid (Lat wr wx)) (fun vK _=>(k+64) - nOf vK)
       case atStart=>exact ⟨0,rfl,by omega,zaa (Lat.refl _)⟩
       case round=>
        rename World=>wy
        obtain ⟨z,rfl,hz,hY⟩:=hrel
        have cAy:=HCA.out wy hY.out
        by_cases hzk:z<k+64
        · have hzz:(z:Int)<((k+64:Nat):Int):=by omega
          have hz0:¬(z:Int)<0:=by omega
          have hcv:=u8_id i (by omega)
          have cz:wy.cell? ⟨ga,z,none⟩=some (.int .u8 (i:Int)):=by
           have h9:=(rkB.later HRa.out hY.out).cell (rep_at (mkB i) hzk)
           rw [mkB_id (i:=i) (by omega)] at h9
           exact h9
          have cXy:=HCX.out wy hY.out
          have cFy:=HCF.out wy hY.out
          by_cases hzk2:z<k
          · obtain ⟨gx,rfl⟩:=HGX.out (by omega)
            have hzk3:(z:Int)<(k:Int):=by omega
            have cy:wy.cell? ⟨gx,z,none⟩=some (.int .u8 (i:Int)):=by
             have h9:=(rkB.later HRx.out hY.out).cell (rep_at (mkB i) hzk2)
             rw [mkB_id (i:=i) (by omega)] at h9
             exact h9
            go_wp2_with fail
            refine ⟨⟨z+1,by first|rfl|simp,by omega,hY⟩,?_⟩
            simp [nOf]
            omega
          have hzk3:¬(z:Int)<(k:Int):=by omega
          go_wp2_with fail
          refine ⟨⟨z+1,by first|rfl|simp,by omega,hY⟩,?_⟩
          simp [nOf]
          omega
        have hzz:¬(z:Int)<((k+64:Nat):Int):=by omega
        have HK9:=zaa (hK.out.later hY.out)
        go_wp2_with fail
        refine ⟨⟨i+1,by first|rfl|simp,by omega,HK9⟩,?_⟩
        simp [nOf]
        omega
     have hinz:¬(i:Int)<(nn:Int):=by omega
     go_wp2_with fail
     go_ret
     exact ⟨rfl,hK.out.bel⟩
end Go.Proofs.YtlppibigceeimaaGreatDoor
