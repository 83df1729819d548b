import Derived.Test.YtlppibigceeimaaGreatDoorShI
import Derived.Test.YtlppibigceeimaaGreatDoorPlK
set_option linter.unusedSimpArgs false
set_option linter.unusedVariables false
set_option maxHeartbeats 40000000
set_option maxRecDepth 100000
namespace Go.Proofs.YtlppibigceeimaaGreatDoor
open Go.RowKit
theorem info4z:(Tryz.prog.info? 4).map (fun i=>(i.zero,i.size,i.bytes))=some (some (.bool false),1,1):=by kernel_rfl
theorem made4 (n:Nat):(madeCells (Value.bool false).cells (n*1)).toList=(List.replicate n false).map Value.bool:=by
 have:=toList_madeCells_one (.bool false) n
 rw [Nat.mul_one,List.map_replicate]
 exact this
theorem atS_at {st:K.Sx} {n i:Nat} {o d:ByteArray} (h:st i=some (o,d)) (hi:i<n):K.atS st n (i:Int)=some (i,o,d):=by
 unfold K.atS
 rw [if_pos ⟨by omega,by omega⟩]
 simp [h]
section
variable {w0:World} {v:Nat} {P S R D n:Nat→Nat} {st su:Nat→K.Sx} {Z:Nat→ByteArray→List En} {E:Nat→List De} {F H:Nat→Nat→Prop} {vl vc:Value} {Ll Lc:List Value} {T:Nat}
theorem lie_getX (w:World) (hW:WK w0 w v P S R D n st su Z E F H vl vc Ll Lc) {k:Nat} (hk:k<2) (o:ByteArray) (x:Int) (hx:x∈K.slL (st k) (n k) o):
 Calls Tryz.prog 57 #[.pointer (some ⟨P k,0,none⟩),.int .i64 x] w fun e w'=>Below w.heap.size w w'∧∃ad N c,e=.returned (.tuple #[.slice ad N c,.int .i64 0])∧Sl w' ad N (datI (st k) x)∧∀z,ad=some z→w.heap.size≤z.block:=by
 obtain ⟨G,hp,_⟩:=(hW.sq k hk).pool
 have hz:=(hW.sq k hk).sz
 obtain ⟨i,d,rfl,hi,hs,hd⟩:=hz.slm o hx
 refine (K.getX (i:Int) G (P k) (n k) (st k) w hp hz.small).mono ?_
 rintro e w' ⟨b,h⟩
 refine ⟨b,?_⟩
 rcases h with ⟨h1,_⟩|⟨i2,o2,d2,ga,c,h1,h2,h3,h4,_⟩
 · rw [atS_at hs hi] at h1;cases h1
 rw [atS_at hs hi] at h1
 cases h1
 exact ⟨_,_,_,h2,by rw [hd];exact h4,fun z hz=>by cases hz;exact h3⟩
theorem lie_getR (w:World) (hW:WK w0 w v P S R D n st su Z E F H vl vc Ll Lc) {k:Nat} (hk:k<2) (o:ByteArray) (x:Int) (hx:x∈K.slL (su k) (n k) o):
 Calls Tryz.prog 58 #[.pointer (some ⟨R k,0,none⟩),.int .i64 x] w fun e w'=>Below w.heap.size w w'∧∃ad N c,e=.returned (.tuple #[.slice ad N c,.int .i64 0])∧Sl w' ad N (datI (su k) x):=by
 have hz:=(hW.dq k hk).sz
 obtain ⟨i,d,rfl,hi,hs,hd⟩:=hz.slm o hx
 obtain ⟨q,B,v9,X,_,_,hr,_⟩:=hW.dq k hk
 refine (K.getR (i:Int) (R k) q (n k) (su k) B w hr hz.small).mono ?_
 rintro e w' ⟨b,h⟩
 refine ⟨b,?_⟩
 rcases h with ⟨h1,_⟩|⟨i2,o2,d2,ad,c,h1,h2,h3,h4⟩
 · rw [atS_at hs hi] at h1;cases h1
 rw [atS_at hs hi] at h1
 cases h1
 exact ⟨_,_,_,h2,by rw [hd];exact h3⟩
end
section
variable {w0:World} {v:Nat} {P S R D n:Nat→Nat} {st su:Nat→K.Sx} {Z:Nat→ByteArray→List En} {E:Nat→List De} {F H:Nat→Nat→Prop} {vl vc:Value} {Ll Lc:List Value} {T:Nat}
theorem liesP (w:World) (hW:WK w0 w v P S R D n st su Z E F H vl vc Ll Lc) (hE:∀k,k<2→EqK (n k) (st k) (su k) (Z k) (E k)) (k:Nat) (hk:k<2) (o:ByteArray):
 Calls Tryz.prog 25 #[pV v,.int .i64 (k:Int),.string o] w fun e w'=>e=.returned (.bool true)∧Below w.heap.size w w':=by
 have hz:=(hW.sq k hk).sz
 have hy:=(hW.dq k hk).sz
 have hpm:=(hE k hk).eqv.dat hz hy o
 have hlen:=hpm.length_eq
 rw [List.length_map,List.length_map] at hlen
 obtain ⟨G0,hp0,_⟩:=(hW.sq k hk).pool
 obtain ⟨q0,B0,v9,X9,_,_,hr0,_⟩:=hW.dq k hk
 have HSP:=zaa (K.slotsX o G0 (P k) (n k) (st k) w hp0)
 have HSR:=zaa (fun (wx:World) (hb:Below w.heap.size w wx)=>K.slotsR o (R k) q0 (n k) (su k) B0 wx (hr0.later hb))
 have HGX:=zaa (fun (wx:World) (hb:Below w.heap.size w wx) (x:Int) (hx:x∈K.slL (st k) (n k) o)=>lie_getX wx (hW.later hb) hk o x hx)
 have HGR:=zaa (fun (wx:World) (hb:Below w.heap.size w wx) (x:Int) (hx:x∈K.slL (su k) (n k) o)=>lie_getR wx (hW.later hb) hk o x hx)
 have hcp:=zaa (fun (wx:World) (hb:Below w.heap.size w wx)=>(hW.later hb).cp hk)
 have hk3:(k:Int)<2:=by omega
 have hk0:¬(k:Int)<0:=by omega
 have hN9:(K.slL (st k) (n k) o).length≤60:=by
  have h1:=hW.nn k hk
  rw [K.slL_len]
  unfold K.setL
  exact Nat.le_trans (List.length_filterMap_le _ _) (by rw [List.length_range];exact h1)
 have HPM:=zaa hpm
 obtain ⟨a,ha⟩:∃a,K.slL (st k) (n k) o=a:=⟨_,rfl⟩
 obtain ⟨b,hb⟩:∃b,K.slL (su k) (n k) o=b:=⟨_,rfl⟩
 rw [ha,hb] at HPM hlen
 rw [ha] at HSP HGX
 rw [hb] at HSR HGR
 obtain ⟨N,hN⟩:∃N,a.length=N:=⟨_,rfl⟩
 rw [hN] at hlen
 rw [ha,hN] at hN9
 rw [hN] at HSP
 rw [hlen] at HSR
 have HN:=zaa (And.intro hN hlen)
 obtain ⟨da,hda⟩:∃f,datI (st k)=f:=⟨_,rfl⟩
 obtain ⟨db,hdb⟩:∃f,datI (su k)=f:=⟨_,rfl⟩
 rw [hda,hdb] at HPM
 rw [hda] at HGX
 rw [hdb] at HGR
 have k1:=(hcp.out w (Below.refl _ _)).1
 clear hz hy hpm hlen hp0 hr0 hW hE ha hb hN hda hdb
 unfold pV
 go_enter Tryz.func25,Tryz.ntmps25
 go_wp2_with fail
 refine HSP.out.mono ?_
 rintro e w1 ⟨va,rfl,o1,b1⟩
 obtain ⟨aa,ca,rfl⟩:=zal o1
 have O1:=zaa o1
 have B1:=zaa b1
 have k2:=(hcp.out w1 b1).2.2.1
 clear o1 b1 k1 HSP
 go_wp2_with fail
 refine (HSR.out w1 B1.out).mono ?_
 rintro e w2 ⟨vb,rfl,o2,b2⟩
 obtain ⟨ab,cb,rfl⟩:=zal o2
 have O2:=zaa (zbq o2 (fun g hg=>(o2.lt g hg).1))
 have O1:=zaa (owl O1.out b2)
 have B2:Hid (Below w.heap.size w w2):=zaa (B1.out.trans (b2.mono B1.out.size))
 have S12:=zaa b2.size
 clear o2 b2 k2 HSR B1
 go_wp2_with (at_make;refine K.wpList_make_any _ rfl (.tmp 39) (.tmp 39) 110 rfl 4 _ 1 1 Tryz.underlying110 info4z N (by rfl) (by rfl) (by omega) (by omega) ?_;intro w3 hB hz bl;rw [made4] at hB;have HB:=zaa hB;have BL:=zaa bl;clear hB hz bl)
 obtain ⟨gb,hgb⟩:∃g,w2.heap.size=g:=⟨_,rfl⟩
 have hgw:w.heap.size≤gb:=by rw [←hgb];exact B2.out.size
 have O1:=zaa (owl O1.out BL.out)
 have O2:=zaa (owl O2.out BL.out)
 have B3:Hid (Below w.heap.size w w3):=zaa (B2.out.trans (BL.out.mono B2.out.size))
 have hofs:Hid (∀g,((Value.slice aa N ca).ownBlock=some g∨(Value.slice ab N cb).ownBlock=some g)→¬g=gb):=zaa (by
  rintro g (hg|hg) e
  · have h1:=(zab O1.out g hg).one (show Tg w3 g 4 by rw [e,←hgb];exact HB.out.tg)
    cases h1
  have h1:=(zab O2.out g hg).one (show Tg w3 g 4 by rw [e,←hgb];exact HB.out.tg)
  cases h1)
 rw [hgb] at HB ⊢
 clear hgb BL B2 S12
 go_loopw [10] (fun s10 wx=>∃(i:Nat) (G:List Bool),s10=.int .i64 (i:Int)∧i≤N∧Hid (G.length=N)∧Hid (Blk wx gb 4 (G.map Value.bool))∧Hid ((lft (b.map db) G).Perm ((a.map da).drop i))∧Hid (Chg (fun i=>i=gb) w3 wx)) (fun s10 _=>N - nOf s10)
 case atStart=>exact ⟨0,List.replicate N false,rfl,by omega,zaa (by simp),HB,zaa (by
  have h9:=lft_all (b.map db)
  rw [List.length_map,HN.out.2] at h9
  rw [h9,List.drop_zero]
  exact HPM.out),zaa (Chg.refl _ _)⟩
 case round=>
  rename World=>wr
  obtain ⟨i,G,rfl,hi,hG,hBk,hPm,hCg⟩:=hrel
  clear HB HPM
  have hBw:Hid (Below w.heap.size w wr):=zaa (B3.out.trans (hCg.out.below B3.out.size (fun j hj=>by rw [show j=gb from hj];exact hgw)))
  by_cases hlt:i<N
  · have hltz:(i:Int)<(N:Int):=by omega
    have hi0:¬(i:Int)<0:=by omega
    have O1r:=zaa (hCg.out.owns O1.out (fun g hg=>hofs.out g (.inl hg)))
    have O2r:=zaa (hCg.out.owns O2.out (fun g hg=>hofs.out g (.inr hg)))
    obtain ⟨ga,rfl,_⟩:=zbc O1r.out (by omega)
    obtain ⟨gc,rfl,_⟩:=zbc O2r.out (by omega)
    obtain ⟨x,hx⟩:∃x,a[i]?=some x:=⟨a[i]'(by rw [HN.out.1];exact hlt),List.getElem?_eq_getElem _⟩
    have hxm:=List.mem_of_getElem? hx
    have cx:wr.cell? ⟨ga,i,none⟩=some (.int .i64 x):=zai O1r.out i _ (by rw [List.getElem?_map,hx];rfl)
    have cp:=(hcp.out wr hBw.out).1
    have HX:=zaa hx
    have HXM:=zaa hxm
    have HCG:=zaa hCg.out
    clear hx hxm hCg
    go_wp2_with fail
    go_cut [11,12] from 47 to 60 (fun s11 s12 wx=>∃(ad:Option Addr) (m c:Nat),s11=.slice ad m c∧s12=.int .i64 0∧Hid (Sl wx ad m (da x))∧Hid (∀z,ad=some z→wr.heap.size≤z.block)∧Hid (Below wr.heap.size wr wx))
    case first=>
     go_region_with (first
      |(refine (HGX.out wr.drew (hBw.out.trans ((Below.refl wr.heap.size wr).drew.mono hBw.out.size)) x HXM.out).mono ?_
        rintro e w4 ⟨b4,ad,m,c,rfl,s4,z4⟩
        have B4:Hid (Below wr.heap.size wr w4):=zaa (Below.trans (Below.refl _ _).drew b4)
        have S4:=zaa s4
        have Z4:Hid (∀z,ad=some z→wr.heap.size≤z.block):=zaa z4
        clear b4 s4 z4))
     all_goals
      go_wp2_with fail
      go_meet
      exact ⟨ad,m,c,rfl,rfl,S4,Z4,B4⟩
    case rest=>
     rename World=>w4
     obtain ⟨ad,m,c,rfl,rfl,S4,Z4,B4⟩:=hcut
     clear cx cp
     go_wp2_with fail
     have hsw:Hid (gb<wr.heap.size):=zaa hBk.out.lt
     go_loopw [14,13] (fun s14 s13 wx=>∃(j:Nat) (f:Bool),s14=.int .i64 (j:Int)∧s13=.bool f∧j≤N∧Hid ((f=false∧Below w4.heap.size w4 wx∧∀j',j'<j→¬((b.map db)[j']?=some (da x)∧G[j']?=some false))∨(f=true∧∃G':List Bool,G'.length=N∧Blk wx gb 4 (G'.map Value.bool)∧(lft (b.map db) G').Perm ((a.map da).drop (i+1))∧Chg (fun i=>i=gb) wr wx))) (fun s14 _ _=>N - nOf s14)
     case atStart=>exact ⟨0,false,rfl,rfl,by omega,zaa (.inl ⟨rfl,Below.refl _ _,fun j' h=>by omega⟩)⟩
     case round=>
      rename World=>wy
      obtain ⟨j,f,rfl,rfl,hj,hR⟩:=hrel
      cases f with
      |true=>
       have hfin:Hid (∃G':List Bool,G'.length=N∧Blk wy gb 4 (G'.map Value.bool)∧(lft (b.map db) G').Perm ((a.map da).drop (i+1))∧Chg (fun i=>i=gb) wr wy):=zaa (by
        rcases hR.out with ⟨h,_⟩|⟨_,h⟩
        · cases h
        exact h)
       clear hR
       by_cases hjl:j<N
       · have hjlz:(j:Int)<(N:Int):=by omega
         go_wp2_with fail
         obtain ⟨G',g1,g2,g3,g4⟩:=hfin.out
         refine ⟨⟨i+1,G',by first|rfl|simp,by omega,zaa g1,zaa g2,zaa g3,zaa (HCG.out.trans g4 (fun _ _ e=>e))⟩,?_⟩
         simp [nOf]
         omega
       have hjlz:¬(j:Int)<(N:Int):=by omega
       go_wp2_with fail
       obtain ⟨G',g1,g2,g3,g4⟩:=hfin.out
       refine ⟨⟨i+1,G',by first|rfl|simp,by omega,zaa g1,zaa g2,zaa g3,zaa (HCG.out.trans g4 (fun _ _ e=>e))⟩,?_⟩
       simp [nOf]
       omega
      |false=>
       obtain ⟨hB4,hnone⟩:Below w4.heap.size w4 wy∧∀j',j'<j→¬((b.map db)[j']?=some (da x)∧G[j']?=some false):=by
        rcases hR.out with ⟨_,h⟩|⟨h,_⟩
        · exact h
        cases h
       have HB4:=zaa hB4
       have HNONE:=zaa hnone
       clear hB4 hnone hR
       by_cases hjl:j<N
       · have hjlz:(j:Int)<(N:Int):=by omega
         have hj0:¬(j:Int)<0:=by omega
         obtain ⟨y,hy⟩:∃y,b[j]?=some y:=⟨b[j]'(by rw [HN.out.2];exact hjl),List.getElem?_eq_getElem _⟩
         have hym:=zaa (List.mem_of_getElem? hy)
         have hBwy:Hid (Below w.heap.size w wy):=zaa (hBw.out.trans ((B4.out.trans (HB4.out.mono B4.out.size)).mono hBw.out.size))
         have hBry:Hid (Below wr.heap.size wr wy):=zaa (B4.out.trans (HB4.out.mono B4.out.size))
         have cy:wy.cell? ⟨gc,j,none⟩=some (.int .i64 y):=zai (owl O2r.out hBry.out) j _ (by rw [List.getElem?_map,hy];rfl)
         have cp:=(hcp.out wy hBwy.out).2.2.1
         have HY:=zaa hy
         clear hy
         go_upto_region 14 with fail
         go_cut [15,16] from 71 to 84 (fun s15 s16 wx=>∃(ay:Option Addr) (my cy:Nat),s15=.slice ay my cy∧s16=.int .i64 0∧Hid (Sl wx ay my (db y))∧Hid (Below wy.heap.size wy wx))
         case first=>
          go_region_with (first
           |(refine (HGR.out wy.drew (hBwy.out.trans ((Below.refl wy.heap.size wy).drew.mono hBwy.out.size)) y hym.out).mono ?_
             rintro e w5 ⟨b5,ay,my,cyy,rfl,s5⟩
             have B5:Hid (Below wy.heap.size wy w5):=zaa (Below.trans (Below.refl _ _).drew b5)
             have S5:=zaa s5
             clear b5 s5))
          all_goals
           go_wp2_with fail
           go_meet
           exact ⟨ay,my,cyy,rfl,rfl,S5,B5⟩
         case rest=>
          rename World=>w5
          obtain ⟨ay,my,cyy,rfl,rfl,S5,B5⟩:=hcut
          clear cy cp
          have hBk5:=hBk.out.later (hBry.out.trans (B5.out.mono hBry.out.size))
          have hS4:=S4.out.later (HB4.out.trans (B5.out.mono HB4.out.size))
          obtain ⟨g,hg⟩:∃g,G[j]?=some g:=⟨G[j]'(by rw [hG.out];exact hjl),List.getElem?_eq_getElem _⟩
          have cg:w5.cell? ⟨gb,j,none⟩=some (.bool g):=by rw [hBk5.cell,List.getElem?_map,hg];rfl
          have fg:=hBk5.frozen j
          have hxY:Hid ((b.map db)[j]?=some (db y)):=zaa (by rw [List.getElem?_map,HY.out];rfl)
          have hc1:(convert 84 9 (.slice ad m c)).run Tryz.prog w5=.ok (.string (strOfNums (da x))) w5:=zav 84 5 9 Tryz.underlying84 Tryz.underlying5 Tryz.underlying9 hS4
          have hc2:(convert 84 9 (.slice ay my cyy)).run Tryz.prog w5=.ok (.string (strOfNums (db y))) w5:=zav 84 5 9 Tryz.underlying84 Tryz.underlying5 Tryz.underlying9 S5.out
          have hinj:Hid (strOfNums (da x)=strOfNums (db y)→da x=db y):=zaa (zdk hS4.byte S5.out.byte)
          have HBK5:=zaa hBk5
          have HGJ:=zaa hg
          obtain ⟨sx,hsx⟩:∃z,strOfNums (da x)=z:=⟨_,rfl⟩
          obtain ⟨sy,hsy⟩:∃z,strOfNums (db y)=z:=⟨_,rfl⟩
          rw [hsx] at hc1 hinj
          rw [hsy] at hc2 hinj
          have hsxy:Hid (da x=db y→sx=sy):=zaa (fun e=>by rw [←hsx,←hsy,e])
          clear hBk5 hS4 hg hsx hsy
          cases g with
          |true=>
           have HNO:Hid (¬((b.map db)[j]?=some (da x)∧G[j]?=some false)):=zaa (fun e=>by rw [HGJ.out] at e;cases e.2)
           go_wp2_with fail
           refine ⟨⟨j+1,false,by first|rfl|simp,rfl,by omega,zaa (.inl ⟨rfl,HB4.out.trans (B5.out.mono HB4.out.size),fun j' h9=>by
            by_cases e:j'=j
            · subst e
              exact HNO.out
            exact HNONE.out j' (by omega)⟩)⟩,?_⟩
           simp [nOf]
           omega
          |false=>
           by_cases hxy:sx=sy
           · subst hxy
             have hxe:=hinj.out rfl
             go_wp2_with fail
             refine ⟨⟨j+1,true,by first|rfl|simp,rfl,by omega,zaa (.inr ⟨rfl,G.set j true,by rw [List.length_set,hG.out],?_,?_,?_⟩)⟩,?_⟩
             · rw [List.map_set]
               exact HBK5.out.set j _
             · have h1:(a.map da).drop i=da x :: (a.map da).drop (i+1):=by
                have h2:(a.map da)[i]?=some (da x):=by rw [List.getElem?_map,HX.out];rfl
                obtain ⟨h3,h4⟩:=List.getElem?_eq_some_iff.1 h2
                rw [List.drop_eq_getElem_cons h3,h4]
               have h5:=(lft_set _ _ j (da x) (by rw [hxY.out,hxe]) HGJ.out).trans hPm.out
               rw [h1] at h5
               exact h5.cons_inv
             · exact (Chg.of_below (F:=fun i=>i=gb) (hBry.out.trans (B5.out.mono hBry.out.size))).trans (Chg.set ⟨gb,j,none⟩ _ w5) (fun _ _ e=>e)
             simp [nOf]
             omega
           have HNO:Hid (¬((b.map db)[j]?=some (da x)∧G[j]?=some false)):=zaa (fun e=>by
            have h1:=e.1
            rw [hxY.out] at h1
            exact hxy (hsxy.out (Option.some.inj h1).symm))
           have hb1:(sx.toList==sy.toList)=false:=by rw [K.str_eqR];simpa using hxy
           go_wp2_with fail
           refine ⟨⟨j+1,false,by first|rfl|simp,rfl,by omega,zaa (.inl ⟨rfl,HB4.out.trans (B5.out.mono HB4.out.size),fun j' h9=>by
            by_cases e:j'=j
            · subst e
              exact HNO.out
            exact HNONE.out j' (by omega)⟩)⟩,?_⟩
           simp [nOf]
           omega
       exfalso
       have h1:(a.map da).drop i=da x :: (a.map da).drop (i+1):=by
        have h2:(a.map da)[i]?=some (da x):=by rw [List.getElem?_map,HX.out];rfl
        obtain ⟨h3,h4⟩:=List.getElem?_eq_some_iff.1 h2
        rw [List.drop_eq_getElem_cons h3,h4]
       have h5:=hPm.out
       rw [h1] at h5
       obtain ⟨j',h6,h7⟩:=lft_mem _ _ _ ((h5.mem_iff (a:=da x)).2 (by simp))
       exact HNONE.out j' (by have:=(List.getElem?_eq_some_iff.1 h7).1;have:=hG.out;omega) ⟨h6,h7⟩
  have hltz:¬(i:Int)<(N:Int):=by omega
  go_wp2_with fail
  go_ret
  exact ⟨rfl,hBw.out⟩
end
section
variable {w0 w:World} {v:Nat} {P S R D n:Nat→Nat} {st su:Nat→K.Sx} {Z:Nat→ByteArray→List En} {E:Nat→List De} {F H:Nat→Nat→Prop} {vl vc:Value} {Ll Lc:List Value} {T:Nat}
theorem WK.counts (h:WK w0 w v P S R D n st su Z E F H vl vc Ll Lc) (hE:∀k,k<2→EqK (n k) (st k) (su k) (Z k) (E k)) {k:Nat} (hk:k<2) (o:ByteArray):
 ((Z k o).flatMap slF).length=((zE (E k) o).flatMap slF).length∧n k - (K.tkL (st k) (n k)).length=n k - (K.tkL (su k) (n k)).length∧(K.setL (st k) (n k) o).length=(K.setL (su k) (n k) o).length:=by
 have hz:=(h.sq k hk).sz
 have hy:=(h.dq k hk).sz
 have h1:=(hE k hk).eqv.slots hz hy o
 exact ⟨h1,by rw [(hE k hk).cnt],by rw [hz.used o,hy.used o,h1]⟩
theorem WK.c13 (h:WK w0 w v P S R D n st su Z E F H vl vc Ll Lc) (hT:∀k,k<2→(E k).length≤T) (hT9:T≤1000) {k:Nat} (hk:k<2) (o:ByteArray):
 (Calls Tryz.prog 18 #[.pointer (some ⟨S k,0,none⟩),.string o] w fun e w'=>e=.returned (.int .i64 (((Z k o).flatMap slF).length:Int))∧Lat w w')∧
 (Calls Tryz.prog 26 #[.pointer (some ⟨D k,0,none⟩),.string o] w fun e w'=>e=.returned (.int .i64 (((zE (E k) o).flatMap slF).length:Int))∧Lat w w')∧
 (Calls Tryz.prog 19 #[.pointer (some ⟨P k,0,none⟩)] w fun e w'=>e=.returned (.int .i64 ((n k - (K.tkL (st k) (n k)).length:Nat):Int))∧Lat w w')∧
 (Calls Tryz.prog 27 #[.pointer (some ⟨R k,0,none⟩)] w fun e w'=>e=.returned (.int .i64 ((n k - (K.tkL (su k) (n k)).length:Nat):Int))∧Lat w w')∧
 (Calls Tryz.prog 28 #[.pointer (some ⟨P k,0,none⟩),.string o] w fun e w'=>e=.returned (.int .i64 ((K.setL (st k) (n k) o).length:Int))∧Lat w w')∧
 (Calls Tryz.prog 29 #[.pointer (some ⟨R k,0,none⟩),.string o] w fun e w'=>e=.returned (.int .i64 ((K.setL (su k) (n k) o).length:Int))∧Lat w w'):=by
 obtain ⟨G0,hp0,_⟩:=(h.sq k hk).pool
 obtain ⟨q0,B0,v9,X9,_,_,hr0,_⟩:=h.dq k hk
 have hn:=h.nn k hk
 have hEk:=hT k hk
 refine ⟨sslotsP o (F k) (S k) (P k) (n k) (st k) (Z k) w (h.sq k hk),(slotsQ o (H k) (D k) (n k) (su k) (E k) w (h.dq k hk).dq (by omega) (by omega)).mono ?_,K.leftX G0 (P k) (n k) (st k) w hp0,(K.leftR (R k) q0 (n k) (su k) B0 w hr0).mono ?_,(K.usedX o G0 (P k) (n k) (st k) w hp0).mono ?_,K.usedR o (R k) q0 (n k) (su k) B0 w hr0⟩
 all_goals
  rintro e w' ⟨h1,rfl⟩
  exact ⟨h1,Lat.refl _⟩
theorem stepP4 (w:World) (h:WX w0 v P S R D n T w) (hT:T≤1000) (s:Stq) (hs:s.kd=4) (hon:-9223372036854775808≤s.on∧s.on≤9223372036854775807):
 Calls Tryz.prog 10 #[pV v,.agg s.cells.toArray] w fun e w'=>e=.returned (.bool true)∧WX w0 v P S R D n T w':=by
 obtain ⟨st,su,Z,E,F,H,vl,vc,Ll,Lc,hW,hE,hTT⟩:=h
 have HW:=zaa hW
 have HE:=zaa hE
 have HTT:=zaa hTT
 obtain ⟨kd,on,id,o,la,ln,lc,f,t,ca,cn,cc⟩:=s
 dsimp only at*
 subst hs
 clear hW hE hTT
 unfold pV
 go_enter Tryz.func10,Tryz.ntmps10
 go_wp2_with (first
  |(refine zac rfl 48 (.tmp 1) rfl [.int .i64 4,.int .i64 on,.int .i64 id,.string o,.slice la ln lc,.int .i64 f,.int .i64 t,.slice ca cn cc] rfl ?_
    intro w1 B1 bl1 hz1
    have HB1:=zaa B1
    have BL1:=zaa bl1
    have d0:w1.cell? ⟨w.heap.size,0,none⟩=some (.int .i64 4):=B1.cell 0
    have d1:w1.cell? ⟨w.heap.size,1,none⟩=some (.int .i64 on):=B1.cell 1
    have d3:w1.cell? ⟨w.heap.size,3,none⟩=some (.string o):=B1.cell 3
    clear B1 bl1))
 refine (zfi on 2 (by omega) (by omega) hon w1).mono ?_
 rintro e w9 ⟨⟨k,hk,rfl⟩,hw9⟩
 rw [hw9]
 clear hw9
 have hk2:k<2:=by omega
 go_wp2_with fail
 refine (liesP w1 (HW.out.later BL1.out) HE.out k hk2 o).mono ?_
 rintro e w2 ⟨rfl,b2⟩
 have HB2:=zaa (HB1.out.later b2)
 have B2w:Hid (Below w.heap.size w w2):=zaa (BL1.out.trans (b2.mono BL1.out.size))
 obtain ⟨e1,e2,e3⟩:=HW.out.counts HE.out hk2 o
 have HC:=zaa (fun (wx:World) (hb:Below w.heap.size w wx)=>(HW.out.later hb).c13 HTT.out hT hk2 o)
 rw [←e1,←e2,←e3] at HC
 have hcp:=zaa (fun (wx:World) (hb:Below w.heap.size w wx)=>(HW.out.later hb).cp hk2)
 have hbw:Hid (∀wx,Lat w2 wx→Below w.heap.size w wx):=zaa (fun wx hl=>B2w.out.trans (Below.mono hl B2w.out.size))
 clear d0 d1 d3 b2 e1 e2 e3
 go_upto_region 13 with fail
 refine st_r13 v w.heap.size k (P k) (S k) (R k) (D k) o _ _ _ w2 _ _ (by rfl) (by rfl) (by rfl) (by rfl) (by rfl) hk (by omega) (fun wx hl=>(HB2.out.later hl).cell 3) (fun wx hl=>(hcp.out wx (hbw.out wx hl)).1) (fun wx hl=>(hcp.out wx (hbw.out wx hl)).2.1) (fun wx hl=>(hcp.out wx (hbw.out wx hl)).2.2.1) (fun wx hl=>(hcp.out wx (hbw.out wx hl)).2.2.2) (fun wx hl=>(HC.out wx (hbw.out wx hl)).1) (fun wx hl=>(HC.out wx (hbw.out wx hl)).2.1) (fun wx hl=>(HC.out wx (hbw.out wx hl)).2.2.1) (fun wx hl=>(HC.out wx (hbw.out wx hl)).2.2.2.1) (fun wx hl=>(HC.out wx (hbw.out wx hl)).2.2.2.2.1) (fun wx hl=>(HC.out wx (hbw.out wx hl)).2.2.2.2.2) ?_
 intros
 rename_i w3 hL
 have HW3:=zaa (HW.out.later (hbw.out _ hL))
 simp only [Act.put,List.setIfInBounds_toArray,List.set_cons_succ,List.set_cons_zero]
 go_wp2_with fail
 go_ret
 exact ⟨rfl,st,su,Z,E,F,H,vl,vc,Ll,Lc,HW3.out,HE.out,HTT.out⟩
theorem stepP3 (w:World) (h:WX w0 v P S R D n T w) (hT:T≤1000) (s:Stq) (hs:s.kd=3) (hon:-9223372036854775808≤s.on∧s.on≤9223372036854775807):
 Calls Tryz.prog 10 #[pV v,.agg s.cells.toArray] w fun e w'=>e=.returned (.bool true)∧WX w0 v P S R D n T w':=by
 have HX:=zaa h
 obtain ⟨kd,on,id,o,la,ln,lc,f,t,ca,cn,cc⟩:=s
 dsimp only at*
 subst hs
 clear h
 have hTL:=zaa (fun (wx:World) (hb:Below w.heap.size w wx) (k:Nat) (hk:k<2)=>tellsP wx (HX.out.later hb) hT k hk ⟨3,on,id,o,la,ln,lc,f,t,ca,cn,cc⟩)
 unfold pV at*
 go_enter Tryz.func10,Tryz.ntmps10
 go_wp2_with (first
  |(refine zac rfl 48 (.tmp 1) rfl [.int .i64 3,.int .i64 on,.int .i64 id,.string o,.slice la ln lc,.int .i64 f,.int .i64 t,.slice ca cn cc] rfl ?_
    intro w1 B1 bl1 hz1
    have HB1:=zaa B1
    have BL1:=zaa bl1
    have d0:w1.cell? ⟨w.heap.size,0,none⟩=some (.int .i64 3):=B1.cell 0
    have d1:w1.cell? ⟨w.heap.size,1,none⟩=some (.int .i64 on):=B1.cell 1
    have d2:w1.cell? ⟨w.heap.size,2,none⟩=some (.int .i64 id):=B1.cell 2
    have d3:w1.cell? ⟨w.heap.size,3,none⟩=some (.string o):=B1.cell 3
    have d4:w1.cell? ⟨w.heap.size,4,none⟩=some (.slice la ln lc):=B1.cell 4
    have d5:w1.cell? ⟨w.heap.size,5,none⟩=some (.int .i64 f):=B1.cell 5
    have d6:w1.cell? ⟨w.heap.size,6,none⟩=some (.int .i64 t):=B1.cell 6
    have d7:w1.cell? ⟨w.heap.size,7,none⟩=some (.slice ca cn cc):=B1.cell 7
    clear B1 bl1))
 refine (zfi on 2 (by omega) (by omega) hon w1).mono ?_
 rintro e w9 ⟨⟨k,hk,rfl⟩,hw9⟩
 rw [hw9]
 clear hw9
 have hk2:k<2:=by omega
 go_wp2_with fail
 refine (hTL.out w1 BL1.out k hk2).mono ?_
 rintro e w2 ⟨rfl,h2⟩
 have H2:=zaa h2
 clear h2 d0 d1 d2 d3 d4 d5 d6 d7
 go_wp2_with fail
 go_ret
 exact ⟨rfl,H2.out⟩
theorem LbF.of {b0:Nat} {B:Nat→Prop} {wa wb:World} {ad:Option Addr} {C:List (List Int)} (h:LbF wa b0 (fun _=>False) ad C) (hb:Below b0 wa wb) (hle:b0≤wb.heap.size) (hB:∀i,B i→b0≤i):LbF wb wb.heap.size B ad C:=fun i b hi=>by
 obtain ⟨g,off,ad',c',e1,e2,e3,e4,e5,e6,e7,e8⟩:=h i b hi
 refine ⟨g,off,ad',c',e1,by omega,by rw [hb.cell (p:=⟨g,off+i,none⟩) e2];exact e3,?_,e5,e6,e7,fun z hz h0=>⟨fun hx=>by have:=hB _ hx;have:=(e8 z hz h0).2;omega,by have:=(e8 z hz h0).2;omega⟩⟩
 refine ⟨e4.len,e4.byte,fun j hj=>?_⟩
 obtain ⟨x,hx,hc⟩:=e4.cell j hj
 refine ⟨x,hx,?_⟩
 have hxb:(x.add j).block=x.block:=zc0 x j
 rw [hb.cell (p:=x.add j) (by rw [hxb];exact (e8 x hx (by omega)).2)]
 exact hc
theorem stepP5 (w:World) (h:WX w0 v P S R D n T w) (hT:T≤1000) (s:Stq) (hs:s.kd=5) (hon:-9223372036854775808≤s.on∧s.on≤9223372036854775807) (C:List (List Int)) (hC:LbF w0 w0.heap.size (fun _=>False) s.ca C) (hN:C.length=s.cn):
 Calls Tryz.prog 10 #[pV v,.agg s.cells.toArray] w fun e w'=>e=.returned (.bool true)∧WX w0 v P S R D n (T+1) w':=by
 obtain ⟨st,su,Z,E,F,H,vl,vc,Ll,Lc,hW,hE,hTT⟩:=h
 obtain ⟨kd,on,id,o,la,ln,lc,f,t,ca,cn,cc⟩:=s
 dsimp only at*
 subst hs
 have hLY:=zaa (fun (wx:World) (hb:Below w.heap.size w wx) (k:Nat) (hk:k<2)=>layP wx (hW.later hb) hE hTT hT k hk o id ca cn cc C (hC.of (hW.later hb).bel (hW.later hb).bel.size (fun i ⟨j,hj,hx⟩=>hx.elim (hW.lo.2.1 j i hj) (hW.lo.2.2 j i hj))) hN)
 clear hW hE hTT hC hN
 unfold pV at*
 go_enter Tryz.func10,Tryz.ntmps10
 go_wp2_with (first
  |(refine zac rfl 48 (.tmp 1) rfl [.int .i64 5,.int .i64 on,.int .i64 id,.string o,.slice la ln lc,.int .i64 f,.int .i64 t,.slice ca cn cc] rfl ?_
    intro w1 B1 bl1 hz1
    have HB1:=zaa B1
    have BL1:=zaa bl1
    have d0:w1.cell? ⟨w.heap.size,0,none⟩=some (.int .i64 5):=B1.cell 0
    have d1:w1.cell? ⟨w.heap.size,1,none⟩=some (.int .i64 on):=B1.cell 1
    have d2:w1.cell? ⟨w.heap.size,2,none⟩=some (.int .i64 id):=B1.cell 2
    have d3:w1.cell? ⟨w.heap.size,3,none⟩=some (.string o):=B1.cell 3
    have d7:w1.cell? ⟨w.heap.size,7,none⟩=some (.slice ca cn cc):=B1.cell 7
    clear B1 bl1))
 refine (zfi on 2 (by omega) (by omega) hon w1).mono ?_
 rintro e w9 ⟨⟨k,hk,rfl⟩,hw9⟩
 rw [hw9]
 clear hw9
 have hk2:k<2:=by omega
 go_wp2_with fail
 refine (hLY.out w1 BL1.out k hk2).mono ?_
 rintro e w2 ⟨rfl,h2⟩
 have H2:=zaa h2
 clear h2 d0 d1 d2 d3 d7
 go_wp2_with fail
 go_ret
 exact ⟨rfl,H2.out⟩
end
theorem LbF.lat {w w':World} {B:Nat→Prop} {ad:Option Addr} {C:List (List Int)} (h:LbF w w.heap.size B ad C) (hb:Below w.heap.size w w'):LbF w' w'.heap.size B ad C:=fun i b hi=>by
 obtain ⟨g,off,ad',c',e1,e2,e3,e4,e5,e6,e7,e8⟩:=h i b hi
 have hsz:=hb.size
 refine ⟨g,off,ad',c',e1,by omega,by rw [hb.cell (p:=⟨g,off+i,none⟩) e2];exact e3,?_,e5,e6,e7,fun z hz h0=>⟨(e8 z hz h0).1,by have:=(e8 z hz h0).2;omega⟩⟩
 refine ⟨e4.len,e4.byte,fun j hj=>?_⟩
 obtain ⟨x,hx,hc⟩:=e4.cell j hj
 refine ⟨x,hx,?_⟩
 have hxb:(x.add j).block=x.block:=zc0 x j
 rw [hb.cell (p:=x.add j) (by rw [hxb];exact (e8 x hx (by omega)).2)]
 exact hc
theorem CksP.lbf {w w':World} {B:Nat→Prop} {L:List (List Sm)} {e:Ending} (h:CksP w w.heap.size (L.map encC) e w') (hL:∀g∈L,g≠[]) (hB:∀i,B i→i<w.heap.size):∃(ad:Option Addr) (m c:Nat),e=.returned (.slice ad m c)∧Lat w w'∧∃C:List (List Int),C.length=m∧LbF w' w'.heap.size B ad C:=by
 obtain ⟨ad,cc,D,rfl,hk,hb⟩:=h
 refine ⟨ad,_,cc,rfl,hb,L.map encC,rfl,fun i b hi=>?_⟩
 obtain ⟨xs,h1,h2⟩:=hk.row
 obtain ⟨a,c,e1,e2,e3,e4,e5⟩:=h2 i b hi
 have hil:=(List.getElem?_eq_some_iff.1 hi).1
 obtain ⟨g,rfl,_⟩:=zbc h1 (by omega)
 obtain ⟨q,hq,rfl⟩:=List.mem_map.1 (List.mem_of_getElem? hi)
 have hb0:0<(encC q).length:=by rw [zbl (hL q hq)];omega
 have hsome:¬a=none:=fun e=>by
  subst e
  obtain ⟨x,hx,_⟩:=e2.cell 0 hb0
  cases hx
 refine ⟨g,0,a,c,rfl,za0 h1 g rfl,by rw [Nat.zero_add];exact zai h1 i _ e1,e2,e3,e4,fun e=>absurd e hsome,fun z hz _=>⟨fun hB9=>?_,(hk.lt _ (e5 z hz)).2⟩⟩
 have:=hB _ hB9
 have:=(hk.lt _ (e5 z hz)).1
 omega
section
variable {w0 w:World} {v:Nat} {P S R D n:Nat→Nat} {T:Nat}
theorem stepP7 (w:World) (h:WX w0 v P S R D n T w) (hT:T≤1000) (s:Stq) (hs:s.kd=7) (hon:-9223372036854775808≤s.on∧s.on≤9223372036854775807):
 Calls Tryz.prog 10 #[pV v,.agg s.cells.toArray] w fun e w'=>e=.returned (.bool true)∧WX w0 v P S R D n (T+1) w':=by
 obtain ⟨st,su,Z,E,F,H,vl,vc,Ll,Lc,hW,hE,hTT⟩:=h
 obtain ⟨kd,on,id,o,la,ln,lc,f,t,ca,cn,cc⟩:=s
 dsimp only at*
 subst hs
 have hCH:Hid (∀(wx:World),Below w.heap.size w wx→∀(k:Nat),k<2→Calls Tryz.prog 32 #[.pointer (some ⟨D k,0,none⟩),.string o,.int .i64 id] wx fun e w2=>∃(ad:Option Addr) (m c:Nat),e=.returned (.slice ad m c)∧Lat wx w2∧∃C:List (List Int),C.length=m∧LbF w2 w2.heap.size (fun i=>∃j,j<2∧(F j i∨H j i)) ad C):=zaa (by
  intro wx hb k hk
  have hw:=hW.later hb
  have hsm:=(hW.dq k hk).sz.smps o id
  have hEk:=hTT k hk
  have hn:=hW.nn k hk
  refine (chunksQ o id (H k) (D k) (n k) (su k) (E k) wx (hw.dq k hk).dq (by omega) (by omega)).mono ?_
  intro e w2 h2
  refine h2.lbf (fun g hg=>(zcs (okG ((hW.dq k hk).sz.en o id).2.2.1) g hg).1) ?_
  rintro i ⟨j,hj,hx|hx⟩
  · exact hw.ltF hj hx
  exact hw.ltH hj hx)
 have hLY:=zaa (fun (wx:World) (hb:Below w.heap.size w wx) (k:Nat) (hk:k<2) (ad:Option Addr) (m c:Nat) (C:List (List Int)) (hC:C.length=m) (hL:LbF wx wx.heap.size (fun i=>∃j,j<2∧(F j i∨H j i)) ad C)=>layP wx (hW.later hb) hE hTT hT k hk o f ad m c C hL hC)
 have hCP:=zaa (fun (wx:World) (hb:Below w.heap.size w wx) (k:Nat) (hk:k<2)=>((hW.later hb).cp hk).2.2.2)
 clear hW hE hTT
 unfold pV at*
 go_enter Tryz.func10,Tryz.ntmps10
 go_wp2_with (first
  |(refine zac rfl 48 (.tmp 1) rfl [.int .i64 7,.int .i64 on,.int .i64 id,.string o,.slice la ln lc,.int .i64 f,.int .i64 t,.slice ca cn cc] rfl ?_
    intro w1 B1 bl1 hz1
    have BL1:=zaa bl1
    have HB1:=zaa B1
    have d0:w1.cell? ⟨w.heap.size,0,none⟩=some (.int .i64 7):=B1.cell 0
    have d1:w1.cell? ⟨w.heap.size,1,none⟩=some (.int .i64 on):=B1.cell 1
    clear B1 bl1))
 refine (zfi on 2 (by omega) (by omega) hon w1).mono ?_
 rintro e w9 ⟨⟨k,hk,rfl⟩,hw9⟩
 rw [hw9]
 clear hw9
 have hk2:k<2:=by omega
 have hB1:=HB1.out
 have hbw:Hid (∀wx,Lat w1 wx→Below w.heap.size w wx):=zaa (fun wx hl=>BL1.out.trans (Below.mono hl BL1.out.size))
 go_upto_region 19 with fail
 refine st_r19 v w.heap.size k (D k) o id f (fun x wx=>x=.bool true∧WX w0 v P S R D n (T+1) wx) w1 _ _ (by rfl) (by rfl) (by rfl) (by rfl) (by omega) (by omega) (fun wx ad m c=>∃C:List (List Int),C.length=m∧LbF wx wx.heap.size (fun i=>∃j,j<2∧(F j i∨H j i)) ad C) (fun wa wb ad m c ⟨C,h1,h2⟩ hl=>⟨C,h1,h2.lat hl⟩) (fun wx hl=>hCP.out wx (hbw.out wx hl) k hk2) (fun wx hl=>(hB1.later hl).cell 2) (fun wx hl=>(hB1.later hl).cell 3) (fun wx hl=>(hB1.later hl).cell 5) (fun wx hl=>hCH.out wx (hbw.out wx hl) k hk2) (fun wx hl ad m c ⟨C,h1,h2⟩=>(hLY.out wx (hbw.out wx hl) k hk2 ad m c C h1 h2).mono (by rintro e w2 ⟨rfl,h9⟩;exact ⟨_,rfl,rfl,h9⟩)) ?_
 intros
 rename_i w2 hR
 obtain ⟨rfl,h2⟩:=hR
 have H2:=zaa h2
 simp only [Act.put,List.setIfInBounds_toArray,List.set_cons_succ,List.set_cons_zero]
 clear h2
 go_wp2_with fail
 go_ret
 exact ⟨rfl,H2.out⟩
theorem zd2 (x:Int):I64 (wrap64 x):=by unfold I64 wrap64;omega
structure RunI (w1 wx:World) (i:Nat) (ad:Option Addr) (c:Nat) (out:List Sm) (tt:Int):Prop where
 len:out.length=i
 own:wx.ownsRow w1.heap.size 53 2 (.slice ad i c) i (cS out)
 ok:∀x∈out,OkS x
 t:I64 tt
 bel:Below w1.heap.size w1 wx
theorem stepP8 (w:World) (h:WX w0 v P S R D n T w) (hT:T≤1000) (s:Stq) (hs:s.kd=8) (hon:-9223372036854775808≤s.on∧s.on≤9223372036854775807) (hf:I64 s.f) (L:List Sm) (hL:Ss w0 s.la L) (hN:L.length=s.ln):
 Calls Tryz.prog 10 #[pV v,.agg s.cells.toArray] w fun e w'=>e=.returned (.bool true)∧WX w0 v P S R D n (T+1) w':=by
 obtain ⟨st,su,Z,E,F,H,vl,vc,Ll,Lc,hW,hE,hTT⟩:=h
 obtain ⟨kd,on,id,o,la,ln,lc,f,t,ca,cn,cc⟩:=s
 dsimp only at*
 subst hs
 have hz:∀z,la=some z→L≠[]→z.block<w0.heap.size:=fun z hz hn=>by
  obtain ⟨b,off,e,hb,_⟩:=hL.at' hn
  rw [hz] at e
  cases e
  exact hb
 have hLX:=zaa (fun (wx:World) (hb:Below w.heap.size w wx)=>(hL.bel (hW.later hb).bel (fun x hx hn=>hz x hx hn):Ss wx la L))
 have hAP:=zaa (fun (wx:World) (hb:Below w.heap.size w wx) (k:Nat) (hk:k<2) (ad:Option Addr) (q c:Nat) (l:List Sm) (hS:Ss wx ad l) (hq:l.length=q) (hq6:q≤600) (hno:ad=none→l=[]∧c=0) (hap:∀z,ad=some z→l≠[]→w.heap.size≤z.block)=>appendsP wx (hW.later hb) hE hTT hT k hk o 0 ad q c l hS hq hq6 hno (fun z hz9 hn j hj=>by
  have h9:=hap z hz9 hn
  exact ⟨fun e=>by have:=hW.ltF hj e;omega,fun e=>by have:=hW.ltH hj e;omega⟩))
 have HN:=zaa hN
 have HF:=zaa hf
 clear hW hE hTT hL hN hz hf
 unfold pV at*
 go_enter Tryz.func10,Tryz.ntmps10
 go_wp2_with (first
  |(refine zac rfl 48 (.tmp 1) rfl [.int .i64 8,.int .i64 on,.int .i64 id,.string o,.slice la ln lc,.int .i64 f,.int .i64 t,.slice ca cn cc] rfl ?_
    intro w1 B1 bl1 hz1
    have BL1:=zaa bl1
    have HB1:=zaa B1
    have d0:w1.cell? ⟨w.heap.size,0,none⟩=some (.int .i64 8):=B1.cell 0
    have d1:w1.cell? ⟨w.heap.size,1,none⟩=some (.int .i64 on):=B1.cell 1
    have d5:w1.cell? ⟨w.heap.size,5,none⟩=some (.int .i64 f):=B1.cell 5
    clear B1 bl1))
 refine (zfi on 2 (by omega) (by omega) hon w1).mono ?_
 rintro e w9 ⟨⟨k,hk,rfl⟩,hw9⟩
 rw [hw9]
 clear hw9
 have hk2:k<2:=by omega
 go_wp2_with fail
 obtain ⟨ob,hob⟩:∃ob,w.heap.size=ob:=⟨_,rfl⟩
 have HOB:=zaa hob
 have hI0:Hid (RunI w1 w1 0 none 0 [] f):=zaa ⟨rfl,World.ownsRow_nil _ _ _ _,(fun x hx=>by cases hx),HF.out,Below.refl _ _⟩
 have hB1:=HB1
 rw [hob] at hB1 ⊢
 clear HB1 d0 d1 d5 hob
 go_loopw [11,12,13] (fun s11 s12 s13 wx=>∃(i:Nat) (ad:Option Addr) (c:Nat) (out:List Sm) (tt:Int),s11=.slice ad i c∧s12=.int .i64 tt∧s13=.int .i64 (i:Int)∧i≤300∧Hid (RunI w1 wx i ad c out tt)) (fun _ _ s13 _=>300 - nOf s13)
 case atStart=>exact ⟨0,none,0,[],f,rfl,rfl,rfl,by omega,hI0⟩
 case round=>
  rename World=>wr
  obtain ⟨i,ad,c,out,tt,rfl,rfl,rfl,hi,hI⟩:=hrel
  clear hI0
  have HO:Hid (∀wx,Below wr.heap.size wr wx→Blk wx ob 48 [.int .i64 8,.int .i64 on,.int .i64 id,.string o,.slice la ln lc,.int .i64 f,.int .i64 t,.slice ca cn cc]):=zaa (fun wx hb=>hB1.out.later (hI.out.bel.trans (hb.mono hI.out.bel.size)))
  have d2:wr.cell? ⟨ob,2,none⟩=some (.int .i64 id):=(HO.out wr (Below.refl _ _)).cell 2
  have hEND:Hid (Calls Tryz.prog 22 #[.pointer (some ⟨v,0,none⟩),.int .i64 (k:Int),.string o,.int .i64 0,.slice ad i c] wr fun e w'=>e=.returned (.bool true)∧WX w0 v P S R D n (T+1) w'):=zaa (by
   have hO:=hI.out.own
   obtain ⟨_,_,e9,h9,_⟩:=za3 hO
   simp only [Value.slice.injEq] at e9
   obtain ⟨rfl,-,rfl⟩:=e9
   refine hAP.out wr (BL1.out.trans (hI.out.bel.mono BL1.out.size)) k hk2 ad i c out (zan hO hI.out.ok) hI.out.len (by omega) (fun e=>⟨List.eq_nil_of_length_eq_zero (by rw [hI.out.len];exact (h9 e).1),(h9 e).2⟩) (fun z hz hn=>?_)
   rcases hO.2 with ⟨e,_⟩|⟨g,cap,cur,e,hb,_⟩
   · simp only [Value.slice.injEq] at e
     rw [hz] at e
     exact absurd e.1 (by simp)
   simp only [Value.slice.injEq] at e
   rw [hz] at e
   obtain ⟨e,_⟩:=e
   cases e
   have h7:=BL1.out.size
   show w.heap.size≤g
   omega)
  by_cases hlt:(i:Int)<id∧i<300
  · obtain ⟨hl1,hl2⟩:=hlt
    have hl2z:(i:Int)<300:=by omega
    clear hEND
    go_wp2_with fail
    refine (zbt tt 0 wr).mono ?_
    rintro e w3 ⟨rfl,b3⟩
    have B3:=zaa b3
    clear b3
    go_upto_region 27 with fail
    obtain ⟨w5,hw5⟩:∃w5,w3.alloc (.cells #[.int .i64 tt,.int .u64 0] 53)=w5:=⟨_,rfl⟩
    have B5b:Hid (Blk w5 w3.heap.size 53 [.int .i64 tt,.int .u64 ((0:Nat):Int)]):=zaa (by rw [←hw5];exact Blk.new w3 53 _)
    have B5:Hid (Below wr.heap.size wr w5):=zaa (by rw [←hw5];exact B3.out.trans (((Below.refl _ _).alloc (Nat.le_refl _) _).mono B3.out.size))
    have hx5:wr.heap.size≤w3.heap.size:=B3.out.size
    rw [hw5]
    obtain ⟨xb,hxb⟩:∃xb,w3.heap.size=xb:=⟨_,rfl⟩
    rw [hxb] at B5b hx5 ⊢
    have d4:w5.cell? ⟨ob,4,none⟩=some (.slice la ln lc):=(HO.out w5 B5.out).cell 4
    clear hw5 B3 hxb d2
    by_cases hl0:ln=0
    · have hlz:¬(0:Int)<(ln:Int):=by omega
      obtain ⟨vv,hv0⟩:∃vv:Nat,vv=0:=⟨0,rfl⟩
      have B5c:Hid (Blk w5 xb 53 [.int .i64 tt,.int .u64 (vv:Int)]):=zaa (by rw [hv0];exact B5b.out)
      have hVV:=zaa (show (⟨tt,vv⟩:Sm).v<18446744073709551616 from (by show vv<_;omega))
      clear hv0
      go_upto_region 29 with fail
      have HO7:Hid (w5.ownsRow w1.heap.size 53 2 (.slice ad i c) i (cS out)):=zaa (owl hI.out.own B5.out)
      have HB7:Hid (Below w1.heap.size w1 w5):=zaa (hI.out.bel.trans (B5.out.mono hI.out.bel.size))
      have hsz7:=HB7.out.size
      have k0:w5.cell? ⟨xb,0,none⟩=some (.int .i64 tt):=B5c.out.cell 0
      have k1:w5.cell? ⟨xb,1,none⟩=some (.int .u64 (vv:Int)):=B5c.out.cell 1
      go_wp2_with (first
       |(refine zbo _ rfl (.tmp 261) (.tmp 263) rfl w1.heap.size (.slice ad i c) i out rfl w5 HO7.out ⟨tt,vv⟩ rfl rfl (by omega) hsz7 ?_
         intro g8 c8 w8 o8 b8 k8
         have B8:Hid (Below w1.heap.size w1 w8):=zaa (HB7.out.trans b8)
         have d6:w8.cell? ⟨ob,6,none⟩=some (.int .i64 t):=(hB1.out.later B8.out).cell 6
         have O8:=zaa o8
         clear o8 b8 k8))
      refine ⟨⟨_,_,_,⟨i+1,some ⟨g8,0,none⟩,c8,rfl,out++[⟨tt,vv⟩],wrap64 (tt+t),rfl,rfl,by omega,zaa ⟨by rw [List.length_append,hI.out.len];rfl,O8.out,fun x hx=>?_,?_,B8.out⟩⟩,rfl,rfl,by first|rfl|simp⟩,?_⟩
      · rcases List.mem_append.1 hx with hx|hx
        · exact hI.out.ok x hx
        rw [List.mem_singleton.1 hx]
        exact ⟨hI.out.t,hVV.out⟩
      · first
         |exact zbv _
         |exact zd2 _
      simp [nOf]
      omega
    have hlz:(0:Int)<(ln:Int):=by omega
    obtain ⟨mm,hmm⟩:∃mm,i%ln=mm:=⟨_,rfl⟩
    have hml:mm<ln:=by rw [←hmm];exact Nat.mod_lt _ (by omega)
    have hrem:(i:Int).tmod (ln:Int)=(mm:Int):=by
     rw [Int.tmod_eq_emod_of_nonneg (by omega),←hmm]
     omega
    have hLw:=hLX.out w5 (BL1.out.trans ((hI.out.bel.trans (B5.out.mono hI.out.bel.size)).mono BL1.out.size))
    obtain ⟨y,hy⟩:∃y,L[mm]?=some y:=⟨L[mm]'(by have:=HN.out;omega),List.getElem?_eq_getElem _⟩
    obtain ⟨b,off,hla,hblt,hcell⟩:=hLw.at' (by intro e;rw [e] at hy;simp at hy)
    have HYV:=zaa (hLw.sz y (List.mem_of_getElem? hy)).v
    have hcy:=(hcell mm y hy).2
    have HBY:=zaa (And.intro hblt hcy)
    have HLA:=zaa hla
    clear hLw hy hla hblt hcell hcy hmm
    go_upto_region 28 with fail
    refine st_r28 ob b off ln lc i mm xb (y.v:Int) w5 _ _ (by rfl) (by rfl) (by rfl) (by rfl) hl0 hrem (by omega) (by omega) (by kernel_rfl) (fun wx hl=>by rw [←HLA.out];exact (HO.out wx (B5.out.trans (Below.mono hl B5.out.size))).cell 4) (fun wx hl=>by rw [Below.cell hl (p:=⟨b,off+mm*2+1,none⟩) HBY.out.1];exact HBY.out.2) (.int .u64 ((0:Nat):Int)) (fun wx hl=>(B5b.out.later hl).cell 1) (fun wx hl=>(B5b.out.later hl).frozen 1) ?_
    intros
    rename_i w6 hl6
    have L6:=zaa hl6
    clear hl6
    simp only [Act.put,List.setIfInBounds_toArray,List.set_cons_succ,List.set_cons_zero]
    obtain ⟨w7,hw7⟩:∃w7,w6.setCell ⟨xb,1,none⟩ (.int .u64 (y.v:Int))=w7:=⟨_,rfl⟩
    have B7b:Hid (Blk w7 xb 53 [.int .i64 tt,.int .u64 (y.v:Int)]):=zaa (by rw [←hw7];exact (B5b.out.later L6.out).set 1 _)
    have B7:Hid (Below wr.heap.size wr w7):=zaa (by
     rw [←hw7]
     have q1:=B5.out.trans (Below.mono L6.out B5.out.size)
     exact q1.trans ((Chg.set ⟨xb,1,none⟩ _ w6).below q1.size (fun j hj=>by rw [show j=xb from hj];exact hx5)))
    rw [hw7]
    clear hw7 d4
    have HO7:Hid (w7.ownsRow w1.heap.size 53 2 (.slice ad i c) i (cS out)):=zaa (owl hI.out.own B7.out)
    have HB7:Hid (Below w1.heap.size w1 w7):=zaa (hI.out.bel.trans (B7.out.mono hI.out.bel.size))
    have hsz7:=HB7.out.size
    have k0:w7.cell? ⟨xb,0,none⟩=some (.int .i64 tt):=B7b.out.cell 0
    have k1:w7.cell? ⟨xb,1,none⟩=some (.int .u64 (y.v:Int)):=B7b.out.cell 1
    have hVV:=zaa (show (⟨tt,y.v⟩:Sm).v<18446744073709551616 from HYV.out)
    go_wp2_with (first
     |(refine zbo _ rfl (.tmp 261) (.tmp 263) rfl w1.heap.size (.slice ad i c) i out rfl w7 HO7.out ⟨tt,y.v⟩ rfl rfl (by omega) hsz7 ?_
       intro g8 c8 w8 o8 b8 k8
       have B8:Hid (Below w1.heap.size w1 w8):=zaa (HB7.out.trans b8)
       have d6:w8.cell? ⟨ob,6,none⟩=some (.int .i64 t):=(hB1.out.later B8.out).cell 6
       have O8:=zaa o8
       clear o8 b8 k8))
    refine ⟨⟨i+1,some ⟨g8,0,none⟩,c8,out++[⟨tt,y.v⟩],_,by first|rfl|simp,by first|rfl|simp,by first|rfl|simp,by omega,zaa ⟨by rw [List.length_append,hI.out.len];rfl,O8.out,fun x hx=>?_,?_,B8.out⟩⟩,?_⟩
    · rcases List.mem_append.1 hx with hx|hx
      · exact hI.out.ok x hx
      rw [List.mem_singleton.1 hx]
      exact ⟨hI.out.t,hVV.out⟩
    · first
       |exact zbv _
       |exact zd2 _
    simp [nOf]
    omega
  have hd3:∀wx,Below wr.heap.size wr wx→wx.cell? ⟨ob,3,none⟩=some (.string o):=fun wx hb=>(HO.out wx hb).cell 3
  have d3:=hd3 wr (Below.refl _ _)
  clear hd3
  by_cases hl1:(i:Int)<id
  · have hl2:¬(i:Int)<300:=by omega
    clear hlt
    go_wp2_with fail
    refine hEND.out.mono ?_
    rintro e w2 ⟨rfl,h2⟩
    have H2:=zaa h2
    clear h2 d2 d3
    go_wp2_with fail
    go_ret
    exact ⟨rfl,H2.out⟩
  clear hlt
  go_wp2_with fail
  refine hEND.out.mono ?_
  rintro e w2 ⟨rfl,h2⟩
  have H2:=zaa h2
  clear h2 d2 d3
  go_wp2_with fail
  go_ret
  exact ⟨rfl,H2.out⟩
end
end Go.Proofs.YtlppibigceeimaaGreatDoor
