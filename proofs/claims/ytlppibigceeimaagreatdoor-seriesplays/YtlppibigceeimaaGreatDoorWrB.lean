import Derived.Test.YtlppibigceeimaaGreatDoorWrA
import Derived.Deep.CutRange
set_option linter.unusedSimpArgs false
set_option linter.unusedVariables false
set_option maxHeartbeats 40000000
set_option maxRecDepth 100000
namespace Go.Proofs.YtlppibigceeimaaGreatDoor
open Go.RowKit
def cl (n:Int):Nat:=(min (max n 0) 64).toNat
theorem cl_le (n:Int):cl n≤64:=by unfold cl;omega
theorem low_step (v k left t:Nat) (h:left≤k) (ht:t≤left):(low v k).take (k - left)++(low v left).take t=(low v k).take (k - (left - t)):=by
 have e:=low_cut v k (k - left) (by omega)
 rw [show k - (k - left)=left by omega] at e
 have hl:((low v k).take (k - left)).length=k - left:=by simp [zaq]
 conv=>rhs;rw [e]
 rw [List.take_append,hl,List.take_take,show min (k - (left - t)) (k - left)=k - left by omega,show k - (left - t) - (k - left)=t by omega]
theorem piece_eq (v l2 t:Nat) (ht:t≤8):bits .and .u8 ((v:Int) / 2 ^ l2%256) ((2 ^ t - 1)%256)=((v / 2 ^ l2%2 ^ t:Nat):Int):=by
 have e1:(v:Int) / 2 ^ l2%256=((v / 2 ^ l2%256:Nat):Int):=by simp
 have e2:((2:Int) ^ t - 1)%256=((2 ^ t - 1:Nat):Int):=by
  have:∀t,t≤8→((2:Int) ^ t - 1)%256=((2 ^ t - 1:Nat):Int):=by decide
  exact this t ht
 have e3:2 ^ t - 1<256:=by
  have:∀t,t≤8→2 ^ t - 1<256:=by decide
  exact this t ht
 rw [e1,e2,u8_and_nat _ _ (Nat.mod_lt _ (by omega)) e3,Nat.and_two_pow_sub_one_eq_mod,Nat.mod_mod_of_dvd]
 exact ⟨2 ^ (8 - t),by rw [←Nat.pow_add,show t+(8 - t)=8 by omega]⟩
theorem or_eq (y:Int) (pc d t f:Nat) (hy:0≤y∧y≤255) (hpc:pc<2 ^ t) (hf:f≤8) (htf:t≤f) (hd:f - t=d):bits .or .u8 y ((pc:Int)*2 ^ d%256)=((y.toNat ||| pc*2 ^ d:Nat):Int)∧y.toNat ||| pc*2 ^ d<256:=by
 have b:pc*2 ^ d<2 ^ 8:=by
  have b:pc*2 ^ d<2 ^ t*2 ^ d:=Nat.mul_lt_mul_of_pos_right hpc (Nat.two_pow_pos _)
  rw [←Nat.pow_add] at b
  exact Nat.lt_of_lt_of_le b (Nat.pow_le_pow_right (by omega) (by omega))
 have e:(pc:Int)*2 ^ d%256=((pc*2 ^ d:Nat):Int):=by
  have:(pc:Int)*2 ^ d=((pc*2 ^ d:Nat):Int):=by simp
  rw [this]
  omega
 rw [e]
 refine ⟨?_,Nat.or_lt_two_pow (n:=8) (by omega) b⟩
 have:=u8_or y ((pc*2 ^ d:Nat):Int) hy.1 (by omega) (by omega) (by omega)
 rw [this,Int.toNat_natCast]
theorem WR.piece {wr:World} {p g n c:Nat} {M:List Bool} {R:List Int} (h:WR wr p (some g) M (.slice (some ⟨g,0,none⟩) n c) R) (hn:R.length=n) (q X:Nat) (hq:q<n) (hX:X<256) (s2:Nat) (M2:List Bool) (hrep:Rep (R.set q (X:Int)) M2) (hl2:M2.length=s2) (hle:s2≤8*n) (w2:World) (hw2:(wr.setCell ⟨g,q,none⟩ (.int .u8 (X:Int))).drew.drew=w2):
 w2.cell? ⟨p,1,none⟩=some (.int .i64 (M.length:Int))∧w2.frozen? ⟨p,1,none⟩=false∧WR (w2.setCell ⟨p,1,none⟩ (.int .i64 (s2:Int))) p (some g) M2 (.slice (some ⟨g,0,none⟩) n c) (R.set q (X:Int))∧
  Chg (fpt p (some g)) wr (w2.setCell ⟨p,1,none⟩ (.int .i64 (s2:Int))):=by
 subst hw2
 have hne:p≠g:=fun e=>h.ne (by rw [e])
 have hB:Blk (wr.setCell ⟨g,q,none⟩ (.int .u8 (X:Int))) p 190 [.slice (some ⟨g,0,none⟩) n c,.int .i64 (M.length:Int)]:=h.blk.setOff _ _ hne
 have hB2:Blk ((wr.setCell ⟨g,q,none⟩ (.int .u8 (X:Int))).drew.drew) p 190 [.slice (some ⟨g,0,none⟩) n c,.int .i64 (M.length:Int)]:=hB
 have hrow:=h.row
 rw [hn] at hrow
 have hO:=zgd hrow q (X:Int) (by omega)
 have hO2:((wr.setCell ⟨g,q,none⟩ (.int .u8 (X:Int))).drew.drew).ownsRow 0 5 1 (.slice (some ⟨g,0,none⟩) n c) n (zae (R.set q (X:Int))):=hO
 refine ⟨hB2.cell 1,hB2.frozen 1,⟨h.ne,rfl,?_,?_,?_,hrep,by rw [hl2,List.length_set,hn];exact hle⟩,?_⟩
 · rw [hl2]
   exact hB2.set 1 _
 · rw [List.length_set,hn]
   exact ownsRow_setCell_other hO2 (by simpa [Value.ownBlock] using Ne.symm hne) _
 · intro x hx
   rcases List.mem_or_eq_of_mem_set hx with h1|h1
   · exact h.byte x h1
   omega
 have a1:Chg (fpt p (some g)) wr (wr.setCell ⟨g,q,none⟩ (.int .u8 (X:Int))):=(Chg.set ⟨g,q,none⟩ _ wr).mono (fun i _ hi=>.inr (by rw [hi]))
 have a2:Chg (fpt p (some g)) wr (wr.setCell ⟨g,q,none⟩ (.int .u8 (X:Int))).drew.drew:=(a1.trans (Chg.drew (fun _=>False) _) (fun _ _ h=>h.elim)).trans (Chg.drew (fun _=>False) _) (fun _ _ h=>h.elim)
 exact a2.trans (Chg.set ⟨p,1,none⟩ _ _) (fun i _ hi=>.inl hi)
theorem put_any (p:Nat) (rb:Option Nat) (L:List Bool) (v:Nat) (n:Int) (w:World) (h:WS w p rb L) (hv:v<18446744073709551616) (hL:L.length≤1099511627776):
 Calls Tryz.prog 145 #[.pointer (some ⟨p,0,none⟩),.int .u64 (v:Int),.int .i64 n] w fun e w'=>e=.returned (.tuple #[])∧∃rb',WS w' p rb' (L++low v (cl n))∧Chg (fpt p rb) w w'∧Moved w rb rb':=by
 obtain ⟨vv,R,hW⟩:=h
 have c1:w.cell? ⟨p,1,none⟩=some (.int .i64 (L.length:Int)):=hW.blk.cell 1
 have HW:=zaa hW
 clear hW
 go_enter Tryz.func145,Tryz.ntmps145
 go_upto_region 0 with fail
 go_cut [6] from 10 to 12 (fun s6 wc=>s6=.int .i64 (cl n:Int)∧wc=w)
 case first=>
  go_wp2_with fail
  all_goals
   go_meet
   case rel=>
    refine ⟨?_,rfl⟩
    congr 1
    unfold cl
    simp only [Int.max_def,Int.min_def]
    split at*<;> omega
 case rest=>
  obtain ⟨rfl,hwc⟩:=hcut
  obtain rfl:=hwc.symm
  clear hwc
  have hk:=cl_le n
  obtain ⟨k,hkd⟩:∃k,cl n=k:=⟨_,rfl⟩
  rw [hkd] at hk ⊢
  have HKD:=zaa hkd
  clear hkd
  obtain ⟨m,hm⟩:∃m,L.length=m:=⟨_,rfl⟩
  rw [hm] at c1 hL
  have HM:=zaa hm
  clear hm
  go_wp2_with fail
  refine (zco (m+k) w (by omega)).mono ?_
  rintro e w' ⟨rfl,hw⟩
  obtain rfl:=hw.symm
  clear hw
  obtain ⟨cnt,hcnt⟩:∃cnt,(m+k+7) / 8=cnt:=⟨_,rfl⟩
  rw [hcnt]
  have HCNT:=zaa hcnt
  clear hcnt
  go_wp2_with fail
  refine (grow_any p rb L vv R cnt w HW.out (by have:=HCNT.out;omega)).mono ?_
  rintro e w1 ⟨rfl,rb1,v1,R1,hW1,hR1,hC1,hM1⟩
  have HW1:=zaa hW1
  have HR1:=zaa hR1
  have HC1:=zaa hC1
  have HM1:=zaa hM1
  clear hW1 hR1 hC1 hM1 HW c1
  go_wp2_with fail
  go_loopw [6] (fun lv wr=>∃(left:Nat) (rb':Option Nat) (v':Value) (R':List Int),left≤k∧lv=.int .i64 (left:Int)∧WR wr p rb' (L++(low v k).take (k - left)) v' R'∧m+k≤8*R'.length∧Chg (fpt p rb) w wr∧Moved w rb rb') (fun lv _=>(intOf lv).toNat)
  case atStart=>exact ⟨k,rb1,v1,R1,Nat.le_refl _,rfl,by simpa using HW1.out,by have:=HR1.out;have:=HCNT.out;omega,HC1.out,HM1.out⟩
  case round=>
   rename World=>wr
   obtain ⟨left,rb',v',R',hle,rfl,hW,hlen,hC,hM⟩:=hrel
   clear HW1 HR1 HC1 HM1 HCNT
   obtain ⟨M,hMd⟩:∃M,L++(low v k).take (k - left)=M:=⟨_,rfl⟩
   rw [hMd] at hW
   obtain ⟨s,hs⟩:∃s,M.length=s:=⟨_,rfl⟩
   have hsm:s=m+(k - left):=by
    rw [←hs,←hMd,List.length_append,HM.out,List.length_take,zaq]
    omega
   have HC:=zaa hC
   have HMv:=zaa hM
   have HMd:=zaa hMd
   have HSM:=zaa hsm
   clear hC hM hMd
   by_cases hl:0<left
   · obtain ⟨ad,c,rfl⟩:=zal hW.row
     have hn0:s / 8<R'.length:=by omega
     have hsb:s≤1099511627840:=by omega
     clear hsm
     obtain ⟨g,rfl⟩:∃g,ad=some ⟨g,0,none⟩:=by
      rcases hW.row.2 with ⟨h0,h1⟩|⟨g,cap,cur,h0,_⟩
      · omega
      simp only [Value.slice.injEq] at h0
      exact ⟨g,h0.1⟩
     have c0:wr.cell? ⟨p,0,none⟩=some (.slice (some ⟨g,0,none⟩) R'.length c):=hW.blk.cell 0
     have c1:wr.cell? ⟨p,1,none⟩=some (.int .i64 (s:Int)):=by rw [hW.blk.cell 1,hs];rfl
     have f1:=hW.blk.frozen 1
     have hg:rb'=some g:=hW.own.symm
     subst hg
     have cq:wr.cell? ⟨g,s / 8,none⟩=some (.int .u8 (R'.getD (s / 8) 0)):=by
      have:=hW.row.cellAt (s / 8) (by omega)
      rw [this]
      simp [zae,List.getD,hn0]
     have fq:wr.frozen? ⟨g,s / 8,none⟩=false:=by
      rcases hW.row.2 with ⟨h0,_⟩|⟨g',cap,cur,h0,_,hh,_⟩
      · cases h0
      simp only [Value.slice.injEq,Option.some.injEq,Addr.mk.injEq] at h0
      obtain ⟨⟨rfl,_⟩,_,rfl⟩:=h0
      exact frozen_of_row wr g _ _ 5 hh
     have hy:=hW.byte.at (s / 8)
     obtain ⟨y,hyd⟩:∃y,R'.getD (s / 8) 0=y:=⟨_,rfl⟩
     rw [hyd] at hy cq
     have HYD:=zaa hyd
     clear hyd
     obtain ⟨N',hN⟩:∃N',R'.length=N':=⟨_,rfl⟩
     rw [hN] at c0 hn0 hlen
     have HW:=zaa hW
     have HN:=zaa hN
     have HS:=zaa hs
     clear hW hN hs
     obtain ⟨q,hq⟩:∃q,s / 8=q:=⟨_,rfl⟩
     obtain ⟨f,hf⟩:∃f,8 - s%8=f:=⟨_,rfl⟩
     have hqi:(s:Int) / 8=(q:Int):=by omega
     have hfi:8 - (s:Int)%8=(f:Int):=by omega
     have hf8:f≤8∧0<f:=by omega
     have hqb:q≤1099511627840:=by omega
     rw [hq] at cq fq hn0
     have HQ:=zaa hq
     have HF:=zaa hf
     clear hq hf
     obtain ⟨t,ht⟩:∃t,min f left=t:=⟨_,rfl⟩
     have ht1:t≤f∧t≤left∧0<t:=by omega
     have HT:=zaa ht
     clear ht
     obtain ⟨l2,hl2⟩:∃l2,left - t=l2:=⟨_,rfl⟩
     obtain ⟨d,hd⟩:∃d,f - t=d:=⟨_,rfl⟩
     have hl2i:(left:Int) - (t:Int)=(l2:Int):=by omega
     have hdi:(f:Int) - (t:Int)=(d:Int):=by omega
     have HL2:=zaa hl2
     have HD:=zaa hd
     have ht8:t≤8:=by omega
     clear hl2 hd
     go_upto_region 4 with fail
     go_cut [8] from 22 to 69 (fun s8 wx=>s8=.int .i64 (t:Int)∧wx=wr)
     case first=>
      go_wp2_with fail
      all_goals
       go_meet
       case rel=>
        refine ⟨?_,rfl⟩
        have:=HT.out
        congr 1
        omega
     case rest=>
      obtain ⟨rfl,hwc⟩:=hcut
      obtain rfl:=hwc.symm
      clear hwc
      go_wp2_with fail
      go_region
      rw [piece_eq v l2 t ht8]
      obtain ⟨pc,hpc⟩:∃pc,v / 2 ^ l2%2 ^ t=pc:=⟨_,rfl⟩
      rw [hpc]
      have HPC:=zaa hpc
      clear hpc
      go_wp2_with fail
      go_region
      have hpl:pc<2 ^ t:=by rw [←HPC.out];exact Nat.mod_lt _ (Nat.two_pow_pos _)
      obtain ⟨o1,o2⟩:=or_eq y pc d t f hy hpl hf8.1 ht1.1 HD.out
      rw [o1]
      obtain ⟨X,hX⟩:∃X,y.toNat ||| pc*2 ^ d=X:=⟨_,rfl⟩
      rw [hX] at o2 ⊢
      have hrep:Rep (R'.set q (X:Int)) (M++(low v left).take t):=by
       rw [←HQ.out]
       refine put_piece HW.out.rep s f t left v X HS.out ?_ HF.out.symm ht1.1 ht1.2.1 ?_
       · rw [HQ.out,HN.out]
         exact hn0
       rw [←hX,HYD.out,HL2.out,HPC.out,HD.out]
      have hl2':(M++(low v left).take t).length=s+t:=by
       rw [List.length_append,HS.out,List.length_take,zaq]
       omega
      have hsl:s+t≤8*N':=by
       have:=HSM.out
       omega
      have HWW:=HW.out
      rw [HN.out] at HWW
      obtain ⟨w2,hw2⟩:∃w2,(wr.setCell ⟨g,q,none⟩ (.int .u8 (X:Int))).drew.drew=w2:=⟨_,rfl⟩
      obtain ⟨p1,p2,p3,p4⟩:=HWW.piece HN.out q X hn0 o2 (s+t) _ hrep hl2' hsl w2 hw2
      rw [hw2]
      rw [HS.out] at p1
      rw [show ((s+t:Nat):Int)=(s:Int)+(t:Int) by omega] at p3 p4
      have HP3:=zaa p3
      have HP4:=zaa p4
      clear p3 p4 hw2 hrep hl2' hX o1 c0 c1 f1 cq fq HWW
      go_wp2_with fail
      refine ⟨⟨l2,some g,.slice (some ⟨g,0,none⟩) N' c,R'.set q (X:Int),by have:=HL2.out;omega,rfl,?_,by rw [List.length_set,HN.out];exact hlen,HC.out.trans HP4.out (fun i hi hf=>fpt_moved HMv.out i hi hf),HMv.out⟩,?_⟩
      · have e:L++(low v k).take (k - l2)=M++(low v left).take t:=by
         rw [←HMd.out,List.append_assoc,low_step v k left t hle ht1.2.1,HL2.out]
        rw [e]
        exact HP3.out
      show (l2:Int).toNat<(left:Int).toNat
      have:=HL2.out
      omega
   have h0:left=0:=by omega
   subst h0
   clear HSM
   go_wp2_with fail
   go_end0
   have e:=HMd.out
   rw [Nat.sub_zero,List.take_of_length_le (by rw [zaq];omega)] at e
   refine ⟨rfl,rb',⟨v',R',?_⟩,HC.out,HMv.out⟩
   rw [HKD.out,e]
   exact hW
end Go.Proofs.YtlppibigceeimaaGreatDoor
