import Derived.Test.YtlppibigceeimaaGreatDoorWrB
import Derived.Handy
set_option linter.unusedSimpArgs false
set_option linter.unusedVariables false
set_option maxHeartbeats 40000000
set_option maxRecDepth 100000
namespace Go.Proofs.YtlppibigceeimaaGreatDoor
open Go.RowKit
set_option maxRecDepth 100000
def setl (R:List Int):Nat→List Int→List Int
 |o,[]=>R
 |o,x :: r=>setl (R.set o x) (o+1) r
theorem setl_len:∀(vs:List Int) (R:List Int) (o:Nat),(setl R o vs).length=R.length
 |[],R,o=>rfl
 |x :: r,R,o=>by rw [setl,setl_len r];simp
theorem setl_at:∀(vs:List Int) (R:List Int) (o q:Nat),o+vs.length≤R.length→(setl R o vs).getD q 0=if o≤q∧q<o+vs.length then vs.getD (q - o) 0 else R.getD q 0
 |[],R,o,q,h=>by
  rw [setl,if_neg (by simp only [List.length_nil];omega)]
 |x :: r,R,o,q,h=>by
  rw [List.length_cons] at h
  rw [setl,setl_at r (R.set o x) (o+1) q (by simp;omega)]
  simp only [List.length_cons]
  by_cases h1:q=o
  · subst h1
    rw [if_neg (by omega),if_pos (by omega),Nat.sub_self]
    simp [List.getD,show q<R.length by omega]
  by_cases h2:o+1≤q∧q<o+1+r.length
  · rw [if_pos h2,if_pos (by omega),show q - o=(q - (o+1))+1 by omega]
    simp [List.getD]
  rw [if_neg h2,if_neg (by omega)]
  simp [List.getD,List.getElem?_set_ne (Ne.symm h1)]
theorem setl_byte:∀(vs:List Int) (R:List Int) (o:Nat),Byte R→Byte vs→Byte (setl R o vs)
 |[],R,o,h,k=>h
 |x :: r,R,o,h,k=>by
  rw [setl]
  refine setl_byte r _ _ (fun y hy=>?_) (fun y hy=>k y (List.mem_cons_of_mem _ hy))
  rcases List.mem_or_eq_of_mem_set hy with h1|h1
  · exact h y h1
  subst h1
  exact k _ List.mem_cons_self
theorem owns_sets {base:Nat} {e:TypeId} {g n cap:Nat}:∀(vs:List Int) (R:List Int) (o:Nat) (w:World),w.ownsRow base e 1 (.slice (some ⟨g,0,none⟩) n cap) n (zae R)→o+vs.length≤R.length→
 (w.setCells g o (zae vs)).ownsRow base e 1 (.slice (some ⟨g,0,none⟩) n cap) n (zae (setl R o vs))
 |[],R,o,w,h,hl=>h
 |x :: r,R,o,w,h,hl=>by
  rw [List.length_cons] at hl
  show ((w.setCell ⟨g,o,none⟩ (.int .u8 x)).setCells g (o+1) (zae r)).ownsRow _ _ _ _ _ (zae (setl (R.set o x) (o+1) r))
  exact owns_sets r (R.set o x) (o+1) _ (zgd h o x (by omega)) (by simp;omega)
theorem Chg.sets (g:Nat):∀(vs:List Value) (o:Nat) (w:World),Chg (fun i=>i=g) w (w.setCells g o vs)
 |[],o,w=>Chg.refl _ _
 |v :: r,o,w=>by
  rw [World.setCells]
  exact (Chg.set ⟨g,o,none⟩ v w).trans (Chg.sets g r (o+1) _) (fun _ _ h=>h)
theorem zero5 (w:World):(zeroValue 5).run Tryz.prog w=.ok (.int .u8 0) w:=by kernel_rfl
theorem andnot_eq (y:Int) (d:Nat) (hy:0≤y∧y≤255) (hd:d≤8):bits .andNot .u8 y ((2 ^ d - 1)%256)=((y.toNat &&& (255 - (2 ^ d - 1)):Nat):Int):=by
 have e2:((2:Int) ^ d - 1)%256=((2 ^ d - 1:Nat):Int):=by
  have:∀t,t≤8→((2:Int) ^ t - 1)%256=((2 ^ t - 1:Nat):Int):=by decide
  exact this d hd
 have e3:2 ^ d - 1<256:=by
  have:∀t,t≤8→2 ^ t - 1<256:=by decide
  exact this d hd
 rw [e2,u8_andNot y _ hy.1 (by omega) (by omega) (by omega),Int.toNat_natCast]
theorem cut_end {w w3:World} {p g n c k s:Nat} {L:List Bool} {R R2:List Int} (h:WR w p (some g) L (.slice (some ⟨g,0,none⟩) R.length c) R) (hs:L.length=s) (hks:k<s) (hn:R.length=n)
 (hO:w3.ownsRow 0 5 1 (.slice (some ⟨g,0,none⟩) n c) n (zae R2)) (hB:Blk w3 p 190 [.slice (some ⟨g,0,none⟩) n c,.int .i64 (k:Int)]) (hR2:Byte R2) (hl2:R2.length=n)
 (hc:∀q,q<n→R2.getD q 0=if k%8≠0∧q=k / 8 then (((R.getD q 0).toNat &&& (255 - (2 ^ (8 - k%8) - 1)):Nat):Int) else if (k+7) / 8≤q∧q<(s+7) / 8 then 0 else R.getD q 0):WS w3 p (some g) (L.take k):=by
 have hlen:=h.len
 have ht:(L.take k).length=k:=by rw [List.length_take];omega
 refine ⟨.slice (some ⟨g,0,none⟩) n c,R2,h.ne,rfl,?_,?_,hR2,cut_rep h.rep k (by omega) h.len (by omega) (fun q hq=>by rw [hs];exact hc q (by omega)),by omega⟩
 · rw [ht]
   exact hB
 rw [hl2]
 exact hO
theorem cut_any (p:Nat) (rb:Option Nat) (L:List Bool) (n:Int) (w:World) (h:WS w p rb L) (hL:L.length≤1099511627840):
 Calls Tryz.prog 105 #[.pointer (some ⟨p,0,none⟩),.int .i64 n] w fun e w'=>e=.returned (.tuple #[])∧WS w' p rb (L.take n.toNat)∧Chg (fpt p rb) w w':=by
 obtain ⟨v,R,hW⟩:=h
 obtain ⟨s,hs⟩:∃s,L.length=s:=⟨_,rfl⟩
 have c1:w.cell? ⟨p,1,none⟩=some (.int .i64 (s:Int)):=by rw [←hs];exact hW.blk.cell 1
 have f1:=hW.blk.frozen 1
 rw [hs] at hL
 go_enter Tryz.func105,Tryz.ntmps105
 go_upto_region 0 with fail
 go_cut [1] from 5 to 6 (fun s1 wc=>s1=.int .i64 (n.toNat:Int)∧wc=w)
 case first=>
  go_wp2_with fail
  all_goals
   go_meet
   case rel=>
    refine ⟨?_,rfl⟩
    congr 1
    omega
 case rest=>
  obtain ⟨rfl,hwc⟩:=hcut
  obtain rfl:=hwc.symm
  clear hwc
  obtain ⟨k,hk⟩:∃k,n.toNat=k:=⟨_,rfl⟩
  rw [hk]
  have HKD:=zaa hk
  clear hk
  have HS:=zaa hs
  have HW:=zaa hW
  clear hs hW
  by_cases hks:s≤k
  · go_wp2_with fail
    go_returns
    refine ⟨rfl,?_,Chg.refl _ _⟩
    rw [HKD.out,List.take_of_length_le (by rw [HS.out];exact hks)]
    exact ⟨v,R,HW.out⟩
  have hlen:=HW.out.len
  rw [HS.out] at hlen
  obtain ⟨ad,c,rfl⟩:=zal HW.out.row
  obtain ⟨g,rfl⟩:∃g,ad=some ⟨g,0,none⟩:=by
   rcases HW.out.row.2 with ⟨h0,h1⟩|⟨g,cap,cur,h0,_⟩
   · omega
   simp only [Value.slice.injEq] at h0
   exact ⟨g,h0.1⟩
  obtain ⟨N',hN⟩:∃N',R.length=N':=⟨_,rfl⟩
  have hg:rb=some g:=HW.out.own.symm
  subst hg
  have c0:w.cell? ⟨p,0,none⟩=some (.slice (some ⟨g,0,none⟩) N' c):=by rw [←hN];exact HW.out.blk.cell 0
  obtain ⟨_,hnc,hcm,_⟩:=zc4 HW.out.row
  have hcm2:c≤9223372036854775807:=by unfold maxLen at hcm;omega
  rw [hN] at hnc hlen
  have HN:=zaa hN
  clear hN hcm
  obtain ⟨a,ha⟩:∃a,(k+7) / 8=a:=⟨_,rfl⟩
  obtain ⟨b,hb⟩:∃b,(s+7) / 8=b:=⟨_,rfl⟩
  have hab:a≤b:=by omega
  have hbn:b≤N':=by omega
  have HB1:=zaa (fun w=>ha▸zco k w (by omega))
  have HB2:=zaa (fun w=>hb▸zco s w (by omega))
  have HA:=zaa ha
  have HBB:=zaa hb
  clear ha hb
  have hks':k<s:=by omega
  have hfr:∀j,w.frozen? ⟨g,j,none⟩=false:=fun j=>by
   rcases HW.out.row.2 with ⟨h0,_⟩|⟨g',cap,cur,h0,_,hh,_⟩
   · cases h0
   simp only [Value.slice.injEq,Option.some.injEq,Addr.mk.injEq] at h0
   obtain ⟨⟨rfl,_⟩,_,rfl⟩:=h0
   exact frozen_of_row w g j _ 5 hh
  have hcl:∀j,j<N'→w.cell? ⟨g,j,none⟩=some (.int .u8 (R.getD j 0)):=fun j hj=>by
   have hj2:j<R.length:=by rw [HN.out];exact hj
   rw [HW.out.row.cellAt j (by omega)]
   simp [zae,List.getD,hj2]
  have HCLR:Hid (∀w1,Lat w w1→(Builtin.clear_ #[84] 0 #[.slice (if c=a then some ⟨g,0,none⟩ else some ⟨g,a,none⟩) (b - a) (c - a)]).run Tryz.prog w1=.ok (.tuple #[]) (w1.setCells g a (zae (List.replicate (b - a) 0)))):=by
   intro w1 hL
   by_cases hlt:a<b
   · rw [if_neg (by omega)]
     have:=Go.Lib.run_clear_slice w1 84 5 0 (.int .u8 0) Tryz.underlying84 zero5 rfl rfl g a (b - a) (c - a) (by omega) (fun j hj=>by rw [hL.cell (p:=⟨g,a+j,none⟩) (HW.out.lt g (.inr rfl)),hcl _ (by omega)];rfl) (fun j hj=>by
      have:=hfr (a+j)
      rw [←this]
      exact World.frozen?_of_block (hL.block g (HW.out.lt g (.inr rfl))))
     rw [this]
     simp [zae]
   rw [show b - a=0 by omega]
   split <;> rfl
  have HCL:=zaa hcl
  have HSLA:Hid (∀w1,(Instr.sliceAt 84 (.slice (some ⟨g,0,none⟩) N' c) (some (.int .i64 (a:Int))) (some (.int .i64 (b:Int))) Option.none).run Tryz.prog w1=.ok (.slice (if c=a then some ⟨g,0,none⟩ else some ⟨g,a,none⟩) (b - a) (c - a)) w1):=fun w1=>run_slice_ab w1 g N' c a b hab (by omega)
  have HC0:Hid (∀w1,Lat w w1→w1.cell? ⟨p,0,none⟩=some (.slice (some ⟨g,0,none⟩) N' c)):=fun w1 hL=>by rw [hL.cell (p:=⟨p,0,none⟩) HW.out.blk.lt];exact c0
  have HC1:Hid (∀w1,Lat w w1→w1.cell? ⟨p,1,none⟩=some (.int .i64 (s:Int))):=fun w1 hL=>by rw [hL.cell (p:=⟨p,1,none⟩) HW.out.blk.lt];exact c1
  clear hcl hfr
  have hks8:k / 8<N':=by omega
  go_wp2_with fail
  refine cut_r2 p g N' c k s a b _ _ _ _ _ (by rfl) (by rfl) (by rfl) HC0.out HC1.out HB1.out HB2.out HSLA.out HCLR.out ?_
  intro v13 v14 v15 v16 v17 v18 v19 v20 v21 v22 v23 v24 w1 hL
  have hCh:Chg (fpt p (some g)) w (w1.setCells g a (zae (List.replicate (b - a) 0))):=(Chg.of_below (F:=fpt p (some g)) hL).trans (Chg.sets g _ a w1) (fun i _ h=>.inr (by rw [h]))
  have hW1:WR w1 p (some g) L (.slice (some ⟨g,0,none⟩) R.length c) R:=HW.out.chg (Chg.of_below (F:=fun _=>False) hL) (fun _ _ h=>h)
  have hrow:=hW1.row
  rw [HN.out] at hrow
  have hO:=owns_sets (List.replicate (b - a) 0) R a w1 hrow (by rw [List.length_replicate,HN.out];omega)
  have hB:=(Chg.sets g (zae (List.replicate (b - a) 0)) a w1).blk hW1.blk (fun e=>HW.out.ne (by rw [e]))
  obtain ⟨R1,hR1⟩:∃R1,setl R a (List.replicate (b - a) 0)=R1:=⟨_,rfl⟩
  have hR1l:R1.length=N':=by rw [←hR1,setl_len,HN.out]
  have hR1a:∀q,R1.getD q 0=if a≤q∧q<b then 0 else R.getD q 0:=fun q=>by
   rw [←hR1,setl_at _ _ _ _ (by rw [List.length_replicate,HN.out];omega),List.length_replicate,show a+(b - a)=b by omega]
   split
   · simp [List.getD,List.getElem?_replicate]
     split <;> rfl
   rfl
  have hR1b:Byte R1:=by
   rw [←hR1]
   exact setl_byte _ _ _ HW.out.byte (fun y hy=>by have:=List.eq_of_mem_replicate hy;omega)
  rw [hR1] at hO
  rw [HS.out,HN.out] at hB
  obtain ⟨w2,hw2⟩:∃w2,w1.setCells g a (zae (List.replicate (b - a) 0))=w2:=⟨_,rfl⟩
  rw [hw2] at hCh hO hB
  show Exit.then _ _ .normal _ (w1.setCells g a (zae (List.replicate (b - a) 0)))
  rw [hw2]
  clear hw2 hR1 hrow hW1 hL
  have HCh:=zaa hCh
  have HO:=zaa hO
  have HBk:=zaa hB
  have HR1a:=zaa hR1a
  have HR1b:=zaa hR1b
  have HR1l:=zaa hR1l
  clear hCh hO hB hR1a hR1b hR1l c0 c1 f1 HC0 HC1 HB1 HB2 HSLA HCLR
  simp only [Act.put,List.setIfInBounds_toArray,List.set_cons_succ,List.set_cons_zero]
  obtain ⟨r,hr⟩:∃r,k%8=r:=⟨_,rfl⟩
  have hri:(k:Int)%8=(r:Int):=by omega
  have hr8:r<8:=by omega
  have HR:=zaa hr
  clear hr
  have e0:w2.cell? ⟨p,0,none⟩=some (.slice (some ⟨g,0,none⟩) N' c):=HBk.out.cell 0
  have e1:w2.cell? ⟨p,1,none⟩=some (.int .i64 (s:Int)):=HBk.out.cell 1
  have ef:=HBk.out.frozen 1
  by_cases hr0:r=0
  · subst hr0
    go_wp2_with fail
    go_end0
    rw [HKD.out]
    have hB3:Blk (w2.setCell ⟨p,1,none⟩ (.int .i64 (k:Int))) p 190 [.slice (some ⟨g,0,none⟩) N' c,.int .i64 (k:Int)]:=HBk.out.set 1 _
    have hO3:=ownsRow_setCell_other HO.out (a:=⟨p,1,none⟩) (fun e=>HW.out.ne (by simpa [Value.ownBlock] using e)) (.int .i64 (k:Int))
    refine ⟨rfl,cut_end HW.out HS.out hks' HN.out hO3 hB3 HR1b.out HR1l.out (fun q hq=>?_),HCh.out.trans (Chg.set ⟨p,1,none⟩ _ w2) (fun i _ h=>.inl h)⟩
    rw [HR1a.out q,HA.out,HBB.out,HR.out]
    simp
  obtain ⟨q,hq⟩:∃q,k / 8=q:=⟨_,rfl⟩
  have hqi:(k:Int) / 8=(q:Int):=by omega
  have hqb:q≤1099511627840:=by omega
  rw [hq] at hks8
  obtain ⟨d,hd⟩:∃d,8 - r=d:=⟨_,rfl⟩
  have hdi:8 - (r:Int)=(d:Int):=by omega
  have hd8:d≤8:=by omega
  obtain ⟨y,hy⟩:∃y,R1.getD q 0=y:=⟨_,rfl⟩
  have hyb:=HR1b.out.at q
  rw [hy] at hyb
  have hyR:y=R.getD q 0:=by
   rw [←hy,HR1a.out q,if_neg]
   have:=HA.out
   have:=HR.out
   omega
  have cq:w2.cell? ⟨g,q,none⟩=some (.int .u8 y):=by
   have hq2:q<R1.length:=by rw [HR1l.out];exact hks8
   rw [HO.out.cellAt q (by omega),←hy]
   simp [zae,List.getD,hq2]
  have fq:w2.frozen? ⟨g,q,none⟩=false:=by
   rcases HO.out.2 with ⟨h0,_⟩|⟨g',cap,cur,h0,_,hh,_⟩
   · cases h0
   simp only [Value.slice.injEq,Option.some.injEq,Addr.mk.injEq] at h0
   obtain ⟨⟨rfl,_⟩,_,rfl⟩:=h0
   exact frozen_of_row w2 g q _ 5 hh
  have HY:=zaa hy
  have HYR:=zaa hyR
  have HQ:=zaa hq
  have HD:=zaa hd
  clear hy hyR hq hd
  go_wp2_with fail
  go_region
  rw [andnot_eq y d hyb hd8]
  obtain ⟨X,hX⟩:∃X,y.toNat &&& (255 - (2 ^ d - 1))=X:=⟨_,rfl⟩
  rw [hX]
  have hXb:X<256:=by
   have:y.toNat &&& (255 - (2 ^ d - 1))≤y.toNat:=Nat.and_le_left
   omega
  have hO3:=zgd HO.out q (X:Int) (by rw [HR1l.out];exact hks8)
  have hB3:=HBk.out.setOff ⟨g,q,none⟩ (.int .u8 (X:Int)) (fun e=>HW.out.ne (by rw [e]))
  have hC3:Chg (fpt p (some g)) w (w2.setCell ⟨g,q,none⟩ (.int .u8 (X:Int))):=HCh.out.trans (Chg.set ⟨g,q,none⟩ _ w2) (fun i _ h=>.inr (by rw [h]))
  obtain ⟨w3,hw3⟩:∃w3,(w2.setCell ⟨g,q,none⟩ (.int .u8 (X:Int))).drew=w3:=⟨_,rfl⟩
  have hO4:w3.ownsRow 0 5 1 (.slice (some ⟨g,0,none⟩) N' c) N' (zae (R1.set q (X:Int))):=by rw [←hw3];exact hO3
  have hB4:Blk w3 p 190 [.slice (some ⟨g,0,none⟩) N' c,.int .i64 (s:Int)]:=by rw [←hw3];exact hB3
  have hC4:Chg (fpt p (some g)) w w3:=by rw [←hw3];exact hC3.trans (Chg.drew (fun _=>False) _) (fun _ _ h=>h.elim)
  rw [hw3]
  clear hO3 hB3 hC3 hw3 e0 e1 ef cq fq
  have e1:w3.cell? ⟨p,1,none⟩=some (.int .i64 (s:Int)):=hB4.cell 1
  have ef:=hB4.frozen 1
  have HO4:=zaa hO4
  have HB4:=zaa hB4
  have HC4:=zaa hC4
  have HX:=zaa hX
  clear hO4 hB4 hC4 hX
  go_wp2_with fail
  go_end0
  rw [HKD.out]
  have hB5:Blk (w3.setCell ⟨p,1,none⟩ (.int .i64 (k:Int))) p 190 [.slice (some ⟨g,0,none⟩) N' c,.int .i64 (k:Int)]:=HB4.out.set 1 _
  have hO5:=ownsRow_setCell_other HO4.out (a:=⟨p,1,none⟩) (fun e=>HW.out.ne (by simpa [Value.ownBlock] using e)) (.int .i64 (k:Int))
  refine ⟨rfl,cut_end HW.out HS.out hks' HN.out hO5 hB5 ?_ (by rw [List.length_set];exact HR1l.out) (fun j hj=>?_),HC4.out.trans (Chg.set ⟨p,1,none⟩ _ w3) (fun i _ h=>.inl h)⟩
  · intro x hx
    rcases List.mem_or_eq_of_mem_set hx with h1|h1
    · exact HR1b.out x h1
    omega
  rw [HA.out,HBB.out,HR.out,HQ.out,HD.out]
  have hql:q<R1.length:=by rw [HR1l.out];exact hks8
  by_cases hj:j=q
  · subst hj
    rw [if_pos ⟨hr0,rfl⟩,←HYR.out,HX.out]
    simp [List.getD,hql]
  rw [if_neg (fun h=>hj h.2),←HR1a.out j]
  simp [List.getD,List.getElem?_set_ne (Ne.symm hj)]
theorem built59 (ad:Option Addr) (n c:Nat):Tryz.prog.built 201 [(0,.slice ad n c)]=some #[.slice ad n c,.int .i64 0]:=by kernel_rfl
theorem zgl (p t:Nat) (l:List Int) (w:World) (h:RS w p l t) (hl:l.length≤70368744177664):Calls Tryz.prog 129 #[.pointer (some ⟨p,0,none⟩)] w fun e w'=>e=.returned (.int .i64 ((8*l.length - t:Nat):Int))∧Chg (fun _=>False) w w':=by
 obtain ⟨ht,ad,c,hB,hS,hne⟩:=h
 obtain ⟨n,hn⟩:∃n,l.length=n:=⟨_,rfl⟩
 rw [hn] at hB hl ht ⊢
 have c0:w.cell? ⟨p,0,none⟩=some (.slice ad n c):=hB.cell 0
 have c1:w.cell? ⟨p,1,none⟩=some (.int .i64 (t:Int)):=hB.cell 1
 clear hB hS hne hn
 go_enter Tryz.func129,Tryz.ntmps129
 go_wp2_with fail
 go_region
 go_wp2_with fail
 go_ret
 refine ⟨?_,Chg.drew _ _⟩
 show Ending.returned (.int .i64 ((n:Int)*8 - (t:Int)))=_
 congr 2
 omega
theorem zgh (ad:Option Addr) (n c:Nat) (l:List Int) (w:World) (h:Sl w ad n l) (hn:n≤70368744177664) (hnone:ad=none→n=0∧c=0):
 Calls Tryz.prog 109 #[.slice ad n c] w fun e w'=>∃p,e=.returned (.pointer (some ⟨p,0,none⟩))∧w.heap.size≤p∧RS w' p l 0∧Below w.heap.size w w':=by
 have HS:=zaa h
 have HNO:=zaa hnone
 clear h hnone
 go_enter Tryz.func109,Tryz.ntmps109
 go_wp2_with fail
 refine (clone_any ad n c l w HS.out hn HNO.out).mono ?_
 rintro e w1 ⟨ad',c',rfl,ho,hb⟩
 go_wp2_with (first
  |(refine wpList_build_to rfl 201 #[(0,.tmp 4)] rfl [(0,.slice ad' n c')] #[.slice ad' n c',.int .i64 0] ?_ (built59 _ _ _) ?_;kernel_rfl)
  |(refine zac rfl 201 (.tmp 5) rfl [.slice ad' n c',.int .i64 0] rfl ?_;intro w2 B2 bl2 hz2))
 go_ret
 have hS:=(zbp ho HS.out.byte).later bl2
 have hl:=HS.out.len
 refine ⟨_,rfl,hb.size,⟨by omega,ad',c',by rw [hl];exact B2,by rw [hl];exact hS,fun x hx hp=>?_⟩,hb.trans (bl2.mono hb.size)⟩
 have:=(zbp ho HS.out.byte).lt x hx (by omega)
 omega
theorem get_any (p t:Nat) (l:List Int) (n:Int) (w:World) (h:RS w p l t) (hl:l.length≤70368744177664) (hn:0≤n) (hn2:n≤64) (hn3:t+n.toNat≤8*l.length):
 Calls Tryz.prog 152 #[.pointer (some ⟨p,0,none⟩),.int .i64 n] w fun e w'=>∃V:Nat,e=.returned (.tuple #[.int .u64 (V:Int),.bool true])∧Nm V n.toNat (fun i=>bt l (t+i))∧RS w' p l (t+n.toNat)∧Chg (fun i=>i=p) w w':=by
 obtain ⟨k,rfl⟩:∃k:Nat,n=(k:Int):=⟨n.toNat,by omega⟩
 rw [Int.toNat_natCast] at*
 obtain ⟨N',hN⟩:∃N',l.length=N':=⟨_,rfl⟩
 have HL:Hid (∀w,RS w p l t→Calls Tryz.prog 129 #[.pointer (some ⟨p,0,none⟩)] w fun e w'=>e=.returned (.int .i64 ((8*N' - t:Nat):Int))∧Chg (fun _=>False) w w'):=fun w h=>hN▸zgl p t l w h hl
 rw [hN] at hl hn3
 obtain ⟨lf,hlf⟩:∃lf,8*N' - t=lf:=⟨_,rfl⟩
 rw [hlf] at HL
 have hlf2:k≤lf:=by omega
 have HH:=zaa h
 have HN:=zaa hN
 have HLF:=zaa hlf
 clear h hN hlf
 go_enter Tryz.func152,Tryz.ntmps152
 go_wp2_with fail
 refine (HL.out w HH.out).mono ?_
 rintro e w1 ⟨rfl,hC⟩
 have HC1:=zaa hC
 clear hC
 go_wp2_with fail
 have hk64:k≤64:=by omega
 generalize decide (lf<k)=b1
 generalize decide ((k:Int)<0)=b2
 generalize decide (64<(k:Int))=b3
 go_loopw [6,7] (fun vv lv wr=>∃(left V:Nat),left≤k∧vv=.int .u64 (V:Int)∧lv=.int .i64 (left:Int)∧RS wr p l (t+(k - left))∧Nm V (k - left) (fun i=>bt l (t+i))∧Chg (fun i=>i=p) w wr) (fun _ lv _=>(intOf lv).toNat)
 case atStart=>exact ⟨k,0,Nat.le_refl _,rfl,rfl,by rw [Nat.sub_self];exact HH.out.same HC1.out,by rw [Nat.sub_self];exact Nm.zero _,HC1.out.mono (fun _ _ h=>h.elim)⟩
 case round=>
  rename World=>wr
  obtain ⟨left,V,hle,rfl,rfl,hR,hV,hC⟩:=hrel
  clear HL HC1 HH
  obtain ⟨m,hm⟩:∃m,k - left=m:=⟨_,rfl⟩
  rw [hm] at hR hV
  have HR:=zaa hR
  have HV:=zaa hV
  have HC:=zaa hC
  have HM:=zaa hm
  by_cases hl0:0<left
  · obtain ⟨hts,ad,c,hB,hS,hne⟩:=hR
    rw [HN.out] at hB hS hne hts
    obtain ⟨s,hs⟩:∃s,t+m=s:=⟨_,rfl⟩
    rw [hs] at hB hts
    have hs8:s / 8<N':=by omega
    have hsb:s≤562949953421312:=by omega
    obtain ⟨g,off,rfl,hgl,hcell⟩:=hS.at (by omega)
    have c0:wr.cell? ⟨p,0,none⟩=some (.slice (some ⟨g,off,none⟩) N' c):=hB.cell 0
    have c1:wr.cell? ⟨p,1,none⟩=some (.int .i64 (s:Int)):=hB.cell 1
    have f1:=hB.frozen 1
    have cq:=hcell _ hs8
    have hyb:=hS.byte.at (s / 8)
    have HBy:=zaa hS.byte
    obtain ⟨q,hq⟩:∃q,s / 8=q:=⟨_,rfl⟩
    rw [hq] at cq hyb hs8
    obtain ⟨y,hy⟩:∃y,l.getD q 0=y:=⟨_,rfl⟩
    rw [hy] at cq hyb
    have hqi:(s:Int) / 8=(q:Int):=by omega
    have hqb:q≤70368744177664:=by omega
    obtain ⟨ah,hah⟩:∃ah,s%8=ah:=⟨_,rfl⟩
    have hahi:(s:Int)%8=(ah:Int):=by omega
    have hah8:ah<8:=by omega
    obtain ⟨tk,htk⟩:∃tk,min (8 - ah) left=tk:=⟨_,rfl⟩
    have htk1:tk+ah≤8∧tk≤left∧0<tk:=by omega
    obtain ⟨d,hd⟩:∃d,8 - tk=d:=⟨_,rfl⟩
    have hdi:8 - (tk:Int)=(d:Int):=by omega
    have hd8:d≤8:=by omega
    obtain ⟨l2,hl2⟩:∃l2,left - tk=l2:=⟨_,rfl⟩
    have hl2i:(left:Int) - (tk:Int)=(l2:Int):=by omega
    have hX:=piece_nm (l:=l) HBy.out s ah tk y.toNat hah htk1.1 (by rw [hq,hy])
    rw [hd] at hX
    have HX:=zaa hX
    have HS:=zaa hs
    have HQ:=zaa hq
    have HAH:=zaa hah
    have HTK:=zaa htk
    have HD:=zaa hd
    have HL2:=zaa hl2
    clear hS hB hcell hne hV hC hm hq hy hah htk hd hl2 hX hs
    go_upto_region 7 with fail
    rw [hahi]
    go_cut [9] from 24 to 67 (fun s9 wx=>s9=.int .i64 (tk:Int)∧wx=wr)
    case first=>
     go_wp2_with fail
     all_goals
      go_meet
      case rel=>
       refine ⟨?_,rfl⟩
       have:=HTK.out
       congr 1
       omega
    case rest=>
     obtain ⟨rfl,hwc⟩:=hcut
     obtain rfl:=hwc.symm
     clear hwc
     go_wp2_with fail
     go_region
     rw [shl_eq y ah d hyb]
     obtain ⟨X,hX⟩:∃X,y.toNat*2 ^ ah%256 / 2 ^ d=X:=⟨_,rfl⟩
     rw [hX] at HX ⊢
     have hXb:X<256:=by
      rw [←hX]
      exact Nat.lt_of_le_of_lt (Nat.div_le_self _ _) (Nat.mod_lt _ (by omega))
     have hj:=join_eq V X m tk HV.out.lt hXb (by have:=HM.out;omega)
     have HX2:=zaa hX
     clear hX c0 cq
     obtain ⟨w2,hw2⟩:∃w2,wr.drew=w2:=⟨_,rfl⟩
     have hR2:RS w2 p l s:=by
      rw [←hw2,←HS.out]
      exact HR.out.same (Chg.drew _ _)
     have hC2:Chg (fun i=>i=p) w w2:=by
      rw [←hw2]
      exact HC.out.trans (Chg.drew (fun _=>False) _) (fun _ _ h=>h.elim)
     have d1:w2.cell? ⟨p,1,none⟩=some (.int .i64 (s:Int)):=by rw [←hw2];exact c1
     have g1:w2.frozen? ⟨p,1,none⟩=false:=by rw [←hw2];exact f1
     rw [hw2]
     clear hw2 c1 f1
     have HR2:=zaa hR2
     have HC2:=zaa hC2
     clear hR2 hC2
     have HJ:=zaa hj
     clear hj
     go_wp2_with fail
     have hm:=HM.out
     have hl2:=HL2.out
     refine ⟨⟨l2,V*2 ^ tk ||| X,by omega,?_,rfl,?_,?_,HC2.out.trans (Chg.set ⟨p,1,none⟩ _ w2) (fun i _ h=>h)⟩,?_⟩
     · rw [←HJ.out,IntKind.wrap_u64]
     · have e:(s:Int)+(tk:Int)=((t+(k - l2):Nat):Int):=by
        have:=HS.out
        omega
       rw [e]
       exact HR2.out.step (by rw [HN.out];omega)
     · have e:k - l2=m+tk:=by omega
       rw [e]
       refine nm_join HV.out ?_
       have:=HX.out
       rw [←HS.out] at this
       intro j
       rw [this j]
       show (decide (j<tk) && bt l (t+m+(tk - 1 - j)))=(decide (j<tk) && bt l (t+(m+(tk - 1 - j))))
       rw [Nat.add_assoc]
     show (l2:Int).toNat<(left:Int).toNat
     omega
  have h0:left=0:=by omega
  subst h0
  clear hR hV hC hm
  go_wp2_with fail
  go_ret2
  have hm:=HM.out
  rw [Nat.sub_zero] at hm
  subst hm
  exact ⟨V,rfl,HV.out,HR.out,HC.out⟩
theorem get_bad (p t:Nat) (l:List Int) (n:Int) (w:World) (h:RS w p l t) (hl:l.length≤70368744177664) (hn:n<0∨64<n∨8*(l.length:Int) - t<n):
 Calls Tryz.prog 152 #[.pointer (some ⟨p,0,none⟩),.int .i64 n] w fun e w'=>e=.returned (.tuple #[.int .u64 0,.bool false])∧RS w' p l t∧Chg (fun _=>False) w w':=by
 have ht:=h.1
 obtain ⟨N',hN⟩:∃N',l.length=N':=⟨_,rfl⟩
 have HL:Hid (∀w,RS w p l t→Calls Tryz.prog 129 #[.pointer (some ⟨p,0,none⟩)] w fun e w'=>e=.returned (.int .i64 ((8*N' - t:Nat):Int))∧Chg (fun _=>False) w w'):=fun w h=>hN▸zgl p t l w h hl
 rw [hN] at hl hn ht
 obtain ⟨lf,hlf⟩:∃lf,8*N' - t=lf:=⟨_,rfl⟩
 rw [hlf] at HL
 have hn2:n<0∨64<n∨(lf:Int)<n:=by omega
 have HH:=zaa h
 clear h hN hlf hn ht
 go_enter Tryz.func152,Tryz.ntmps152
 by_cases h1:n<0
 · clear hn2
   go_wp2_with fail
   go_ret2
   exact ⟨rfl,HH.out,Chg.refl _ _⟩
 by_cases h2:64<n
 · clear hn2
   go_wp2_with fail
   go_ret2
   exact ⟨rfl,HH.out,Chg.refl _ _⟩
 have h3:(lf:Int)<n:=by omega
 clear hn2
 go_wp2_with fail
 refine (HL.out w HH.out).mono ?_
 rintro e w1 ⟨rfl,hC⟩
 have HR:=zaa (HH.out.same hC)
 have HC:=zaa hC
 clear hC
 go_wp2_with fail
 go_ret2
 exact ⟨rfl,HR.out,HC.out⟩
end Go.Proofs.YtlppibigceeimaaGreatDoor
