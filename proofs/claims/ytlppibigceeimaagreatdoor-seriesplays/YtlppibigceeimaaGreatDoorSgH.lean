import Derived.Test.YtlppibigceeimaaGreatDoorSgE
import Derived.Test.YtlppibigceeimaaGreatDoorDcD
set_option linter.unusedSimpArgs false
set_option linter.unusedVariables false
set_option maxHeartbeats 40000000
set_option maxRecDepth 100000
namespace Go.Proofs.YtlppibigceeimaaGreatDoor
open Go.RowKit
theorem chunksQ (o:ByteArray) (k:Int) (F:Nat→Prop) (d n:Nat) (st:K.Sx) (E:List De) (w:World) (h:DQ F w d n st E) (hE:E.length≤1000000) (hA:(enL (zE E o) k).2.length≤1000000):
 Calls Tryz.prog 32 #[.pointer (some ⟨d,0,none⟩),.string o,.int .i64 k] w fun e w'=>CksP w w.heap.size ((gO (gF (enL (zE E o) k).2)).map encC) e w':=by
 have HA:=zaa (allQ o k F d n st E w h hE)
 have hok:=(h.sz.en o k).2.2.1
 have HOK:=zaa hok
 generalize (enL (zE E o) k).2=A at*
 clear h hok
 go_enter Tryz.func32,Tryz.ntmps32
 go_wp2_with fail
 refine HA.out.mono ?_
 rintro e w1 ⟨⟨vl,rfl,hvl⟩,hw⟩
 obtain rfl:=hw.symm
 clear hw
 obtain ⟨av,cv,hv⟩:=zbk hvl
 subst hv
 have HS:=zaa (zan hvl HOK.out)
 obtain ⟨N,hN⟩:∃N,A.length=N:=⟨_,rfl⟩
 have HN:=zaa hN
 rw [hN] at hA ⊢
 clear hvl hN
 go_wp2_with fail
 refine (zc7 w av N cv A HS.out HN.out hA).mono ?_
 rintro e w2 ⟨a2,c2,D2,rfl,k2,b2⟩
 have H2:=zaa (And.intro k2 b2)
 clear k2 b2
 go_wp2_with fail
 go_ret
 exact ⟨a2,c2,D2,by first|rfl|(rw [List.length_map];rfl)|simp,H2.out.1,H2.out.2⟩
theorem rng_next {f t:Int} {A:List Sm} {i:Nat} {y:Sm} (h:A[i]?=some y):rng f t (A.take (i+1))=rng f t (A.take i)++(if f≤y.t∧y.t≤t then [y] else []):=by
 unfold rng
 rw [List.take_add_one,h,List.filter_append]
 by_cases hh:f≤y.t∧y.t≤t <;> simp [hh]
theorem rangeQ (o:ByteArray) (k f t:Int) (F:Nat→Prop) (d n:Nat) (st:K.Sx) (E:List De) (w:World) (h:DQ F w d n st E) (hE:E.length≤1000000) (hA:(enL (zE E o) k).2.length≤1000000):
 Calls Tryz.prog 49 #[.pointer (some ⟨d,0,none⟩),.string o,.int .i64 k,.int .i64 f,.int .i64 t] w fun e w'=>SamP (rng f t (enL (zE E o) k).2) w e w':=by
 have HA:=zaa (allQ o k F d n st E w h hE)
 have hok:=(h.sz.en o k).2.2.1
 have HOK:=zaa hok
 generalize (enL (zE E o) k).2=A at*
 clear h hok
 go_enter Tryz.func49,Tryz.ntmps49
 go_wp2_with fail
 refine HA.out.mono ?_
 rintro e w1 ⟨⟨vl,rfl,hvl⟩,hw⟩
 obtain rfl:=hw.symm
 clear hw
 obtain ⟨av,cv,hv⟩:=zbk hvl
 subst hv
 have HS:=zaa (zan hvl HOK.out)
 obtain ⟨N,hN⟩:∃N,A.length=N:=⟨_,rfl⟩
 have HN:=zaa hN
 rw [hN] at hA ⊢
 clear hvl hN
 go_wp2_with fail
 go_loopw [12,13] (fun s12 s13 wx=>∃(i m:Nat) (a2:Option Addr) (c2:Nat),s13=.int .i64 (i:Int)∧s12=.slice a2 m c2∧i≤N∧m≤i∧Hid (m=(rng f t (A.take i)).length)∧Hid (wx.ownsRow w.heap.size 53 2 (.slice a2 m c2) m (cS (rng f t (A.take i))))∧Hid (Below w.heap.size w wx)) (fun _ s13 _=>N - nOf s13)
 case atStart=>exact ⟨0,0,none,0,rfl,rfl,by omega,by omega,zaa (by simp [rng]),zaa (World.ownsRow_nil _ _ _ _),zaa (Below.refl _ _)⟩
 case round=>
  rename World=>wr
  obtain ⟨i,m,a2,c2,rfl,rfl,hi,hmi,hm,hO,hB⟩:=hrel
  by_cases hlt:i<N
  · have hltz:(i:Int)<(N:Int):=by omega
    obtain ⟨y,hy⟩:∃y,A[i]?=some y:=⟨A[i]'(by rw [HN.out];exact hlt),by simp⟩
    obtain ⟨g,off,rfl,hgl,hcell⟩:=(HS.out.later hB.out).at' (by rintro rfl;simp at hy)
    obtain ⟨kt,kv⟩:=hcell i y hy
    have hn:=rng_next (f:=f) (t:=t) hy
    have HNX:=zaa hn
    obtain ⟨yt,yv⟩:=y
    dsimp only at kt kv HNX
    clear hy hcell hn
    by_cases h1:f≤yt
    · have h1z:yt≥f:=h1
      by_cases h2:yt≤t
      · have hnn:=zaa (show rng f t (A.take (i+1))=rng f t (A.take i)++[⟨yt,yv⟩] by rw [HNX.out,if_pos ⟨h1,h2⟩])
        go_wp2_with (first
         |(refine zbo _ rfl (.tmp 40) (.tmp 45) rfl w.heap.size _ m _ rfl wr hO.out ⟨yt,yv⟩ rfl rfl (by omega) hB.out.size ?_
           intro g5 c5 w5 o5 b5 _
           have O5:=zaa o5
           have B5:=zaa b5
           clear o5 b5))
        refine ⟨⟨i+1,m+1,_,c5,by first|rfl|simp,rfl,by omega,by omega,zaa (by rw [hnn.out,List.length_append,←hm.out];rfl),zaa (by rw [hnn.out];exact O5.out),zaa (hB.out.trans B5.out)⟩,?_⟩
        simp [nOf]
        omega
      have hnn:=zaa (show rng f t (A.take (i+1))=rng f t (A.take i) by rw [HNX.out,if_neg (fun hh=>h2 hh.2),List.append_nil])
      go_wp2_with fail
      refine ⟨⟨i+1,m,a2,c2,by first|rfl|simp,rfl,by omega,by omega,zaa (by rw [hnn.out];exact hm.out),zaa (by rw [hnn.out];exact hO.out),hB⟩,?_⟩
      simp [nOf]
      omega
    have h1z:¬yt≥f:=h1
    have hnn:=zaa (show rng f t (A.take (i+1))=rng f t (A.take i) by rw [HNX.out,if_neg (fun hh=>h1 hh.1),List.append_nil])
    go_wp2_with fail
    refine ⟨⟨i+1,m,a2,c2,by first|rfl|simp,rfl,by omega,by omega,zaa (by rw [hnn.out];exact hm.out),zaa (by rw [hnn.out];exact hO.out),hB⟩,?_⟩
    simp [nOf]
    omega
  have hltz:¬(i:Int)<(N:Int):=by omega
  have e9:A.take i=A:=List.take_of_length_le (by rw [HN.out];omega)
  rw [e9] at hm hO
  clear e9
  go_wp2_with fail
  go_ret
  refine ⟨a2,c2,by rw [←hm.out];rfl,by rw [←hm.out];exact hO.out,fun x hx=>HOK.out x (List.mem_filter.1 hx).1,hB.out⟩
theorem zfq {X:List Dv} {i:Nat} {x:Dv} (o:ByteArray) (h:X[i]?=some x):((zE (esD (X.take (i+1))) o).flatMap slF).length=((zE (esD (X.take i)) o).flatMap slF).length+(if x.1.1=o then x.1.2.2.2.length else 0):=by
 have e:esD (X.take (i+1))=esD (X.take i)++[x.1]:=by
  unfold esD
  rw [List.take_add_one,h]
  simp
 rw [e,zfl,zE_one,List.flatMap_append,List.length_append]
 by_cases ho:x.1.1=o
 · rw [if_pos ho,if_pos ho]
   simp [slF,enD]
 rw [if_neg ho,if_neg ho]
 simp
theorem slots_le {n:Nat} {st:K.Sx} {E:List De} (h:SZ n st (zE E)) (o:ByteArray):((zE E o).flatMap slF).length≤n:=by
 rw [←h.used o]
 exact K.setL_len st n o
theorem info114:(Tryz.prog.info? 114).map (fun i=>(i.zero,i.size,i.bytes))=some (some (.agg #[.string ⟨#[]⟩,.int .i64 0,.slice none 0 0,.slice none 0 0]),4,72):=by kernel_rfl
theorem zd5 (w:World) {ops:Array Oper} {rest:List Oper} {o:Oper} {a:Act} {Q:Exit→Act→World→Prop} (hgd:o.guard=none) (s x:Operand)
 (ho:o.op=.call { callee:=.builtin .append,args:=#[s,x],argTypes:=#[76,76] }) (base:Nat) (v:Value) (n:Nat) (xs:List Value) (hs:a.eval s=v) (w0:World) (hown:w0.ownsRow base 114 4 v n xs) (y:Dv) (hy1:y.2.1.oneCell'=true) (hy2:y.2.2.oneCell'=true)
 (hw:w=w0.alloc (.cells (dC y).toArray 114)) (hx:a.eval x=.slice (some ⟨w0.heap.size,0,none⟩) 1 1) (hn:n≤1000000000) (hbase:base≤w0.heap.size)
 (h:∀g' c' w',w'.ownsRow base 114 4 (.slice (some ⟨g',0,none⟩) (n+1) c') (n+1) (xs++dC y)→Pushed w w' v g'→wpList Tryz.prog ops Q rest (a.put o.dst (.slice (some ⟨g',0,none⟩) (n+1) c')) w'):wpList Tryz.prog ops Q (o :: rest) a w:=by
 subst hw
 obtain ⟨i0,hi0,hz0,hz1,hz2⟩:=info_parts info114
 refine wpList_pushN _ hgd s x 76 ho 114 i0 (.agg #[.string ⟨#[]⟩,.int .i64 0,.slice none 0 0,.slice none 0 0]) 4 72 Tryz.underlying76 hi0 hz0 hz1 hz2 rfl (by omega) base v n xs hs (hown.alloc _) ⟨w0.heap.size,0,none⟩ (dC y) hx rfl (fun j u hu=>by
  have:=(Blk.new w0 114 (dC y)).cell (0+j)
  rw [Addr.add_lit]
  refine this.trans ?_
  rw [Nat.zero_add]
  exact hu) (by
   intro u hu
   simp only [dC,List.mem_cons,List.not_mem_nil,or_false] at hu
   rcases hu with rfl|rfl|rfl|rfl
   · rfl
   · rfl
   · exact hy1
   exact hy2) (by unfold maxLen;omega) (by omega) (by simp;omega) ?_
 intro g' c' w' ho' hp'
 exact h g' c' w' ho' hp'
def fltX (o:ByteArray) (X:List Dv):List Dv:=X.filter fun x=>decide (¬x.1.1=o)
theorem fltX_next {X:List Dv} {i:Nat} {x:Dv} (o:ByteArray) (h:X[i]?=some x):fltX o (X.take (i+1))=fltX o (X.take i)++(if x.1.1=o then [] else [x]):=by
 unfold fltX
 rw [List.take_add_one,h,List.filter_append]
 by_cases hh:x.1.1=o <;> simp [hh]
theorem fltX_es (o:ByteArray) (X:List Dv):esD (fltX o X)=(esD X).filter fun e=>decide (¬e.1=o):=by
 unfold esD fltX
 rw [List.filter_map]
 rfl
theorem drp_rel {n:Nat} {st:K.Sx} {Z:ByteArray→List En} (h:SZ n st Z) (hf:∀i,n≤i→st i=none) (o:ByteArray):K.drpS st o=relN st ((Z o).flatMap slF):=by
 funext j
 unfold K.drpS relN
 cases e:st j with
 |none=>simp
 |some x=>
  have hj:j<n:=by
   rcases Nat.lt_or_ge j n with h1|h1
   · exact h1
   rw [hf j h1] at e;cases e
  by_cases hx:x.1=o
  · have:j∈(Z o).flatMap slF:=(h.mem o j).2 ⟨hj,x.2,by rw [e,←hx]⟩
    rw [if_pos this]
    simp [hx]
  have:¬j∈(Z o).flatMap slF:=fun hm=>by
   obtain ⟨_,d,e2⟩:=(h.mem o j).1 hm
   rw [e] at e2
   cases e2
   exact hx rfl
  rw [if_neg this]
  simp [hx]
theorem dropQ (o:ByteArray) (F:Nat→Prop) (d r n:Nat) (st:K.Sx) (E:List De) (w:World) (h:DQr F w d r n st E) (hE:E.length≤1000000) (hn9:n≤1000000):
 Calls Tryz.prog 31 #[.pointer (some ⟨d,0,none⟩),.string o] w fun e w'=>e=.returned (.int .i64 (((zE E o).flatMap slF).length:Int))∧∃F',DQr F' w' d r n (K.drpS st o) (E.filter fun e=>decide (¬e.1=o))∧Chg F w w'∧K.Nw w F F':=by
 have hle:=slots_le h.sz o
 obtain ⟨q,B,v,X,h1,rfl,h3,h4,h5⟩:=h
 unfold esD at hE
 rw [List.length_map] at hE
 have H1:=zaa h1
 have H3:=zaa h3
 have H4:=zaa h4
 have H5:=zaa h5
 have HDR:Hid (∀(wx:World) (hb:Below w.heap.size w wx) (v':Value),Calls Tryz.prog 61 #[.pointer (some ⟨r,0,none⟩),.string o] (wx.setCell ⟨d,1,none⟩ v') fun e w'=>e=.returned (.int .i64 ((K.setL st n o).length:Int))∧K.RPo (wx.setCell ⟨d,1,none⟩ v') w' r q n st B (K.drpS st o)):=zaa (fun wx hb v'=>
  K.dropR o r q n st B _ ((h3.later hb).chg (Chg.set ⟨d,1,none⟩ v' wx) (h3.blk.tg.ne h1.blk.tg (by decide)) (h3.row.tg.ne h1.blk.tg (by decide)) (fun i hi=>(K.RG.tg h3 hi).ne h1.blk.tg (by decide))))
 obtain ⟨av,cv,hv⟩:=zbk h1.row
 subst hv
 obtain ⟨N,hN⟩:∃N,X.length=N:=⟨_,rfl⟩
 have HC:Hid (∀wx,Below w.heap.size w wx→wx.cell? ⟨d,0,none⟩=some (.pointer (some ⟨r,0,none⟩))∧wx.cell? ⟨d,1,none⟩=some (.slice av N cv)∧wx.frozen? ⟨d,1,none⟩=false):=zaa (fun wx hb=>by
  rw [←hN]
  exact ⟨(h1.later hb).blk.cell 0,(h1.later hb).blk.cell 1,(h1.later hb).blk.frozen 1⟩)
 rw [hN] at hE
 have HN:=zaa hN
 have HLE:=zaa hle
 have HALL:Hid (X.take N=X):=zaa (List.take_of_length_le (by omega))
 have HMO:Hid (∀i,((zE (esD (X.take i)) o).flatMap slF).length≤((zE (esD X) o).flatMap slF).length):=zaa (fun i=>by
  have e:esD X=esD (X.take i)++esD (X.drop i):=by
   unfold esD
   rw [←List.map_append,List.take_append_drop]
  rw [e,zfl,List.flatMap_append,List.length_append]
  omega)
 obtain ⟨TT,hTT⟩:∃TT,((zE (esD X) o).flatMap slF).length=TT:=⟨_,rfl⟩
 rw [hTT] at HMO HLE ⊢
 have HTT:=zaa hTT
 clear h1 h3 h4 h5 hN hle hTT
 go_enter Tryz.func31,Tryz.ntmps31
 go_wp2_with fail
 go_loopw [5,6,7] (fun s5 s6 s7 wx=>∃(i m t:Nat) (a5:Option Addr) (c5:Nat),s7=.int .i64 (i:Int)∧s6=.int .i64 (m:Int)∧s5=.slice a5 t c5∧i≤N∧m≤1000000∧t≤i∧Hid (m=((zE (esD (X.take i)) o).flatMap slF).length)∧Hid (t=(fltX o (X.take i)).length)∧Hid (wx.ownsRow w.heap.size 114 4 (.slice a5 t c5) t (dCs (fltX o (X.take i))))∧Hid (Below w.heap.size w wx)) (fun _ _ s7 _=>N - nOf s7)
 case atStart=>exact ⟨0,0,0,none,0,rfl,rfl,rfl,by omega,by omega,by omega,zaa (by simp [esD,zE]),zaa (by simp [fltX]),zaa (World.ownsRow_nil _ _ _ _),zaa (Below.refl _ _)⟩
 case round=>
  rename World=>wr
  obtain ⟨i,m,t,a5,c5,rfl,rfl,rfl,hi,hm9,ht,hm,htt,hO,hB⟩:=hrel
  obtain ⟨cd0,cd1,cdf⟩:=HC.out wr hB.out
  by_cases hlt:i<N
  · have hltz:(i:Int)<(N:Int):=by omega
    obtain ⟨x,hx⟩:∃x,X[i]?=some x:=⟨X[i]'(by rw [HN.out];exact hlt),by simp⟩
    have H1r:=H1.out.later hB.out
    obtain ⟨g,rfl,_⟩:∃g,av=some ⟨g,0,none⟩∧True:=by
     rcases H1r.row.2 with ⟨h1,h2⟩|⟨g,cap,cur,hv,_⟩
     · have:=HN.out
       omega
     injection hv with h1
     exact ⟨g,h1,trivial⟩
    have k0:wr.cell? ⟨g,i*4,none⟩=some (.string x.1.1):=zai H1r.row (i*4) _ (by have:=zcr X i 0 x hx (by omega);simpa [dC] using this)
    have k1:wr.cell? ⟨g,i*4+1,none⟩=some (.int .i64 x.1.2.1):=zai H1r.row (i*4+1) _ (by have:=zcr X i 1 x hx (by omega);simpa [dC] using this)
    have k2:wr.cell? ⟨g,i*4+2,none⟩=some x.2.1:=zai H1r.row (i*4+2) _ (by have:=zcr X i 2 x hx (by omega);simpa [dC] using this)
    have k3:wr.cell? ⟨g,i*4+3,none⟩=some x.2.2:=zai H1r.row (i*4+3) _ (by have:=zcr X i 3 x hx (by omega);simpa [dC] using this)
    have hst:=zfq o hx
    have hfl:=fltX_next o hx
    have hmo:=HMO.out (i+1)
    obtain ⟨sv,sc,hsv⟩:=zal (H1r.slt x (List.mem_of_getElem? hx))
    obtain ⟨qv,qc,hqv⟩:=zbk (H1r.smp x (List.mem_of_getElem? hx))
    have hq:=str_eqD x.1.1 o
    obtain ⟨⟨o1,k9,l1,sl1⟩,v1,v2⟩:=x
    dsimp only at k0 k1 k2 k3 hq hst hfl hsv hqv
    subst hsv hqv
    obtain ⟨L,hL⟩:∃L,sl1.length=L:=⟨_,rfl⟩
    obtain ⟨Q,hQ⟩:∃Q,l1.length=Q:=⟨_,rfl⟩
    rw [hL] at k3 hst hfl
    rw [hQ] at k2 hfl
    have HST:=zaa hst
    have HFL:=zaa hfl
    have HL9:=HLE.out
    clear hx hst hfl hL hQ H1r
    by_cases ho:o1=o
    · rw [decide_eq_true ho] at hq
      have hst:=HST.out
      rw [if_pos ho,←hm.out] at hst
      have HS2:=zaa hst
      have hfl:=HFL.out
      rw [if_pos ho,List.append_nil] at hfl
      have HF2:=zaa hfl
      have hb:m+L≤1000000:=by omega
      clear hst hmo HL9 hfl
      go_wp2_with fail
      refine ⟨⟨i+1,m+L,t,a5,c5,by first|rfl|simp,by first|rfl|simp,rfl,by omega,hb,by omega,zaa HS2.out.symm,zaa (by rw [HF2.out];exact htt.out),zaa (by rw [HF2.out];exact hO.out),hB⟩,?_⟩
      simp [nOf]
      omega
    rw [decide_eq_false ho] at hq
    have hst:=HST.out
    rw [if_neg ho,←hm.out,Nat.add_zero] at hst
    have HS2:=zaa hst
    have hfl:=HFL.out
    rw [if_neg ho] at hfl
    have HF2:=zaa hfl
    clear hst hmo HL9 hfl
    go_wp2_with (first
     |(refine zd5 _ rfl (.tmp 38) (.tmp 46) rfl w.heap.size _ t _ rfl wr hO.out ((o1,k9,l1,sl1),.slice qv Q qc,.slice sv L sc) rfl rfl rfl rfl (by omega) hB.out.size ?_
       intro g6 c6 w6 o6 p6
       have O6:=zaa o6
       have B6:=zaa (p6.chg.1.below hB.out.size (fun q hq=>(hO.out.lt q hq).1))
       clear o6 p6))
    refine ⟨⟨i+1,m,t+1,_,c6,by first|rfl|simp,rfl,rfl,by omega,hm9,by omega,zaa HS2.out.symm,zaa (by rw [HF2.out,List.length_append,←htt.out];rfl),zaa ?_,zaa (hB.out.trans B6.out)⟩,?_⟩
    · rw [HF2.out]
      have e:dCs (fltX o (X.take i)++[((o1,k9,l1,sl1),.slice qv Q qc,.slice sv L sc)])=dCs (fltX o (X.take i))++dC ((o1,k9,l1,sl1),.slice qv Q qc,.slice sv L sc):=by unfold dCs;rw [List.flatMap_append];rfl
      rw [e]
      exact O6.out
    simp [nOf]
    omega
  have hltz:¬(i:Int)<(N:Int):=by omega
  have hiN:i=N:=by omega
  have hm2:=hm.out
  rw [hiN,HALL.out,HTT.out] at hm2
  have HM2:=zaa hm2
  have hO2:=hO.out
  have ht2:=htt.out
  rw [hiN,HALL.out] at hO2 ht2
  have HO2:=zaa hO2
  have HT2:=zaa ht2
  clear hm2 hiN hO2 ht2 hm hO htt
  go_wp2_with fail
  refine (HDR.out wr hB.out (.slice a5 t c5)).mono ?_
  rintro e w3 ⟨rfl,B',p1,p2,p3⟩
  have P:=zaa (And.intro p1 (And.intro p2 p3))
  clear p1 p2 p3 HDR
  have hsl:(K.setL st n o).length≤1000000:=by have:=K.setL_len st n o;omega
  generalize (K.setL st n o).length=SL at*
  go_wp2_with fail
  go_ret
  refine ⟨by rw [←HM2.out];rfl,?_⟩
  obtain ⟨p1,p2,p3⟩:=P.out
  have hdl:=H1.out.blk.lt
  have hx:∀x,x∈fltX o X→x∈X:=fun x hx=>(List.mem_filter.1 hx).1
  have cset:Chg (fun i=>i=d) wr (wr.setCell ⟨d,1,none⟩ (.slice a5 t c5)):=Chg.set ⟨d,1,none⟩ _ wr
  have hqt:Tg wr q 116:=(H3.out.later hB.out).row.tg
  have hT:∀{b t},Tg wr b t→¬t=78→¬t=116→¬b=d∧¬b=q:=fun ht h1 h2=>⟨ht.ne (H1.out.later hB.out).blk.tg h1,ht.ne hqt h2⟩
  have ctot:Chg (fun i=>i=d∨i=q) wr w3:=(cset.mono (fun _ _ e=>.inl e)).trans p2 (fun _ _ e=>.inr e)
  have hds:DS w3 d r (.slice a5 t c5) (fltX o X):=by
   have h1r:=H1.out.later hB.out
   refine ⟨p2.blk (h1r.blk.set 1 _) (h1r.blk.tg.ne hqt (by decide)),?_,fun x hx'=>?_,fun x hx'=>?_,?_⟩
   · rw [←HT2.out]
     have h9:=ctot.owns HO2.out (fun g hg e=>by
      have ht:=zab HO2.out g hg
      rcases e with e|e
      · exact (hT ht (by decide) (by decide)).1 e
      exact (hT ht (by decide) (by decide)).2 e)
     rcases h9.2 with e|⟨g,cap,cur,e1,e2,e3⟩
     · exact ⟨h9.1,.inl e⟩
     exact ⟨h9.1,.inr ⟨g,cap,cur,e1,Nat.zero_le _,e3⟩⟩
   · refine ctot.owns (h1r.smp x (hx x hx')) (fun g hg e=>?_)
     have ht:=zab (h1r.smp x (hx x hx')) g hg
     rcases e with e|e
     · exact (hT ht (by decide) (by decide)).1 e
     exact (hT ht (by decide) (by decide)).2 e
   · refine ctot.owns (h1r.slt x (hx x hx')) (fun g hg e=>?_)
     have ht:=zab (h1r.slt x (hx x hx')) g hg
     rcases e with e|e
     · exact (hT ht (by decide) (by decide)).1 e
     exact (hT ht (by decide) (by decide)).2 e
   exact apt_pw.2 ((apt_pw.1 H1.out.apt).filter _)
  refine ⟨fun i=>DF d (.slice a5 t c5) (fltX o X) i∨i=r∨i=q∨K.RG (K.drpS st o) B' i,⟨q,B',_,_,hds,fltX_es o X,p1,?_,fun i=>Iff.rfl⟩,?_,?_⟩
  · rw [drp_rel H4.out H3.out.fin o,zE_drop]
    exact H4.out.drop o (fun i=>Iff.rfl)
  · refine (Chg.of_below (F:=F) hB.out).trans ctot (fun i _ e=>?_)
    rcases e with rfl|rfl
    · exact (H5.out _).2 (.inl (.inl rfl))
    exact (H5.out _).2 (.inr (.inr (.inl rfl)))
  rintro i ((rfl|hi|⟨x,hx',hi⟩)|rfl|rfl|hi)
  · exact .inl ((H5.out _).2 (.inl (.inl rfl)))
  · exact .inr (HO2.out.lt i hi).1
  · exact .inl ((H5.out i).2 (.inl (.inr (.inr ⟨x,hx x hx',hi⟩))))
  · exact .inl ((H5.out _).2 (.inr (.inl rfl)))
  · exact .inl ((H5.out _).2 (.inr (.inr (.inl rfl))))
  rcases p3 i hi with e|e
  · exact .inl ((H5.out i).2 (.inr (.inr (.inr e))))
  right
  have:=hB.out.size
  have:=cset.size
  omega
theorem ris_snoc {B:List Sm} {y:Sm}:Ris (B++[y])↔Ris B∧∀z,B.getLast?=some z→z.t<y.t:=by
 unfold Ris
 rw [List.pairwise_append]
 constructor
 · rintro ⟨h1,_,h3⟩
   exact ⟨h1,fun z hz=>h3 z (List.mem_of_getLast? hz) y (by simp)⟩
 rintro ⟨h1,h2⟩
 refine ⟨h1,by simp,fun a ha b hb=>?_⟩
 rw [List.mem_singleton.1 hb]
 cases B.eq_nil_or_concat with
 |inl h=>subst h;simp at ha
 |inr h=>
  obtain ⟨C,z,rfl⟩:=h
  have hz:=h2 z (by simp)
  rw [List.concat_eq_append] at ha h1
  rcases List.mem_append.1 ha with ha|ha
  · have h4:=(List.pairwise_append.1 h1).2.2 a ha z (by simp)
    unfold LtT at h4 ⊢
    omega
  rw [List.mem_singleton.1 ha]
  exact hz
theorem last_take {A l:List Sm} {i:Nat} (hi:i+1≤l.length):(A++l.take (i+1)).getLast?=l[i]?:=by
 have:l[i]?=some (l[i]'(by omega)):=List.getElem?_eq_getElem (by omega)
 rw [List.take_add_one,this]
 show (A++(l.take i++[l[i]'(by omega)])).getLast?=_
 rw [←List.append_assoc,List.getLast?_append]
 rfl
theorem followR (w:World) (a1 a2:Option Addr) (n1 n2 c1 c2:Nat) (A l:List Sm) (h1:Ss w a1 A) (h2:Ss w a2 l) (hn1:A.length=n1) (hn2:l.length=n2) (hr:Ris A) (hb:n1≤1000000000∧n2≤1000000000):
 Calls Tryz.prog 47 #[.slice a1 n1 c1,.slice a2 n2 c2] w fun e w'=>e=.returned (.bool (decide (Ris (A++l))))∧Chg (fun _=>False) w w':=by
 have H1:=zaa h1
 have H2:=zaa h2
 have HN:=zaa (And.intro hn1 hn2)
 have HR:=zaa hr
 clear h1 h2 hn1 hn2 hr
 go_enter Tryz.func47,Tryz.ntmps47
 go_wp2_with fail
 go_loopw [5] (fun s5 wx=>∃i:Nat,s5=.int .i64 (i:Int)∧i≤n2∧Hid (Ris (A++l.take i))∧Hid (Below w.heap.size w wx)) (fun s5 _=>n2 - nOf s5)
 case atStart=>exact ⟨0,rfl,by omega,zaa (by simpa using HR.out),zaa (Below.refl _ _)⟩
 case round=>
  rename World=>wr
  obtain ⟨i,rfl,hi,hI,hB⟩:=hrel
  by_cases hlt:i<n2
  · have hltz:(i:Int)<(n2:Int):=by omega
    obtain ⟨y,hy⟩:∃y,l[i]?=some y:=⟨l[i]'(by rw [HN.out.2];exact hlt),by simp⟩
    obtain ⟨g,off,rfl,hgl,hcell⟩:=(H2.out.later hB.out).at' (by rintro rfl;simp at hy)
    have ky:=(hcell i y hy).1
    have hst:l.take (i+1)=l.take i++[y]:=by rw [List.take_add_one,hy];rfl
    have HST:=zaa hst
    have hout:∀z,(A++l.take i).getLast?=some z→¬z.t<y.t→¬Ris (A++l):=fun z hz hzy hh=>by
     have e1:A++l=(A++l.take i++[y])++l.drop (i+1):=by
      rw [List.append_assoc A,←hst,List.append_assoc,List.take_append_drop]
     rw [e1] at hh
     exact hzy ((ris_snoc.1 (ris_pre hh)).2 z hz)
    have hin:(∀z,(A++l.take i).getLast?=some z→z.t<y.t)→Ris (A++l.take (i+1)):=fun hz=>by
     rw [hst,←List.append_assoc]
     exact ris_snoc.2 ⟨hI.out,hz⟩
    have HOUT:=zaa hout
    have HIN:=zaa hin
    clear hst hout hin
    by_cases hi0:i=0
    · subst hi0
      by_cases hA:n1=0
      · have hA0:A=[]:=List.eq_nil_of_length_eq_zero (by rw [HN.out.1];exact hA)
        have HI1:=zaa (HIN.out (fun z hz=>by rw [hA0] at hz;simp at hz))
        subst hA
        clear hy hcell
        go_wp2_with fail
        go_quiet (fail)
        go_wp2
        refine ⟨⟨1,by first|rfl|simp,by omega,HI1,zaa (zah hB.out _)⟩,?_⟩
        simp [nOf]
        omega
      have hAz:(n1:Int) > 0:=by omega
      obtain ⟨z,hz⟩:∃z,A[n1 - 1]?=some z:=⟨A[n1 - 1]'(by rw [HN.out.1];omega),by simp⟩
      obtain ⟨g1,off1,rfl,hgl1,hcell1⟩:=(H1.out.later hB.out).at' (by rintro rfl;simp at hz)
      have kz:=(hcell1 (n1 - 1) z hz).1
      have e1:(n1:Int) - 1=((n1 - 1:Nat):Int):=by omega
      have e2:((n1 - 1:Nat):Int)<(n1:Int):=by omega
      have hlast:(A++l.take 0).getLast?=some z:=by
       rw [List.take_zero,List.append_nil,List.getLast?_eq_getElem?,HN.out.1]
       exact hz
      have HLA:=zaa hlast
      obtain ⟨q,hq⟩:∃q,n1 - 1=q:=⟨_,rfl⟩
      rw [hq] at kz e1 e2
      have ky0:wr.cell? ⟨g,off,none⟩=some (.int .i64 y.t):=by simpa using ky
      clear hy hcell hz hcell1 hlast hq ky
      have hwq:IntKind.i64.wrap (q:Int)=(q:Int):=zds (by omega) (by omega)
      have KY:=zaa ky0
      have KZ:=zaa kz
      have hq1:(q:Int)<(n1:Int):=e2
      go_upto_region 4 with fail
      refine follow_r4 g off g1 off1 n1 n2 c1 c2 q y.t z.t (decide (y.t≤z.t)) wr _ _ (by rfl) (by rfl) (by rfl) (by rfl) (by omega) (by omega) e1 hwq hq1 (by kernel_rfl) trivial rfl (fun w1 hL=>by rw [hL.cell (p:=⟨g,off,none⟩) hgl];exact KY.out) (fun w1 hL=>by rw [hL.cell (p:=⟨g1,off1+q*2,none⟩) hgl1];exact KZ.out) ?_
      intro v12 v13 v14 v15 v16 v17 v18 v19 v20 v21 v22 v23 v24 v25 v26 v27 v28 v29 v30 v31 v32 v33 v34 v35 v36 v37 v38 v39 v40 v41 v42 v43 v44 v45 v46 v47 v48 v49 v50 w1 hL
      have B1:=zaa (hB.out.trans (hL.mono hB.out.size))
      clear hL hwq ky0 kz e1 e2 hq1
      simp only [Act.put,List.setIfInBounds_toArray,List.set_cons_succ,List.set_cons_zero]
      by_cases hle:y.t≤z.t
      · have HO:=zaa (HOUT.out z HLA.out (by omega))
        rw [decide_eq_true hle]
        go_wp2_with fail
        go_ret
        exact ⟨by rw [decide_eq_false HO.out];rfl,Chg.of_below B1.out⟩
      have HI1:=zaa (HIN.out (fun z' hz'=>by rw [HLA.out] at hz';cases hz';omega))
      rw [decide_eq_false hle]
      go_wp2_with fail
      refine ⟨⟨1,by first|rfl|simp,by omega,HI1,B1⟩,?_⟩
      simp [nOf]
      omega
    have hiz:(i:Int) > 0:=by omega
    have hin0:0<i:=by omega
    have hi0z:((i:Int)==0)=false:=by simpa using hi0
    obtain ⟨z,hz⟩:∃z,l[i - 1]?=some z:=⟨l[i - 1]'(by rw [HN.out.2];omega),by simp⟩
    have kz:=(hcell (i - 1) z hz).1
    have e1:(i:Int) - 1=((i - 1:Nat):Int):=by omega
    have e2:((i - 1:Nat):Int)<(n2:Int):=by omega
    have hlast:(A++l.take i).getLast?=some z:=by
     have h9:=last_take (A:=A) (l:=l) (i:=i - 1) (by rw [HN.out.2];omega)
     rw [show i - 1+1=i by omega] at h9
     rw [h9]
     exact hz
    have HLA:=zaa hlast
    obtain ⟨q,hq⟩:∃q,i - 1=q:=⟨_,rfl⟩
    rw [hq] at kz e1 e2
    clear hy hcell hz hlast hq hi0
    by_cases hle:y.t≤z.t
    · have HO:=zaa (HOUT.out z HLA.out (by omega))
      go_wp2_with fail
      go_quiet (fail)
      go_wp2
      go_ret
      exact ⟨by rw [decide_eq_false HO.out];rfl,Chg.of_below (zah hB.out _)⟩
    have HI1:=zaa (HIN.out (fun z' hz'=>by rw [HLA.out] at hz';cases hz';omega))
    have hdle:decide (y.t≤z.t)=false:=by simpa using hle
    have hi0n:¬i=0:=by omega
    have hi0b:(i==0)=false:=by simpa using hi0n
    go_wp2_with fail
    go_quiet (fail)
    go_wp2
    refine ⟨⟨i+1,by first|rfl|simp,by omega,HI1,zaa (zah hB.out _)⟩,?_⟩
    simp [nOf]
    omega
  have hltz:¬(i:Int)<(n2:Int):=by omega
  have hI2:=hI.out
  rw [List.take_of_length_le (by rw [HN.out.2];omega)] at hI2
  go_wp2_with fail
  go_ret
  first|exact ⟨rfl,Chg.of_below hB.out⟩|exact ⟨by rw [decide_eq_true hI2];rfl,Chg.of_below hB.out⟩|exact ⟨by simp [hI2],Chg.of_below hB.out⟩
def NdR (k:Int) (A l:List Sm) (e:Ending):Prop:=
 (k<0∧e=.returned (.tuple #[.int .i64 0,.int .i64 1]))∨(0≤k∧¬Ris (A++l)∧e=.returned (.tuple #[.int .i64 0,.int .i64 140]))∨
 (0≤k∧Ris (A++l)∧e=.returned (.tuple #[.int .i64 (((gO (gF (A++l))).length:Int) - ((gO (gF A)).length:Int)),.int .i64 0]))
theorem needsQ (o:ByteArray) (k:Int) (F:Nat→Prop) (d n:Nat) (st:K.Sx) (E:List De) (w:World) (h:DQ F w d n st E) (hE:E.length≤1000000) (hA:(enL (zE E o) k).2.length≤500000)
 (ad:Option Addr) (N c:Nat) (l:List Sm) (hL:Ss w ad l) (hN:l.length=N) (hN9:N≤500000) (hno:ad=none→l=[]∧c=0):
 Calls Tryz.prog 23 #[.pointer (some ⟨d,0,none⟩),.string o,.int .i64 k,.slice ad N c] w fun e w'=>NdR k (enL (zE E o) k).2 l e∧Below w.heap.size w w':=by
 have HAL:=zaa (allQ o k F d n st E w h hE)
 have hen:=h.sz.en o k
 have hok:=hen.2.2.1
 have hri:=hen.2.1
 have HOK:=zaa hok
 have HRI:=zaa hri
 generalize (enL (zE E o) k).2=A at*
 have HL:=zaa hL
 have HN:=zaa hN
 have HNO:=zaa hno
 clear h hok hri hen hL hN hno
 by_cases hk:k<0
 · go_enter Tryz.func23,Tryz.ntmps23
   go_wp2_with fail
   go_ret2
   exact ⟨.inl ⟨hk,rfl⟩,Below.refl _ _⟩
 have hk0:0≤k:=by omega
 go_enter Tryz.func23,Tryz.ntmps23
 go_wp2_with fail
 refine HAL.out.mono ?_
 rintro e w1 ⟨⟨vl,rfl,hvl⟩,hw⟩
 obtain rfl:=hw.symm
 clear hw
 obtain ⟨av,cv,hv,hvn,_⟩:=za3 hvl
 subst hv
 have HS:=zaa (zan hvl HOK.out)
 have HVN:=zaa hvn
 obtain ⟨M,hM⟩:∃M,A.length=M:=⟨_,rfl⟩
 have HM:=zaa hM
 rw [hM] at hA ⊢
 clear hvl hM hvn HAL
 go_wp2_with fail
 refine (followR w av ad M N cv c A l HS.out HL.out HM.out HN.out HRI.out ⟨by omega,by omega⟩).mono ?_
 rintro e w2 ⟨rfl,hc2⟩
 have B2:Hid (Below w.heap.size w w2):=zaa (hc2.below (Nat.le_refl _) (fun i h=>h.elim))
 clear hc2
 by_cases hr:Ris (A++l)
 · have HR:=zaa hr
   rw [decide_eq_true hr]
   clear hr
   go_wp2_with (first
    |(refine zb1 _ rfl (.tmp 24) (.tmp 25) rfl w2.heap.size (.slice none 0 0) 0 [] rfl (World.ownsRow_nil _ _ _ _) av M cv A rfl (HS.out.later B2.out) HM.out (fun e=>by have:=HVN.out e;exact ⟨List.eq_nil_of_length_eq_zero this.1,this.2⟩) M (by omega) (by omega) (Nat.le_refl _) ?_
      intro a3 c3 w3 o3 b3
      have O3:=zaa o3
      have B3:=zaa b3
      have B03:Hid (Below w.heap.size w w3):=zaa (B2.out.trans (b3.mono B2.out.size))
      clear o3 b3)
    |(refine zb1 _ rfl (.tmp 27) (.tmp 28) rfl w2.heap.size (.slice a3 M c3) M ([]++A) rfl O3.out ad N c l rfl (HL.out.later B03.out) HN.out HNO.out (M+N) rfl (by omega) B3.out.size ?_
      intro a4 c4 w4 o4 b4
      have O4:=zaa o4
      have B4:Hid (Below w.heap.size w w4):=zaa (B2.out.trans ((B3.out.trans b4).mono B2.out.size))
      clear o4 b4))
   have hok2:∀x∈A++l,OkS x:=fun x hx=>by
    rcases List.mem_append.1 hx with hx|hx
    · exact HOK.out x hx
    exact HL.out.sz x hx
   have S4:=zaa (zan (l:=A++l) O4.out hok2)
   refine (zc7 w4 a4 (M+N) c4 (A++l) S4.out (by rw [List.length_append,HM.out,HN.out]) (by omega)).mono ?_
   rintro e w5 ⟨a5,c5,D5,rfl,k5,b5⟩
   have B5:Hid (Below w.heap.size w w5):=zaa (B4.out.trans (b5.mono B4.out.size))
   rw [List.length_map]
   have hg1:(gO (gF (A++l))).length≤1000000:=by
    have h1:=zdt (okG hok2)
    rw [zbd,List.length_append,HM.out,HN.out] at h1
    omega
   have hg2:(gO (gF A)).length≤1000000:=by
    have h1:=zdt (okG HOK.out)
    rw [zbd,HM.out] at h1
    omega
   obtain ⟨P,hP⟩:∃P,(gO (gF (A++l))).length=P:=⟨_,rfl⟩
   obtain ⟨Q,hQ⟩:∃Q,(gO (gF A)).length=Q:=⟨_,rfl⟩
   rw [hP] at hg1 ⊢
   rw [hQ] at hg2
   have HPQ:=zaa (And.intro hP hQ)
   clear k5 b5 hok2 hP hQ
   go_wp2_with fail
   refine (zc7 w5 av M cv A (HS.out.later B5.out) HM.out (by omega)).mono ?_
   rintro e w6 ⟨a6,c6,D6,rfl,k6,b6⟩
   have B6:Hid (Below w.heap.size w w6):=zaa (B5.out.trans (b6.mono B5.out.size))
   rw [List.length_map,HPQ.out.2]
   clear k6 b6
   go_wp2_with fail
   go_ret2
   refine ⟨.inr (.inr ⟨hk0,HR.out,?_⟩),B6.out⟩
   rw [HPQ.out.1,HPQ.out.2]
   rfl
 have HR:=zaa hr
 rw [decide_eq_false hr]
 clear hr
 go_wp2_with fail
 go_ret2
 exact ⟨.inr (.inl ⟨hk0,HR.out,rfl⟩),B2.out⟩
theorem Ss.chg {F:Nat→Prop} {w w':World} {ad:Option Addr} {l:List Sm} (h:Ss w ad l) (hc:Chg F w w') (hF:∀z,ad=some z→¬F z.block):Ss w' ad l:=by
 refine ⟨h.sz,fun h0=>?_⟩
 obtain ⟨b,off,e,hlt,hcc⟩:=h.at' h0
 refine ⟨b,off,e,Nat.lt_of_lt_of_le hlt hc.size,fun i x hx=>?_⟩
 obtain ⟨k1,k2⟩:=hcc i x hx
 have hb:=hc.block b hlt (hF _ e)
 exact ⟨by rw [World.cell?_of_block (w:=w) (a:=⟨b,_,none⟩) hb];exact k1,by rw [World.cell?_of_block (w:=w) (a:=⟨b,_,none⟩) hb];exact k2⟩
theorem Ss.chgN {F:Nat→Prop} {w w':World} {ad:Option Addr} {l:List Sm} (h:Ss w ad l) (hc:Chg F w w') (hF:∀z,ad=some z→l≠[]→¬F z.block):Ss w' ad l:=by
 by_cases h0:l=[]
 · subst h0;exact Ss.nil _ _
 exact h.chg hc (fun z hz=>hF z hz h0)
structure A3 (F:Nat→Prop) (w w3:World) (d r:Nat) (v:Value) (X:List Dv) (i:Nat) (o:ByteArray) (k:Int) (sl:List Nat) (A:List Sm) (E:List De) (va vs:Value):Prop where
 ds:DS w3 d r v X
 at':X[i]?=some ((o,k,A,sl),va,vs)
 chg:Chg F w w3
 df:∀b,DF d v X b→F b∨w.heap.size≤b
 es:∀l' sl' o',(zE ((esD X).set i (o,k,l',sl')) o').Perm (setZ (zE E) o k (sl',l') o')
 len:X.length≤E.length+1
section
variable {F:Nat→Prop} {w w3 w6 w8 wx wy:World} {d r q n g N c i:Nat} {v va vs:Value} {X:List Dv} {o:ByteArray} {k:Int} {sl:List Nat} {A l:List Sm} {E:List De} {st sti:K.Sx} {B:Nat→Value}
theorem a3_old {e:De} (h1:DS w d r v X) (hF:∀b,DF d v X b→F b) (hz:SZ n st (zE (esD X))) (hi:(esD X)[i]?=some e) (ho:e.1=o) (hk:e.2.1=k):∃va vs,A3 F w w d r v X i o k (enL (zE (esD X) o) k).1 (enL (zE (esD X) o) k).2 (esD X) va vs:=by
 obtain ⟨o1,k1,l1,sl1⟩:=e
 dsimp only at ho hk
 subst ho hk
 have hil:=(List.getElem?_eq_some_iff.1 hi).1
 unfold esD at hil
 rw [List.length_map] at hil
 obtain ⟨x,hx⟩:∃x,X[i]?=some x:=⟨X[i],by simp⟩
 have hxe:x.1=(o1,k1,l1,sl1):=by
  have:=esD_at hx
  rw [hi] at this
  exact (Option.some.inj this).symm
 have e0:enL (zE (esD X) o1) k1=(sl1,l1):=enL_in (hz.key o1) (e:=enD (o1,k1,l1,sl1)) (zE_mem (List.mem_of_getElem? hi))
 obtain ⟨x1,va,vs⟩:=x
 dsimp only at hxe
 subst hxe
 rw [e0]
 exact ⟨va,vs,h1,hx,Chg.refl _ _,fun b hb=>.inl (hF b hb),fun l' sl' o'=>zE_set hi (hz.key o1) o',by simp [esD]⟩
theorem a3_new {ob:Obj} {g6 c6:Nat} (h1:DS w d r v X) (hF:∀b,DF d v X b→F b) (hno:∀e∈esD X,¬(e.1=o∧e.2.1=k)) (h9:w6.ownsRow 0 114 4 (.slice (some ⟨g6,0,none⟩) (X.length+1) c6) (X.length+1) (dCs X++[.string o,.int .i64 k,.slice none 0 0,.slice none 0 0])) (hp:Pushed (w.alloc ob) w6 v g6):
 A3 F w (w6.setCell ⟨d,1,none⟩ (.slice (some ⟨g6,0,none⟩) (X.length+1) c6)) d r (.slice (some ⟨g6,0,none⟩) (X.length+1) c6) (X++[((o,k,[],[]),.slice none 0 0,.slice none 0 0)]) X.length o k [] [] (esD X) (.slice none 0 0) (.slice none 0 0)∧Chg (fun b=>b=d∨v.ownBlock=some b) w (w6.setCell ⟨d,1,none⟩ (.slice (some ⟨g6,0,none⟩) (X.length+1) c6)):=by
 obtain ⟨k1,k2,k3⟩:=h1.add h9 hp
 refine ⟨⟨k1,by simp,k2.mono (fun b _ e=>?_),fun b hb=>?_,fun l' sl' o'=>?_,by simp [esD]⟩,k2⟩
 · rcases e with rfl|e
   · exact hF _ (.inl rfl)
   exact hF b (.inr (.inl e))
 · rcases hb with rfl|hb|⟨x,hx,hb⟩
   · exact .inl (hF _ (.inl rfl))
   · rcases k3 with e|⟨g,e,hg⟩
     · exact .inl (hF b (.inr (.inl (by rw [←hb];exact e.symm))))
     cases e
     cases hb
     exact .inr hg
   rcases List.mem_append.1 hx with hx|hx
   · exact .inl (hF b (.inr (.inr ⟨x,hx,hb⟩)))
   rw [List.mem_singleton.1 hx] at hb
   rcases hb with hb|hb <;> cases hb
 have e1:esD (X++[((o,k,[],[]),.slice none 0 0,.slice none 0 0)])=esD X++[(o,k,[],[])]:=by simp [esD]
 rw [e1,List.set_append_right _ _ (by simp [esD]),show X.length - (esD X).length=0 by simp [esD],List.set_cons_zero]
 exact zE_new hno l' sl' o'
theorem esD_set (X:List Dv) (i:Nat) (y:Dv):esD (X.set i y)=(esD X).set i y.1:=by simp [esD,List.map_set]
theorem A3.upd {y:Value×Value} {l':List Sm} {sl':List Nat} (h:A3 F w w3 d r v X i o k sl A E va vs) (hc:Chg (fun b=>v.ownBlock=some b∨vs.ownBlock=some b) w3 wy) (hw:wy.ownsRow 0 114 4 v X.length (dCs (X.set i ((o,k,l',sl'),y))))
 (hs:wy.ownsRow 0 53 2 y.1 l'.length (cS l')) (ht:wy.ownsRow 0 3 1 y.2 sl'.length (cI sl')) (ha:Moved w3 vs.ownBlock y.2.ownBlock) (hm:∀b,y.1.ownBlock=some b→va.ownBlock=some b∨w3.heap.size≤b):A3 F w wy d r v (X.set i ((o,k,l',sl'),y)) i o k sl' l' E y.1 y.2:=by
 have hil:=(List.getElem?_eq_some_iff.1 h.at').1
 have hx:=List.mem_of_getElem? h.at'
 have hsz:=h.chg.size
 refine ⟨h.ds.upd h.at' hc hw hs ht ha,by rw [List.getElem?_set_self hil],h.chg.trans hc (fun b hb e=>?_),fun b hb=>?_,fun l2 sl2 o'=>?_,by rw [List.length_set];exact h.len⟩
 · rcases e with e|e
   · rcases h.df b (.inr (.inl e)) with e|e
     · exact e
     omega
   rcases h.df b (.inr (.inr ⟨_,hx,.inr e⟩)) with e|e
   · exact e
   omega
 · rcases hb with rfl|hb|⟨x,hx',hb⟩
   · exact h.df _ (.inl rfl)
   · exact h.df b (.inr (.inl hb))
   rcases List.mem_or_eq_of_mem_set hx' with hx'|rfl
   · exact h.df b (.inr (.inr ⟨x,hx',hb⟩))
   rcases hb with hb|hb
   · rcases hm b hb with e|e
     · exact h.df b (.inr (.inr ⟨_,hx,.inl e⟩))
     exact .inr (Nat.le_trans hsz e)
   rcases ha with e|⟨b2,e,h2⟩
   · exact h.df b (.inr (.inr ⟨_,hx,.inr (by rw [←e];exact hb)⟩))
   simp only at hb
   rw [hb] at e
   cases e
   exact .inr (Nat.le_trans hsz h2)
 rw [esD_set,List.set_set]
 exact h.es l2 sl2 o'
theorem A3.later (h:A3 F w w3 d r v X i o k sl A E va vs) (hb:Below w3.heap.size w3 wy):A3 F w wy d r v X i o k sl A E va vs:=
 ⟨h.ds.later hb,h.at',h.chg.trans (Chg.of_below (F:=fun _=>False) hb) (fun _ _ e=>e.elim),h.df,h.es,h.len⟩
theorem A3.row (h:A3 F w w3 d r (.slice (some ⟨g,0,none⟩) N c) X i o k sl A E va vs):N=X.length∧w3.cell? ⟨d,0,none⟩=some (.pointer (some ⟨r,0,none⟩))∧w3.cell? ⟨d,1,none⟩=some (.slice (some ⟨g,0,none⟩) N c)∧w3.cell? ⟨g,i*4+2,none⟩=some va∧w3.cell? ⟨g,i*4+3,none⟩=some vs:=by
 have h1:=h.ds.row
 have hN:N=X.length:=by
  rcases h1.2 with ⟨e,_⟩|⟨g',cap,cur,e,_⟩
  · cases e
  injection e
 refine ⟨hN,h.ds.blk.cell 0,h.ds.blk.cell 1,?_,?_⟩
 · subst hN
   exact zai h1 (i*4+2) _ (by have:=zcr X i 2 _ h.at' (by omega);simpa [dC] using this)
 subst hN
 exact zai h1 (i*4+3) _ (by have:=zcr X i 3 _ h.at' (by omega);simpa [dC] using this)
theorem zem {w:World} {base e s g n m c:Nat} {xs:List Value} (h:w.ownsRow base e s (.slice (some ⟨g,0,none⟩) n c) m xs) (j:Nat):w.frozen? ⟨g,j,none⟩=false:=by
 rcases h.2 with ⟨h0,_⟩|⟨g',c',cur,hv,_,hh,_⟩
 · cases h0
 simp only [Value.slice.injEq,Option.some.injEq,Addr.mk.injEq] at hv
 obtain ⟨⟨rfl,_⟩,_⟩:=hv
 exact frozen_of_row w g j _ e hh
theorem A3.setL {vl:Value} (h:A3 F w w3 d r (.slice (some ⟨g,0,none⟩) N c) X i o k sl A E va vs) (hb:Below w3.heap.size w3 w8) (hl:w8.ownsRow w3.heap.size 53 2 vl l.length (cS l)):
 A3 F w (w8.setCell ⟨g,i*4+2,none⟩ vl) d r (.slice (some ⟨g,0,none⟩) N c) (X.set i ((o,k,l,sl),vl,vs)) i o k sl l E vl vs∧Chg (fun b=>b=g) w3 (w8.setCell ⟨g,i*4+2,none⟩ vl):=by
 have h8:=h.later hb
 have hN:=h.row.1
 have hx:=List.mem_of_getElem? h.at'
 have hgt:Tg w8 g 114:=zab h8.ds.row g rfl
 have cs:Chg (fun b=>b=g) w8 (w8.setCell ⟨g,i*4+2,none⟩ vl):=Chg.set ⟨g,i*4+2,none⟩ vl w8
 refine ⟨A3.upd (y:=(vl,vs)) h ((Chg.of_below (F:=fun b=>(Value.slice (some ⟨g,0,none⟩) N c).ownBlock=some b∨vs.ownBlock=some b) hb).trans cs (fun b _ e=>.inl (by rw [show b=g from e];rfl))) ?_ ?_ ?_ (.inl rfl) (fun b hb'=>.inr (hl.lt b hb').1),(Chg.of_below (F:=fun b=>b=g) hb).trans cs (fun _ _ e=>e)⟩
 · have h1:=h8.ds.row
   rw [←hN] at h1 ⊢
   have h2:=zdp h1 (i*4+2) vl
   rw [dCs_set X i _ 2 vl h.at' (by omega) ((o,k,l,sl),vl,vs) (by simp [dC])] at h2
   exact h2
 · have h1:=cs.owns hl (fun b hb' e=>by rw [show b=g from e] at hb';have:=(zab hl g hb').one hgt;cases this)
   rcases h1.2 with e|⟨g',cap,cur,e1,e2,e3⟩
   · exact ⟨h1.1,.inl e⟩
   exact ⟨h1.1,.inr ⟨g',cap,cur,e1,Nat.zero_le _,e3⟩⟩
 exact cs.owns (h8.ds.slt _ hx) (fun b hb' e=>by rw [show b=g from e] at hb';have:=(zab (h8.ds.slt _ hx) g hb').one hgt;cases this)
theorem A3.push {ob:Obj} {s g9 c9:Nat} (h:A3 F w w3 d r (.slice (some ⟨g,0,none⟩) N c) X i o k sl A E va vs) (ho:w8.ownsRow 0 3 1 (.slice (some ⟨g9,0,none⟩) (sl.length+1) c9) (sl.length+1) (cI sl++[.int .i64 (s:Int)])) (hp:Pushed (w3.alloc ob) w8 vs g9):
 A3 F w (w8.setCell ⟨g,i*4+3,none⟩ (.slice (some ⟨g9,0,none⟩) (sl.length+1) c9)) d r (.slice (some ⟨g,0,none⟩) N c) (X.set i ((o,k,A,sl++[s]),va,.slice (some ⟨g9,0,none⟩) (sl.length+1) c9)) i o k (sl++[s]) A E va (.slice (some ⟨g9,0,none⟩) (sl.length+1) c9)∧Chg (fun b=>b=g∨vs.ownBlock=some b) w3 (w8.setCell ⟨g,i*4+3,none⟩ (.slice (some ⟨g9,0,none⟩) (sl.length+1) c9))∧Moved w3 vs.ownBlock (some g9):=by
 obtain ⟨k1,k2⟩:=hp.chg
 have hN:=h.row.1
 have hx:=List.mem_of_getElem? h.at'
 have hst:=h.ds.slt _ hx
 have hsm:=h.ds.smp _ hx
 simp only at hst hsm
 have hgt:Tg w3 g 114:=zab h.ds.row g rfl
 have hvg:∀b t,Tg w3 b t→¬t=3→¬vs.ownBlock=some b:=fun b t ht h1 e=>h1 (ht.one (zab hst b e))
 have hg8:Tg w8 g 114:=hgt.chg k1 (hvg g 114 hgt (by decide))
 have cs:Chg (fun b=>b=g) w8 (w8.setCell ⟨g,i*4+3,none⟩ (.slice (some ⟨g9,0,none⟩) (sl.length+1) c9)):=Chg.set ⟨g,i*4+3,none⟩ _ w8
 have ct:Chg (fun b=>b=g∨vs.ownBlock=some b) w3 (w8.setCell ⟨g,i*4+3,none⟩ (.slice (some ⟨g9,0,none⟩) (sl.length+1) c9)):=(k1.mono (fun b _ e=>.inr e)).trans cs (fun b _ e=>.inl e)
 have hg9:∀b,(Value.slice (some ⟨g9,0,none⟩) (sl.length+1) c9).ownBlock=some b→b=g9:=fun b hb=>by cases hb;rfl
 refine ⟨A3.upd (y:=(va,.slice (some ⟨g9,0,none⟩) (sl.length+1) c9)) h (ct.mono (fun b _ e=>e.imp (fun e=>by rw [e];rfl) id)) ?_ ?_ ?_ ?_ (fun b hb=>.inl hb),ct,k2⟩
 · have h1:=k1.owns h.ds.row (fun b hb e=>by cases hb;exact hvg g 114 hgt (by decide) e)
   rw [←hN] at h1 ⊢
   have h2:=zdp h1 (i*4+3) (.slice (some ⟨g9,0,none⟩) (sl.length+1) c9)
   rw [dCs_set X i _ 3 _ h.at' (by omega) ((o,k,A,sl++[s]),va,.slice (some ⟨g9,0,none⟩) (sl.length+1) c9) (by simp [dC])] at h2
   exact h2
 · refine ct.owns hsm (fun b hb e=>?_)
   have ht:=zab hsm b hb
   rcases e with e|e
   · rw [e] at ht
     have:=ht.one hgt
     cases this
   exact hvg b 53 ht (by decide) e
 · have e:cI (sl++[s])=cI sl++[.int .i64 (s:Int)]:=by simp [cI]
   rw [e,List.length_append]
   refine cs.owns ho (fun b hb e2=>?_)
   have ht:=zab ho b hb
   rw [show b=g from e2] at ht
   have:=ht.one hg8
   cases this
 exact k2
theorem A3.pool (h:A3 F w w3 d r v X i o k sl A E va vs) (hp:K.RP w3 r q n sti B) (hF:F q) (hc:Chg (fun b=>b=q) w3 wy):A3 F w wy d r v X i o k sl A E va vs:=by
 refine ⟨h.ds.chg hc (fun b hb e=>?_),h.at',h.chg.trans hc (fun b _ e=>by rw [show b=q from e];exact hF),h.df,h.es,h.len⟩
 have hq:=hp.row.tg
 rw [←show b=q from e] at hq
 rcases (DF.tag h.ds hb).2 with ht|ht|ht|ht <;> (have:=ht.one hq;cases this)
end
theorem step_appS (w:World) {ops:Array Oper} {o:Oper} {a:Act} {K:Act→World→Prop} {Q:Exit→Act→World→Prop} {E:Prop} (hgd:o.guard=none) (s x:Operand)
 (ho:o.op=.call { callee:=.builtin .append,args:=#[s,x],argTypes:=#[46,46] }) (base:Nat) (v:Value) (n:Nat) (xs:List Sm) (hs:a.eval s=v) (hown:w.ownsRow base 53 2 v n (cS xs))
 (ad:Addr) (m c:Nat) (l:List Sm) (hx:a.eval x=.slice (some ad) m c) (hL:Ss w (some ad) l) (hm:l.length=m) (hb:(n+m)*16≤140737488355328) (hbase:base≤w.heap.size)
 (h:∀a' c' w',w'.ownsRow base 53 2 (.slice a' (n+m) c') (n+m) (cS (xs++l))→Below base w w'→K (a.put o.dst (.slice a' (n+m) c')) w'):
 if Region.wanted o (yielded ops a.tmps)=true then Oper.wp Tryz.prog o a w K Q else E:=by
 have hw:Region.wanted o (yielded ops a.tmps)=true:=by simp [Region.wanted,hgd]
 rw [if_pos hw]
 obtain ⟨i0,hi0,hz0,hz1,hz2⟩:=info_parts info32
 obtain ⟨v',w',hr,h1,h2,h3⟩:=run_append_own (P:=Tryz.prog) w base 46 o.type 53 i0 (.agg #[.int .i64 0,.int .u64 0]) 2 16 Tryz.underlying46 hi0 hz0 hz1 hz2 rfl (by decide) v n (cS xs) hown ad m c (cS l) (by rw [za9,hm]) hL.cells' (cS_one l) (by unfold maxLen;omega) hb hbase
 obtain ⟨a',c',rfl,_⟩:=za3 h1
 unfold Oper.wp
 simp [execOp,ho,resolve,invoke,builtin,hs,hx,hr,Result.andThen]
 exact h a' c' w' (by rw [zbs];exact h1) ((Below.refl _ _).grown h2 hbase (fun k hk=>(hown.lt k hk).1))
def ApD (F:Nat→Prop) (w:World) (d r n:Nat) (st:K.Sx) (E:List De) (o:ByteArray) (k:Int) (A l:List Sm) (t:Nat) (w':World):Prop:=
 ∃F' st' E' sl',DQr F' w' d r n st' E'∧Chg F w w'∧K.Nw w F F'∧(K.tkL st' n).length=(K.tkL st n).length+t∧(∀o',(zE E' o').Perm (setZ (zE E) o k (sl',A++l) o'))∧E'.length≤E.length+1
def ApV (F:Nat→Prop) (w:World) (d r n:Nat) (st:K.Sx) (E:List De) (o:ByteArray) (k:Int) (A l:List Sm) (a b lf:Nat) (e:Ending) (w':World):Prop:=
 (Below w.heap.size w w'∧((k<0∧e=.returned (.int .i64 1))∨(0≤k∧¬Ris (A++l)∧e=.returned (.int .i64 140))∨(0≤k∧Ris (A++l)∧lf+a<b∧e=.returned (.int .i64 110))∨(0≤k∧Ris (A++l)∧l=[]∧e=.returned (.int .i64 0))))∨
 (0≤k∧Ris (A++l)∧l≠[]∧b≤lf+a∧e=.returned (.int .i64 0)∧ApD F w d r n st E o k A l (b - a) w')
def LI (F:Nat→Prop) (w w5:World) (d r q n:Nat) (v:Value) (X:List Dv) (i:Nat) (o:ByteArray) (k:Int) (st:K.Sx) (B:Nat→Value) (sl:List Nat) (A l:List Sm) (E:List De) (va vs0:Value) (j:Nat) (wx:World):Prop:=
 ∃news sti Bi vs X',AI n o st sl A l j news sti∧K.RP wx r q n sti Bi∧A3 F w wx d r v X' i o k (sl++news) (A++l) E va vs∧Moved w5 vs0.ownBlock vs.ownBlock∧K.Nw w5 (K.RG st B) (K.RG sti Bi)∧Chg (fun b=>b=q∨v.ownBlock=some b∨vs0.ownBlock=some b) w5 wx
def CI (F:Nat→Prop) (w w5:World) (d r q n:Nat) (v:Value) (X:List Dv) (i:Nat) (o:ByteArray) (k:Int) (st:K.Sx) (B:Nat→Value) (sl:List Nat) (A l:List Sm) (E:List De) (va vs0:Value) (j:Nat) (b:List Int) (wx:World):Prop:=
 ∃news sti Bi vs X' s d0,sti s=some (o,d0)∧s<n∧(sl++news)[j]?=some s∧AI n o st sl A l (j+1) news (K.upS sti s (some (o,strOfNums b)))∧K.RP wx r q n sti Bi∧A3 F w wx d r v X' i o k (sl++news) (A++l) E va vs∧Moved w5 vs0.ownBlock vs.ownBlock∧K.Nw w5 (K.RG st B) (K.RG sti Bi)∧Chg (fun b=>b=q∨v.ownBlock=some b∨vs0.ownBlock=some b) w5 wx
theorem cI_at {l:List Nat} {j s:Nat} (h:l[j]?=some s):(cI l)[j]?=some (.int .i64 (s:Int)):=by
 unfold cI
 rw [List.getElem?_map,h]
 rfl
theorem ci_new {F:Nat→Prop} {w w5 wr w7 w9:World} {d r q n g N3 c3:Nat} {X Xi:List Dv} {i:Nat} {o:ByteArray} {k:Int} {st sti:K.Sx} {B Bi B7:Nat→Value} {sl news:List Nat} {A l:List Sm} {E:List De} {va vs0:Value} {j jj LN g9 c9 cs':Nat} {as':Option Addr} {b:List Int} {gg:List Sm}
 (hAI:AI n o st sl A l j news sti) (hLN:(sl++news).length=LN) (h1:sl.length≤j) (h2:LN=j) (h3:jj<n) (hAT:AI n o st sl A l (j+1) (news++[jj]) (K.upS (K.upS sti jj (some (o,K.emp))) jj (some (o,strOfNums (encC gg))))) (hb:encC gg=b)
 (p1:K.RP w7 r q n (K.upS sti jj (some (o,K.emp))) B7) (p2:Chg (fun i=>i=q) wr w7) (p3:K.Nw wr (K.RG sti Bi) (K.RG (K.upS sti jj (some (o,K.emp))) B7)) (h7:A3 F w w7 d r (.slice (some ⟨g,0,none⟩) N3 c3) Xi i o k (sl++news) (A++l) E va (.slice as' LN cs'))
 (hst:wr.ownsRow 0 3 1 (.slice as' (sl++news).length cs') (sl++news).length (cI (sl++news))) (mv:Moved w5 vs0.ownBlock (Value.slice as' (sl++news).length cs').ownBlock) (nw:K.Nw w5 (K.RG st B) (K.RG sti Bi)) (ch:Chg (fun b=>b=q∨(Value.slice (some ⟨g,0,none⟩) N3 c3).ownBlock=some b∨vs0.ownBlock=some b) w5 wr)
 (q1:A3 F w w9 d r (.slice (some ⟨g,0,none⟩) N3 c3) (Xi.set i ((o,k,A++l,sl++news++[jj]),va,.slice (some ⟨g9,0,none⟩) (LN+1) c9)) i o k (sl++news++[jj]) (A++l) E va (.slice (some ⟨g9,0,none⟩) (LN+1) c9))
 (q2:Chg (fun b=>b=g∨(Value.slice as' LN cs').ownBlock=some b) w7.drew w9) (q3:Moved w7.drew (Value.slice as' LN cs').ownBlock (some g9)):CI F w w5 d r q n (.slice (some ⟨g,0,none⟩) N3 c3) X i o k st B sl A l E va vs0 j b w9:=by
 have hgt:Tg w7 g 114:=zab h7.ds.row g rfl
 have hx:=h7.ds.slt _ (List.mem_of_getElem? h7.at')
 have hvt:∀b,(Value.slice as' LN cs').ownBlock=some b→Tg w7 b 3:=fun b e=>zab hx b e
 have hT:∀b t,Tg w7 b t→¬t=114→¬t=3→¬(b=g∨(Value.slice as' LN cs').ownBlock=some b):=by
  rintro b t ht a1 a2 (e|e)
  · rw [e] at ht
    exact a1 (ht.one hgt)
  exact a2 (ht.one (hvt b e))
 have q2':Chg (fun b=>b=g∨(Value.slice as' LN cs').ownBlock=some b) w7 w9:=(Chg.drew _ w7).trans q2 (fun _ _ e=>e)
 have s1:=ch.size
 have s2:=p2.size
 rw [hLN] at mv
 refine ⟨news++[jj],_,B7,_,_,jj,K.emp,zc1 _ _ _,h3,?_,by rw [hb] at hAT;exact hAT,p1.chg q2' (hT r 72 p1.blk.tg (by decide) (by decide)) (hT q 116 p1.row.tg (by decide) (by decide)) (fun b hb=>hT b 5 (K.RG.tg p1 hb) (by decide) (by decide)),by rw [←List.append_assoc];exact q1,?_,nw.trans p3 s1,?_⟩
 · rw [←List.append_assoc,List.getElem?_append_right (by omega),hLN,h2,Nat.sub_self]
   rfl
 · exact mv.trans q3 (show w5.heap.size≤w7.heap.size by omega)
 refine (ch.trans p2 (fun b _ e=>.inl e)).trans q2' (fun b hb e=>?_)
 rcases e with e|e
 · exact .inr (.inl (by rw [e];rfl))
 rcases mv with e2|⟨b2,e2,hb2⟩
 · exact .inr (.inr (by rw [←e2];exact e))
 rw [e2] at e
 cases e
 omega
theorem appendQ (o:ByteArray) (k:Int) (F:Nat→Prop) (d r n:Nat) (st:K.Sx) (E:List De) (w:World) (h:DQr F w d r n st E) (hE:E.length≤100000) (hA:(enL (zE E o) k).2.length≤400000)
 (ad:Option Addr) (N c:Nat) (l:List Sm) (hL:Ss w ad l) (hN:l.length=N) (hN9:N≤100000) (hno:ad=none→l=[]∧c=0) (hap:∀z,ad=some z→l≠[]→¬F z.block):
 Calls Tryz.prog 45 #[.pointer (some ⟨d,0,none⟩),.string o,.int .i64 k,.slice ad N c] w (ApV F w d r n st E o k (enL (zE E o) k).2 l (gO (gF (enL (zE E o) k).2)).length (gO (gF ((enL (zE E o) k).2++l))).length (n - (K.tkL st n).length)):=by
 have HND:=zaa (needsQ o k F d n st E w h.dq (by omega) (by omega) ad N c l hL hN (by omega) hno)
 have hsz:=h.sz
 have hen:=hsz.en o k
 have hlen:=hsz.hlen o k
 have hfew:=hsz.few o k
 obtain ⟨q,B,v,X,h1,rfl,h3,h4,h5⟩:=h
 have hn1:=h3.n1
 have hFq:F q:=(h5 q).2 (.inr (.inr (.inl rfl)))
 have hX:X.length≤100000:=by unfold esD at hE;rw [List.length_map] at hE;exact hE
 have HA3o:Hid (∀wx,Below w.heap.size w wx→∀i e,(esD X)[i]?=some e→e.1=o→e.2.1=k→∃va vs,A3 F wx wx d r v X i o k (enL (zE (esD X) o) k).1 (enL (zE (esD X) o) k).2 (esD X) va vs):=zaa (fun wx hb i e hi ho hk=>a3_old (h1.later hb) (fun b hb=>(h5 b).2 (.inl hb)) hsz hi ho hk)
 have HPL:=zaa (fun (wx:World) (hb:Below w.heap.size w wx)=>placeR o k d r v X wx (h1.later hb) (by omega))
 have HLF:=zaa (fun (wx:World) (hb:Below w.heap.size w wx)=>K.leftR r q n st B wx (h3.later hb))
 have HRP:=zaa h3
 have HDS:=zaa h1
 have H5:=zaa h5
 have HSZ:=zaa hsz
 have HEN:=zaa hen
 have HLEN:=zaa hlen
 have HL:=zaa hL
 have HN:=zaa hN
 have HNO:=zaa hno
 have HAP:=zaa hap
 have htl:=K.tkL_len st n
 obtain ⟨av,cv,hv⟩:=zbk h1.row
 subst hv
 obtain ⟨XN,hXN⟩:∃XN,X.length=XN:=⟨_,rfl⟩
 have HXN:=zaa hXN
 have HC:Hid (∀wx,Below w.heap.size w wx→wx.cell? ⟨d,0,none⟩=some (.pointer (some ⟨r,0,none⟩))∧wx.cell? ⟨d,1,none⟩=some (.slice av XN cv)∧wx.frozen? ⟨d,1,none⟩=false):=zaa (fun wx hb=>by
  rw [←hXN]
  exact ⟨(h1.later hb).blk.cell 0,(h1.later hb).blk.cell 1,(h1.later hb).blk.frozen 1⟩)
 rw [hXN] at hX
 obtain ⟨lf,hlf⟩:∃lf,n - (K.tkL st n).length=lf:=⟨_,rfl⟩
 rw [hlf] at HLF ⊢
 have HLFE:=zaa hlf
 have hok2:∀x∈(enL (zE (esD X) o) k).2++l,OkS x:=fun x hx=>by
  rcases List.mem_append.1 hx with hx|hx
  · exact hen.2.2.1 x hx
  exact hL.sz x hx
 have HOK:=zaa hok2
 have hg1:(gO (gF ((enL (zE (esD X) o) k).2++l))).length≤500000:=by
  have h9:=zdt (okG hok2)
  rw [zbd,List.length_append,hN] at h9
  omega
 have hg2:(gO (gF (enL (zE (esD X) o) k).2)).length≤400000:=by
  have h9:=zdt (okG hen.2.2.1)
  rw [zbd] at h9
  omega
 obtain ⟨A,hAe⟩:∃A,(enL (zE (esD X) o) k).2=A:=⟨_,rfl⟩
 obtain ⟨sl,hsl⟩:∃sl,(enL (zE (esD X) o) k).1=sl:=⟨_,rfl⟩
 rw [hAe] at hA HND HA3o HEN HLEN HOK hg1 hg2 ⊢
 rw [hsl] at HA3o HEN HLEN hfew
 have HAE:=zaa (And.intro hAe hsl)
 obtain ⟨G1,hG1⟩:∃G1,(gO (gF (A++l))).length=G1:=⟨_,rfl⟩
 obtain ⟨G0,hG0⟩:∃G0,(gO (gF A)).length=G0:=⟨_,rfl⟩
 unfold NdR at HND
 rw [hG1] at hg1
 rw [hG0] at hg2
 rw [hG1,hG0] at HND ⊢
 have HG:=zaa (And.intro hG1 hG0)
 clear h1 h3 h4 h5 hsz hen hlen hE hL hN hno hap hlf hok2 hAe hsl hG1 hG0 hXN
 go_enter Tryz.func45,Tryz.ntmps45
 go_wp2_with fail
 refine HND.out.mono ?_
 rintro e w1 ⟨hnd,b1⟩
 have B1:=zaa b1
 clear b1 HND
 rcases hnd with ⟨hk,rfl⟩|⟨hk,hr,rfl⟩|⟨hk,hr,rfl⟩
 · have HK:=zaa hk
   clear hk
   go_wp2_with fail
   go_ret
   unfold ApV
   exact .inl ⟨B1.out,.inl ⟨HK.out,rfl⟩⟩
 · have HK:=zaa (And.intro hk hr)
   clear hk hr
   go_wp2_with fail
   go_ret
   unfold ApV
   exact .inl ⟨B1.out,.inr (.inl ⟨HK.out.1,HK.out.2,rfl⟩)⟩
 have HK:=zaa (And.intro hk hr)
 clear hk hr
 obtain ⟨cd0,cd1,cdf⟩:=HC.out w1 B1.out
 obtain ⟨nd,hnd⟩:∃nd:Int,(G1:Int) - (G0:Int)=nd:=⟨_,rfl⟩
 rw [hnd]
 have HNDE:=zaa hnd
 have hndb:nd≤500000∧-400000≤nd:=by omega
 clear hnd
 go_wp2_with fail
 refine (HLF.out w1 B1.out).mono ?_
 rintro e w2 ⟨rfl,hw2⟩
 obtain rfl:=hw2.symm
 clear hw2
 by_cases hlt:nd > (lf:Int)
 · have HLT:=zaa hlt
   go_wp2_with fail
   go_ret
   unfold ApV
   refine .inl ⟨B1.out,.inr (.inr (.inl ⟨HK.out.1,HK.out.2,?_,rfl⟩))⟩
   have q1:=HLT.out
   have q2:=HNDE.out
   omega
 have HLT:=zaa hlt
 by_cases hl0:N=0
 · subst hl0
   go_wp2_with fail
   go_ret
   unfold ApV
   exact .inl ⟨B1.out,.inr (.inr (.inr ⟨HK.out.1,HK.out.2,List.eq_nil_of_length_eq_zero HN.out,rfl⟩))⟩
 have hl0z:((N:Int)==0)=false:=by simpa using hl0
 have HL0:=zaa hl0
 clear hl0
 go_wp2_with fail
 refine (HPL.out w1 B1.out).mono ?_
 rintro e w3 ⟨⟨z,rfl,hpl⟩,hw⟩
 obtain rfl:=hw.symm
 clear hw
 have B1s:=B1.out.size
 go_upto_if 43 with fail
 go_cut [11] from 42 to 60 (fun s11 wx=>∃i:Nat,s11=.int .i64 (i:Int)∧Hid (∃v3 X3 va vs,A3 F w1 wx d r v3 X3 i o k sl A (esD X) va vs∧K.RP wx r q n st B))
 case first=>
  rcases hpl with ⟨rfl,hno⟩|⟨i,e,rfl,hi,ho,hk⟩
  · have HNX:=zaa hno
    clear hno
    go_wp2_with (first
     |(refine zd5 _ rfl (.tmp 53) (.tmp 57) rfl 0 (.slice av XN cv) XN (dCs X) rfl w1 (by rw [←HXN.out];exact (HDS.out.later B1.out).row) ((o,k,[],[]),.slice none 0 0,.slice none 0 0) rfl rfl rfl rfl (by omega) (Nat.zero_le _) ?_
       intro g6 c6 w6 o6 p6
       have P6:=zaa (And.intro o6 p6)
       have k6:w6.cell? ⟨d,1,none⟩=some (.slice av XN cv)∧w6.frozen? ⟨d,1,none⟩=false:=by
        have hd:=HDS.out.later B1.out
        have:=p6.chg.1.blk hd.blk (fun e=>by have:=(zab hd.row d (by rw [HXN.out];exact e)).one hd.blk.tg;cases this)
        exact ⟨by rw [this.cell 1,HXN.out];rfl,this.frozen 1⟩
       obtain ⟨k61,k62⟩:=k6
       clear o6 p6))
    go_meet
    refine ⟨XN,rfl,zaa ?_⟩
    have h9:=P6.out.1
    obtain ⟨q1,q2⟩:=a3_new (F:=F) (HDS.out.later B1.out) (fun b hb=>(H5.out b).2 (.inl hb)) HNX.out (by rw [HXN.out];exact P6.out.1) (by rw [HXN.out];exact P6.out.2)
    rw [HXN.out] at q1 q2
    have e0:=zgm (zE_out HNX.out)
    rw [show sl=[] by rw [←HAE.out.2,e0],show A=[] by rw [←HAE.out.1,e0]]
    refine ⟨_,_,_,_,q1,(HRP.out.later B1.out).chg q2 ?_ ?_ ?_⟩
    · rintro (e|e)
      · exact (HRP.out.blk.tg.ne HDS.out.blk.tg (by decide)) e
      have:=(zab HDS.out.row r (by rw [HXN.out];exact e)).one HRP.out.blk.tg
      cases this
    · rintro (e|e)
      · exact (HRP.out.row.tg.ne HDS.out.blk.tg (by decide)) e
      have:=(zab HDS.out.row q (by rw [HXN.out];exact e)).one HRP.out.row.tg
      cases this
    rintro b hb (e|e)
    · exact ((K.RG.tg HRP.out hb).ne HDS.out.blk.tg (by decide)) e
    have:=(zab HDS.out.row b (by rw [HXN.out];exact e)).one (K.RG.tg HRP.out hb)
    cases this
  have hiz:¬(i:Int)<0:=by omega
  obtain ⟨va,vs,ha⟩:=HA3o.out w1 B1.out i e hi ho hk
  have HA:=zaa ha
  clear hi ho hk ha
  go_wp2_with fail
  go_meet
  exact ⟨i,rfl,zaa ⟨_,_,va,vs,HA.out,HRP.out.later B1.out⟩⟩
 case rest=>
  rename World=>w3
  obtain ⟨i,rfl,hA3⟩:=hcut
  obtain ⟨v3,X3,va,vs0,a3,rp3⟩:=hA3.out
  clear hA3 hpl HPL HLF HA3o HC cd0 cd1 cdf
  obtain ⟨g,c3,rfl⟩:∃g c3,v3=.slice (some ⟨g,0,none⟩) X3.length c3:=by
   have hil:=(List.getElem?_eq_some_iff.1 a3.at').1
   rcases a3.ds.row.2 with ⟨e1,e2⟩|⟨g,cap,cur,hv,_⟩
   · omega
   exact ⟨g,cap,hv⟩
  have hil:=(List.getElem?_eq_some_iff.1 a3.at').1
  have hX3:X3.length≤100001:=by
   have:=a3.len
   unfold esD at this
   rw [List.length_map,HXN.out] at this
   omega
  obtain ⟨-,cd0,cd1,k2,k3⟩:=a3.row
  have hsm:=a3.ds.smp _ (List.mem_of_getElem? a3.at')
  simp only at hsm
  obtain ⟨aa,ca,hva,hvan,_⟩:=za3 hsm
  subst hva
  have HSA:=zaa (zan hsm HEN.out.2.2.1)
  obtain ⟨M,hM⟩:∃M,A.length=M:=⟨_,rfl⟩
  have HM:=zaa hM
  have HVAN:=zaa hvan
  have HA3:=zaa a3
  have HRP3:=zaa rp3
  obtain ⟨N3,hN3⟩:∃N3,X3.length=N3:=⟨_,rfl⟩
  rw [hN3] at cd1 hil hX3 HA3
  rw [hM] at k2 hA HVAN
  have hilz:(i:Int)<(N3:Int):=by omega
  obtain ⟨z,rfl⟩:∃z,ad=some z:=by
   cases had:ad with
   |none=>exact absurd (by rw [←HN.out,(HNO.out had).1];rfl) HL0.out
   |some z=>exact ⟨z,rfl⟩
  clear a3 rp3 hsm hvan hM hN3
  go_wp2_with (first
   |(refine zb1 _ rfl (.tmp 61) (.tmp 69) rfl w3.heap.size (.slice none 0 0) 0 [] rfl (World.ownsRow_nil _ _ _ _) aa M ca A rfl HSA.out HM.out (fun e=>by have:=HVAN.out e;exact ⟨List.eq_nil_of_length_eq_zero (by rw [HM.out];exact this.1),this.2⟩) M (by omega) (by omega) (Nat.le_refl _) ?_
     intro a6 c6 w6 o6 b6
     have O6:=zaa o6
     have B6:=zaa b6
     clear o6 b6))
  go_upto_region 14 with fail
  go_cut [] from 71 to 80 (fun wx=>Hid (∃vl X4,A3 F w1 wx d r (.slice (some ⟨g,0,none⟩) N3 c3) X4 i o k sl (A++l) (esD X) vl vs0∧Chg (fun b=>b=g) w3 wx))
  case first=>
   have B31:=B6.out.size
   have HSL:Hid (∀(a8:Option Addr) (c8:Nat) (w8:World),w8.ownsRow w3.heap.size 53 2 (.slice a8 (M+N) c8) (M+N) (cS (([]++A)++l))→Below w3.heap.size w3 w8→∃vl X4,A3 F w1 (w8.setCell ⟨g,i*4+2,none⟩ (.slice a8 (M+N) c8)) d r (.slice (some ⟨g,0,none⟩) N3 c3) X4 i o k sl (A++l) (esD X) vl vs0∧Chg (fun b=>b=g) w3 (w8.setCell ⟨g,i*4+2,none⟩ (.slice a8 (M+N) c8))):=zaa (fun a8 c8 w8 ho hb=>by
    obtain ⟨q1,q2⟩:=A3.setL (l:=A++l) (vl:=.slice a8 (M+N) c8) HA3.out hb (by rw [List.length_append,HM.out,HN.out];exact ho)
    exact ⟨_,_,q1,q2⟩)
   have e60:=B6.out.cell (p:=⟨d,1,none⟩) HA3.out.ds.blk.lt
   have hgl:g<w3.heap.size:=za0 HA3.out.ds.row g rfl
   have e6:w6.cell? ⟨d,1,none⟩=some (.slice (some ⟨g,0,none⟩) N3 c3):=by rw [e60];exact cd1
   have hdl:d<w6.heap.size:=Nat.lt_of_lt_of_le HA3.out.ds.blk.lt B31
   clear e60
   go_region_law (first
    |(refine step_appS _ (by rfl) (.tmp 76) (.tmp 77) (by rfl) w3.heap.size (.slice a6 M c6) M ([]++A) (by rfl) (by exact O6.out) z N c l (by rfl) (by exact ((HL.out.later B1.out).chgN HA3.out.chg (fun y hy hn=>HAP.out y hy hn)).later B6.out.drew) HN.out (by omega) (by exact B31) ?_
      intro a8 c8 w8 o8 b8
      have O8:=zaa o8
      have B8:Hid (Below w3.heap.size w3 w8):=zaa (B6.out.drew.trans b8)
      have e8:w8.cell? ⟨d,1,none⟩=some (.slice (some ⟨g,0,none⟩) N3 c3):=by rw [B8.out.cell (p:=⟨d,1,none⟩) HA3.out.ds.blk.lt];exact cd1
      have e9:w8.cell? ⟨g,i*4+2,none⟩=some (.slice aa M ca):=by rw [B8.out.cell (p:=⟨g,i*4+2,none⟩) hgl];exact k2
      have f9:w8.frozen? ⟨g,i*4+2,none⟩=false:=zem (HA3.out.later B8.out).ds.row _
      clear o8 b8))
   all_goals
    go_wp2_with fail
    go_meet
    exact zaa (HSL.out _ _ _ O8.out B8.out)
  case rest=>
   rename World=>w4
   obtain ⟨vl,X4,a4,q4⟩:=hcut.out
   have rp4:K.RP w4 r q n st B:=HRP3.out.chg q4 (fun e=>by
    have h9:=HRP3.out.blk.tg
    rw [show r=g from e] at h9
    have:=h9.one (zab HA3.out.ds.row g rfl)
    cases this) (fun e=>by
    have h9:=HRP3.out.row.tg
    rw [show q=g from e] at h9
    have:=h9.one (zab HA3.out.ds.row g rfl)
    cases this) (fun b hb e=>by
    have h9:=K.RG.tg HRP3.out hb
    rw [show b=g from e] at h9
    have:=h9.one (zab HA3.out.ds.row g rfl)
    cases this)
   obtain ⟨hN4,ce0,ce1,ke2,ke3⟩:=a4.row
   have hsm:=a4.ds.smp _ (List.mem_of_getElem? a4.at')
   simp only at hsm
   obtain ⟨a5,c5,hva,_⟩:=za3 hsm
   subst hva
   have HS5:=zaa (zan hsm HOK.out)
   have HAL:Hid ((A++l).length=M+N):=zaa (by rw [List.length_append,HM.out,HN.out])
   rw [HAL.out] at ke2 a4
   have HA4:=zaa a4
   have HRP4:=zaa rp4
   have hq4:=zaa q4
   clear a4 rp4 q4 hcut hsm hN4 HA3 HRP3 k2 k3 cd0 cd1 HSA HVAN
   go_wp2_with fail
   refine (zc7 w4 a5 (M+N) c5 (A++l) HS5.out HAL.out (by omega)).mono ?_
   rintro e w5 ⟨a6,c6,D6,rfl,ck6,b5⟩
   rw [List.length_map,HG.out.1] at ck6 ⊢
   have HCK:Hid (∀(j:Nat) (b:List Int),((gO (gF (A++l))).map encC)[j]?=some b→∃gc ad' c',a6=some ⟨gc,0,none⟩∧∀(wx:World),Chg (fun b=>b=q∨(Value.slice (some ⟨g,0,none⟩) N3 c3).ownBlock=some b∨vs0.ownBlock=some b) w5 wx→wx.cell? ⟨gc,j,none⟩=some (.slice ad' b.length c')∧Sl wx ad' b.length b):=zaa (fun j b hb=>by
    obtain ⟨gc,ad',c',e,hh⟩:=ck6.at (by rw [List.length_map];exact HG.out.1) j b hb
    have hlt:∀x,(x=q∨(Value.slice (some ⟨g,0,none⟩) N3 c3).ownBlock=some x∨vs0.ownBlock=some x)→x<w4.heap.size:=by
     rintro x (rfl|e|e)
     · exact HRP4.out.row.lt
     · exact za0 HA4.out.ds.row x e
     exact za0 (HA4.out.ds.slt _ (List.mem_of_getElem? HA4.out.at')) x e
    refine ⟨gc,ad',c',e,fun wx hc=>hh _ wx hc (fun x hx e=>?_) (fun x hx e=>?_)⟩
    · have:=(ck6.lt x hx).1
      have:=hlt x e
      omega
    have:=(ck6.vlt x hx).1
    have:=hlt x e
    omega)
   have HLI:Hid (LI F w1 w5 d r q n (.slice (some ⟨g,0,none⟩) N3 c3) X i o k st B sl A l (esD X) (.slice a5 (M+N) c5) vs0 0 w5):=zaa ⟨[],st,B,vs0,X4,AI.start HSZ.out.small,HRP4.out.later b5,by rw [List.append_nil];have h9:=HA4.out.later b5;exact h9,.inl rfl,K.Nw.refl _ _,Chg.refl _ _⟩
   have b45:=zaa b5
   clear ck6 b5 ce0 ce1 ke2 ke3
   go_wp2_with fail
   go_loopw [14] (fun s14 wx=>∃j:Nat,s14=.int .i64 (j:Int)∧j≤G1∧Hid (LI F w1 w5 d r q n (.slice (some ⟨g,0,none⟩) N3 c3) X i o k st B sl A l (esD X) (.slice a5 (M+N) c5) vs0 j wx)) (fun s14 _=>G1 - nOf s14)
   case atStart=>exact ⟨0,rfl,by omega,HLI⟩
   case round=>
    rename World=>wr
    obtain ⟨j,rfl,hj,hI⟩:=hrel
    obtain ⟨news,sti,Bi,vs,Xi,hai,rpi,ai,mvi,nwi,chi⟩:=hI.out
    clear hI
    obtain ⟨-,cf0,cf1,kf2,kf3⟩:=ai.row
    have hst:=ai.ds.slt _ (List.mem_of_getElem? ai.at')
    simp only at hst
    obtain ⟨as',cs',hvs⟩:=zal hst
    subst hvs
    obtain ⟨LN,hLN⟩:∃LN,(sl++news).length=LN:=⟨_,rfl⟩
    have hlnews:=hai.len
    have hLN2:=hLN
    rw [List.length_append,hlnews] at hLN2
    rw [hLN] at kf3
    have HAI:=zaa hai
    have HRPI:=zaa rpi
    have HAA:=zaa ai
    have HSTI:=zaa hst
    have HOT:=zaa (And.intro mvi (And.intro nwi chi))
    have HLN:=zaa hLN
    by_cases hlt2:j<G1
    · have hltz:(j:Int)<(G1:Int):=by omega
      obtain ⟨gg,hgg⟩:∃gg,(gO (gF (A++l)))[j]?=some gg:=⟨(gO (gF (A++l)))[j]'(by rw [HG.out.1];exact hlt2),by simp⟩
      obtain ⟨b,hb⟩:∃b,encC gg=b:=⟨_,rfl⟩
      have hbm:((gO (gF (A++l))).map encC)[j]?=some b:=by rw [List.getElem?_map,hgg,←hb];rfl
      obtain ⟨gc,ad',c',rfl,hcell⟩:=HCK.out j b hbm
      have HGG:=zaa hgg
      have HBE:=zaa hb
      have hgne:=zcs (okG HOK.out) gg (List.mem_of_getElem? hgg)
      have hb128:b.length≤128:=by rw [←hb];exact hgne.2.1
      have HNE:=zaa (And.intro hgne hb128)
      have HCELL:=zaa hcell
      have hslb:sl.length=G0:=by rw [HEN.out.1.1,HG.out.2]
      have HSLB:=zaa hslb
      have HLN2:=zaa hLN2
      have hLNb:LN≤600000:=by omega
      clear hgg hb hbm hgne hcell hai rpi ai hst mvi nwi chi hLN hLN2 hlnews hslb hb128
      go_upto_if 106 with fail
      go_cut [15,16] from 90 to 153 (fun s15 s16 wx=>Hid (CI F w1 w5 d r q n (.slice (some ⟨g,0,none⟩) N3 c3) X i o k st B sl A l (esD X) (.slice a5 (M+N) c5) vs0 j b wx))
      case first=>
       by_cases hge:LN≤j
       · have hgez:(j:Int)≥(LN:Int):=by omega
         have hslj:sl.length≤j:=by have:=HLN2.out;omega
         have hLNj:LN=j:=by have:=HLN2.out;omega
         obtain ⟨jj,hf⟩:=HAI.out.room HLEN.out hslj (by rw [HG.out.1];exact hlt2) (by
          have q1:=HLT.out
          have q2:=HNDE.out
          have q3:=HLFE.out
          have q4:=HSLB.out
          rw [HG.out.1]
          omega)
         have HTK:Hid (Calls Tryz.prog 73 #[.pointer (some ⟨r,0,none⟩),.string o] wr fun e w'=>e=.returned (.tuple #[.int .i64 (jj:Int),.int .i64 0])∧K.RPo wr w' r q n sti Bi (K.upS sti jj (some (o,K.emp)))):=zaa (by
          have h9:=K.takeR o r q n sti Bi wr HRPI.out
          unfold K.takeV K.takeS at h9
          rw [hf] at h9
          exact h9)
         have hjn:=(K.fst_spec hf).1
         have HAT:=zaa (HAI.out.take HLEN.out HOK.out HGG.out hslj hf)
         have HJ:=zaa (And.intro hslj (And.intro hLNj hjn))
         clear hf hslj hLNj hjn
         go_wp2_with fail
         refine HTK.out.mono ?_
         rintro e w7 ⟨rfl,p7⟩
         obtain ⟨B7,p71,p72,p73⟩:=p7
         have h7:=HAA.out.pool HRPI.out hFq p72
         obtain ⟨-,cg0,cg1,kg2,kg3⟩:=h7.row
         have hs7:=p72.owns HSTI.out (fun b hb e=>by
          have h9:=zab HSTI.out b hb
          rw [show b=q from e] at h9
          have:=h9.one HRPI.out.row.tg
          cases this)
         rw [HLN.out] at hs7 kg3
         have P7:=zaa (And.intro p71 (And.intro p72 p73))
         have H7:=zaa h7
         have HS7:=zaa hs7
         have hd7:d<w7.heap.size:=h7.ds.blk.lt
         have hg7:g<w7.heap.size:=za0 h7.ds.row g rfl
         obtain ⟨i3,hi3,hz3,hs3,hb3⟩:=info3p
         have HCI:Hid (∀(g9 c9:Nat) (w9:World) (ob:Obj),w9.ownsRow 0 3 1 (.slice (some ⟨g9,0,none⟩) (LN+1) c9) (LN+1) (cI (sl++news)++[.int .i64 (jj:Int)])→Pushed (w7.drew.alloc ob) w9 (.slice as' LN cs') g9→CI F w1 w5 d r q n (.slice (some ⟨g,0,none⟩) N3 c3) X i o k st B sl A l (esD X) (.slice a5 (M+N) c5) vs0 j b (w9.setCell ⟨g,i*4+3,none⟩ (.slice (some ⟨g9,0,none⟩) (LN+1) c9))):=zaa (fun g9 c9 w9 ob ho hp=>by
          have h7':=h7.later (Below.refl _ _).drew
          have hp':=A3.push (sl:=sl++news) (s:=jj) (g9:=g9) (c9:=c9) h7' (by rw [HLN.out];exact ho) (by rw [HLN.out];exact hp)
          rw [HLN.out] at hp' h7
          exact ci_new HAI.out HLN.out HJ.out.1 HJ.out.2.1 HJ.out.2.2 HAT.out HBE.out p71 p72 p73 h7 HSTI.out HOT.out.1 HOT.out.2.1 HOT.out.2.2 hp'.1 hp'.2.1 hp'.2.2)
         clear p71 p72 p73 h7 hs7 cf0 cf1 kf2 kf3 HTK
         go_wp2_with fail
         go_region_law (first
          |(refine zdl _ (by rfl) (.tmp 128) (.tmp 130) 92 (by rfl) 3 i3 (.int .i64 0) 8 Tryz.underlying92 hi3 hz3 hs3 hb3 rfl 0 (.slice as' LN cs') LN (cI (sl++news)) (by rfl) (World.ownsRow.alloc (w:=w7.drew) HS7.out _) ⟨w7.heap.size,0,none⟩ (.int .i64 (jj:Int)) (by rfl) ((Blk.new w7.drew 3 [.int .i64 (jj:Int)]).cell 0) rfl (by unfold maxLen;omega) (by omega) (Nat.zero_le _) ?_
            intro g9 c9 w9 o9 p9
            have P9:=zaa (And.intro o9 p9)
            have q9:=Pushed.chg (w:=w7.drew) p9
            have h9:Blk w9 d 78 _:=q9.1.blk (H7.out.ds.blk.drew) (fun e=>by have:=(zab HS7.out d e).one H7.out.ds.blk.tg;cases this)
            have e9:w9.cell? ⟨d,1,none⟩=some (.slice (some ⟨g,0,none⟩) N3 c3):=by rw [h9.cell 1];rfl
            have h10:=q9.1.owns (a:=w7.drew) H7.out.ds.row (fun b hb e=>by have:=(zab HS7.out b e).one (zab H7.out.ds.row b hb);cases this)
            have e10:w9.cell? ⟨g,i*4+3,none⟩=some (.slice as' LN cs'):=by
             rw [World.cell?_of_block (w:=w7) (a:=⟨g,i*4+3,none⟩) (q9.1.block g hg7 (fun e=>by have:=(zab HS7.out g e).one (zab H7.out.ds.row g rfl);cases this))]
             exact kg3
            have f10:w9.frozen? ⟨g,i*4+3,none⟩=false:=zem h10 _
            clear o9 p9 q9 h9 h10))
         all_goals
          go_wp2_with fail
          go_meet
          exact zaa (HCI.out _ _ _ _ P9.out.1 P9.out.2)
       have hgez:¬(j:Int)≥(LN:Int):=by omega
       have hslj:j<sl.length:=by have:=HLN2.out;omega
       have hnw:news=[]:=List.eq_nil_of_length_eq_zero (by rw [HAI.out.len];omega)
       obtain ⟨s,hs⟩:∃s,sl[j]?=some s:=⟨sl[j],by simp⟩
       obtain ⟨hp1,d0,hp2⟩:=HAI.out.put HSZ.out.small HLEN.out HEN.out.1 HOK.out (fun s hs=>((HSZ.out.mem o s).1 ((zdd k (HSZ.out.key o)).mem_iff.2 (List.mem_append.2 (.inl (by rw [HAE.out.2];exact hs))))).1) HGG.out hslj hs
       have hsn:s<n:=by
        rcases Nat.lt_or_ge s n with h9|h9
        · exact h9
        rw [HRPI.out.fin s h9] at hp2;cases hp2
       have HP:=zaa (And.intro hp1 (And.intro hp2 (And.intro hs (And.intro hsn (And.intro hnw hslj)))))
       clear hp1 hp2 hs hsn hnw hslj
       go_wp2_with fail
       go_meet
       obtain ⟨hp1,hp2,hs,hsn,hnw,hslj⟩:=HP.out
       subst hnw
       rw [←HBE.out]
       exact zaa ⟨[],sti,Bi,_,_,s,d0,hp2,hsn,by rw [List.append_nil];exact hs,hp1,HRPI.out,HAA.out,HOT.out.1,HOT.out.2.1,HOT.out.2.2⟩
      case rest=>
       rename World=>w8
       obtain ⟨nw8,st8,B8,vs8,X8,s,d0,hs8,hsn,hsj,hai8,rp8,ai8,mv8,nn8,ch8⟩:=hcut.out
       obtain ⟨-,cg0,cg1,-,kg3⟩:=ai8.row
       have hst8:=ai8.ds.slt _ (List.mem_of_getElem? ai8.at')
       simp only at hst8
       obtain ⟨as8,cs8,hvs8⟩:=zal hst8
       subst hvs8
       have hjl:=(List.getElem?_eq_some_iff.1 hsj).1
       obtain ⟨gs,rfl,_⟩:=zbc hst8 (by omega)
       have kgs:=zai hst8 j (.int .i64 (s:Int)) (cI_at hsj)
       obtain ⟨kc1,kc2⟩:=HCELL.out w8 ch8
       obtain ⟨L8,hL8⟩:∃L8,(sl++nw8).length=L8:=⟨_,rfl⟩
       rw [hL8] at kg3 hjl
       have hbp:0<b.length:=by
        rw [←HBE.out,zbl HNE.out.1.1]
        omega
       have hnn:ad'=none→b.length=0∧c'=0:=fun e=>by
        subst e
        obtain ⟨x,hx,_⟩:=kc2.cell 0 hbp
        cases hx
       have hb128:=HNE.out.2
       go_upto_region 22 with fail
       refine app_r22 d r g gs gc i j N3 L8 G1 c3 cs8 c6 s b.length c' ad' (fun wz=>LI F w1 w5 d r q n (.slice (some ⟨g,0,none⟩) N3 c3) X i o k st B sl A l (esD X) (.slice a5 (M+N) c5) vs0 (j+1) wz) w8 _ _ (by rfl) (by rfl) (by rfl) (by rfl) (by rfl) hilz (by omega) (by omega) (by omega) hltz (by kernel_rfl) trivial (by kernel_rfl) (by kernel_rfl)
        (fun wz hL=>(ai8.ds.later hL).blk.cell 0) (fun wz hL=>(ai8.later hL).row.2.2.1) (fun wz hL=>by have h9:=(ai8.later hL).row.2.2.2.2;rw [hL8] at h9;exact h9) (fun wz hL=>zai (owl hst8 hL) j _ (cI_at hsj)) (fun wz hL=>(HCELL.out wz (ch8.trans (Chg.of_below (F:=fun _=>False) hL) (fun _ _ e=>e.elim))).1) (fun wz hL=>?_) ?_
       · refine (K.putR (s:Int) ad' b.length c' b r q n st8 B8 wz (rp8.later hL) (kc2.later hL) hnn (by omega)).mono ?_
         rw [put_last hsn hs8 hb128]
         rintro e w9 ⟨rfl,B9,g1,g2,g3⟩
         refine ⟨_,rfl,nw8,_,B9,_,_,hai8,g1,(ai8.later hL).pool (rp8.later hL) hFq g2,mv8,nn8.trans g3 (Nat.le_trans ch8.size hL.size),(ch8.trans (Chg.of_below (F:=fun _=>False) hL) (fun _ _ e=>e.elim)).trans g2 (fun _ _ e=>.inl e)⟩
       intro v134 v135 v136 v137 v138 v139 v140 v141 v142 v143 v144 v145 v146 v147 v148 v149 v150 v151 v152 v153 w9 hR
       have HR9:=zaa hR
       clear hR rp8 ai8 mv8 nn8 ch8 hst8 kgs kc1 kc2 cg0 cg1 kg3 hai8 hs8
       simp only [Act.put,List.setIfInBounds_toArray,List.set_cons_succ,List.set_cons_zero]
       go_wp2_with fail
       refine ⟨⟨j+1,by first|rfl|simp,by omega,HR9⟩,?_⟩
       simp [nOf]
       omega
    have hltz:¬(j:Int)<(G1:Int):=by omega
    have hjG:j=G1:=by omega
    clear hai rpi ai hst mvi nwi chi hLN hLN2 hlnews cf0 cf1 kf2 kf3
    go_wp2_with fail
    go_ret
    unfold ApV
    refine .inr ⟨HK.out.1,HK.out.2,fun e=>HL0.out (by rw [←HN.out,e];rfl),?_,rfl,?_⟩
    · have q1:=HLT.out
      have q2:=HNDE.out
      omega
    have hK:=HAI.out.done HLEN.out (by rw [HG.out.1];exact hjG)
    have hne:l≠[]:=fun e=>HL0.out (by rw [←HN.out,e];rfl)
    have hz:=HSZ.out.keep (o:=o) (k:=k) (m:=l) (news:=news) (st':=sti) HK.out.1 hne (by rw [HAE.out.1];exact HK.out.2) HL.out.sz (by rw [HAE.out.1,HAE.out.2];exact hK)
    rw [HAE.out.1,HAE.out.2] at hz
    have he:∀o',(zE (esD Xi) o').Perm (setZ (zE (esD X)) o k (sl++news,A++l) o'):=fun o'=>by
     have h9:=HAA.out.es (A++l) (sl++news) o'
     have h8:(esD Xi).set i (o,k,A++l,sl++news)=esD Xi:=by
      refine List.ext_getElem? fun t=>?_
      by_cases e:t=i
      · subst e
        have:=esD_at HAA.out.at'
        rw [List.getElem?_set_self ((List.getElem?_eq_some_iff.1 this).1),this]
      rw [List.getElem?_set_ne (fun e2=>e e2.symm)]
     rw [h8] at h9
     exact h9
    have s1:=HA4.out.chg.size
    have s2:=b45.out.size
    have s3:=B1.out.size
    refine ⟨_,sti,esD Xi,sl++news,⟨q,Bi,_,Xi,HAA.out.ds,rfl,HRPI.out,hz.perm he,fun i=>Iff.rfl⟩,(Chg.of_below (F:=F) B1.out).trans HAA.out.chg (fun _ _ e=>e),?_,?_,he,?_⟩
    · rintro b (hb|rfl|rfl|hb)
      · rcases HAA.out.df b hb with e|e
        · exact .inl e
        right;omega
      · exact .inl ((H5.out _).2 (.inr (.inl rfl)))
      · exact .inl hFq
      rcases HOT.out.2.1 b hb with e|e
      · exact .inl ((H5.out _).2 (.inr (.inr (.inr e))))
      right;omega
    · have h9:=hK.cnt
      have h8:=HAI.out.len
      have h7:sl.length=G0:=by rw [HEN.out.1.1,HG.out.2]
      rw [h9,h8,h7,hjG]
    have h9:=HAA.out.len
    simpa [esD] using h9
theorem slotsQ (o:ByteArray) (F:Nat→Prop) (d n:Nat) (st:K.Sx) (E:List De) (w:World) (h:DQ F w d n st E) (hE:E.length≤1000000) (hn9:n≤1000000):
 Calls Tryz.prog 26 #[.pointer (some ⟨d,0,none⟩),.string o] w fun e w'=>e=.returned (.int .i64 (((zE E o).flatMap slF).length:Int))∧w'=w:=by
 have hle:=slots_le h.sz o
 obtain ⟨r,q,B,v,X,h1,rfl,h3,h4,h5⟩:=h
 unfold esD at hE
 rw [List.length_map] at hE
 have H1:=zaa h1
 obtain ⟨av,cv,hv⟩:=zbk h1.row
 subst hv
 have c1:w.cell? ⟨d,1,none⟩=some (.slice av X.length cv):=h1.blk.cell 1
 obtain ⟨N,hN⟩:∃N,X.length=N:=⟨_,rfl⟩
 rw [hN] at c1 hE
 have HN:=zaa hN
 have HLE:=zaa hle
 have HALL:Hid (X.take N=X):=zaa (List.take_of_length_le (by omega))
 have HMO:Hid (∀i,((zE (esD (X.take i)) o).flatMap slF).length≤((zE (esD X) o).flatMap slF).length):=zaa (fun i=>by
  have e:esD X=esD (X.take i)++esD (X.drop i):=by
   unfold esD
   rw [←List.map_append,List.take_append_drop]
  rw [e,zfl,List.flatMap_append,List.length_append]
  omega)
 obtain ⟨TT,hTT⟩:∃TT,((zE (esD X) o).flatMap slF).length=TT:=⟨_,rfl⟩
 rw [hTT] at HMO HLE ⊢
 have HTT:=zaa hTT
 clear h1 h3 h4 h5 hN hle hTT
 go_enter Tryz.func26,Tryz.ntmps26
 go_wp2_with fail
 go_loopw [5,6] (fun s5 s6 wx=>∃i m:Nat,s6=.int .i64 (i:Int)∧s5=.int .i64 (m:Int)∧i≤N∧m≤1000000∧Hid (m=((zE (esD (X.take i)) o).flatMap slF).length)∧wx=w) (fun _ s6 _=>N - nOf s6)
 case atStart=>exact ⟨0,0,rfl,rfl,by omega,by omega,zaa (by simp [esD,zE]),rfl⟩
 case round=>
  obtain ⟨i,m,rfl,rfl,hi,hm9,hm,hw⟩:=hrel
  obtain rfl:=hw.symm
  clear hw
  by_cases hlt:i<N
  · have hltz:(i:Int)<(N:Int):=by omega
    obtain ⟨x,hx⟩:∃x,X[i]?=some x:=⟨X[i]'(by rw [HN.out];exact hlt),by simp⟩
    obtain ⟨g,rfl,_⟩:∃g,av=some ⟨g,0,none⟩∧True:=by
     rcases H1.out.row.2 with ⟨h1,h2⟩|⟨g,cap,cur,hv,_⟩
     · have:=HN.out
       omega
     injection hv with h1
     exact ⟨g,h1,trivial⟩
    have k0:w.cell? ⟨g,i*4,none⟩=some (.string x.1.1):=zai H1.out.row (i*4) _ (by have:=zcr X i 0 x hx (by omega);simpa [dC] using this)
    have k3:w.cell? ⟨g,i*4+3,none⟩=some x.2.2:=zai H1.out.row (i*4+3) _ (by have:=zcr X i 3 x hx (by omega);simpa [dC] using this)
    have hst:=zfq o hx
    have hmo:=HMO.out (i+1)
    have hsl:=H1.out.slt x (List.mem_of_getElem? hx)
    obtain ⟨sv,sc,hsv⟩:=zal hsl
    rw [hsv] at k3
    have hq:=str_eqD x.1.1 o
    obtain ⟨L,hL⟩:∃L,x.1.2.2.2.length=L:=⟨_,rfl⟩
    rw [hL] at k3 hst
    obtain ⟨⟨o1,k9,l1,sl1⟩,v1,v2⟩:=x
    dsimp only at k0 hq hst
    have HST:=zaa hst
    have HL9:=HLE.out
    clear hx hst hsl hsv hL
    by_cases ho:o1=o
    · rw [decide_eq_true ho] at hq
      have hst:=HST.out
      rw [if_pos ho,←hm.out] at hst
      have HS2:=zaa hst
      have hb:m+L≤1000000:=by omega
      clear hst hmo HL9
      go_wp2_with fail
      refine ⟨⟨i+1,m+L,by first|rfl|simp,by first|rfl|simp,by omega,hb,zaa HS2.out.symm,by first|trivial|rfl⟩,?_⟩
      simp [nOf]
      omega
    rw [decide_eq_false ho] at hq
    have hst:=HST.out
    rw [if_neg ho,←hm.out,Nat.add_zero] at hst
    have HS2:=zaa hst
    clear hst hmo HL9
    go_wp2_with fail
    refine ⟨⟨i+1,m,by first|rfl|simp,rfl,by omega,hm9,zaa HS2.out.symm,by first|trivial|rfl⟩,?_⟩
    simp [nOf]
    omega
  have hltz:¬(i:Int)<(N:Int):=by omega
  have hiN:i=N:=by omega
  have hm2:=hm.out
  rw [hiN,HALL.out,HTT.out] at hm2
  have HM2:=zaa hm2
  clear hm2 hiN
  go_wp2_with fail
  go_ret
  exact ⟨by rw [←HM2.out];rfl,by first|trivial|rfl⟩
end Go.Proofs.YtlppibigceeimaaGreatDoor
