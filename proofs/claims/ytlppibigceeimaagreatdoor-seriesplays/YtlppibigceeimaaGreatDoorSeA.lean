import Derived.Test.YtlppibigceeimaaGreatDoorChW
import Derived.Test.YtlppibigceeimaaGreatDoorPlD
set_option linter.unusedSimpArgs false
set_option linter.unusedVariables false
set_option maxHeartbeats 40000000
set_option maxRecDepth 100000
namespace Go.Proofs.YtlppibigceeimaaGreatDoor
open Go.RowKit
def riC (s:Sm) (g:Bool):List Value:=[.int .i64 s.t,.int .u64 (s.v:Int),.bool g]
theorem riseNo (b:Nat) (s x:Sm) (w:World) (hB:Blk w b 98 (riC s true)) (hx:x.t≤s.t):
 Calls Tryz.prog 41 #[.pointer (some ⟨b,0,none⟩),.agg #[.int .i64 x.t,.int .u64 (x.v:Int)]] w fun e w'=>e=.returned (.bool false)∧Below w.heap.size w w':=by
 have c0:∀o,(w.alloc o).cell? ⟨b,0,none⟩=some (.int .i64 s.t):=fun o=>(hB.alloc o).cell 0
 have c2:∀o,(w.alloc o).cell? ⟨b,2,none⟩=some (.bool true):=fun o=>(hB.alloc o).cell 2
 have hd:decide (x.t≤s.t)=true:=by simpa using hx
 clear hB
 go_enter Tryz.func41,Tryz.ntmps41
 go_wp2_with fail
 go_quiet (fail)
 go_wp2_with fail
 go_ret
 exact ⟨rfl,zah ((Below.refl _ _).alloc (Nat.le_refl _) _) _⟩
theorem riseYes (b:Nat) (s x:Sm) (g:Bool) (w:World) (hB:Blk w b 98 (riC s g)) (hx:g=true→s.t<x.t):
 Calls Tryz.prog 41 #[.pointer (some ⟨b,0,none⟩),.agg #[.int .i64 x.t,.int .u64 (x.v:Int)]] w fun e w'=>e=.returned (.bool true)∧Blk w' b 98 (riC x true)∧Chg (fun i=>i=b) w w':=by
 have c0:∀o,(w.alloc o).cell? ⟨b,0,none⟩=some (.int .i64 s.t):=fun o=>(hB.alloc o).cell 0
 have c1:∀o,(w.alloc o).cell? ⟨b,1,none⟩=some (.int .u64 (s.v:Int)):=fun o=>(hB.alloc o).cell 1
 have c2:∀o,(w.alloc o).cell? ⟨b,2,none⟩=some (.bool g):=fun o=>(hB.alloc o).cell 2
 have f0:∀o j,(w.alloc o).frozen? ⟨b,j,none⟩=false:=fun o j=>(hB.alloc o).frozen j
 have hlt:=hB.lt
 have HB:=zaa hB
 clear hB
 cases g with
 |false=>
  clear hx
  go_enter Tryz.func41,Tryz.ntmps41
  go_wp2_with fail
  go_quiet (fail)
  go_wp2_with fail
  go_ret
  refine ⟨rfl,((((HB.out.alloc _).drewN _).set 0 _).set 1 _).set 2 _,?_⟩
  exact (((Chg.alloc (fun i=>i=b) w _).trans (Chg.drewN (fun i=>i=b) _ _) (fun _ _ e=>e)).trans (Chg.set ⟨b,0,none⟩ _ _) (fun _ _ e=>e)).trans ((Chg.set ⟨b,1,none⟩ _ _).trans (Chg.set ⟨b,2,none⟩ _ _) (fun _ _ e=>e)) (fun _ _ e=>e)
 |true=>
  have hd:decide (x.t≤s.t)=false:=by have:=hx rfl;simp;omega
  clear hx
  go_enter Tryz.func41,Tryz.ntmps41
  go_wp2_with fail
  go_quiet (fail)
  go_wp2_with fail
  go_ret
  refine ⟨rfl,((((HB.out.alloc _).drewN _).set 0 _).set 1 _).set 2 _,?_⟩
  exact (((Chg.alloc (fun i=>i=b) w _).trans (Chg.drewN (fun i=>i=b) _ _) (fun _ _ e=>e)).trans (Chg.set ⟨b,0,none⟩ _ _) (fun _ _ e=>e)).trans ((Chg.set ⟨b,1,none⟩ _ _).trans (Chg.set ⟨b,2,none⟩ _ _) (fun _ _ e=>e)) (fun _ _ e=>e)
theorem bytesInP (S:Nat) (V:Value) (k:Int) (F:Nat→Prop) (p n:Nat) (st:K.Sx) (w:World) (hS:Blk w S 75 [.pointer (some ⟨p,0,none⟩),V]) (h:K.PQ F w p n st) (hd:∀i o d,st i=some (o,d)→d.size≤128):
 Calls Tryz.prog 42 #[.pointer (some ⟨S,0,none⟩),.int .i64 k] w fun e w'=>Below w.heap.size w w'∧((K.atS st n k=none∧e=.returned (.slice none 0 0))∨∃i o d ga c,K.atS st n k=some (i,o,d)∧e=.returned (.slice (some ⟨ga,0,none⟩) d.size c)∧w.heap.size≤ga∧Sl w' (some ⟨ga,0,none⟩) d.size (K.bts d)∧d.size≤c∧c≤9223372036854775807):=by
 have c0:w.cell? ⟨S,0,none⟩=some (.pointer (some ⟨p,0,none⟩)):=hS.cell 0
 have HQ:=zaa (K.getX k F p n st w h hd)
 clear hS h
 go_enter Tryz.func42,Tryz.ntmps42
 go_wp2_with fail
 refine HQ.out.mono ?_
 clear HQ
 rintro e w1 ⟨b1,h1⟩
 have B1:=zaa b1
 clear b1
 rcases h1 with ⟨h1,rfl⟩|⟨i,o,d,ga,c,h1,rfl,h2,h3,h4⟩
 · have H1:=zaa h1
   clear h1
   go_wp2_with fail
   go_ret
   exact ⟨B1.out,.inl ⟨H1.out,rfl⟩⟩
 have H1:=zaa (And.intro h1 (And.intro h2 (And.intro h3 h4)))
 clear h1 h2 h3 h4
 obtain ⟨m,hm⟩:∃m,d.size=m:=⟨_,rfl⟩
 have HM:=zaa hm
 rw [hm]
 clear hm
 go_wp2_with fail
 go_ret
 refine ⟨B1.out,.inr ⟨i,o,d,ga,c,H1.out.1,by rw [HM.out];rfl,H1.out.2.1,H1.out.2.2.1,?_⟩⟩
 rcases H1.out.2.2.2 with ⟨h0,_⟩|⟨g',cap,cur,mk,hv,_,_,_,hl,hm,_⟩
 · cases h0
 simp only [Value.slice.injEq] at hv
 rw [←hv.2.1,←hv.2.2] at hl
 rw [←hv.2.2] at hm
 exact ⟨hl,by unfold maxLen at hm;omega⟩
def samV (st:K.Sx) (n:Nat) (k:Int):List Sm:=match K.atS st n k with
 |some (_,_,d)=>(rdR (K.bts d)).getD []
 |none=>[]
def SamP (l:List Sm) (w:World) (e:Ending) (w':World):Prop:=∃ad c,e=.returned (.slice ad l.length c)∧w'.ownsRow w.heap.size 53 2 (.slice ad l.length c) l.length (cS l)∧(∀x∈l,OkS x)∧Below w.heap.size w w'
theorem ze3 {w:World} {b b':Nat} {v:Value} {m:Nat} {xs:List Value} (h:w.ownsRow b 53 2 v m xs) (hb:b'≤b):w.ownsRow b' 53 2 v m xs:=by
 refine ⟨h.1,?_⟩
 rcases h.2 with h0|⟨g,cap,cur,h1,h2,h3⟩
 · exact .inl h0
 exact .inr ⟨g,cap,cur,h1,Nat.le_trans hb h2,h3⟩
theorem zd0 (S:Nat) (V:Value) (k:Int) (F:Nat→Prop) (p n:Nat) (st:K.Sx) (w:World) (hS:Blk w S 75 [.pointer (some ⟨p,0,none⟩),V]) (h:K.PQ F w p n st) (hd:∀i o d,st i=some (o,d)→d.size≤128) (hG:Gv w) (hlo:2≤w.heap.size):
 Calls Tryz.prog 67 #[.pointer (some ⟨S,0,none⟩),.int .i64 k] w fun e w'=>SamP (samV st n k) w e w':=by
 have HQ:=zaa (bytesInP S V k F p n st w hS h hd)
 have HG:=zaa hG
 have HLO:=zaa hlo
 have HD:Hid (∀i o d,K.atS st n k=some (i,o,d)→d.size≤128):=zaa (fun i o d hA=>by
  rcases K.atS_cases st n k with ⟨e1,_⟩|⟨i',o',d',e1,_,_,hs,_⟩
  · rw [e1] at hA;cases hA
  rw [e1] at hA
  simp only [Option.some.injEq,Prod.mk.injEq] at hA
  obtain ⟨_,_,rfl⟩:=hA
  exact hd i' o' d' hs)
 clear hS h hd hG hlo
 go_enter Tryz.func67,Tryz.ntmps67
 go_wp2_with fail
 refine HQ.out.mono ?_
 clear HQ
 rintro e w1 ⟨b1,h1⟩
 have B1:=zaa b1
 clear b1
 rcases h1 with ⟨h1,rfl⟩|⟨i,o,d,ga,c,h1,rfl,h2,h3,h4,h5⟩
 · have H1:=zaa h1
   have hq:=readP w1 none 0 0 [] (Sl.nil w1 none) (HG.out.later B1.out) (by omega) (by omega) (by omega) (fun _=>⟨rfl,rfl⟩) (Nat.le_trans HLO.out B1.out.size)
   have HQ:=zaa hq
   clear h1 hq
   go_wp2_with fail
   refine HQ.out.mono ?_
   clear HQ
   rintro e w2 ⟨ad2,c2,l,ec,rfl,o2,k2,b2,hh⟩
   obtain rfl:l=[]:=by
    rcases hh with ⟨e1,_⟩|⟨_,e1,_⟩
    · have:rdR []=some []:=by unfold rdR;rw [if_pos rfl]
      rw [this] at e1;injection e1 with e1;exact e1.symm
    exact e1
   have O2:=zaa (And.intro o2 (And.intro k2 b2))
   clear o2 k2 b2 hh
   go_wp2_with fail
   go_ret
   have e9:samV st n k=[]:=by unfold samV;rw [H1.out]
   rw [e9]
   exact ⟨ad2,c2,rfl,ze3 O2.out.1 B1.out.size,O2.out.2.1,B1.out.trans (O2.out.2.2.mono B1.out.size)⟩
 have H1:=zaa h1
 have h128:=HD.out i o d h1
 have hq:=readP w1 (some ⟨ga,0,none⟩) d.size c (K.bts d) h3 (HG.out.later B1.out) (by omega) h4 h5 (fun e=>by cases e) (Nat.le_trans HLO.out B1.out.size)
 have HQ:=zaa hq
 clear h1 hq h2 h3 h4 h5 h128
 go_wp2_with fail
 refine HQ.out.mono ?_
 clear HQ
 rintro e w2 ⟨ad2,c2,l,ec,rfl,o2,k2,b2,hh⟩
 have e9:samV st n k=l:=by
  unfold samV
  rw [H1.out]
  simp only
  rcases hh with ⟨e1,_⟩|⟨e0,e1,_⟩
  · rw [e1];rfl
  rw [e0,e1];rfl
 have E9:=zaa e9
 have O2:=zaa (And.intro o2 (And.intro k2 b2))
 clear o2 k2 b2 hh e9
 go_wp2_with fail
 go_ret
 rw [E9.out]
 exact ⟨ad2,c2,rfl,ze3 O2.out.1 B1.out.size,O2.out.2.1,B1.out.trans (O2.out.2.2.mono B1.out.size)⟩
def zau {σ:Type} (step:σ→Sm→Bool×σ):List Sm→σ→Bool×σ
 |[],s=>(true,s)
 |x :: l,s=>if (step s x).1 then zau step l (step s x).2 else (false,(step s x).2)
theorem zfu {σ:Type} (step:σ→Sm→Bool×σ):∀(l:List Sm) (s:σ) (x:Sm),(zau step l s).1=true→zau step (l++[x]) s=step (zau step l s).2 x
 |[],s,x,_=>by
  show (if (step s x).1 then _ else _)=step s x
  cases h:step s x with
  |mk b s'=>cases b <;> rfl
 |y :: l,s,x,h=>by
  unfold zau at h ⊢
  by_cases e:(step s y).1=true
  · rw [if_pos e] at h
    show (if (step s y).1 then zau step (l++[x]) (step s y).2 else _)=_
    rw [if_pos e,if_pos e]
    exact zfu step l _ x h
  rw [if_neg e] at h;cases h
theorem zd4 {σ:Type} (step:σ→Sm→Bool×σ):∀(l:List Sm) (s:σ) (r:List Sm),(zau step l s).1=false→zau step (l++r) s=zau step l s
 |[],s,r,h=>by cases h
 |y :: l,s,r,h=>by
  unfold zau at h ⊢
  by_cases e:(step s y).1=true
  · rw [if_pos e] at h
    show (if (step s y).1 then zau step (l++r) (step s y).2 else _)=_
    rw [if_pos e,if_pos e]
    exact zd4 step l _ r h
  show (if (step s y).1 then _ else _)=_
  rw [if_neg e,if_neg e]
theorem eachP {σ:Type} (f:FuncId) (fa:Value) (step:σ→Sm→Bool×σ) (T:σ→World→Prop) (ad:Option Addr) (N c:Nat) (l:List Sm) (s:σ) (w:World) (hcf:∀a w,(callFunc f a).run Tryz.prog w=.ok (.enter f a) w) (hN:l.length=N) (hN9:N≤9223372036854775807) (hOk:∀x∈l,OkS x) (h:T s w)
 (hl:∀s wx wy,T s wx→Below wx.heap.size wx wy→T s wy) (hS:∀s wx,T s wx→Ss wx ad l)
 (hc:∀i x wx,l[i]?=some x→OkS x→T (zau step (l.take i) s).2 wx→Calls Tryz.prog f #[fa,.agg #[.int .i64 x.t,.int .u64 (x.v:Int)]] wx fun e w'=>e=.returned (.bool (step (zau step (l.take i) s).2 x).1)∧T (step (zau step (l.take i) s).2 x).2 w'):
 Calls Tryz.prog 39 #[.slice ad N c,.func (.func f) #[fa] #[]] w fun e w'=>e=.returned (.bool (zau step l s).1)∧T (zau step l s).2 w':=by
 have HN:=zaa hN
 have HO:=zaa hOk
 have H:=zaa h
 have HL:=zaa hl
 have HS:=zaa hS
 have HC:=zaa hc
 clear hN hOk h hl hS hc
 go_enter Tryz.func39,Tryz.ntmps39
 go_wp2_with fail
 go_loopw [9] (fun v9 wx=>∃i:Nat,v9=.int .i64 (i:Int)∧i≤N∧Hid ((zau step (l.take i) s).1=true∧T (zau step (l.take i) s).2 wx)) (fun v9 _=>N - (intOf v9).toNat)
 case atStart=>exact ⟨0,rfl,by omega,zaa ⟨rfl,H.out⟩⟩
 case round=>
  obtain ⟨i,rfl,hi,hI⟩:=hrel
  clear H
  by_cases hin:i<N
  · obtain ⟨x,hx⟩:∃x,l[i]?=some x:=⟨l[i]'(by have:=HN.out;omega),by simp⟩
    obtain ⟨bb,off,rfl,hbb,hcell⟩:=(HS.out _ _ hI.out.2).at' (by rintro rfl;simp at hx)
    obtain ⟨c0,c1⟩:=hcell i x hx
    have htk:l.take (i+1)=l.take i++[x]:=by rw [List.take_add_one,hx];rfl
    have HX:=zaa (And.intro hx (And.intro (HO.out x (List.mem_of_getElem? hx)) htk))
    clear hcell hx htk hbb
    go_wp2_with fail
    have bw:Below wr.heap.size wr (wr.alloc (.cells #[.int .i64 x.t,.int .u64 (x.v:Int)] 53)):=(Below.refl _ _).alloc (Nat.le_refl _) _
    refine (HC.out i x _ HX.out.1 HX.out.2.1 (HL.out _ _ _ hI.out.2 bw)).mono ?_
    rintro e w5 ⟨rfl,h5⟩
    have hfs:=zfu step (l.take i) s x hI.out.1
    rw [←HX.out.2.2] at hfs
    have H5:=zaa (And.intro h5 hfs)
    clear h5 hfs bw c0 c1
    cases hb:(step (zau step (l.take i) s).2 x).1 with
    |true=>
     have HB:=zaa hb
     clear hb
     go_wp2_with fail
     refine ⟨⟨i+1,by first|rfl|simp,by omega,zaa ?_⟩,?_⟩
     · rw [H5.out.2]
       exact ⟨HB.out,H5.out.1⟩
     show N - ((i:Int)+1).toNat<N - (i:Int).toNat
     omega
    |false=>
     have HB:=zaa hb
     clear hb
     go_wp2_with fail
     go_ret
     have hst:=zd4 step (l.take (i+1)) s (l.drop (i+1)) (by rw [H5.out.2];exact HB.out)
     rw [List.take_append_drop] at hst
     rw [hst,H5.out.2]
     exact ⟨by rw [HB.out];rfl,H5.out.1⟩
  have hiN:i=N:=by omega
  have hT:Hid ((zau step l s).1=true∧T (zau step l s).2 wr):=zaa (by have h9:=hI.out;rw [List.take_of_length_le (by have:=HN.out;omega)] at h9;exact h9)
  clear hI hiN
  go_wp2_with fail
  go_ret
  exact ⟨by rw [hT.out.1];rfl,hT.out.2⟩
def pkC (full:Value) (c:Nat):List Value:=[full,.pointer (some ⟨c,0,none⟩)]
theorem built98 (c:Nat):Tryz.prog.built 150 [(1,.pointer (some ⟨c,0,none⟩))]=some (pkC (.slice none 0 0) c).toArray:=by kernel_rfl
theorem newPackerP (w:World) (hlo:2≤w.heap.size):
 Calls Tryz.prog 62 #[] w fun e w'=>∃b c p,e=.returned (.pointer (some ⟨b,0,none⟩))∧w.heap.size≤b∧w.heap.size≤c∧w.heap.size≤p∧b≠c∧b≠p∧Blk w' b 150 (pkC (.slice none 0 0) c)∧CS w' c p none 128 []∧Below w.heap.size w w':=by
 go_enter Tryz.func62,Tryz.ntmps62
 go_wp2_with fail
 refine (newP w 128 (by unfold I64;omega) hlo).mono ?_
 rintro e w1 ⟨c,p,rfl,hc,hp,hC,bl1⟩
 have HC:=zaa hC
 have BL1:=zaa bl1
 clear hC bl1
 go_wp2_with (first
  |(refine wpList_build_to rfl 150 #[(1,.tmp 1)] rfl [(1,.pointer (some ⟨c,0,none⟩))] (pkC (.slice none 0 0) c).toArray rfl (built98 _) ?_)
  |(refine zac rfl 150 (.tmp 2) rfl (pkC (.slice none 0 0) c) rfl ?_;intro w2 B2 bl2 hz2))
 go_ret
 have l1:=HC.out.blk.lt
 have l2:=HC.out.ws.lt p (.inl rfl)
 refine ⟨w1.heap.size,c,p,rfl,BL1.out.size,hc,hp,by omega,by omega,B2,HC.out.later bl2,BL1.out.trans (bl2.mono BL1.out.size)⟩
theorem packsNone (w:World) (b c p:Nat) (rb:Option Nat) (full:Value) (most:Int) (hB:Blk w b 150 (pkC full c)) (hC:CS w c p rb most []):
 Calls Tryz.prog 64 #[.pointer (some ⟨b,0,none⟩)] w fun e w'=>e=.returned full∧w'=w:=by
 have c0:w.cell? ⟨b,0,none⟩=some full:=hB.cell 0
 have c1:w.cell? ⟨b,1,none⟩=some (.pointer (some ⟨c,0,none⟩)):=hB.cell 1
 clear hB
 have HC:=zaa hC
 clear hC
 go_enter Tryz.func64,Tryz.ntmps64
 go_wp2_with fail
 refine (clenP w c p rb most [] HC.out).mono ?_
 rintro e w1 ⟨rfl,rfl⟩
 go_wp2_with fail
 go_ret
 exact ⟨rfl,rfl⟩
theorem zaz {P:Program} {o:Oper} {a:Act} {w:World} {K:Act→World→Prop} {Q:Exit→Act→World→Prop} {f:FuncId} {args:Array Value} (h:(execOp a.eval o).run P w=.ok (.enter f args) w) (hc:Calls P f args w fun e w'=>∃v,e=.returned v∧K (a.put o.dst v) w'):o.wp P a w K Q:=by
 unfold Oper.wp
 rw [h]
 refine Calls.mono hc ?_
 rintro e w' ⟨v,rfl,hk⟩
 exact hk
theorem za1 {P:Program} {Q:Exit→Act→World→Prop} {K:Act→World→Prop} {o:Oper} {a:Act} {w w':World} (v:Value) (h:(execOp a.eval o).run P w=.ok (.value v) w') (hk:K (a.put o.dst v) w'):o.wp P a w K Q:=by
 unfold Oper.wp
 rw [h]
 exact hk
theorem pk_r1 (b c g v:Nat) (t:Int) (ff:Bool) (I:Nat→World→Prop) (w:World) (a0:Act) (Q:Exit→Act→World→Prop) (hsz:a0.tmps.size=42)
 (s0:a0.tmps.getD 0 undef=.pointer (some ⟨b,0,none⟩))
 (s3:a0.tmps.getD 3 undef=.pointer (some ⟨g,0,none⟩))
 (cc:∀w1,(∃k,k≤1∧I k w1)→w1.cell? ⟨b,1,none⟩=some (.pointer (some ⟨c,0,none⟩)))
 (c0:∀w1,(∃k,k≤1∧I k w1)→w1.cell? ⟨g,0,none⟩=some (.int .i64 t))
 (c1:∀w1,(∃k,k≤1∧I k w1)→w1.cell? ⟨g,1,none⟩=some (.int .u64 (v:Int)))
 (h0:I 0 { w with drawn:=w.drawn+1 })
 (hC0:∀w1,I 0 w1→Calls Tryz.prog 84 #[.pointer (some ⟨c,0,none⟩),.int .i64 t,.int .u64 (v:Int)] w1 fun e w2=>e=.returned (.bool ff)∧I 1 w2)
 (hQ:∀(v5 v6 v7 v8 v9 v10 v11 v12 v13:Value) (w2:World),I 1 w2→Q .normal ((((((((((a0.put (some 5) v5).put (some 6) v6).put (some 7) v7).put (some 8) v8).put (some 9) v9).put (some 10) v10).put (some 11) v11).put (some 12) v12).put (some 13) v13).put (some 14) (.bool (!ff))) w2):
 Code.wp Tryz.prog ((Tryz.f63.body.bind (zag 1)).getD .skip) Q a0 w:=by
 conv=>arg 2;whnf
 refine zbj (fun i=>([.pointer (some ⟨b,0,none⟩),.pointer (some ⟨b,0,none⟩),.pointer (some ⟨b,1,none⟩),.pointer (some ⟨c,0,none⟩),.pointer (some ⟨g,0,none⟩),.int .i64 t,.pointer (some ⟨g,1,none⟩),.int .u64 (v:Int),.bool ff,.bool (!ff)]:List Value).getD i undef) I (fun j=>([8]:List Nat).getD j 0) 1 (by kernel_rfl) (by kernel_rfl) (by kernel_rfl) (by rw [hsz];kernel_rfl) ?hinj ?hqs ?hwait h0 ?hop ?hcA ?hdone
 case hinj=>
  intro j k hj hk h
  rcases (show j=0 by omega) with rfl <;> rcases (show k=0 by omega) with rfl <;> first|rfl|exact absurd h (by decide)
 case hqs=>
  intro j hj
  rcases (show j=0 by omega) with rfl <;> exact of_decide_eq_true (by kernel_rfl)
 case hwait=>
  intro j hj
  omega
 case hdone=>
  intro a w1 hI hS hT
  have kl:a.tmps.getD 14 undef=.bool (!ff):=hT 9 _ rfl
  have he:=zam hS
  have hQ2:=hQ (a.tmps.getD 5 undef) (a.tmps.getD 6 undef) (a.tmps.getD 7 undef) (a.tmps.getD 8 undef) (a.tmps.getD 9 undef) (a.tmps.getD 10 undef) (a.tmps.getD 11 undef) (a.tmps.getD 12 undef) (a.tmps.getD 13 undef) w1 hI
  rw [←kl] at hQ2
  rw [he]
  exact hQ2
 case hcA=>
  intro k hk o ho
  rcases (show k=0 by omega) with rfl
  obtain rfl:=Option.some.inj ho
  intro a w1 hI hS hD
  have d3:a.tmps.getD 8 undef=.pointer (some ⟨c,0,none⟩):=hD ⟨3,.data⟩ (by simp) rfl _ rfl
  have d5:a.tmps.getD 10 undef=.int .i64 t:=hD ⟨5,.data⟩ (by simp) rfl _ rfl
  have d7:a.tmps.getD 12 undef=.int .u64 (v:Int):=hD ⟨7,.data⟩ (by simp) rfl _ rfl
  refine ⟨rfl,?_⟩
  refine zaz (f:=84) (args:=#[.pointer (some ⟨c,0,none⟩),.int .i64 t,.int .u64 (v:Int)]) (by simp [execOp,resolve,Act.eval,d3,d5,d7,go_sem]) ?_
  refine (hC0 w1 hI).mono ?_
  rintro e w2 ⟨rfl,h2⟩
  exact ⟨_,rfl,_,rfl,h2,rfl⟩
 case hop=>
  intro i o hi hn
  have hlt:i<10:=(Array.getElem?_eq_some_iff.1 hi).1
  rcases (show i=0∨i=1∨i=2∨i=3∨i=4∨i=5∨i=6∨i=7∨i=8∨i=9 by omega) with rfl|rfl|rfl|rfl|rfl|rfl|rfl|rfl|rfl|rfl
  all_goals first|exact absurd rfl (hn 0 (by omega))|skip
  all_goals obtain rfl:=Option.some.inj hi
  all_goals clear hi hlt hn
  all_goals intro a w1 hI hS hD
  · exact zc rfl (by simp [execOp,Act.eval,zs hS s0,go_sem])
  · exact zc rfl (by simp [execOp,Act.eval,zdc hD 0 5,go_sem])
  · exact zc rfl (by simp [execOp,Act.eval,zdc hD 1 6,go_sem])
  · exact zc rfl (by simp [execOp,Act.eval,zdc hD 2 7,cc w1 hI,go_sem])
  · exact zc rfl (by simp [execOp,Act.eval,zs hS s3,go_sem])
  · exact zc rfl (by simp [execOp,Act.eval,zdc hD 4 9,c0 w1 hI,go_sem])
  · exact zc rfl (by simp [execOp,Act.eval,zs hS s3,go_sem])
  · exact zc rfl (by simp [execOp,Act.eval,zdc hD 6 11,c1 w1 hI,go_sem])
  exact zc rfl (by simp [execOp,Act.eval,zdc hD 8 13,go_sem])
theorem pk_r4 (b c g v:Nat) (t:Int) (ff:Bool) (I:Nat→World→Prop) (w:World) (a0:Act) (Q:Exit→Act→World→Prop) (hsz:a0.tmps.size=42)
 (s0:a0.tmps.getD 0 undef=.pointer (some ⟨b,0,none⟩))
 (s3:a0.tmps.getD 3 undef=.pointer (some ⟨g,0,none⟩))
 (cc:∀w1,(∃k,k≤1∧I k w1)→w1.cell? ⟨b,1,none⟩=some (.pointer (some ⟨c,0,none⟩)))
 (c0:∀w1,(∃k,k≤1∧I k w1)→w1.cell? ⟨g,0,none⟩=some (.int .i64 t))
 (c1:∀w1,(∃k,k≤1∧I k w1)→w1.cell? ⟨g,1,none⟩=some (.int .u64 (v:Int)))
 (h0:I 0 { w with drawn:=w.drawn+1 })
 (hC0:∀w1,I 0 w1→Calls Tryz.prog 84 #[.pointer (some ⟨c,0,none⟩),.int .i64 t,.int .u64 (v:Int)] w1 fun e w2=>e=.returned (.bool ff)∧I 1 w2)
 (hQ:∀(v33 v34 v35 v36 v37 v38 v39 v40:Value) (w2:World),I 1 w2→Q .normal (((((((((a0.put (some 33) v33).put (some 34) v34).put (some 35) v35).put (some 36) v36).put (some 37) v37).put (some 38) v38).put (some 39) v39).put (some 40) v40).put (some 41) (.bool ff)) w2):
 Code.wp Tryz.prog ((Tryz.f63.body.bind (zag 4)).getD .skip) Q a0 w:=by
 conv=>arg 2;whnf
 refine zbj (fun i=>([.pointer (some ⟨b,0,none⟩),.pointer (some ⟨b,0,none⟩),.pointer (some ⟨b,1,none⟩),.pointer (some ⟨c,0,none⟩),.pointer (some ⟨g,0,none⟩),.int .i64 t,.pointer (some ⟨g,1,none⟩),.int .u64 (v:Int),.bool ff]:List Value).getD i undef) I (fun j=>([8]:List Nat).getD j 0) 1 (by kernel_rfl) (by kernel_rfl) (by kernel_rfl) (by rw [hsz];kernel_rfl) ?hinj ?hqs ?hwait h0 ?hop ?hcA ?hdone
 case hinj=>
  intro j k hj hk h
  rcases (show j=0 by omega) with rfl <;> rcases (show k=0 by omega) with rfl <;> first|rfl|exact absurd h (by decide)
 case hqs=>
  intro j hj
  rcases (show j=0 by omega) with rfl <;> exact of_decide_eq_true (by kernel_rfl)
 case hwait=>
  intro j hj
  omega
 case hdone=>
  intro a w1 hI hS hT
  have kl:a.tmps.getD 41 undef=.bool ff:=hT 8 _ rfl
  have he:=zam hS
  have hQ2:=hQ (a.tmps.getD 33 undef) (a.tmps.getD 34 undef) (a.tmps.getD 35 undef) (a.tmps.getD 36 undef) (a.tmps.getD 37 undef) (a.tmps.getD 38 undef) (a.tmps.getD 39 undef) (a.tmps.getD 40 undef) w1 hI
  rw [←kl] at hQ2
  rw [he]
  exact hQ2
 case hcA=>
  intro k hk o ho
  rcases (show k=0 by omega) with rfl
  obtain rfl:=Option.some.inj ho
  intro a w1 hI hS hD
  have d3:a.tmps.getD 36 undef=.pointer (some ⟨c,0,none⟩):=hD ⟨3,.data⟩ (by simp) rfl _ rfl
  have d5:a.tmps.getD 38 undef=.int .i64 t:=hD ⟨5,.data⟩ (by simp) rfl _ rfl
  have d7:a.tmps.getD 40 undef=.int .u64 (v:Int):=hD ⟨7,.data⟩ (by simp) rfl _ rfl
  refine ⟨rfl,?_⟩
  refine zaz (f:=84) (args:=#[.pointer (some ⟨c,0,none⟩),.int .i64 t,.int .u64 (v:Int)]) (by simp [execOp,resolve,Act.eval,d3,d5,d7,go_sem]) ?_
  refine (hC0 w1 hI).mono ?_
  rintro e w2 ⟨rfl,h2⟩
  exact ⟨_,rfl,_,rfl,h2,rfl⟩
 case hop=>
  intro i o hi hn
  have hlt:i<9:=(Array.getElem?_eq_some_iff.1 hi).1
  rcases (show i=0∨i=1∨i=2∨i=3∨i=4∨i=5∨i=6∨i=7∨i=8 by omega) with rfl|rfl|rfl|rfl|rfl|rfl|rfl|rfl|rfl
  all_goals first|exact absurd rfl (hn 0 (by omega))|skip
  all_goals obtain rfl:=Option.some.inj hi
  all_goals clear hi hlt hn
  all_goals intro a w1 hI hS hD
  · exact zc rfl (by simp [execOp,Act.eval,zs hS s0,go_sem])
  · exact zc rfl (by simp [execOp,Act.eval,zdc hD 0 33,go_sem])
  · exact zc rfl (by simp [execOp,Act.eval,zdc hD 1 34,go_sem])
  · exact zc rfl (by simp [execOp,Act.eval,zdc hD 2 35,cc w1 hI,go_sem])
  · exact zc rfl (by simp [execOp,Act.eval,zs hS s3,go_sem])
  · exact zc rfl (by simp [execOp,Act.eval,zdc hD 4 37,c0 w1 hI,go_sem])
  · exact zc rfl (by simp [execOp,Act.eval,zs hS s3,go_sem])
  exact zc rfl (by simp [execOp,Act.eval,zdc hD 6 39,c1 w1 hI,go_sem])
def ph2 (A B:World→Prop):Nat→World→Prop
 |0=>A
 |_=>B
def smC (s:Sm):List Value:=[.int .i64 s.t,.int .u64 (s.v:Int)]
def KA (w:World) (g:Nat) (s:Sm) (w1:World):Prop:=Below w.heap.size w w1∧Blk w1 g 53 (smC s)
def KB (w:World) (b c p:Nat) (rb:Option Nat) (full:Value) (l:List Sm) (g:Nat) (s:Sm) (w1:World):Prop:=
 Blk w1 b 150 (pkC full c)∧Blk w1 g 53 (smC s)∧∃rb',CS w1 c p rb' 128 l∧Chg (FC c p rb) w w1∧Moved w rb rb'
theorem CS.lt {w:World} {c p:Nat} {rb:Option Nat} {most:Int} {l:List Sm} (h:CS w c p rb most l):∀i,FC c p rb i→i<w.heap.size:=by
 rintro i (hi|rfl)
 · exact h.ws.lt i hi
 exact h.blk.lt
theorem KA.app {w:World} {b c p g:Nat} {rb:Option Nat} {full:Value} {l:List Sm} {s:Sm} (hB:Blk w b 150 (pkC full c)) (hC:CS w c p rb 128 l) (hG:Gv w) (hs:OkS s) (hl:l.length≤1000000) (hF:¬FC c p rb b) (hg:w.heap.size≤g) {w1:World} (h:KA w g s w1):
 Calls Tryz.prog 84 #[.pointer (some ⟨c,0,none⟩),.int .i64 s.t,.int .u64 (s.v:Int)] w1 fun e w2=>e=.returned (.bool (decide (((encC (l++[s])).length:Int)≤128)))∧KB w b c p rb full (if ((encC (l++[s])).length:Int)≤128 then l++[s] else l) g s w2:=by
 refine (cappendP w1 c p rb 128 l s (hC.later h.1) (hG.later h.1) hs hl).mono ?_
 rintro e w2 ⟨rfl,rb',k1,k2,k3⟩
 refine ⟨rfl,k2.blk (hB.later h.1) hF,k2.blk h.2 (fun e=>absurd (hC.lt g e) (by omega)),rb',k1,(Chg.of_below (F:=FC c p rb) h.1).trans k2 (fun _ _ e=>e),?_⟩
 rcases k3 with rfl|⟨g',rfl,hg'⟩
 · exact .inl rfl
 exact .inr ⟨g',rfl,Nat.le_trans h.1.size hg'⟩
theorem packYes (w:World) (b c p:Nat) (rb:Option Nat) (full:Value) (l:List Sm) (s:Sm) (hB:Blk w b 150 (pkC full c)) (hC:CS w c p rb 128 l) (hG:Gv w) (hs:OkS s) (hl:l.length≤1000000) (hF:¬FC c p rb b) (hfit:((encC (l++[s])).length:Int)≤128):
 Calls Tryz.prog 63 #[.pointer (some ⟨b,0,none⟩),.agg #[.int .i64 s.t,.int .u64 (s.v:Int)]] w fun e w'=>e=.returned (.bool true)∧∃rb',Blk w' b 150 (pkC full c)∧CS w' c p rb' 128 (l++[s])∧Chg (FC c p rb) w w'∧Moved w rb rb':=by
 have HA:=zaa (fun (w1:World) (h:KA w w.heap.size s w1)=>by have h9:=KA.app hB hC hG hs hl hF (Nat.le_refl _) h;rw [if_pos hfit,decide_eq_true hfit] at h9;exact h9)
 have HB:=zaa hB
 have hlt:=hB.lt
 clear hB hC hG hs hl hF hfit
 go_enter Tryz.func63,Tryz.ntmps63
 go_wp2_with (first
  |(refine zac rfl 53 (.tmp 1) rfl (smC s) rfl ?_;intro w2 B2 bl2 hz2;have HB2:=zaa B2;have BL2:=zaa bl2;clear B2 bl2)
  |(refine pk_r1 b c w.heap.size s.v s.t true (ph2 (KA w w.heap.size s) (KB w b c p rb full (l++[s]) w.heap.size s)) _ _ _ rfl rfl rfl (fun w1 ⟨j,hj,hI⟩=>by rcases (show j=0∨j=1 by omega) with rfl|rfl;exact (HB.out.later hI.1).cell 1;exact hI.1.cell 1) (fun w1 ⟨j,hj,hI⟩=>by rcases (show j=0∨j=1 by omega) with rfl|rfl;exact hI.2.cell 0;exact hI.2.1.cell 0) (fun w1 ⟨j,hj,hI⟩=>by rcases (show j=0∨j=1 by omega) with rfl|rfl;exact hI.2.cell 1;exact hI.2.1.cell 1) ⟨BL2.out.drew,HB2.out.drew⟩ (fun w1 hI=>HA.out w1 hI) ?_;intro v5 v6 v7 v8 v9 v10 v11 v12 v13 w3 hI;have H3:=zaa hI;clear hI;simp only [Act.put,List.setIfInBounds_toArray,List.set_cons_succ,List.set_cons_zero,Bool.not_true]))
 go_ret
 obtain ⟨k1,k2,rb',k3,k4,k5⟩:=H3.out
 exact ⟨rfl,rb',k1,k3,k4,k5⟩
abbrev Gs:=List (List Sm)×List Sm
def gS (s:Gs) (x:Sm):Gs:=if ((encC (s.2++[x])).length:Int)≤128 then (s.1,s.2++[x]) else (s.1++[s.2],[x])
def gF (l:List Sm):Gs:=l.foldl gS ([],[])
def gO (s:Gs):List (List Sm):=if s.2=[] then s.1 else s.1++[s.2]
structure OkG (s:Gs):Prop where
 ne:∀g∈s.1,g≠[]
 full:s.2=[]→s.1=[]
 fit:∀g∈s.1,(encC g).length≤128
 fit2:(encC s.2).length≤128
 ok:∀g∈s.1,∀x∈g,OkS x
 ok2:∀x∈s.2,OkS x
theorem OkG.nil:OkG ([],[]):=⟨by simp,fun _=>rfl,by simp,by simp [encC],by simp,by simp⟩
theorem gS_yes {s:Gs} {x:Sm} (h:((encC (s.2++[x])).length:Int)≤128):gS s x=(s.1,s.2++[x]):=by unfold gS;rw [if_pos h]
theorem gS_no {s:Gs} {x:Sm} (h:¬((encC (s.2++[x])).length:Int)≤128):gS s x=(s.1++[s.2],[x]):=by unfold gS;rw [if_neg h]
theorem OkG.step {s:Gs} {x:Sm} (h:OkG s) (hx:OkS x):OkG (gS s x):=by
 by_cases hf:((encC (s.2++[x])).length:Int)≤128
 · rw [gS_yes hf]
   refine ⟨h.ne,fun e=>by simp at e,h.fit,(by show (encC (s.2++[x])).length≤128;omega),h.ok,fun y hy=>?_⟩
   rcases List.mem_append.1 hy with hy|hy
   · exact h.ok2 y hy
   simp at hy;subst hy;exact hx
 rw [gS_no hf]
 have h2:s.2≠[]:=by
  intro e
  rw [e] at hf
  have:=zep x
  simp only [List.nil_append] at hf
  omega
 refine ⟨fun g hg=>?_,(fun e=>by simp at e),fun g hg=>?_,by have:=zep x;simp only;omega,fun g hg=>?_,fun y hy=>by simp at hy;subst hy;exact hx⟩
 all_goals
  rcases List.mem_append.1 hg with hg|hg
 · exact h.ne g hg
 · simp at hg;subst hg;exact h2
 · exact h.fit g hg
 · simp at hg;subst hg;exact h.fit2
 · exact h.ok g hg
 simp at hg;subst hg;exact h.ok2
theorem OkG.fold:∀{l:List Sm} {s:Gs},OkG s→(∀x∈l,OkS x)→OkG (l.foldl gS s)
 |[],_,h,_=>h
 |x :: l,s,h,hl=>OkG.fold (l:=l) (s:=gS s x) (h.step (hl x (by simp))) (fun y hy=>hl y (by simp [hy]))
theorem okG {l:List Sm} (h:∀x∈l,OkS x):OkG (gF l):=OkG.nil.fold h
theorem gS_flat (s:Gs) (x:Sm):(gS s x).1.flatten++(gS s x).2=s.1.flatten++s.2++[x]:=by
 unfold gS
 split <;> simp
theorem zdu:∀(l:List Sm) (s:Gs),(l.foldl gS s).1.flatten++(l.foldl gS s).2=s.1.flatten++s.2++l
 |[],s=>by simp
 |x :: l,s=>by
  show (l.foldl gS (gS s x)).1.flatten++(l.foldl gS (gS s x)).2=_
  rw [zdu l,gS_flat]
  simp
theorem zd3 (s:Gs):(gO s).flatten=s.1.flatten++s.2:=by
 unfold gO
 split
 · next h=>rw [h];simp
 simp
theorem zbd (l:List Sm):(gO (gF l)).flatten=l:=by
 rw [zd3]
 unfold gF
 rw [zdu]
 simp
theorem gS_pre (G:List (List Sm)) (s:Gs) (x:Sm):gS (G++s.1,s.2) x=(G++(gS s x).1,(gS s x).2):=by
 unfold gS
 simp only
 split <;> simp
theorem fold_pre (G:List (List Sm)):∀(m:List Sm) (s:Gs),m.foldl gS (G++s.1,s.2)=(G++(m.foldl gS s).1,(m.foldl gS s).2)
 |[],s=>rfl
 |x :: m,s=>by
  show m.foldl gS (gS (G++s.1,s.2) x)=_
  rw [gS_pre]
  exact fold_pre G m (gS s x)
theorem fit_fold:∀(b a:List Sm) (G:List (List Sm)),(∀x∈a++b,OkS x)→(encC (a++b)).length≤128→b.foldl gS (G,a)=(G,a++b)
 |[],a,G,_,_=>by simp
 |x :: b,a,G,h,hf=>by
  have e:a++x :: b=(a++[x])++b:=by simp
  rw [e] at h hf ⊢
  have h1:=encC_pre h
  show b.foldl gS (gS (G,a) x)=_
  rw [gS_yes (by simp only;omega)]
  exact fit_fold b (a++[x]) G h hf
theorem gF_open {l:List Sm} (h:∀x∈l,OkS x):(gF l).2.foldl gS ([],[])=([],(gF l).2):=by
 have k:=okG h
 exact fit_fold _ [] [] (by simpa using k.ok2) (by simpa using k.fit2)
theorem gF_app (l m:List Sm):gF (l++m)=m.foldl gS (gF l):=by unfold gF;rw [List.foldl_append]
def gB (l m:List Sm):Gs:=m.foldl gS ([],(gF l).2)
theorem gF_behind (l m:List Sm):gF (l++m)=((gF l).1++(gB l m).1,(gB l m).2):=by
 rw [gF_app]
 have:=fold_pre (gF l).1 m ([],(gF l).2)
 simp only [List.append_nil] at this
 exact this
theorem zby (l m:List Sm):gO (gF (l++m))=(gF l).1++gO (gB l m):=by
 rw [gF_behind]
 unfold gO
 simp only
 split <;> simp
theorem za8 {l:List Sm} (h:(encC l).length≤128):l.length≤1000:=by
 cases l with
 |nil=>simp
 |cons s t=>
  rw [zbl (by simp)] at h
  have h2:=moB_ge t (tr0 s)
  have e:(rowB (s :: t)).length=128+(moB (tr0 s) t).length:=by simp [rowB,fiB,zaq];omega
  rw [e] at h
  simp only [List.length_cons]
  omega
theorem zcs {s:Gs} (h:OkG s):∀g∈gO s,g≠[]∧(encC g).length≤128∧∀x∈g,OkS x:=by
 intro g hg
 unfold gO at hg
 split at hg
 · exact ⟨h.ne g hg,h.fit g hg,h.ok g hg⟩
 next e=>
 rcases List.mem_append.1 hg with hg|hg
 · exact ⟨h.ne g hg,h.fit g hg,h.ok g hg⟩
 simp at hg;subst hg;exact ⟨e,h.fit2,h.ok2⟩
theorem zdt {s:Gs} (h:OkG s):(gO s).length≤(gO s).flatten.length:=by
 have hk:∀G:List (List Sm),(∀g∈G,g≠[])→G.length≤G.flatten.length:=by
  intro G
  induction G with
  |nil=>intro _;simp
  |cons g G ih=>
   intro hG
   have h1:=ih (fun x hx=>hG x (by simp [hx]))
   have h2:=List.length_pos_iff.2 (hG g (by simp))
   simp only [List.length_cons,List.flatten_cons,List.length_append]
   omega
 exact hk _ (fun g hg=>(zcs h g hg).1)
theorem gO_nil {s:Gs} (h:OkG s):gO s=[]↔s.2=[]:=by
 unfold gO
 constructor
 · intro e
   split at e
   · assumption
   simp at e
 intro e;rw [if_pos e,h.full e]
theorem zcy {l:List Sm} (h:∀x∈l,OkS x):(gF l).2=[]↔l=[]:=by
 constructor
 · intro e
   have:=zbd l
   rw [(gO_nil (okG h)).2 e] at this
   simpa using this.symm
 rintro rfl;rfl
theorem zcx {s:Gs} (h:s.2≠[]):gO s=s.1++[s.2]:=by unfold gO;rw [if_neg h]
def LtT (a b:Sm):Prop:=a.t<b.t
instance (a b:Sm):Decidable (LtT a b):=by unfold LtT;infer_instance
def Ris (l:List Sm):Prop:=l.Pairwise LtT
instance (l:List Sm):Decidable (Ris l):=by unfold Ris;infer_instance
def riS (s:Sm×Bool) (x:Sm):Bool×(Sm×Bool):=if s.2=true∧x.t≤s.1.t then (false,s) else (true,(x,true))
theorem ri_true (s:Sm):∀(l:List Sm),(zau riS l (s,true)).1=decide (Ris (s :: l))∧((zau riS l (s,true)).1=true→(zau riS l (s,true)).2=(l.getLast?.getD s,true)):=by
 intro l
 induction l generalizing s with
 |nil=>exact ⟨by simp [zau,Ris],fun _=>rfl⟩
 |cons x l ih=>
  by_cases h:x.t≤s.t
  · have e:riS (s,true) x=(false,(s,true)):=by unfold riS;rw [if_pos ⟨rfl,h⟩]
    have e2:zau riS (x :: l) (s,true)=(false,(s,true)):=by
     show (if (riS (s,true) x).1 then _ else _)=_
     rw [e];rfl
    rw [e2]
    refine ⟨?_,fun e=>by cases e⟩
    symm
    rw [decide_eq_false_iff_not]
    intro hr
    have:=(List.pairwise_cons.1 hr).1 x (by simp)
    unfold LtT at this
    omega
  have e:riS (s,true) x=(true,(x,true)):=by unfold riS;rw [if_neg (by simp;omega)]
  have e2:zau riS (x :: l) (s,true)=zau riS l (x,true):=by
   show (if (riS (s,true) x).1 then zau riS l (riS (s,true) x).2 else _)=_
   rw [e];rfl
  rw [e2]
  obtain ⟨i1,i2⟩:=ih x
  refine ⟨?_,fun h1=>?_⟩
  · rw [i1]
    refine decide_eq_decide.2 ⟨fun hr=>?_,fun hr=>(List.pairwise_cons.1 hr).2⟩
    refine List.pairwise_cons.2 ⟨fun y hy=>?_,hr⟩
    rcases List.mem_cons.1 hy with rfl|hy
    · unfold LtT;omega
    have:=(List.pairwise_cons.1 hr).1 y hy
    unfold LtT at*
    omega
  rw [i2 h1]
  cases l with
  |nil=>rfl
  |cons y l=>rw [List.getLast?_cons_cons];simp [List.getLast?_cons]
def z0:Sm:=⟨0,0⟩
theorem zdn (l:List Sm):(zau riS l (z0,false)).1=decide (Ris l)∧((zau riS l (z0,false)).1=true→(zau riS l (z0,false)).2=(l.getLast?.getD z0,!l.isEmpty)):=by
 cases l with
 |nil=>exact ⟨by simp [zau,Ris],fun _=>rfl⟩
 |cons x l=>
  have e:riS (z0,false) x=(true,(x,true)):=by unfold riS;rw [if_neg (by simp)]
  have e2:zau riS (x :: l) (z0,false)=zau riS l (x,true):=by
   show (if (riS (z0,false) x).1 then zau riS l (riS (z0,false) x).2 else _)=_
   rw [e];rfl
  rw [e2]
  obtain ⟨i1,i2⟩:=ri_true x l
  refine ⟨i1,fun h1=>?_⟩
  rw [i2 h1]
  cases l with
  |nil=>rfl
  |cons y l=>rw [List.getLast?_cons_cons];simp [List.getLast?_cons]
theorem ri_two {o l:List Sm} (h:Ris o):(zau riS l (zau riS o (z0,false)).2).1=decide (Ris (o++l)):=by
 have h1:=(zdn o).1
 rw [decide_eq_true h] at h1
 rw [(zdn o).2 h1]
 rcases List.eq_nil_or_concat o with rfl|⟨o',x,rfl⟩
 · simpa using (zdn l).1
 rw [List.concat_eq_append] at*
 have e:((o'++[x]).getLast?.getD z0,!(o'++[x]).isEmpty)=(x,true):=by simp
 rw [e,(ri_true x l).1]
 refine decide_eq_decide.2 ⟨fun hr=>?_,fun hr=>?_⟩
 · rw [List.append_assoc]
   unfold Ris at*
   rw [List.pairwise_append] at h ⊢
   refine ⟨h.1,hr,fun a ha b hb=>?_⟩
   rcases List.mem_cons.1 hb with rfl|hb
   · exact h.2.2 a ha b (by simp)
   have h1:=h.2.2 a ha x (by simp)
   have h2:=(List.pairwise_cons.1 hr).1 b hb
   unfold LtT at*
   omega
 rw [List.append_assoc] at hr
 exact (List.pairwise_append.1 hr).2.1
theorem ris_open {A l:List Sm} (hA:∀x∈A,OkS x) (h:Ris A):Ris (gF A).2∧(Ris ((gF A).2++l)↔Ris (A++l)):=by
 have e:(gF A).1.flatten++(gF A).2=A:=by rw [←zd3];exact zbd A
 have hn:=zcy hA
 generalize (gF A).1.flatten=a at e
 generalize (gF A).2=b at e hn
 subst e
 unfold Ris at*
 have hs:=List.pairwise_append.1 h
 refine ⟨hs.2.1,?_,?_⟩
 · intro h2
   rw [List.append_assoc,List.pairwise_append]
   refine ⟨hs.1,h2,fun x hx y hy=>?_⟩
   rcases List.mem_append.1 hy with hy1|hy2
   · exact hs.2.2 x hx y hy1
   have hb:b≠[]:=by
    intro e
    have:=hn.1 e
    rw [e] at this
    simp at this
    subst this
    simp at hx
   have hyl:=hy2
   obtain ⟨z,t,rfl⟩:=List.exists_cons_of_ne_nil hb
   have h3:=hs.2.2 x hx z (by simp)
   have h4:=(List.pairwise_append.1 h2).2.2 z (by simp) y hyl
   unfold LtT at*
   omega
 intro h2
 rw [List.append_assoc] at h2
 exact (List.pairwise_append.1 h2).2.1
theorem zcd (l:List Int) (h:Byte l):K.bts (strOfNums l)=l:=by
 unfold K.bts strOfNums
 simp only [List.map_map]
 apply List.ext_getElem?
 intro j
 rw [List.getElem?_map]
 cases e:l[j]? with
 |none=>rfl
 |some x=>
  have:=h x (List.mem_of_getElem? e)
  simp
  omega
theorem encQ_byte (n:Nat) (h:n<18446744073709551616):Byte (Q.enc n):=by
 rw [Q.enc_pre]
 intro x hx
 rcases List.mem_append.1 hx with hx|hx
 · have:=Q.pre_byte _ _ x hx
   omega
 rw [List.mem_singleton.1 hx]
 have:=Q.last_lt n h
 generalize n / 128 ^ Q.grp n=q at*
 omega
theorem zb5 (l:List Sm) (h:l.length<18446744073709551616):Byte (encC l):=by
 unfold encC
 split
 · intro x hx;exact absurd hx (by simp)
 intro x hx
 rcases List.mem_append.1 hx with hx|hx
 · exact encQ_byte _ h x hx
 exact zgb _ x hx
theorem lst_no {S:Nat→Bool}:∀{n i:Nat},K.lst S n i=none→∀j,i≤j→j<i+n→S j=false:=by
 intro n
 induction n with
 |zero=>intro i _ j h1 h2;omega
 |succ n ih=>
  intro i h j h1 h2
  unfold K.lst at h
  split at h
  · cases h
  rename_i hS
  by_cases e:j=i
  · subst e;simpa using hS
  exact ih h j (by omega) (by omega)
theorem full_len {st:K.Sx} {n:Nat} (h:K.fst1 st n=none):(K.tkL st n).length=n:=by
 have h1:∀j,j<n→∃x,st j=some x:=by
  intro j hj
  have:=lst_no h j (by omega) (by omega)
  simp [hj] at this
  cases e:st j with
  |none=>rw [e] at this;simp at this
  |some x=>exact ⟨x,rfl⟩
 unfold K.tkL
 have key:∀l:List Nat,(∀j∈l,j<n)→(l.filterMap fun i=>(st i).map fun x=>((i:Int),K.leV x.1 x.2)).length=l.length:=by
  intro l
  induction l with
  |nil=>intro _;rfl
  |cons i l ih=>
   intro hl
   obtain ⟨x,hx⟩:=h1 i (hl i (List.mem_cons_self ..))
   simp only [List.filterMap_cons,hx,Option.map_some,List.length_cons]
   rw [ih (fun j hj=>hl j (List.mem_cons_of_mem _ hj))]
 rw [key _ (fun j hj=>List.mem_range.1 hj),List.length_range]
theorem tk_new {st:K.Sx} {n i:Nat} (hi:i<n) (hs:st i=none) (x:ByteArray×ByteArray):(K.tkL (K.upS st i (some x)) n).length=(K.tkL st n).length+1:=by
 have h1:=(K.tk_add st n i x.1 x.2 hi).length_eq
 have h3:rm (K.tkL st n) (i:Int)=K.tkL st n:=by
  unfold rm
  rw [List.filter_eq_self]
  rintro ⟨k,v⟩ hp
  obtain ⟨j,_,x,hx,e,_⟩:=K.mem_tkL.1 hp
  simp only [decide_eq_true_eq]
  intro e2
  rw [e] at e2
  have:j=i:=by omega
  rw [this,hs] at hx
  cases hx
 rw [h3,List.length_cons] at h1
 exact h1.symm
theorem tk_same {st:K.Sx} {n i:Nat} (hi:i<n) {y:ByteArray×ByteArray} (hs:st i=some y) (x:ByteArray×ByteArray):(K.tkL (K.upS st i (some x)) n).length=(K.tkL st n).length:=by
 have e:K.upS (K.upS st i none) i (some y)=st:=by
  funext j
  unfold K.upS
  by_cases h:j=i
  · rw [if_pos h,h,hs]
  rw [if_neg h,if_neg h]
 have e2:K.upS (K.upS st i none) i (some x)=K.upS st i (some x):=by
  funext j
  unfold K.upS
  split <;> rfl
 have h1:=tk_new (st:=K.upS st i none) (n:=n) hi (by simp [K.upS]) x
 have h2:=tk_new (st:=K.upS st i none) (n:=n) hi (by simp [K.upS]) y
 rw [e] at h2
 rw [e2] at h1
 omega
theorem zc1 (st:K.Sx) (i:Nat) (x:Option (ByteArray×ByteArray)):K.upS st i x i=x:=by simp [K.upS]
theorem zey {st:K.Sx} {i j:Nat} (h:j≠i) (x:Option (ByteArray×ByteArray)):K.upS st i x j=st j:=by simp [K.upS,h]
abbrev En:=Int×(List Nat×List Sm)
def Lies (st:K.Sx) (o:ByteArray) (sl:List Nat) (G:List (List Sm)):Prop:=sl.length=G.length∧∀(i s:Nat) (g:List Sm),sl[i]?=some s→G[i]?=some g→∃d,st s=some (o,d)∧K.bts d=encC g
structure OkE (st:K.Sx) (o:ByteArray) (e:En):Prop where
 key:0≤e.1
 ne:e.2.2≠[]
 ris:Ris e.2.2
 ok:∀x∈e.2.2,OkS x
 lies:Lies st o e.2.1 (gO (gF e.2.2))
structure SZ (n:Nat) (st:K.Sx) (Z:ByteArray→List En):Prop where
 key:∀o,(Z o).Pairwise (fun p q=>¬p.1=q.1)
 each:∀o e,e∈Z o→OkE st o e
 nd:∀o,((Z o).flatMap fun e=>e.2.1).Nodup
 mem:∀o i,(i∈(Z o).flatMap fun e=>e.2.1)↔i<n∧∃d,st i=some (o,d)
 small:∀i o d,st i=some (o,d)→d.size≤128
def enL (l:List En) (k:Int):List Nat×List Sm:=((l.find? (fun p=>decide (p.1=k))).map (·.2)).getD ([],[])
theorem zbz {l:List En} {k:Int}:((k,enL l k)∈l)∨(enL l k=([],[])∧∀p∈l,¬p.1=k):=by
 unfold enL
 cases e:l.find? (fun p=>decide (p.1=k)) with
 |none=>exact .inr ⟨rfl,fun p hp=>by simpa using List.find?_eq_none.1 e p hp⟩
 |some p=>
  refine .inl ?_
  have h1:=List.find?_some e
  have h2:=List.mem_of_find?_eq_some e
  simp only [decide_eq_true_eq] at h1
  show (k,p.2)∈l
  rw [←h1]
  exact h2
theorem SZ.samV {n:Nat} {st:K.Sx} {Z:ByteArray→List En} (h:SZ n st Z) {o:ByteArray} {e:En} (he:e∈Z o) {i s:Nat} {g:List Sm} (hs:e.2.1[i]?=some s) (hg:(gO (gF e.2.2))[i]?=some g):samV st n (s:Int)=g∧s<n:=by
 have k:=h.each o e he
 obtain ⟨d,h1,h2⟩:=k.lies.2 i s g hs hg
 have hn:s<n:=((h.mem o s).1 (List.mem_flatMap.2 ⟨e,he,List.mem_of_getElem? hs⟩)).1
 refine ⟨?_,hn⟩
 have hk:=zcs (okG k.ok) g (List.mem_of_getElem? hg)
 unfold Go.Proofs.YtlppibigceeimaaGreatDoor.samV K.atS
 rw [if_pos ⟨by omega,by omega⟩,Int.toNat_natCast,h1]
 simp only [Option.map_some]
 rw [h2,rd_enc hk.2.2 (by have:=za8 hk.2.1;omega)]
 rfl
def hadL (sl:List Nat):Nat:=min sl.length 1
structure KI (n:Nat) (o:ByteArray) (st:K.Sx) (sl:List Nat) (C:List (List Sm)) (i:Nat) (news:List Nat) (sti:K.Sx):Prop where
 len:news.length=i - hadL sl
 new:∀s∈news,s<n∧st s=none
 nd:news.Nodup
 off:∀s,s∉news→(i=0∨sl.getLast?≠some s)→sti s=st s
 put:∀(j s:Nat) (g:List Sm),j<i→(sl++news)[sl.length - hadL sl+j]?=some s→C[j]?=some g→∃d,sti s=some (o,d)∧K.bts d=encC g
 cnt:(K.tkL sti n).length=(K.tkL st n).length+news.length
 small:∀i o d,sti i=some (o,d)→d.size≤128
theorem KI.start {n:Nat} {o:ByteArray} {st:K.Sx} {sl:List Nat} {C:List (List Sm)} (h:∀i o d,st i=some (o,d)→d.size≤128):KI n o st sl C 0 [] st:=
 ⟨by simp,by simp,List.nodup_nil,fun _ _ _=>rfl,fun j s g hj=>by omega,by simp,h⟩
theorem ze8 {sl:List Nat} (h:sl≠[]):sl.getLast?=sl[sl.length - 1]?:=by rw [List.getLast?_eq_getElem?]
theorem KI.has {n:Nat} {o:ByteArray} {st:K.Sx} {sl:List Nat} {C:List (List Sm)} {i:Nat} {news:List Nat} {sti:K.Sx} (h:KI n o st sl C i news sti) (hi:i≤C.length) {s:Nat} (hs:s∈news∨(0<i∧sl.getLast?=some s)):∃d,sti s=some (o,d):=by
 have hl:=h.len
 unfold hadL at*
 have key:∃j,j<i∧(sl++news)[sl.length - hadL sl+j]?=some s:=by
  unfold hadL
  rcases hs with hs|⟨h0,hs⟩
  · obtain ⟨m,hm⟩:=List.mem_iff_getElem?.1 hs
    have hml:=(List.getElem?_eq_some_iff.1 hm).1
    refine ⟨m+min sl.length 1,by omega,?_⟩
    rw [List.getElem?_append_right (by omega),←hm]
    congr 1
    omega
  have hne:sl≠[]:=by rintro rfl;simp at hs
  have hp:=List.length_pos_iff.2 hne
  refine ⟨0,h0,?_⟩
  rw [List.getElem?_append_left (by omega)]
  rw [ze8 hne] at hs
  rw [←hs]
  congr 1
  omega
 obtain ⟨j,hj,e⟩:=key
 obtain ⟨d,h1,_⟩:=h.put j s (C[j]'(by omega)) hj e (by simp)
 exact ⟨d,h1⟩
theorem KI.take {n:Nat} {o:ByteArray} {st:K.Sx} {sl:List Nat} {C:List (List Sm)} {i:Nat} {news:List Nat} {sti:K.Sx} (h:KI n o st sl C i news sti) {g:List Sm} (hg:C[i]?=some g) (hw:0<i∨sl=[]) {j:Nat} (hf:K.fst1 sti n=some j) (d:ByteArray) (hd:K.bts d=encC g) (hd1:d.size≤128):
 KI n o st sl C (i+1) (news++[j]) (K.upS sti j (some (o,d)))∧(sl++news++[j]).getLast?=some j:=by
 obtain ⟨h1,h2⟩:=K.fst_spec hf
 have hic:=(List.getElem?_eq_some_iff.1 hg).1
 have hjn:j∉news:=by
  intro hm
  obtain ⟨d',e⟩:=h.has (by omega) (.inl hm)
  rw [h2] at e
  cases e
 have hjl:i=0∨sl.getLast?≠some j:=by
  by_cases h0:i=0
  · exact .inl h0
  refine .inr (fun e=>?_)
  obtain ⟨d',e⟩:=h.has (by omega) (.inr ⟨by omega,e⟩)
  rw [h2] at e
  cases e
 have hst:st j=none:=by rw [←h.off j hjn hjl];exact h2
 have hl:=h.len
 refine ⟨⟨?_,?_,?_,?_,?_,?_,?_⟩,by simp⟩
 · rw [List.length_append,hl]
   unfold hadL
   rcases hw with hw|rfl
   · simp only [List.length_cons,List.length_nil];omega
   simp
 · intro s hs
   rcases List.mem_append.1 hs with hs|hs
   · exact h.new s hs
   simp at hs;subst hs;exact ⟨h1,hst⟩
 · rw [List.nodup_append]
   exact ⟨h.nd,by simp,fun a ha b hb e=>by simp at hb;subst hb;subst e;exact hjn ha⟩
 · intro s hs ho
   have hs1:s∉news:=fun e=>hs (List.mem_append.2 (.inl e))
   have hs2:s≠j:=fun e=>hs (by simp [e])
   rw [zey hs2]
   refine h.off s hs1 ?_
   by_cases h0:i=0
   · exact .inl h0
   rcases ho with ho|ho
   · omega
   exact .inr ho
 · intro q s g' hq hs hg'
   rw [←List.append_assoc] at hs
   by_cases hqi:q<i
   · have hidx:sl.length - hadL sl+q<(sl++news).length:=by
      rw [List.length_append,hl]
      unfold hadL
      rcases hw with hw|rfl
      · omega
      simp;omega
     rw [List.getElem?_append_left hidx] at hs
     have hsj:s≠j:=by
      rintro rfl
      obtain ⟨d',e,_⟩:=h.put q s g' hqi hs hg'
      rw [h2] at e
      cases e
     rw [zey hsj]
     exact h.put q s g' hqi hs hg'
   have hqe:q=i:=by omega
   subst hqe
   have hidx:sl.length - hadL sl+q=(sl++news).length:=by
    rw [List.length_append,hl]
    unfold hadL
    rcases hw with hw|rfl
    · by_cases h9:sl.length=0
      · rw [h9];simp
      omega
    simp
   rw [hidx,List.getElem?_append_right (Nat.le_refl _)] at hs
   simp at hs
   subst hs
   rw [zc1]
   rw [hg] at hg'
   cases hg'
   exact ⟨d,rfl,hd⟩
 · rw [tk_new h1 h2,h.cnt]
   simp
   omega
 intro q o' d' e
 by_cases hq:q=j
 · subst hq
   rw [zc1] at e
   cases e
   exact hd1
 rw [zey hq] at e
 exact h.small q o' d' e
theorem KI.put0 {n:Nat} {o:ByteArray} {st:K.Sx} {sl:List Nat} {C:List (List Sm)} (hsm:∀i o d,st i=some (o,d)→d.size≤128) {g:List Sm} (hg:C[0]?=some g) {s:Nat} (hs:sl.getLast?=some s) (hn:s<n) {d0:ByteArray} (hst:st s=some (o,d0)) (d:ByteArray) (hd:K.bts d=encC g) (hd1:d.size≤128):
 KI n o st sl C 1 [] (K.upS st s (some (o,d))):=by
 have hne:sl≠[]:=by rintro rfl;simp at hs
 have hp:=List.length_pos_iff.2 hne
 refine ⟨?_,by simp,List.nodup_nil,?_,?_,?_,?_⟩
 · unfold hadL;simp;omega
 · intro s' _ h
   rcases h with h|h
   · omega
   rw [zey (fun e=>h (by rw [e];exact hs))]
 · intro j s' g' hj hs' hg'
   have:j=0:=by omega
   subst this
   rw [hg] at hg'
   cases hg'
   rw [ze8 hne] at hs
   rw [List.append_nil] at hs'
   have e:sl.length - hadL sl+0=sl.length - 1:=by unfold hadL;omega
   rw [e,hs] at hs'
   cases hs'
   rw [zc1]
   exact ⟨d,rfl,hd⟩
 · rw [tk_same hn hst]
   simp
 intro q o' d' e
 by_cases hq:q=s
 · subst hq
   rw [zc1] at e
   cases e
   exact hd1
 rw [zey hq] at e
 exact hsm q o' d' e
def slF (e:En):List Nat:=e.2.1
def rmE (l:List En) (k:Int):List En:=l.filter (fun p=>decide (¬p.1=k))
def setZ (Z:ByteArray→List En) (o:ByteArray) (k:Int) (x:List Nat×List Sm):ByteArray→List En:=fun o'=>if o'=o then (k,x) :: rmE (Z o) k else Z o'
theorem mem_rmE {l:List En} {k:Int} {e:En}:e∈rmE l k↔e∈l∧¬e.1=k:=by unfold rmE;simp
theorem rmE_no:∀{l:List En} {k:Int},(∀p∈l,¬p.1=k)→rmE l k=l:=by
 intro l k h
 unfold rmE
 rw [List.filter_eq_self]
 intro a ha
 simpa using h a ha
theorem zdd:∀{l:List En} (k:Int),l.Pairwise (fun p q=>¬p.1=q.1)→(l.flatMap slF).Perm ((enL l k).1++(rmE l k).flatMap slF)
 |[],k,_=>by simp [enL,rmE]
 |e :: l,k,h=>by
  have h2:=List.pairwise_cons.1 h
  by_cases hk:e.1=k
  · have e1:enL (e :: l) k=e.2:=by unfold enL;rw [List.find?_cons_of_pos (by simpa using hk)];rfl
    have e2:rmE (e :: l) k=l:=by
     unfold rmE
     rw [List.filter_cons_of_neg (by simp [hk])]
     exact rmE_no (fun p hp e=>h2.1 p hp (by rw [hk,e]))
    rw [e1,e2,List.flatMap_cons]
    exact List.Perm.refl _
  have e1:enL (e :: l) k=enL l k:=by unfold enL;rw [List.find?_cons_of_neg (by simpa using hk)]
  have e2:rmE (e :: l) k=e :: rmE l k:=by
   unfold rmE
   rw [List.filter_cons_of_pos (by simp [hk])]
  rw [e1,e2,List.flatMap_cons,List.flatMap_cons]
  refine ((zdd k h2.2).append_left (slF e)).trans ?_
  rw [←List.append_assoc,←List.append_assoc]
  exact List.Perm.append_right _ List.perm_append_comm
theorem OkE.same {st st':K.Sx} {o:ByteArray} {e:En} (h:OkE st o e) (hs:∀s∈e.2.1,st' s=st s):OkE st' o e:=
 ⟨h.key,h.ne,h.ris,h.ok,h.lies.1,fun i s g hi hg=>by rw [hs s (List.mem_of_getElem? hi)];exact h.lies.2 i s g hi hg⟩
theorem SZ.en {n:Nat} {st:K.Sx} {Z:ByteArray→List En} (h:SZ n st Z) (o:ByteArray) (k:Int):Lies st o (enL (Z o) k).1 (gO (gF (enL (Z o) k).2))∧Ris (enL (Z o) k).2∧(∀x∈(enL (Z o) k).2,OkS x)∧((enL (Z o) k).1=[]↔(enL (Z o) k).2=[]):=by
 rcases zbz (l:=Z o) (k:=k) with hm|⟨he,_⟩
 · have:=h.each o _ hm
   refine ⟨this.lies,this.ris,this.ok,fun e=>?_,fun e=>absurd e this.ne⟩
   have hl:=this.lies.1
   simp only at hl
   rw [e] at hl
   have h0:gO (gF (enL (Z o) k).2)=[]:=List.length_eq_zero_iff.1 hl.symm
   exact (zcy this.ok).1 ((gO_nil (okG this.ok)).1 h0)
 rw [he]
 exact ⟨⟨rfl,fun i s g hi=>by simp at hi⟩,List.Pairwise.nil,by simp,by simp⟩
theorem SZ.keep {n:Nat} {st st':K.Sx} {Z:ByteArray→List En} (h:SZ n st Z) {o:ByteArray} {k:Int} (hk:0≤k) {m:List Sm} (hm:m≠[]) (hr:Ris ((enL (Z o) k).2++m)) (hok:∀x∈m,OkS x) {news:List Nat}
 (hK:KI n o st (enL (Z o) k).1 (gO (gB (enL (Z o) k).2 m)) (gO (gB (enL (Z o) k).2 m)).length news st'):SZ n st' (setZ Z o k ((enL (Z o) k).1++news,(enL (Z o) k).2++m)):=by
 obtain ⟨hL,hR,hO,hE⟩:=h.en o k
 have hp:=zdd k (h.key o)
 have hnd:((enL (Z o) k).1++(rmE (Z o) k).flatMap slF).Nodup:=hp.nodup_iff.1 (h.nd o)
 have hmem:∀i,i∈(enL (Z o) k).1++(rmE (Z o) k).flatMap slF↔i<n∧∃d,st i=some (o,d):=fun i=>hp.mem_iff.symm.trans (h.mem o i)
 have hgo:=zby (enL (Z o) k).2 m
 generalize hsl:(enL (Z o) k).1=sl at*
 generalize hA:(enL (Z o) k).2=A at*
 generalize hC:gO (gB A m)=C at*
 have hC0:C≠[]:=by
  intro e
  have h1:gO (gF (A++m))≠[]:=by
   intro e2
   have:=zbd (A++m)
   rw [e2] at this
   simp at this
   exact hm this.2
  have hokm:∀x∈A++m,OkS x:=fun x hx=>by rcases List.mem_append.1 hx with hx|hx;exact hO x hx;exact hok x hx
  have hg2:(gF (A++m)).2≠[]:=fun e=>h1 ((gO_nil (okG hokm)).2 e)
  rw [←hC] at e
  have h3:(gB A m).2=[]:=by
   unfold gO at e
   split at e
   · assumption
   simp at e
  rw [gF_behind] at hg2
  exact hg2 h3
 have hC1:=List.length_pos_iff.2 hC0
 have hlen:sl.length=(gF A).1.length+hadL sl:=by
  rw [hL.1]
  unfold hadL
  by_cases h0:A=[]
  · subst h0
    have:sl=[]:=hE.2 rfl
    subst this
    rfl
  have h2:(gF A).2≠[]:=fun e=>h0 ((zcy hO).1 e)
  have h3:sl≠[]:=fun e=>h0 (hE.1 e)
  have h4:=List.length_pos_iff.2 h3
  rw [zcx h2]
  simp
  omega
 have hsome:∀s,s∈news∨sl.getLast?=some s→∃d,st' s=some (o,d):=fun s hs=>hK.has (Nat.le_refl _) (hs.imp id (fun e=>⟨hC1,e⟩))
 have hoff:∀s,s∉news→sl.getLast?≠some s→st' s=st s:=fun s h1 h2=>hK.off s h1 (.inr h2)
 have hlast:∀s,sl.getLast?=some s→s∈sl:=fun s hs=>List.mem_of_getLast? hs
 have hother:∀o',¬o'=o→∀i d,st' i=some (o',d)↔st i=some (o',d):=by
  intro o' ho i d
  by_cases h1:i∈news
  · obtain ⟨d',e⟩:=hsome i (.inl h1)
    rw [e,(hK.new i h1).2]
    constructor
    · intro e2;cases e2;exact absurd rfl ho
    intro e2;cases e2
  by_cases h2:sl.getLast?=some i
  · obtain ⟨d',e⟩:=hsome i (.inr h2)
    obtain ⟨_,d2,e2⟩:=(hmem i).1 (List.mem_append.2 (.inl (hlast i h2)))
    rw [e,e2]
    constructor
    · intro e3;cases e3;exact absurd rfl ho
    intro e3;cases e3;exact absurd rfl ho
  rw [hoff i h1 h2]
 have hnew2:∀s∈news,s∉sl++(rmE (Z o) k).flatMap slF:=by
  intro s hs hm2
  obtain ⟨_,d,e⟩:=(hmem s).1 hm2
  rw [(hK.new s hs).2] at e
  cases e
 refine ⟨?_,?_,?_,?_,hK.small⟩
 · intro o'
   unfold setZ
   split
   · exact List.pairwise_cons.2 ⟨fun p hp e=>(mem_rmE.1 hp).2 e.symm,(h.key o).filter _⟩
   exact h.key o'
 · intro o' e he
   unfold setZ at he
   split at he
   · next ho=>
     subst ho
     rcases List.mem_cons.1 he with rfl|he
     · refine ⟨hk,by simp [hm],hr,fun x hx=>?_,?_,?_⟩
       · rcases List.mem_append.1 hx with hx|hx
         · exact hO x hx
         exact hok x hx
       · simp only
         rw [hgo,List.length_append,List.length_append,hK.len,hlen]
         unfold hadL
         omega
       simp only
       intro i s g hi hg
       rw [hgo] at hg
       by_cases hig:i<(gF A).1.length
       · rw [List.getElem?_append_left (by omega)] at hi
         have hs0:=List.mem_of_getElem? hi
         have h1:s∉news:=fun e=>hnew2 s e (List.mem_append.2 (.inl hs0))
         have h2:sl.getLast?≠some s:=by
          intro e
          rw [List.getLast?_eq_getElem?] at e
          have hne:sl≠[]:=by rintro rfl;simp at e
          have hpos:=List.length_pos_iff.2 hne
          have hh:hadL sl=1:=by unfold hadL;omega
          have:=(List.nodup_append.1 hnd).1
          have hi1:=(List.getElem?_eq_some_iff.1 hi)
          have e1:=(List.getElem?_eq_some_iff.1 e)
          obtain ⟨a1,a2⟩:=hi1
          obtain ⟨b1,b2⟩:=e1
          exact (List.pairwise_iff_getElem.1 this) i (sl.length - 1) a1 b1 (by omega) (a2.trans b2.symm)
         rw [hoff s h1 h2]
         refine hL.2 i s g hi ?_
         rw [List.getElem?_append_left hig] at hg
         have h4:(gF A).2≠[]:=by
          intro e
          have:A=[]:=(zcy hO).1 e
          subst this
          simp [gF] at hig
         rw [zcx h4,List.getElem?_append_left hig]
         exact hg
       rw [List.getElem?_append_right (by omega)] at hg
       have hj:=(List.getElem?_eq_some_iff.1 hg).1
       refine hK.put (i - (gF A).1.length) s g hj ?_ hg
       rw [←hi]
       congr 1
       omega
     obtain ⟨he1,he2⟩:=mem_rmE.1 he
     refine (h.each o' e he1).same (fun s hs=>?_)
     have hsr:s∈(rmE (Z o') k).flatMap slF:=List.mem_flatMap.2 ⟨e,he,hs⟩
     refine hoff s (fun e=>hnew2 s e (List.mem_append.2 (.inr hsr))) (fun e=>?_)
     exact (List.nodup_append.1 hnd).2.2 s (hlast s e) s hsr rfl
   next ho=>
   have k9:=h.each o' e he
   refine k9.same (fun s hs=>?_)
   obtain ⟨_,d,e2⟩:=(h.mem o' s).1 (List.mem_flatMap.2 ⟨e,he,hs⟩)
   rw [e2]
   exact (hother o' ho s d).2 e2
 · intro o'
   unfold setZ
   split
   · show ((k,(sl++news,A++m)) :: rmE (Z o) k|>.flatMap slF).Nodup
     rw [List.flatMap_cons]
     show ((sl++news)++(rmE (Z o) k).flatMap slF).Nodup
     have hp2:((sl++news)++(rmE (Z o) k).flatMap slF).Perm (news++(sl++(rmE (Z o) k).flatMap slF)):=by
      rw [←List.append_assoc]
      exact List.Perm.append_right _ List.perm_append_comm
     rw [hp2.nodup_iff,List.nodup_append]
     exact ⟨hK.nd,hnd,fun a ha b hb e=>hnew2 a ha (by rw [e];exact hb)⟩
   exact h.nd o'
 intro o' i
 unfold setZ
 split
 · next ho=>
   subst ho
   show i∈(((k,(sl++news,A++m)) :: rmE (Z o') k).flatMap slF)↔_
   rw [List.flatMap_cons]
   show i∈(sl++news)++(rmE (Z o') k).flatMap slF↔_
   have e1:(i∈(sl++news)++(rmE (Z o') k).flatMap slF)↔(i∈news∨i∈sl++(rmE (Z o') k).flatMap slF):=by
    simp only [List.mem_append]
    constructor
    · rintro ((a|a)|a)
      · exact .inr (.inl a)
      · exact .inl a
      exact .inr (.inr a)
    rintro (a|a|a)
    · exact .inl (.inr a)
    · exact .inl (.inl a)
    exact .inr a
   rw [e1]
   constructor
   · rintro (h1|h1)
     · exact ⟨(hK.new i h1).1,hsome i (.inl h1)⟩
     obtain ⟨h2,d,h3⟩:=(hmem i).1 h1
     refine ⟨h2,?_⟩
     by_cases h4:i∈news
     · exact hsome i (.inl h4)
     by_cases h5:sl.getLast?=some i
     · exact hsome i (.inr h5)
     exact ⟨d,by rw [hoff i h4 h5];exact h3⟩
   rintro ⟨h1,d,h2⟩
   by_cases h4:i∈news
   · exact .inl h4
   by_cases h5:sl.getLast?=some i
   · exact .inr (List.mem_append.2 (.inl (hlast i h5)))
   rw [hoff i h4 h5] at h2
   exact .inr ((hmem i).2 ⟨h1,d,h2⟩)
 next ho=>
 rw [h.mem o' i]
 constructor
 · rintro ⟨h1,d,h2⟩
   exact ⟨h1,d,(hother o' ho i d).2 h2⟩
 rintro ⟨h1,d,h2⟩
 exact ⟨h1,d,(hother o' ho i d).1 h2⟩
theorem SZ.used {n:Nat} {st:K.Sx} {Z:ByteArray→List En} (h:SZ n st Z) (o:ByteArray):(K.setL st n o).length=((Z o).flatMap slF).length:=by
 have h1:((K.setL st n o).map (·.1)).Perm (((Z o).flatMap slF).map (fun (i:Nat)=>(i:Int))):=by
  rw [List.perm_ext_iff_of_nodup]
  · intro x
    rw [List.mem_map,List.mem_map]
    constructor
    · rintro ⟨⟨a,v⟩,ha,rfl⟩
      obtain ⟨i,h1,h2,h3,_⟩:=K.mem_setL.1 ha
      exact ⟨i,(h.mem o i).2 ⟨h1,h2⟩,h3.symm⟩
    rintro ⟨i,hi,rfl⟩
    obtain ⟨h1,h2⟩:=(h.mem o i).1 hi
    exact ⟨(_,K.uV),K.mem_setL.2 ⟨i,h1,h2,rfl,rfl⟩,rfl⟩
  · rw [List.Nodup,List.pairwise_map]
    exact (K.set_pw st n o).imp (fun h=>h)
  rw [List.Nodup,List.pairwise_map]
  exact (h.nd o).imp (fun h e=>h (by omega))
 have:=h1.length_eq
 simpa using this
structure Ck (w:World) (base:Nat) (v:Value) (L:List (List Int)) (D:Nat→Prop):Prop where
 lt:∀i,D i→base≤i∧i<w.heap.size
 off:∀g,v.ownBlock=some g→¬D g
 row:∃xs:List Value,w.ownsRow base 84 1 v L.length xs∧∀(i:Nat) (b:List Int),L[i]?=some b→∃(ad:Option Addr) (c:Nat),xs[i]?=some (Value.slice ad b.length c)∧Sl w ad b.length b∧b.length≤c∧c≤maxLen∧(∀x,ad=some x→D x.block)
theorem Ck.chg {F D:Nat→Prop} {w w':World} {base:Nat} {v:Value} {L:List (List Int)} (h:Ck w base v L D) (hc:Chg F w w') (hD:∀i,D i→¬F i) (hv:∀g,v.ownBlock=some g→¬F g):Ck w' base v L D:=by
 obtain ⟨xs,h1,h2⟩:=h.row
 refine ⟨fun i hi=>⟨(h.lt i hi).1,Nat.lt_of_lt_of_le (h.lt i hi).2 hc.size⟩,h.off,xs,hc.owns h1 hv,fun i b hb=>?_⟩
 obtain ⟨ad,c,a1,a2,a3,a4,a5⟩:=h2 i b hb
 exact ⟨ad,c,a1,hc.sl a2 (fun x hx _=>hD _ (a5 x hx)),a3,a4,a5⟩
theorem Ck.later {D:Nat→Prop} {w w':World} {base:Nat} {v:Value} {L:List (List Int)} (h:Ck w base v L D) (hb:Below w.heap.size w w'):Ck w' base v L D:=h.chg (Chg.of_below (F:=fun _=>False) hb) (fun _ _ h=>h) (fun _ _ h=>h)
theorem Ck.nil (w:World) (base:Nat):Ck w base (.slice none 0 0) [] (fun _=>False):=⟨fun i h=>h.elim,(fun g h=>by cases h),[],World.ownsRow_nil _ _ _ _,fun i b h=>by simp at h⟩
theorem Ck.vlt {D:Nat→Prop} {w:World} {base:Nat} {v:Value} {L:List (List Int)} (h:Ck w base v L D):∀g,v.ownBlock=some g→base≤g∧g<w.heap.size:=by
 intro g hg
 obtain ⟨xs,h1,h2⟩:=h.row
 refine ⟨?_,za0 h1 g hg⟩
 rcases h1.2 with ⟨rfl,_⟩|⟨g',cap,cur,rfl,hb,hh,r⟩
 · cases hg
 obtain rfl:g'=g:=by simpa [Value.ownBlock] using hg
 exact hb
theorem info70:(Tryz.prog.info? 84).map (fun i=>(i.zero,i.size,i.bytes))=some (some (.slice none 0 0),1,24):=by kernel_rfl
theorem Ck.push {D:Nat→Prop} {w1 w2 w3 w4:World} {base:Nat} {v:Value} {L:List (List Int)} {b:List Int} {ad:Option Addr} {n c g' c':Nat} (h:Ck w1 base v L D) (hB:base≤w1.heap.size) (hn:b.length=n)
 (o:w2.ownsRow w1.heap.size 5 1 (.slice ad n c) n (zae b)) (hb:Byte b) (b2:Below w1.heap.size w1 w2) (b3:Below w2.heap.size w2 w3) {xs:List Value}
 (hxs:w1.ownsRow base 84 1 v L.length xs∧∀(i:Nat) (b:List Int),L[i]?=some b→∃(ad:Option Addr) (c:Nat),xs[i]?=some (Value.slice ad b.length c)∧Sl w1 ad b.length b∧b.length≤c∧c≤maxLen∧(∀x,ad=some x→D x.block))
 (o4:w4.ownsRow base 84 1 (.slice (some ⟨g',0,none⟩) (L.length+1) c') (L.length+1) (xs++[.slice ad n c])) (hp:Pushed w3 w4 v g'):
 Ck w4 base (.slice (some ⟨g',0,none⟩) (L.length+1) c') (L++[b]) (fun i=>D i∨(w1.heap.size≤i∧∃x,ad=some x∧x.block=i))∧Chg (fun i=>v.ownBlock=some i) w1 w4∧Moved w1 v.ownBlock (some g')∧∀x,ad=some x→w1.heap.size≤x.block:=by
 subst hn
 have s2:=b2.size
 have s3:=b3.size
 have hvlt:=h.vlt
 have hb13:Below w1.heap.size w1 w3:=b2.trans (b3.mono s2)
 have hc4:Chg (fun i=>v.ownBlock=some i) w3 w4:=by
  rcases hp with ⟨h1,h2⟩|⟨h1,h2⟩
  · exact Chg.of_grown h2 (fun i hi=>by rw [h1];exact hi)
  exact Chg.of_grown h2 (fun i hi=>by cases hi)
 have hc:Chg (fun i=>v.ownBlock=some i) w1 w4:=(Chg.of_below (F:=fun i=>v.ownBlock=some i) hb13).trans hc4 (fun _ _ h=>h)
 have hmv:Moved w1 v.ownBlock (some g'):=by
  rcases hp with ⟨h1,h2⟩|⟨h1,h2⟩
  · exact .inl h1.symm
  exact .inr ⟨g',rfl,by omega⟩
 have had:∀x,ad=some x→w1.heap.size≤x.block∧x.block<w2.heap.size:=by
  intro x hx
  rcases o.2 with ⟨e,_⟩|⟨g,cap,cur,e,hg,hh,_⟩
  · simp only [Value.slice.injEq] at e
    rw [e.1] at hx
    cases hx
  simp only [Value.slice.injEq] at e
  rw [e.1] at hx
  cases hx
  exact ⟨hg,(Array.getElem?_eq_some_iff.1 hh).1⟩
 have hg':∀x,ad=some x→x.block≠g':=by
  intro x hx e
  rcases hp with ⟨h1,h2⟩|⟨h1,h2⟩
  · have:=(hvlt g' h1).2
    have:=(had x hx).1
    omega
  have:=(had x hx).2
  omega
 refine ⟨⟨?_,?_,xs++[.slice ad b.length c],?_,?_⟩,hc,hmv,fun x hx=>(had x hx).1⟩
 · rintro i (hi|⟨hi,x,hx,rfl⟩)
   · exact ⟨(h.lt i hi).1,Nat.lt_of_lt_of_le (h.lt i hi).2 hc.size⟩
   exact ⟨by omega,Nat.lt_of_lt_of_le (had x hx).2 (Nat.le_trans s3 hc4.size)⟩
 · intro g hg
   obtain rfl:g'=g:=by simpa [Value.ownBlock] using hg
   rintro (hi|⟨hi,x,hx,e⟩)
   · rcases hmv with e|⟨g2,e,hg2⟩
     · exact h.off _ e.symm hi
     cases e
     have:=(h.lt _ hi).2
     omega
   exact hg' x hx e
 · rw [List.length_append]
   exact o4
 intro i b' hb'
 by_cases hi:i<L.length
 · rw [List.getElem?_append_left hi] at hb'
   obtain ⟨ad',c2,a1,a2,a3,a4,a5⟩:=hxs.2 i b' hb'
   have hxl:xs.length=L.length:=by have:=hxs.1.1;simpa using this
   exact ⟨ad',c2,by rw [List.getElem?_append_left (by omega)];exact a1,hc.sl a2 (fun x hx _ e=>h.off _ e (a5 x hx)),a3,a4,fun x hx=>.inl (a5 x hx)⟩
 have hi2:i=L.length:=by
  have:=(List.getElem?_eq_some_iff.1 hb').1
  rw [List.length_append] at this
  simp at this
  omega
 subst hi2
 simp at hb'
 subst hb'
 have hxl:xs.length=L.length:=by have:=hxs.1.1;simpa using this
 obtain ⟨_,q2,q3,_⟩:=zc4 o
 refine ⟨ad,c,by rw [←hxl];simp,?_,q2,q3,fun x hx=>.inr ⟨(had x hx).1,x,hx,rfl⟩⟩
 have s1:=zbp o hb
 refine hc4.sl (s1.later b3) (fun x hx _ e=>?_)
 have:=(hvlt _ e).2
 have:=(had x hx).1
 omega
def PK (w:World) (base b:Nat) (s:Gs):Prop:=∃c p rb v D,Blk w b 150 (pkC v c)∧CS w c p rb 128 s.2∧Ck w base v (s.1.map encC) D∧base≤b∧(∀i,FC c p rb i→base≤i)∧¬FC c p rb b∧¬D b∧(∀g,v.ownBlock=some g→g≠b∧¬FC c p rb g)∧∀i,D i→¬FC c p rb i
theorem PK.later {w w':World} {base b:Nat} {s:Gs} (h:PK w base b s) (hb:Below w.heap.size w w'):PK w' base b s:=by
 obtain ⟨c,p,rb,v,D,h1,h2,h3,h4⟩:=h
 exact ⟨c,p,rb,v,D,h1.later hb,h2.later hb,h3.later hb,h4⟩
theorem zdv {w:World} {c p:Nat} {rb rb':Option Nat} (h:Moved w rb rb') {i:Nat} (hi:FC c p rb' i):FC c p rb i∨w.heap.size≤i:=by
 rcases hi with (rfl|hi)|rfl
 · exact .inl (.inl (.inl rfl))
 · rcases h with rfl|⟨g,rfl,hg⟩
   · exact .inl (.inl (.inr hi))
   cases hi;exact .inr hg
 exact .inl (.inr rfl)
theorem packerP (w:World) (hlo:2≤w.heap.size):
 Calls Tryz.prog 62 #[] w fun e w'=>∃b,e=.returned (.pointer (some ⟨b,0,none⟩))∧PK w' w.heap.size b ([],[])∧Below w.heap.size w w':=
 (newPackerP w hlo).mono fun e w' ⟨b,c,p,he,h1,h2,h3,h4,h5,hB,hC,hb⟩=>⟨b,he,⟨c,p,none,_,_,hB,hC,Ck.nil w' w.heap.size,h1,(by
   rintro i ((rfl|hi)|rfl)
   · exact h3
   · cases hi
   · exact h2),(by
   rintro ((rfl|hi)|rfl)
   · exact h5 rfl
   · cases hi
   exact h4 rfl),fun h=>h,(fun g hg=>by cases hg),fun i hi=>hi.elim⟩,hb⟩
theorem fc_tag {w:World} {c p:Nat} {rb:Option Nat} {most:Int} {l:List Sm} (h:CS w c p rb most l) {i:Nat} (hi:FC c p rb i):¬Tg w i 53:=by
 intro ht
 obtain ⟨v,R,hw⟩:=h.ws
 rcases hi with (rfl|hi)|rfl
 · exact absurd (hw.blk.tg.one ht) (by decide)
 · exact absurd ((zab hw.row i (by rw [hw.own];exact hi)).one ht) (by decide)
 exact absurd (h.blk.tg.one ht) (by decide)
def S53 (w w':World):Prop:=∀i,Tg w i 53→w'.heap[i]?=w.heap[i]?
theorem Tg.lt' {w:World} {i:Nat} {t:TypeId} (h:Tg w i t):i<w.heap.size:=by
 obtain ⟨cs,fr,h⟩:=h
 exact (Array.getElem?_eq_some_iff.1 h).1
theorem S53.of {F:Nat→Prop} {w w':World} (h:Chg F w w') (hF:∀i,F i→¬Tg w i 53):S53 w w':=fun i ht=>h.block i ht.lt' (fun e=>hF i e ht)
theorem S53.trans {w1 w2 w3:World} (h:S53 w1 w2) (k:S53 w2 w3):S53 w1 w3:=fun i ht=>by
 have e:=h i ht
 obtain ⟨cs,fr,h1⟩:=ht
 rw [←e]
 exact k i ⟨cs,fr,by rw [e];exact h1⟩
theorem S53.below {w w':World} (h:Below w.heap.size w w'):S53 w w':=fun i ht=>h.block i ht.lt'
theorem takeYes {w:World} {base b:Nat} {s:Gs} {x:Sm} (h:PK w base b s) (hG:Gv w) (hx:OkS x) (hl:s.2.length≤1000000) (hfit:((encC (s.2++[x])).length:Int)≤128) (hbs:base≤w.heap.size):
 Calls Tryz.prog 63 #[.pointer (some ⟨b,0,none⟩),.agg #[.int .i64 x.t,.int .u64 (x.v:Int)]] w fun e w'=>e=.returned (.bool true)∧PK w' base b (gS s x)∧Below base w w'∧S53 w w':=by
 obtain ⟨c,p,rb,v,D,h1,h2,h3,h4,h5,h6,h7,h8,h9⟩:=h
 refine (packYes w b c p rb v s.2 x h1 h2 hG hx hl h6 hfit).mono ?_
 rintro e w' ⟨rfl,rb',k1,k2,k3,k4⟩
 rw [gS_yes hfit]
 refine ⟨rfl,⟨c,p,rb',v,D,k1,k2,h3.chg k3 h9 (fun g hg=>(h8 g hg).2),h4,?_,?_,h7,?_,?_⟩,k3.below hbs h5,S53.of k3 (fun i hi=>fc_tag h2 hi)⟩
 · intro i hi
   rcases zdv k4 hi with hi|hi
   · exact h5 i hi
   omega
 · intro hi
   rcases zdv k4 hi with hi|hi
   · exact h6 hi
   have:=h1.lt;omega
 · intro g hg
   refine ⟨(h8 g hg).1,fun hi=>?_⟩
   rcases zdv k4 hi with hi|hi
   · exact (h8 g hg).2 hi
   have:=(h3.vlt g hg).2;omega
 intro i hi hf
 rcases zdv k4 hf with hf|hf
 · exact h9 i hi hf
 have:=(h3.lt i hi).2;omega
theorem zcw:∃i,Tryz.prog.info? 84=some i∧i.zero=some (.slice none 0 0)∧i.size=1∧i.bytes=24:=by
 have h:=info70
 cases e:Tryz.prog.info? 84 with
 |none=>rw [e] at h;cases h
 |some i=>
  rw [e] at h
  simp only [Option.map_some,Option.some.injEq,Prod.mk.injEq] at h
  exact ⟨i,rfl,h.1,h.2.1,h.2.2⟩
theorem Gv.bel {w w':World} {B:Nat} (h:Gv w) (hb:Below B w w') (hB:2≤B):Gv w':=
 ⟨fun j hj=>by rw [hb.cell (p:=⟨1,j,none⟩) (by show 1<B;omega)];exact h.wid j hj,
  fun j hj=>by rw [hb.cell (p:=⟨0,j,none⟩) (by show 0<B;omega)];exact h.tab j hj⟩
def PkN (w:World) (base b:Nat) (L:List (List Int)) (B:List Int) (s:Sm) (w':World):Prop:=
 ∃c p rb v D,Blk w' b 150 (pkC v c)∧CS w' c p rb 128 [s]∧Ck w' base v (L++[B]) D∧(∀i,FC c p rb i→base≤i)∧¬FC c p rb b∧¬D b∧(∀g,v.ownBlock=some g→g≠b∧¬FC c p rb g)∧(∀i,D i→¬FC c p rb i)∧Below base w w'∧S53 w w'
theorem KA.app2 {w:World} {b c p g:Nat} {rb:Option Nat} {full:Value} {l:List Sm} {s:Sm} (hB:Blk w b 150 (pkC full c)) (hC:CS w c p rb 128 l) (hG:Gv w) (hs:OkS s) (hl:l.length≤1000000) (hF:¬FC c p rb b) (hg:¬FC c p rb g) {w1:World} (h:KA w g s w1):
 Calls Tryz.prog 84 #[.pointer (some ⟨c,0,none⟩),.int .i64 s.t,.int .u64 (s.v:Int)] w1 fun e w2=>e=.returned (.bool (decide (((encC (l++[s])).length:Int)≤128)))∧KB w b c p rb full (if ((encC (l++[s])).length:Int)≤128 then l++[s] else l) g s w2:=by
 refine (cappendP w1 c p rb 128 l s (hC.later h.1) (hG.later h.1) hs hl).mono ?_
 rintro e w2 ⟨rfl,rb',k1,k2,k3⟩
 refine ⟨rfl,k2.blk (hB.later h.1) hF,k2.blk h.2 hg,rb',k1,(Chg.of_below (F:=FC c p rb) h.1).trans k2 (fun _ _ e=>e),?_⟩
 rcases k3 with rfl|⟨g',rfl,hg'⟩
 · exact .inl rfl
 exact .inr ⟨g',rfl,Nat.le_trans h.1.size hg'⟩
theorem packNo (w:World) (base b c p n:Nat) (rb:Option Nat) (v:Value) (L:List (List Int)) (l:List Sm) (D:Nat→Prop) (s:Sm) (hB:Blk w b 150 (pkC v c)) (hC:CS w c p rb 128 l) (hG:Gv w) (hs:OkS s) (hl:l.length≤1000000) (hF:¬FC c p rb b) (hK:Ck w base v L D) (hbs:base≤w.heap.size) (hv:∀g,v.ownBlock=some g→g≠b∧¬FC c p rb g) (hD:∀i,D i→¬FC c p rb i) (hb:base≤b) (hDb:¬D b) (hFb:∀i,FC c p rb i→base≤i) (hlo:2≤base) (hn:L.length=n) (hn9:n≤1000000000)
 (hfit:¬((encC (l++[s])).length:Int)≤128):
 Calls Tryz.prog 63 #[.pointer (some ⟨b,0,none⟩),.agg #[.int .i64 s.t,.int .u64 (s.v:Int)]] w fun e w'=>e=.returned (.bool true)∧PkN w base b L (encC l) s w':=by
 have HA:=zaa (fun (w1:World) (h:KA w w.heap.size s w1)=>by have h9:=KA.app hB hC hG hs hl hF (Nat.le_refl _) h;rw [if_neg hfit,decide_eq_false hfit] at h9;exact h9)
 have HB:=zaa hB
 have hlt:=hB.lt
 have HK:=zaa hK
 have HV:=zaa (And.intro hv (And.intro hD hbs))
 have HL:=zaa hl
 have HN:=zaa hn
 have HG:=zaa hG
 have HS:=zaa hs
 have HR:=zaa (And.intro hb (And.intro hDb (And.intro hFb hlo)))
 have HTF:Hid (∀i,FC c p rb i→¬Tg w i 53):=zaa (fun i hi=>fc_tag hC hi)
 clear hB hC hG hs hl hF hfit hK hv hD hbs hb hDb hFb hlo
 go_enter Tryz.func63,Tryz.ntmps63
 go_wp2_with (first
  |(refine zac rfl 53 (.tmp 1) rfl (smC s) rfl ?_;intro w2 B2 bl2 hz2;have HB2:=zaa B2;have BL2:=zaa bl2;clear B2 bl2))
 refine pk_r1 b c w.heap.size s.v s.t false (ph2 (KA w w.heap.size s) (KB w b c p rb v l w.heap.size s)) _ _ _ rfl rfl rfl (fun w1 ⟨j,hj,hI⟩=>by rcases (show j=0∨j=1 by omega) with rfl|rfl;exact (HB.out.later hI.1).cell 1;exact hI.1.cell 1) (fun w1 ⟨j,hj,hI⟩=>by rcases (show j=0∨j=1 by omega) with rfl|rfl;exact hI.2.cell 0;exact hI.2.1.cell 0) (fun w1 ⟨j,hj,hI⟩=>by rcases (show j=0∨j=1 by omega) with rfl|rfl;exact hI.2.cell 1;exact hI.2.1.cell 1) ⟨BL2.out.drew,HB2.out.drew⟩ (fun w1 hI=>HA.out w1 hI) ?_
 intro v5 v6 v7 v8 v9 v10 v11 v12 v13 w3 hI
 obtain ⟨k1,k2,rb3,k3,k4,k5⟩:KB w b c p rb v l w.heap.size s w3:=hI
 have H3:=zaa (And.intro k1 (And.intro k2 (And.intro k3 (And.intro k4 k5))))
 simp only [Act.put,List.setIfInBounds_toArray,List.set_cons_succ,List.set_cons_zero,Bool.not_false]
 have C0:Hid (∀wx,Below w3.heap.size w3 wx→wx.cell? ⟨b,0,none⟩=some v):=zaa (fun wx hb=>(k1.later hb).cell 0)
 have C1:Hid (∀wx,Below w3.heap.size w3 wx→wx.cell? ⟨b,1,none⟩=some (.pointer (some ⟨c,0,none⟩))):=zaa (fun wx hb=>(k1.later hb).cell 1)
 obtain ⟨m,hm⟩:∃m,(encC l).length=m:=⟨_,rfl⟩
 have HBY:Hid (∀wx,Below w3.heap.size w3 wx→Calls Tryz.prog 85 #[.pointer (some ⟨c,0,none⟩)] wx fun e w'=>∃v,e=.returned v∧((∃ad c',v=.slice ad m c')∧w'.ownsRow wx.heap.size 5 1 v m (zae (encC l))∧Below wx.heap.size wx w')):=zaa (fun wx hb=>by
  refine (cbytesP wx c p rb3 128 l (k3.later hb) HL.out).mono ?_
  rintro e w' ⟨ad,cc,rfl,o,bb⟩
  rw [hm] at o ⊢
  exact ⟨_,rfl,⟨ad,cc,rfl⟩,o,bb⟩)
 have c0:=C0.out _ (Below.refl _ _)
 have c1:=C1.out _ (Below.refl _ _)
 have f0:=k1.frozen 0
 have hlt3:=k1.lt
 have HM:=zaa hm
 have HEB:Hid (Byte (encC l)):=zaa (zb5 l (by have:=HL.out;omega))
 obtain ⟨i7,hi7,hz7,hs7,hb7⟩:=zcw
 have HK3:Hid (Ck w3 base v L D):=zaa (HK.out.chg k4 HV.out.2.1 (fun g hg=>(HV.out.1 g hg).2))
 have HBS:Hid (base≤w3.heap.size):=zaa (Nat.le_trans HV.out.2.2 k4.size)
 have HVB:Hid (¬v.ownBlock=some b):=zaa (fun e=>(HV.out.1 b e).1 rfl)
 obtain ⟨xs,hxs⟩:=HK3.out.row
 have OX2:=zaa hxs
 have OX:Hid (∀wx,Below w3.heap.size w3 wx→wx.ownsRow base 84 1 v n xs):=zaa (fun wx hb=>by rw [←HN.out];exact owl hxs.1 hb)
 clear hm k1 k2 k3 k4 k5 hxs hn
 go_wp2_with fail
 go_region_law (first
  |(refine zez (by rfl) 85 #[.pointer (some ⟨c,0,none⟩)] (by simp [execOp,resolve,Act.eval,go_sem]) _ (HBY.out _ ((Below.refl _ _).drew)) ?_
    rintro v1 w4 ⟨⟨ad1,cp1,rfl⟩,o1,b1⟩
    have O1:=zaa o1
    have B1:Hid (Below w3.heap.size w3 w4):=zaa (((Below.refl _ _).drew).trans b1)
    have d0:=C0.out _ B1.out
    have d1:=C1.out _ B1.out
    have d9:b<w4.heap.size:=Nat.lt_of_lt_of_le hlt3 B1.out.size
    clear o1 b1)
  |(refine zdl _ (by rfl) (.tmp 19) (.tmp 25) 34 (by rfl) 84 i7 (.slice none 0 0) 24 Tryz.underlying34 hi7 hz7 hs7 hb7 (by rfl) base v n xs (by rfl) (OX.out _ (B1.out.trans (((Below.refl _ _).alloc (Nat.le_refl _) _).mono B1.out.size))) ⟨w4.heap.size,0,none⟩ (.slice ad1 m cp1) (by rfl) ((Blk.new w4 84 [.slice ad1 m cp1]).cell 0) (by rfl) (by unfold maxLen;omega) (by omega) (by have:=B1.out.size;have:=HBS.out;simp;omega) ?_
    intro g5 cp5 w5 o5 p5
    have P5:Hid (Ck w5 base (.slice (some ⟨g5,0,none⟩) (L.length+1) cp5) (L++[encC l]) (fun i=>D i∨(w3.heap.size≤i∧∃x,ad1=some x∧x.block=i))∧Chg (fun i=>v.ownBlock=some i) w3 w5∧Moved w3 v.ownBlock (some g5)):=zaa (by
     have q:=Ck.push HK3.out HBS.out HM.out O1.out HEB.out B1.out ((Below.refl _ _).alloc (Nat.le_refl _) _) OX2.out (by rw [HN.out];exact o5) p5
     exact ⟨q.1,q.2.1,q.2.2.1⟩)
    have B5:Hid (Blk w5 b 150 (pkC v c)):=zaa (P5.out.2.1.blk H3.out.1 HVB.out)
    have e0:w5.cell? ⟨b,0,none⟩=some v:=B5.out.cell 0
    have e1:=B5.out.frozen 0
    clear o5 p5))
 all_goals
  obtain ⟨vs,hvs⟩:∃vs,Value.slice (some ⟨g5,0,none⟩) (n+1) cp5=vs:=⟨_,rfl⟩
  obtain ⟨w6,hw6⟩:∃w6,w5.setCell ⟨b,0,none⟩ vs=w6:=⟨_,rfl⟩
  have F6:Hid (Blk w6 b 150 (pkC vs c)∧Blk w6 w.heap.size 53 (smC s)∧Ck w6 base vs (L++[encC l]) (fun i=>D i∨(w3.heap.size≤i∧∃x,ad1=some x∧x.block=i))∧(∀g,vs.ownBlock=some g→g≠b)∧Below base w w6):=zaa (by
   have hwl:w.heap.size≤w3.heap.size:=H3.out.2.2.2.1.size
   have hg5:g5≠b:=by
    rcases P5.out.2.2 with e|⟨g,e,hg⟩
    · exact (HV.out.1 g5 e.symm).1
    cases e;omega
   have hown:vs.ownBlock=some g5:=by rw [←hvs];rfl
   have hD':∀i,(D i∨(w3.heap.size≤i∧∃x,ad1=some x∧x.block=i))→¬i=b:=by
    rintro i (hi|⟨hi,_⟩) e
    · subst e;exact HR.out.2.1 hi
    omega
   have cs:Chg (fun i=>i=b) w5 w6:=by rw [←hw6];exact Chg.set ⟨b,0,none⟩ vs w5
   have ck:=P5.out.1
   rw [HN.out,hvs] at ck
   refine ⟨by rw [←hw6];exact B5.out.set 0 vs,?_,ck.chg cs hD' (fun g hg e=>by rw [hown] at hg;cases hg;exact hg5 e),fun g hg=>by rw [hown] at hg;cases hg;exact hg5,?_⟩
   · refine cs.blk (P5.out.2.1.blk H3.out.2.1 (fun e=>?_)) (by omega)
     have:=(HK.out.vlt _ e).2
     omega
   have hbs:=HV.out.2.2
   have b1:Below base w w3:=H3.out.2.2.2.1.below hbs HR.out.2.2.1
   have b2:Below base w3 w5:=P5.out.2.1.below HBS.out (fun i hi=>(HK.out.vlt i hi).1)
   have b3:Below base w5 w6:=cs.below (Nat.le_trans HBS.out P5.out.2.1.size) (fun i hi=>by rw [hi];exact HR.out.1)
   exact (b1.trans b2).trans b3)
  have C56:Hid (Chg (fun i=>i=b) w5 w6):=zaa (by rw [←hw6];exact Chg.set ⟨b,0,none⟩ vs w5)
  rw [hvs,hw6]
  have HLO6:Hid (2≤w6.heap.size):=zaa (Nat.le_trans (Nat.le_trans HR.out.2.2.2 HV.out.2.2) F6.out.2.2.2.2.size)
  clear e0 e1 d0 d1 d9 hw6 c0 c1 f0
  go_wp2_with fail
  refine (newP w6 128 (by unfold I64;omega) HLO6.out).mono ?_
  rintro e w7 ⟨c7,p7,rfl,hc7,hp7,hC7,bl7⟩
  have HC7:=zaa hC7
  have BL7:=zaa bl7
  have B7:Hid (Blk w7 b 150 (pkC vs c)):=zaa (F6.out.1.later bl7)
  have e1:w7.cell? ⟨b,1,none⟩=some (.pointer (some ⟨c,0,none⟩)):=B7.out.cell 1
  have e2:=B7.out.frozen 1
  have hb6:=F6.out.1.lt
  clear hC7 bl7
  go_wp2_with fail
  obtain ⟨w8,hw8⟩:∃w8,w7.setCell ⟨b,1,none⟩ (.pointer (some ⟨c7,0,none⟩))=w8:=⟨_,rfl⟩
  have F8:Hid (Blk w8 b 150 (pkC vs c7)∧Blk w8 w.heap.size 53 (smC s)∧CS w8 c7 p7 none 128 []∧Gv w8∧¬FC c7 p7 none b∧¬FC c7 p7 none w.heap.size∧Chg (fun i=>i=b) w6 w8):=zaa (by
   have cs:Chg (fun i=>i=b) w7 w8:=by rw [←hw8];exact Chg.set ⟨b,1,none⟩ _ w7
   have hfc:∀i,FC c7 p7 none i→w6.heap.size≤i:=by
    rintro i ((rfl|e)|rfl)
    · exact hp7
    · cases e
    exact hc7
   have hws:w.heap.size<w6.heap.size:=F6.out.2.1.lt
   refine ⟨by rw [←hw8];exact B7.out.set 1 _,cs.blk (F6.out.2.1.later BL7.out) (by omega),HC7.out.chg cs (fun i hi e=>by have:=hfc i hi;omega),?_,fun e=>by have:=hfc _ e;omega,fun e=>by have:=hfc _ e;omega,(Chg.of_below (F:=fun i=>i=b) BL7.out).trans cs (fun _ _ e=>e)⟩
   have bb:Below base w w8:=(F6.out.2.2.2.2.trans (BL7.out.mono (Nat.le_trans HV.out.2.2 F6.out.2.2.2.2.size))).trans (cs.below (Nat.le_trans (Nat.le_trans HV.out.2.2 F6.out.2.2.2.2.size) BL7.out.size) (fun i hi=>by rw [hi];exact HR.out.1))
   exact HG.out.bel bb HR.out.2.2.2)
  rw [hw8]
  have hq1:encC ([]++[s])=encC [s]:=rfl
  have h17:((encC ([]++[s])).length:Int)≤128:=by rw [hq1,zep];omega
  have HA8:=zaa (fun (w1:World) (h:KA w8 w.heap.size s w1)=>by have h9:=KA.app2 F8.out.1 F8.out.2.2.1 F8.out.2.2.2.1 HS.out (by simp) F8.out.2.2.2.2.1 F8.out.2.2.2.2.2.1 h;rw [if_pos h17,decide_eq_true h17] at h9;exact h9)
  clear h17 hq1 e1 e2 hw8
  refine pk_r4 b c7 w.heap.size s.v s.t true (ph2 (KA w8 w.heap.size s) (KB w8 b c7 p7 none vs ([]++[s]) w.heap.size s)) _ _ _ rfl rfl rfl (fun w1 ⟨j,hj,hI⟩=>by rcases (show j=0∨j=1 by omega) with rfl|rfl;exact (F8.out.1.later hI.1).cell 1;exact hI.1.cell 1) (fun w1 ⟨j,hj,hI⟩=>by rcases (show j=0∨j=1 by omega) with rfl|rfl;exact hI.2.cell 0;exact hI.2.1.cell 0) (fun w1 ⟨j,hj,hI⟩=>by rcases (show j=0∨j=1 by omega) with rfl|rfl;exact hI.2.cell 1;exact hI.2.1.cell 1) ⟨(Below.refl _ _).drew,F8.out.2.1.drew⟩ (fun w1 hI=>HA8.out w1 hI) ?_
  intro v33 v34 v35 v36 v37 v38 v39 v40 w9 hI
  obtain ⟨k1,k2,rb9,k3,k4,k5⟩:KB w8 b c7 p7 none vs ([]++[s]) w.heap.size s w9:=hI
  have H9:=zaa (And.intro k1 (And.intro k3 (And.intro k4 k5)))
  clear k1 k2 k3 k4 k5
  simp only [Act.put,List.setIfInBounds_toArray,List.set_cons_succ,List.set_cons_zero]
  go_wp2_with fail
  go_ret
  refine ⟨rfl,?_⟩
  obtain ⟨q1,q2,q3,q4⟩:=H9.out
  have hfc:∀i,FC c7 p7 rb9 i→w6.heap.size≤i:=by
   intro i hi
   rcases zdv q4 hi with ((rfl|e)|rfl)|hi
   · exact hp7
   · cases e
   · exact hc7
   have:=F8.out.2.2.2.2.2.2.size
   omega
  have hfn:∀i,FC c7 p7 none i→w6.heap.size≤i:=by
   rintro i ((rfl|e)|rfl)
   · exact hp7
   · cases e
   exact hc7
  have ck6:=F6.out.2.2.1
  have ck8:Ck w8 base vs (L++[encC l]) (fun i=>D i∨(w3.heap.size≤i∧∃x,ad1=some x∧x.block=i)):=ck6.chg F8.out.2.2.2.2.2.2 (by
   rintro i (hi|⟨hi,_⟩) e
   · rw [e] at hi;exact HR.out.2.1 hi
   omega) (fun g hg=>F6.out.2.2.2.1 g hg)
  have hbs6:base≤w6.heap.size:=Nat.le_trans HV.out.2.2 F6.out.2.2.2.2.size
  have b68:Below base w6 w8:=F8.out.2.2.2.2.2.2.below hbs6 (fun i hi=>by rw [hi];exact HR.out.1)
  refine ⟨c7,p7,rb9,vs,_,q1,q2,ck8.chg q3 (fun i hi e=>?_) (fun g hg e=>?_),fun i hi=>by have:=hfc i hi;omega,fun e=>by have:=hfc _ e;omega,?_,fun g hg=>⟨F6.out.2.2.2.1 g hg,fun e=>?_⟩,fun i hi e=>?_,(F6.out.2.2.2.2.trans b68).trans (q3.below (Nat.le_trans hbs6 b68.size) (fun i hi=>by have:=hfn i hi;omega)),?_⟩
  · have:=hfn i e;have:=(ck6.lt i hi).2;omega
  · have:=hfn g e;have:=(ck6.vlt g hg).2;omega
  · rintro (hi|⟨hi,_⟩)
    · exact HR.out.2.1 hi
    omega
  · have:=hfc g e;have:=(ck6.vlt g hg).2;omega
  · have:=hfc i e;have:=(ck6.lt i hi).2;omega
  have hbt:∀i,i=b→¬Tg w i 53:=fun i e ht=>by rw [e] at ht;exact absurd (HB.out.tg.one ht) (by decide)
  have hvt:∀i,v.ownBlock=some i→¬Tg w i 53:=fun i e ht=>by
   obtain ⟨ys,hy,_⟩:=HK.out.row
   exact absurd ((zab hy i e).one ht) (by decide)
  intro i ht
  have hi:=ht.lt'
  have s3:=H3.out.2.2.2.1.size
  have s5:=P5.out.2.1.size
  have s6:=C56.out.size
  have s8:=F8.out.2.2.2.2.2.2.size
  rw [q3.block i (by omega) (fun e=>by have:=hfn i e;omega),F8.out.2.2.2.2.2.2.block i (by omega) (fun e=>hbt i e ht),C56.out.block i (by omega) (fun e=>hbt i e ht),P5.out.2.1.block i (by omega) (fun e=>hvt i e ht),H3.out.2.2.2.1.block i hi (fun e=>HTF.out i e ht)]
end Go.Proofs.YtlppibigceeimaaGreatDoor
