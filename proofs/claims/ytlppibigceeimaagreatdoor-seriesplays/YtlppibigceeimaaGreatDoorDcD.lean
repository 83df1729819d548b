import Derived.Test.YtlppibigceeimaaGreatDoorSfB
import Derived.Test.YtlppibigceeimaaGreatDoorRefC
set_option linter.unusedSimpArgs false
set_option linter.unusedVariables false
set_option maxHeartbeats 40000000
set_option maxRecDepth 100000
namespace Go.Proofs.YtlppibigceeimaaGreatDoor
open Go.RowKit
theorem vl_snoc:∀(X:List Bool) (b:Bool),vl (X++[b])=2*vl X+b.toNat
 |[],b=>by simp [vl]
 |x :: X,b=>by
  rw [List.cons_append,vl,vl,vl_snoc X b,List.length_append]
  simp only [List.length_singleton,Nat.pow_succ]
  rw [Nat.mul_add,Nat.mul_right_comm]
  generalize 2 ^ X.length*x.toNat=z
  omega
def part (L:List Bool) (q k:Nat):Nat:=vl ((List.range k).map (fun j=>L.getD (8*q+j) false))
theorem part_next (L:List Bool) (q k:Nat):part L q (k+1)=2*part L q k+(L.getD (8*q+k) false).toNat:=by
 unfold part
 rw [List.range_succ,List.map_append,List.map_singleton,vl_snoc]
theorem part_lt (L:List Bool) (q k:Nat):part L q k<2 ^ k:=by
 have:=vl_lt ((List.range k).map (fun j=>L.getD (8*q+j) false))
 simpa [part] using this
theorem pk_next (L:List Bool) (q:Nat) (h:q<(L.length+7) / 8):(pk L).take (q+1)=(pk L).take q++[((part L q 8:Nat):Int)]:=by
 rw [List.take_add_one]
 congr 1
 simp [pk,h,part]
theorem sl_bits {w:World} {base:Nat} {ad:Option Addr} {c:Nat} {L:List Bool} (h:OW w base (.slice ad L.length c) L):Sl w ad L.length (nI L):=by
 have h2:=h.2
 exact zbp h2 (by
  intro x hx
  simp only [nI,List.mem_map] at hx
  obtain ⟨b,_,rfl⟩:=hx
  cases b <;> simp)
theorem nI_at (L:List Bool) (i:Nat):(nI L).getD i 0=((L.getD i false).toNat:Int):=by
 simp only [nI,List.getD,List.getElem?_map]
 cases L[i]? <;> rfl
theorem wpList_pushC (w:World) {ops:Array Oper} {rest:List Oper} {o:Oper} {a:Act} {Q:Exit→Act→World→Prop} (hgd:o.guard=none) (s x:Operand)
 (ho:o.op=.call { callee:=.builtin .append,args:=#[s,x],argTypes:=#[84,84] }) (base:Nat) (v:Value) (n:Nat) (xs:List Value) (hs:a.eval s=v) (w0:World) (hown:w0.ownsRow base 5 1 v n xs) (y:Int)
 (hw:w=w0.alloc (.cells #[.int .u8 y] 5)) (hx:a.eval x=.slice (some ⟨w0.heap.size,0,none⟩) 1 1) (hn:n≤10000000000) (hbase:base≤w0.heap.size)
 (h:∀g' c' w',w'.ownsRow base 5 1 (.slice (some ⟨g',0,none⟩) (n+1) c') (n+1) (xs++[.int .u8 y])→Chg (fun i=>v.ownBlock=some i) w0 w'→Moved w0 v.ownBlock (some g')→wpList Tryz.prog ops Q rest (a.put o.dst (.slice (some ⟨g',0,none⟩) (n+1) c')) w'):wpList Tryz.prog ops Q (o :: rest) a w:=by
 subst hw
 obtain ⟨i0,hi0,hz0,hz1,hz2⟩:=info_parts ze6
 refine zaw _ hgd s x 84 ho 5 i0 (.int .u8 0) 1 Tryz.underlying84 hi0 hz0 hz1 hz2 rfl base v n xs hs (hown.alloc _) ⟨w0.heap.size,0,none⟩ (.int .u8 y) hx (by simp) rfl (by unfold maxLen;omega) (by omega) (by simp;omega) ?_
 intro g' c' w' h1 h2
 exact h g' c' w' h1 h2.chg.1 h2.chg.2
structure DE (w wx:World) (v:Value) (gl n:Nat) (L:List Bool) (q:Nat):Prop where
 form:∃ad c,v=.slice ad (Q.grp n+1+q) c
 own:wx.ownsRow w.heap.size 5 1 v (Q.grp n+1+q) (zae (Q.enc n++(pk L).take q))
 far:∀g,v.ownBlock=some g→g≠gl
 sl:Sl wx (some ⟨gl,0,none⟩) L.length (nI L)
 bel:Below w.heap.size w wx
theorem DE.push {w wx w':World} {v:Value} {gl n q g' c':Nat} {L:List Bool} (h:DE w wx v gl n L q) (hq:q<(L.length+7) / 8) (hL:0<L.length) (ho:w'.ownsRow w.heap.size 5 1 (.slice (some ⟨g',0,none⟩) (Q.grp n+1+q+1) c') (Q.grp n+1+q+1) (zae (Q.enc n++(pk L).take q)++[.int .u8 ((part L q 8:Nat):Int)]))
 (hc:Chg (fun i=>v.ownBlock=some i) wx w') (hm:Moved wx v.ownBlock (some g')):DE w w' (.slice (some ⟨g',0,none⟩) (Q.grp n+1+q+1) c') gl n L (q+1):=by
 have hlt:gl<wx.heap.size:=h.sl.lt ⟨gl,0,none⟩ rfl hL
 refine ⟨⟨_,_,rfl⟩,?_,?_,hc.sl h.sl (fun x hx _ e=>?_),h.bel.trans (hc.below h.bel.size (fun i hi=>(h.own.lt i hi).1))⟩
 · rw [pk_next L q hq,←List.append_assoc,za2]
   exact ho
 · intro g hg
   simp [Value.ownBlock] at hg
   subst hg
   rcases hm with e|⟨g2,e,hg2⟩
   · exact h.far _ e.symm
   injection e with e
   omega
 injection hx with hx
 subst hx
 exact h.far _ e rfl
theorem encodeD (w:World) (ad:Option Addr) (n c:Nat) (l:List Sm) (h:Ss w ad l) (hn:l.length=n) (hn2:n≤1000000):
 Calls Tryz.prog 90 #[.slice ad n c] w (BtP w (encC l)):=by
 by_cases h0:n=0
 · subst h0
   have hl:l=[]:=List.eq_nil_of_length_eq_zero hn
   subst hl
   clear h hn
   go_enter Tryz.func90,Tryz.ntmps90
   go_wp2
   go_ret
   exact ⟨none,0,rfl,World.ownsRow_nil _ _ _ _,Below.refl _ _⟩
 have h0z:¬(n:Int)=0:=by omega
 have hnl:l≠[]:=fun e=>h0 (by rw [←hn,e];rfl)
 have HE:Hid (encC l=Q.enc n++pk (rowB l)):=zaa (by unfold encC;rw [if_neg hnl,hn])
 have hrl:=zf5 h.sz
 rw [hn] at hrl
 have hr128:128≤(rowB l).length:=by
  cases l with
  |nil=>exact absurd rfl hnl
  |cons s t=>simp [rowB,fiB,zaq];omega
 have HB:=zaa (fun wy (hb:Below w.heap.size w wy)=>bitsD wy ad n c l (h.later hb) hn hn2)
 have HP:=zaa (Q.refPutUint_any none 0 0 n [] w (Sl.nil _ _) (fun _=>⟨rfl,rfl⟩) (by omega) (by omega))
 have hgr:=Q.grp_le n
 clear h hn hnl
 obtain ⟨L,hLE⟩:∃L,rowB l=L:=⟨_,rfl⟩
 rw [hLE] at HE HB hrl hr128
 clear hLE
 obtain ⟨K,hK⟩:∃K,(L.length+7) / 8=K:=⟨_,rfl⟩
 go_enter Tryz.func90,Tryz.ntmps90
 go_wp2_with fail
 refine HP.out.mono ?_
 rintro e w1 ⟨ad1,c1,rfl,o1,b1⟩
 have O1:=zaa o1
 have B1:=zaa b1
 clear o1 b1
 go_wp2_with fail
 refine (HB.out w1 B1.out).mono ?_
 rintro e w2 ⟨v2,rfl,⟨⟨ad2,c2,rfl⟩,o2⟩,b2⟩
 obtain ⟨gl,rfl⟩:∃gl,ad2=some ⟨gl,0,none⟩:=by
  rcases o2.2 with ⟨_,e0⟩|⟨g,cap,cur,e0,_⟩
  · omega
  injection e0 with e1;exact ⟨g,e1⟩
 have hgl:w1.heap.size≤gl:=(o2.lt gl rfl).1
 have D2:Hid (DE w w2 (.slice ad1 (0+Q.grp n+1) c1) gl n L 0):=zaa ⟨⟨ad1,c1,by rw [Nat.zero_add]⟩,by
  have:=owl O1.out b2
  simpa using this,fun g hg e=>by have:=(O1.out.lt g hg).2;omega,sl_bits ⟨⟨_,_,rfl⟩,o2⟩,B1.out.trans (b2.mono B1.out.size)⟩
 clear o2 b2 O1 HP HB
 go_wp2_with fail
 generalize ((n:Int)==0)=bz at*
 go_loopw [3,5,6,7] (fun v3 v5 v6 v7 wx=>∃(q:Nat) (v:Value),v5=.int .i64 (8*(q:Int))∧q≤K∧v=v3∧Hid (DE w wx v gl n L q)) (fun _ v5 _ _ _=>8*K+8 - (intOf v5).toNat)
 case atStart=>exact ⟨0,_,rfl,by omega,rfl,by simpa using D2⟩
 case round=>
  rename World=>wx
  obtain ⟨q,v3,rfl,hq,rfl,hD⟩:=hrel
  clear D2
  by_cases hlt:q<K
  · have hltz:8*(q:Int)<(L.length:Int):=by omega
    have HSL:=zaa hD.out.sl
    obtain ⟨ad3,c3,e3⟩:=hD.out.form
    subst e3
    go_wp2_with fail
    go_loopw [6,7] (fun v6 v7 wy=>wx=wy∧∃k:Nat,k≤8∧v7=.int .i64 (k:Int)∧v6=.int .u8 ((part L q k:Nat):Int)) (fun _ v7 _=>8 - (intOf v7).toNat)
    case atStart=>exact ⟨rfl,0,by omega,rfl,rfl⟩
    case round=>
     rename World=>wy
     obtain ⟨rfl,k,hk,rfl,rfl⟩:=hrel
     have hpl:=part_lt L q k
     have hpn:=part_next L q k
     by_cases hk8:k<8
     · have hk8z:(k:Int)<8:=by omega
       have hp2:2 ^ k≤2 ^ 7:=Nat.pow_le_pow_right (by omega) (by omega)
       have hp128:part L q k<128:=by omega
       by_cases hin:8*q+k<L.length
       · have hinz:8*(q:Int)+(k:Int)<(L.length:Int):=by omega
         obtain ⟨x,hx,hcl⟩:=HSL.out.cell (8*q+k) hin
         injection hx with hx
         subst hx
         rw [Addr.add_lit,Nat.zero_add,nI_at] at hcl
         have hcl':wx.cell? ⟨gl,8*q+k,none⟩=some (.int .u8 ((L.getD (8*q+k) false).toNat:Int)):=hcl
         have hb1:(L.getD (8*q+k) false).toNat≤1:=by cases L.getD (8*q+k) false <;> simp
         clear hcl
         have HPN:=zaa hpn
         clear hpn
         generalize part L q k=P at*
         generalize (L.getD (8*q+k) false).toNat=bt1 at*
         go_wp2_with fail
         refine ⟨⟨by first|rfl|trivial,k+1,by omega,by rw [Int.natCast_add];rfl,?_⟩,by simp [intOf];omega⟩
         rw [HPN.out]
         congr 1
         omega
       have hinz:¬8*(q:Int)+(k:Int)<(L.length:Int):=by omega
       have hz:(L.getD (8*q+k) false).toNat=0:=by simp [List.getD,hin]
       rw [hz] at hpn
       have HPN:=zaa hpn
       clear hpn hz
       generalize part L q k=P at*
       go_wp2_with fail
       refine ⟨⟨by first|rfl|trivial,k+1,by omega,by rw [Int.natCast_add];rfl,?_⟩,by simp [intOf];omega⟩
       rw [HPN.out]
       congr 1
       omega
     obtain rfl:k=8:=by omega
     have HQK:Hid (q<(L.length+7) / 8):=zaa (by omega)
     have hbs:=hD.out.bel.size
     clear hpn hlt
     have DP:=zaa (fun g' c' w'=>hD.out.push (w':=w') (g':=g') (c':=c') HQK.out (by omega))
     generalize hPP:part L q 8=P at*
     go_wp2_with (refine wpList_pushC _ rfl (.tmp 43) (.tmp 45) rfl w.heap.size (.slice ad3 (Q.grp n+1+q) c3) (Q.grp n+1+q) _ rfl wx hD.out.own (P:Int) rfl rfl (by omega) (by omega) ?_
                  intro g7 c7 w7 o7 ch7 m7
                  have D7:=zaa (DP.out g7 c7 w7 o7 ch7 m7)
                  clear o7 ch7 m7)
     exact ⟨⟨q+1,_,by rw [Int.natCast_add,Int.mul_add];rfl,by omega,rfl,D7⟩,by simp [intOf];omega⟩
  obtain rfl:q=K:=by omega
  have hge:¬8*(q:Int)<(L.length:Int):=by omega
  have HF:Hid (BtP w (encC l) (.returned v3) wx):=zaa (by
   obtain ⟨ad3,c3,e3⟩:=hD.out.form
   have hlen:(encC l).length=Q.grp n+1+q:=by rw [HE.out,List.length_append,Q.enc_length,zc9,hK]
   have ho:=hD.out.own
   rw [List.take_of_length_le (by rw [zc9,hK];exact Nat.le_refl _),←HE.out] at ho
   subst e3
   exact ⟨ad3,c3,by rw [hlen],by rw [hlen];exact ho,hD.out.bel⟩)
  go_wp2
  go_ret
  exact HF.out
structure XC (w:World) (x:Nat) (rb:Option Nat) (most:Int) (l:List Sm):Prop where
 blk:∃ad c,Blk w x 155 [.slice ad l.length c,.int .i64 most]∧w.ownsRow 0 53 2 (.slice ad l.length c) l.length (cS l)∧(Value.slice ad l.length c).ownBlock=rb
 ok:∀y∈l,OkS y
 most:I64 most
def FX (x:Nat) (rb:Option Nat):Nat→Prop:=fun i=>i=x∨rb=some i
theorem XC.chg {F:Nat→Prop} {w w':World} {x:Nat} {rb:Option Nat} {most:Int} {l:List Sm} (h:XC w x rb most l) (hc:Chg F w w') (hF:∀i,FX x rb i→¬F i):XC w' x rb most l:=by
 obtain ⟨ad,c,h1,h2,h3⟩:=h.blk
 exact ⟨⟨ad,c,hc.blk h1 (hF x (.inl rfl)),hc.owns h2 (fun g hg=>hF g (.inr (by rw [←h3];exact hg))),h3⟩,h.ok,h.most⟩
theorem XC.later {w w':World} {x:Nat} {rb:Option Nat} {most:Int} {l:List Sm} (h:XC w x rb most l) (hb:Below w.heap.size w w'):XC w' x rb most l:=h.chg (Chg.of_below (F:=fun _=>False) hb) (fun _ _ e=>e)
theorem built63 (most:Int):Tryz.prog.built 155 [(1,.int .i64 most)]=some #[.slice none 0 0,.int .i64 most]:=by kernel_rfl
theorem newD (w:World) (most:Int) (hm:I64 most):
 Calls Tryz.prog 75 #[.int .i64 most] w fun e w'=>∃x,e=.returned (.pointer (some ⟨x,0,none⟩))∧w.heap.size≤x∧XC w' x none most []∧Below w.heap.size w w':=by
 have hmb:=hm
 unfold I64 at hmb
 go_enter Tryz.func75,Tryz.ntmps75
 go_wp2_with (first
  |(refine wpList_build_to rfl 155 #[(1,.tmp 3)] rfl [(1,.int .i64 most)] #[.slice none 0 0,.int .i64 most] rfl (built63 _) ?_)
  |(refine zac rfl 155 (.tmp 4) rfl [.slice none 0 0,.int .i64 most] rfl ?_;intro w2 B2 bl2 hz2))
 go_ret
 exact ⟨_,rfl,Nat.le_refl _,⟨⟨none,0,B2,World.ownsRow_nil _ _ _ _,rfl⟩,by simp,hm⟩,bl2⟩
theorem bytesD (w:World) (x:Nat) (rb:Option Nat) (most:Int) (l:List Sm) (h:XC w x rb most l) (hl:l.length≤1000000):
 Calls Tryz.prog 77 #[.pointer (some ⟨x,0,none⟩)] w (BtP w (encC l)):=by
 obtain ⟨ad,c,h1,h2,h3⟩:=h.blk
 have c0:=h1.cell 0
 simp at c0
 have HE:=zaa (encodeD w ad l.length c l (zan h2 h.ok) rfl hl)
 clear h h1 h2 h3
 go_enter Tryz.func77,Tryz.ntmps77
 go_wp2_with fail
 refine HE.out.mono ?_
 rintro e w1 ⟨ad1,c1,rfl,o1,b1⟩
 go_wp2
 go_ret
 exact ⟨_,_,rfl,o1,b1⟩
theorem appendD (w:World) (x:Nat) (rb:Option Nat) (most:Int) (l:List Sm) (s:Sm) (h:XC w x rb most l) (hs:OkS s) (hl:l.length≤100000):
 Calls Tryz.prog 76 #[.pointer (some ⟨x,0,none⟩),.int .i64 s.t,.int .u64 (s.v:Int)] w fun e w'=>e=.returned (.bool (decide (((encC (l++[s])).length:Int)≤most)))∧∃rb',XC w' x rb' most (if ((encC (l++[s])).length:Int)≤most then l++[s] else l)∧Chg (fun i=>i=x) w w'∧Moved w rb rb':=by
 obtain ⟨ad,c,h1,h2,h3⟩:=h.blk
 have c0:=h1.cell 0
 have c1:=h1.cell 1
 simp at c0 c1
 have hst:=hs.t
 have hsv:=hs.v
 have hmb:=h.most
 unfold I64 at hst hmb
 have HX:=zaa h
 have HS:=zaa (zan h2 h.ok)
 have HNO:Hid (ad=none→l=[]∧c=0):=zaa (fun e=>by
  obtain ⟨ad',c',e1,e2,_⟩:=za3 h2
  injection e1 with e3 e4 e5
  subst e3 e5
  exact ⟨List.eq_nil_of_length_eq_zero (e2 e).1,(e2 e).2⟩)
 have HB:=zaa h1
 have HOK:Hid (∀y∈l++[s],OkS y):=zaa (fun y hy=>by
  rcases List.mem_append.1 hy with hy|hy
  · exact h.ok y hy
  rw [List.mem_singleton.1 hy];exact hs)
 obtain ⟨N,hN⟩:∃N,(encC (l++[s])).length=N:=⟨_,rfl⟩
 have hNb:N≤20*(l.length+1):=by have:=encC_le HOK.out;rw [hN] at this;simpa using this
 rw [hN]
 have HNN:=zaa hN
 obtain ⟨n,hn⟩:∃n,l.length=n:=⟨_,rfl⟩
 rw [hn] at c0 hl hNb
 have HLN:=zaa hn
 clear h h1 h2 hs hN hn
 go_enter Tryz.func76,Tryz.ntmps76
 go_wp2_with (first
  |(refine zb1 _ rfl (.tmp 8) (.tmp 12) rfl w.heap.size (.slice none 0 0) 0 [] rfl (World.ownsRow_nil _ _ _ _) ad n c l rfl HS.out HLN.out HNO.out n (by omega) (by omega) (Nat.le_refl _) ?_
    intro a1 cc1 w1 o1 b1
    have O1:=zaa o1
    have B1:=zaa b1
    clear o1 b1)
  |(refine wpList_build_to rfl 53 #[(0,.tmp 15),(1,.tmp 16)] rfl [(0,.int .i64 s.t),(1,.int .u64 (s.v:Int))] #[.int .i64 s.t,.int .u64 (s.v:Int)] rfl (built32 _ _ _ _ rfl rfl) ?_)
  |(refine zbo _ rfl (.tmp 14) (.tmp 18) rfl w.heap.size (.slice a1 n cc1) n ([]++l) rfl w1 O1.out s rfl rfl (by omega) B1.out.size ?_
    intro g2 cc2 w2 o2 b2 _
    have O2:Hid (w2.ownsRow w.heap.size 53 2 (.slice (some ⟨g2,0,none⟩) (n+1) cc2) (n+1) (cS (l++[s]))):=zaa o2
    have B2:=zaa (B1.out.trans b2)
    clear o2 b2))
 have HEN:=zaa (fun wy (hb:Below w2.heap.size w2 wy)=>encodeD wy (some ⟨g2,0,none⟩) (n+1) cc2 (l++[s]) (zan (owl O2.out hb) HOK.out) (by rw [List.length_append,HLN.out];rfl) (by omega))
 unfold BtP at HEN
 rw [HNN.out] at HEN
 have MO:Hid (∀wy,Below w.heap.size w wy→wy.cell? ⟨x,1,none⟩=some (.int .i64 most)):=zaa (fun wy hb=>by
  have:=(HB.out.later hb).cell 1
  simpa using this)
 have e1:=MO.out w2 B2.out
 have hbl2:=B2.out.size
 have hxl:=HB.out.lt
 clear c1
 by_cases hf:(N:Int)≤most
 · have hnf:¬most<(N:Int):=by omega
   have HFF:=zaa hf
   clear hf
   go_region_with (refine (HEN.out _ ((Below.refl _ _).drew)).mono ?_;rintro e w3 ⟨ad3,c3,rfl,_,b3⟩;have B3:Hid (Below w2.heap.size w2 w3):=zaa (((Below.refl _ _).drew).trans b3);have e3:=MO.out w3 (B2.out.trans (B3.out.mono hbl2));clear b3)
   all_goals
    have B4:=zaa (HB.out.later (B2.out.trans (B3.out.mono hbl2)))
    have c3:=B4.out.cell 0
    have f3:=B4.out.frozen 0
    simp at c3
    go_wp2_with fail
    first|go_region|skip
    go_wp2
    go_ret
    have B5:=B4.out.set 0 (.slice (some ⟨g2,0,none⟩) (n+1) cc2)
    have C5:=zbg w3 x 0 (.slice (some ⟨g2,0,none⟩) (n+1) cc2)
    have hgx:w.heap.size≤g2:=(O2.out.lt g2 rfl).1
    have hX:XC (w3.setCell ⟨x,0,none⟩ (.slice (some ⟨g2,0,none⟩) (n+1) cc2)) x (some g2) most (l++[s]):=by
     have hlen:(l++[s]).length=n+1:=by rw [List.length_append,HLN.out];rfl
     refine ⟨⟨some ⟨g2,0,none⟩,cc2,by rw [hlen];simpa using B5,?_,rfl⟩,HOK.out,HX.out.most⟩
     rw [hlen]
     exact C5.owns (zbq (owl O2.out B3.out) (fun _ _=>Nat.zero_le _)) (fun g hg e=>by simp [Value.ownBlock] at hg;omega)
    have hC:Chg (fun i=>i=x) w (w3.setCell ⟨x,0,none⟩ (.slice (some ⟨g2,0,none⟩) (n+1) cc2)):=(Chg.of_below (F:=fun i=>i=x) (B2.out.trans (B3.out.mono hbl2))).trans C5 (fun _ _ e=>e)
    refine ⟨by first|rfl|simp|(simp;omega),some g2,?_,hC,.inr ⟨g2,rfl,hgx⟩⟩
    first|exact hX|(rw [if_pos (by omega)];exact hX)
 have hnf:most<(N:Int):=by omega
 have HFF:=zaa hf
 clear hf
 go_region_with (refine (HEN.out _ ((Below.refl _ _).drew)).mono ?_;rintro e w3 ⟨ad3,c3,rfl,_,b3⟩;have B3:Hid (Below w2.heap.size w2 w3):=zaa (((Below.refl _ _).drew).trans b3);have e3:=MO.out w3 (B2.out.trans (B3.out.mono hbl2));clear b3)
 all_goals
  go_wp2
  go_ret
  have hX:=HX.out.later (B2.out.trans (B3.out.mono hbl2))
  refine ⟨by first|rfl|simp|(simp;omega),rb,?_,Chg.of_below (B2.out.trans (B3.out.mono hbl2)),.inl rfl⟩
  first|exact hX|(rw [if_neg (by omega)];exact hX)
structure CX (w0 w:World) (x:Nat) (v:Value) (s:Gs) (rb:Option Nat) (D:Nat→Prop):Prop where
 ck:Ck w w0.heap.size v (s.1.map encC) D
 xc:XC w x rb 128 s.2
 ge:∀i,FX x rb i→w0.heap.size≤i
 vx:∀g,v.ownBlock=some g→¬g=x
 dx:¬D x
 bel:Below w0.heap.size w0 w
theorem fx_moved {w:World} {x:Nat} {rb rb':Option Nat} (h:Moved w rb rb') {i:Nat} (hi:FX x rb' i):FX x rb i∨w.heap.size≤i:=by
 rcases hi with rfl|hi
 · exact .inl (.inl rfl)
 rcases h with rfl|⟨g,rfl,hg⟩
 · exact .inl (.inr hi)
 cases hi;exact .inr hg
theorem CX.yes {w0 w w':World} {x:Nat} {v:Value} {s:Gs} {rb rb':Option Nat} {D:Nat→Prop} (h:CX w0 w x v s rb D) {l:List Sm} (hx:XC w' x rb' 128 l) (hc:Chg (fun i=>i=x) w w') (hm:Moved w rb rb'):CX w0 w' x v (s.1,l) rb' D:=by
 refine ⟨h.ck.chg hc (fun i hi e=>h.dx (by rw [←show i=x from e];exact hi)) (fun g hg e=>h.vx g hg e),hx,fun i hi=>?_,h.vx,h.dx,h.bel.trans (hc.below h.bel.size (fun i e=>by rw [show i=x from e];exact h.ge x (.inl rfl)))⟩
 rcases fx_moved hm hi with h1|h1
 · exact h.ge i h1
 exact Nat.le_trans h.bel.size h1
theorem zc7 (w:World) (ad:Option Addr) (N c:Nat) (l:List Sm) (hL:Ss w ad l) (hN:l.length=N) (hN9:N≤1000000):
 Calls Tryz.prog 48 #[.slice ad N c] w fun e w'=>CksP w w.heap.size ((gO (gF l)).map encC) e w':=by
 have HL:=zaa hL
 have HN:=zaa hN
 obtain ⟨i7,hi7,hz7,hs7,hb7⟩:=zcw
 clear hL hN
 go_enter Tryz.func48,Tryz.ntmps48
 go_wp2_with fail
 refine (newD w 128 (by unfold I64;omega)).mono ?_
 rintro e w1 ⟨x1,rfl,hx1,hc1,b1⟩
 have HI:Hid (CX w w1 x1 (.slice none 0 0) ([],[]) none (fun _=>False)):=by
  refine ⟨Ck.nil w1 w.heap.size,hc1,fun i hi=>?_,fun g hg=>(by cases hg),fun h=>h,b1⟩
  rcases hi with rfl|hi
  · exact hx1
  cases hi
 clear hx1 hc1 b1
 go_wp2_with fail
 go_loopw [3,4,5] (fun s3 s4 s5 wx=>∃(i x:Nat),s5=.int .i64 (i:Int)∧s4=.pointer (some ⟨x,0,none⟩)∧i≤N∧Hid (∃rb D,CX w wx x s3 (gF (l.take i)) rb D)) (fun _ _ s5 _=>N - (intOf s5).toNat)
 case atStart=>exact ⟨0,x1,rfl,rfl,by omega,zaa ⟨none,_,by simpa [gF] using HI.out⟩⟩
 case round=>
  rename World=>wr
  obtain ⟨i,x,rfl,rfl,hi,hI⟩:=hrel
  obtain ⟨v,hv3⟩:∃v,v=u3:=⟨_,rfl⟩
  subst hv3
  obtain ⟨rb,D,hcx⟩:=hI.out
  have hgk:OkG (gF (l.take i)):=okG (fun y hy=>HL.out.sz y (List.mem_of_mem_take hy))
  have hg1:(gF (l.take i)).1.length≤1000000:=by
   have:=zc5 (l.take i) ([],[])
   rw [List.length_take] at this
   simp only [List.length_nil] at this
   show ((l.take i).foldl gS ([],[])).1.length≤_
   omega
  have hstep:i<N→∀y,l[i]?=some y→gF (l.take (i+1))=gS (gF (l.take i)) y:=fun _ y hy=>by
   rw [List.take_add_one,hy,gF_app]
   rfl
  have HST:=zaa hstep
  have HGK:=zaa hgk
  have hfew:=za8 hgk.fit2
  have HLST:Hid (i=N→gF (l.take i)=gF l):=zaa (fun e=>by rw [List.take_of_length_le (by rw [HN.out];omega)])
  have HNE:Hid (0<i→(gF (l.take i)).2≠[]):=zaa (fun h0 e=>by
   have h1:=(zcy (l:=l.take i) (fun y hy=>HL.out.sz y (List.mem_of_mem_take hy))).1 e
   have:=congrArg List.length h1
   rw [List.length_take,HN.out] at this
   simp only [List.length_nil] at this
   omega)
  have HE0:Hid (i=0→gF (l.take i)=([],[])):=zaa (fun e=>by subst e;rfl)
  generalize gF (l.take i)=s at*
  have HCX:=zaa hcx
  have hvf:=hcx.ck.form
  obtain ⟨av,cv,hv⟩:=hvf
  rw [List.length_map] at hv
  obtain ⟨M,hM⟩:∃M,s.1.length=M:=⟨_,rfl⟩
  rw [hM] at hv hg1
  have HMM:Hid ((s.1.map encC).length=M):=zaa (by rw [List.length_map];exact hM)
  have HV:=zaa hv
  clear hI hcx hgk hstep hM hv HI
  by_cases hlt:i<N
  · have hltz:(i:Int)<(N:Int):=by omega
    obtain ⟨y,hy⟩:∃y,l[i]?=some y:=⟨l[i]'(by rw [HN.out];exact hlt),by simp⟩
    have hoy:OkS y:=HL.out.sz y (List.mem_of_getElem? hy)
    obtain ⟨g,off,rfl,hgl,hcell⟩:=(HL.out.later HCX.out.bel).at' (by rintro rfl;simp at hy)
    obtain ⟨kt,kv⟩:=hcell i y hy
    have HY:=zaa hy
    have HOY:=zaa hoy
    have HAP:Hid (∀wx,Below wr.heap.size wr wx→Calls Tryz.prog 76 #[.pointer (some ⟨x,0,none⟩),.int .i64 y.t,.int .u64 (y.v:Int)] wx fun e w'=>e=.returned (.bool (decide (((encC (s.2++[y])).length:Int)≤128)))∧Hid (∃rb',XC w' x rb' 128 (if ((encC (s.2++[y])).length:Int)≤128 then s.2++[y] else s.2)∧Chg (fun i=>i=x) wr w'∧Moved wr rb rb')):=zaa (fun wx hb=>by
     refine (appendD wx x rb 128 s.2 y (HCX.out.xc.later hb) HOY.out (by omega)).mono ?_
     rintro e w' ⟨rfl,rb',q1,q2,q3⟩
     refine ⟨rfl,zaa ⟨rb',q1,(Chg.of_below (F:=fun i=>i=x) hb).trans q2 (fun _ _ e=>e),?_⟩⟩
     rcases q3 with rfl|⟨g2,rfl,hg2⟩
     · exact .inl rfl
     exact .inr ⟨g2,rfl,Nat.le_trans hb.size hg2⟩)
    clear hy hoy hcell
    go_upto_region 6 with fail
    go_cut [6] from 14 to 25 (fun s6 wx=>s6=.bool (decide (((encC (s.2++[y])).length:Int)≤128))∧Hid (∃rb',XC wx x rb' 128 (if ((encC (s.2++[y])).length:Int)≤128 then s.2++[y] else s.2)∧Chg (fun i=>i=x) wr wx∧Moved wr rb rb'))
    case first=>
     go_region_with (refine (HAP.out _ (by first|exact Below.refl _ _|exact (Below.refl _ _).drew|exact zah (Below.refl _ _) _)).mono ?_;rintro e w3 ⟨rfl,h3⟩)
     all_goals
      have H3:=zaa h3
      clear h3
      go_wp2_with fail
      first|go_meet|skip
      first|exact ⟨rfl,H3.out⟩|skip
    case rest=>
     obtain ⟨rfl,hbc⟩:=hcut
     by_cases hfit:((encC (s.2++[y])).length:Int)≤128
     · rw [decide_eq_true hfit]
       rw [if_pos hfit] at hbc
       have HFIT:=zaa hfit
       clear hfit
       go_wp2_with fail
       refine ⟨⟨i+1,x,by first|rfl|simp,rfl,by omega,zaa ?_⟩,?_⟩
       · obtain ⟨rb',q1,q2,q3⟩:=hbc.out
         rw [HST.out hlt y HY.out,gS_yes HFIT.out]
         exact ⟨rb',D,HCX.out.yes q1 q2 q3⟩
       simp [intOf]
       omega
     rw [decide_eq_false hfit]
     rw [if_neg hfit] at hbc
     have HFIT:=zaa hfit
     obtain ⟨rb2,q1,q2,q3⟩:=hbc.out
     have HC2:=zaa (HCX.out.yes q1 q2 q3)
     clear hfit hbc q1 q2 q3 HCX HAP kt kv hgl
     have HK:Hid (Ck wc w.heap.size v (s.1.map encC) D):=zaa HC2.out.ck
     have HSZ:Hid (w.heap.size≤wc.heap.size):=zaa HC2.out.bel.size
     have HEB:Hid (Byte (encC s.2)):=zaa (zb5 s.2 (by omega))
     obtain ⟨m,hm⟩:∃m,(encC s.2).length=m:=⟨_,rfl⟩
     have HM:=zaa hm
     obtain ⟨ys,hys⟩:=HK.out.row
     have OX2:=zaa hys
     have OX:Hid (∀wx,Below wc.heap.size wc wx→wx.ownsRow w.heap.size 84 1 v M ys):=zaa (fun wx hb=>by rw [←HMM.out];exact owl hys.1 hb)
     clear hys
     go_wp2_with fail
     refine (bytesD wc x _ 128 s.2 HC2.out.xc (by omega)).mono ?_
     rintro e w4 ⟨ad4,c4,rfl,o4,b4⟩
     rw [hm] at o4 ⊢
     have O4:=zaa o4
     have B4:=zaa b4
     clear o4 b4 hm
     go_wp2_with (first
      |(refine zaw _ rfl (.tmp 28) (.tmp 31) 34 rfl 84 i7 (.slice none 0 0) 24 Tryz.underlying34 hi7 hz7 hs7 hb7 rfl w.heap.size v M ys rfl (OX.out _ (B4.out.trans (((Below.refl _ _).alloc (Nat.le_refl _) _).mono B4.out.size))) ⟨w4.heap.size,0,none⟩ (.slice ad4 m c4) rfl ((Blk.new w4 84 [.slice ad4 m c4]).cell 0) rfl (by unfold maxLen;omega) (by omega) (by have:=B4.out.size;have:=HSZ.out;simp;omega) ?_
        intro g5 c5 w5 o5 p5
        have P5:=zaa (Ck.push HK.out HSZ.out HM.out O4.out HEB.out B4.out ((Below.refl _ _).alloc (Nat.le_refl _) (.cells #[.slice ad4 m c4] 84)) OX2.out (by rw [HMM.out];exact o5) p5)
        clear o5 p5))
     rw [HMM.out] at P5
     refine (newD w5 128 (by unfold I64;omega)).mono ?_
     rintro e w6 ⟨x2,rfl,hx2,hc6,b6⟩
     have HX2:=zaa hx2
     have HC6:=zaa hc6
     have B6:=zaa b6
     have HB5:Hid (Below w.heap.size w w5):=zaa (HC2.out.bel.trans (P5.out.2.1.below HSZ.out (fun i hi=>(HK.out.vlt i hi).1)))
     have HB6:Hid (Below w.heap.size w w6):=zaa (HB5.out.trans (b6.mono HB5.out.size))
     obtain ⟨g,off,hge,hgl,hcell⟩:=(HL.out.later HB6.out).at' (by rintro rfl;have:=HY.out;simp at this)
     obtain ⟨kt,kv⟩:=hcell i y HY.out
     injection hge with hge
     injection hge with hg1 hg2
     subst hg1 hg2
     have HAP2:Hid (∀wx,Below w6.heap.size w6 wx→Calls Tryz.prog 76 #[.pointer (some ⟨x2,0,none⟩),.int .i64 y.t,.int .u64 (y.v:Int)] wx fun e w'=>e=.returned (.bool true)∧Hid (∃rb',XC w' x2 rb' 128 [y]∧Chg (fun i=>i=x2) w6 w'∧Moved w6 none rb')):=zaa (fun wx hb=>by
      refine (appendD wx x2 none 128 [] y (HC6.out.later hb) HOY.out (by simp)).mono ?_
      rintro e w' ⟨rfl,rb',q1,q2,q3⟩
      have h17:((encC ([]++[y])).length:Int)≤128:=by rw [show ([]++[y]:List Sm)=[y] from rfl,zep];omega
      rw [if_pos h17] at q1
      refine ⟨by rw [decide_eq_true h17],zaa ⟨rb',q1,(Chg.of_below (F:=fun i=>i=x2) hb).trans q2 (fun _ _ e=>e),?_⟩⟩
      rcases q3 with rfl|⟨g2,rfl,hg2⟩
      · exact .inl rfl
      exact .inr ⟨g2,rfl,Nat.le_trans hb.size hg2⟩)
     clear hx2 hc6 b6 hcell hgl
     go_upto_region 10 with fail
     go_region_with (refine (HAP2.out _ (by first|exact Below.refl _ _|exact (Below.refl _ _).drew|exact zah (Below.refl _ _) _)).mono ?_;rintro e w7 ⟨rfl,h7⟩)
     all_goals
      obtain ⟨rb7,q1,q2,q3⟩:=h7.out
      have HQ:=zaa (And.intro q1 (And.intro q2 q3))
      clear q1 q2 q3 h7
      go_wp2_with fail
      refine ⟨⟨i+1,x2,by first|rfl|simp,rfl,by omega,zaa ?_⟩,?_⟩
      · rw [HST.out hlt y HY.out,gS_no (by have:=HFIT.out;omega)]
        obtain ⟨q1,q2,q3⟩:=HQ.out
        obtain ⟨D5,k5⟩:∃D5,Ck w5 w.heap.size (.slice (some ⟨g5,0,none⟩) (M+1) c5) (s.1.map encC++[encC s.2]) D5:=⟨_,P5.out.1⟩
        refine ⟨rb7,D5,?_,q1,fun j hj=>?_,fun g hg=>?_,fun hd=>?_,HB6.out.trans (q2.below HB6.out.size (fun j e=>by rw [show j=x2 from e];exact Nat.le_trans HB5.out.size HX2.out))⟩
        · have e1:(s.1++[s.2]).map encC=s.1.map encC++[encC s.2]:=by rw [List.map_append];rfl
          rw [e1]
          exact (k5.later B6.out).chg q2 (fun j hj e=>by have h1:=(k5.lt j hj).2;have e2:j=x2:=e;have:=HX2.out;omega) (fun g hg e=>by have h1:=(k5.vlt g hg).2;have e2:g=x2:=e;have:=HX2.out;omega)
        · rcases fx_moved q3 hj with (rfl|hj)|hj
          · exact Nat.le_trans HB5.out.size HX2.out
          · cases hj
          exact Nat.le_trans HB6.out.size hj
        · have h1:=(k5.vlt g hg).2
          have:=HX2.out
          omega
        have h1:=(k5.lt x2 hd).2
        have:=HX2.out
        omega
      simp [intOf]
      omega
  have hltz:¬(i:Int)<(N:Int):=by omega
  have hiN:i=N:=by omega
  have HSL:Hid (s=gF l):=zaa (HLST.out hiN)
  by_cases hN0:N=0
  · have hs0:=HE0.out (by omega)
    have HS0:=zaa hs0
    clear hs0
    have hNz:¬(N:Int) > 0:=by omega
    go_wp2_with fail
    go_ret
    have hM0:M=0:=by
     have:=HMM.out
     rw [HS0.out] at this
     simpa using this.symm
    have e0:gO (gF l)=[]:=by rw [←HSL.out,HS0.out];rfl
    rw [e0]
    have hck:=HCX.out.ck
    rw [HS0.out,HV.out,hM0] at hck
    refine ⟨av,cv,D,?_,hck,HCX.out.bel⟩
    rw [HV.out,hM0]
    rfl
  have hNz:(N:Int) > 0:=by omega
  have HK:Hid (Ck wr w.heap.size v (s.1.map encC) D):=zaa HCX.out.ck
  have HSZ:Hid (w.heap.size≤wr.heap.size):=zaa HCX.out.bel.size
  have HEB:Hid (Byte (encC s.2)):=zaa (zb5 s.2 (by omega))
  obtain ⟨m,hm⟩:∃m,(encC s.2).length=m:=⟨_,rfl⟩
  have HM:=zaa hm
  obtain ⟨ys,hys⟩:=HK.out.row
  have OX2:=zaa hys
  have OX:Hid (∀wx,Below wr.heap.size wr wx→wx.ownsRow w.heap.size 84 1 v M ys):=zaa (fun wx hb=>by rw [←HMM.out];exact owl hys.1 hb)
  clear hys
  go_wp2_with fail
  refine (bytesD wr x _ 128 s.2 HCX.out.xc (by omega)).mono ?_
  rintro e w4 ⟨ad4,c4,rfl,o4,b4⟩
  rw [hm] at o4 ⊢
  have O4:=zaa o4
  have B4:=zaa b4
  clear o4 b4 hm
  go_wp2_with (first
   |(refine zaw _ rfl (.tmp 49) (.tmp 52) 34 rfl 84 i7 (.slice none 0 0) 24 Tryz.underlying34 hi7 hz7 hs7 hb7 rfl w.heap.size v M ys rfl (OX.out _ (B4.out.trans (((Below.refl _ _).alloc (Nat.le_refl _) _).mono B4.out.size))) ⟨w4.heap.size,0,none⟩ (.slice ad4 m c4) rfl ((Blk.new w4 84 [.slice ad4 m c4]).cell 0) rfl (by unfold maxLen;omega) (by omega) (by have:=B4.out.size;have:=HSZ.out;simp;omega) ?_
     intro g5 c5 w5 o5 p5
     have P5:=zaa (Ck.push HK.out HSZ.out HM.out O4.out HEB.out B4.out ((Below.refl _ _).alloc (Nat.le_refl _) (.cells #[.slice ad4 m c4] 84)) OX2.out (by rw [HMM.out];exact o5) p5)
     clear o5 p5))
  rw [HMM.out] at P5
  go_ret
  have e0:(gO (gF l)).map encC=s.1.map encC++[encC s.2]:=by
   rw [←HSL.out,zcx (HNE.out (by omega)),List.map_append]
   rfl
  rw [e0]
  obtain ⟨D5,k5⟩:∃D5,Ck w5 w.heap.size (.slice (some ⟨g5,0,none⟩) (M+1) c5) (s.1.map encC++[encC s.2]) D5:=⟨_,P5.out.1⟩
  have hl5:(s.1.map encC++[encC s.2]).length=M+1:=by rw [List.length_append,HMM.out];rfl
  refine ⟨some ⟨g5,0,none⟩,c5,D5,?_,?_,HCX.out.bel.trans (P5.out.2.1.below HSZ.out (fun i hi=>(HK.out.vlt i hi).1))⟩
  · rw [hl5]
    rfl
  rw [hl5]
  exact k5
structure YS (w:World) (r:Nat) (ad:Option Addr) (c:Nat) (l:List Int) (B:List Bool) (bad:Bool):Prop where
 blk:∃t:Nat,t≤8*l.length∧Blk w r 164 [.slice ad l.length c,.int .i64 (t:Int),.bool bad]∧B=(ub l).drop t
 sl:Sl w ad l.length l
 ne:∀z,ad=some z→0<l.length→z.block≠r
 len:l.length≤100000000
theorem YS.chg {F:Nat→Prop} {w w':World} {r c:Nat} {ad:Option Addr} {l:List Int} {B:List Bool} {bad:Bool} (h:YS w r ad c l B bad) (hc:Chg F w w') (hr:¬F r) (ha:∀z,ad=some z→0<l.length→¬F z.block):YS w' r ad c l B bad:=by
 obtain ⟨t,h1,h2,h3⟩:=h.blk
 exact ⟨⟨t,h1,hc.blk h2 hr,h3⟩,hc.sl h.sl ha,h.ne,h.len⟩
theorem YS.later {w w':World} {r c:Nat} {ad:Option Addr} {l:List Int} {B:List Bool} {bad:Bool} (h:YS w r ad c l B bad) (hb:Below w.heap.size w w'):YS w' r ad c l B bad:=h.chg (Chg.of_below (F:=fun _=>False) hb) (fun e=>e) (fun _ _ _ e=>e)
theorem ub_drop {l:List Int} {t:Nat} (h:t<8*l.length):(ub l).drop t=bt l t :: (ub l).drop (t+1):=by
 have hl:t<(ub l).length:=by rw [zd7];exact h
 rw [List.drop_eq_getElem_cons hl]
 congr 1
 have:=ub_at l t
 rw [List.getD_eq_getElem?_getD,List.getElem?_eq_getElem hl] at this
 exact this
theorem bt_val (l:List Int) (hb:Byte l) (t:Nat):(l.getD (t / 8) 0) / 2 ^ (7 - t%8)%2=((bt l t).toNat:Int):=by
 have h:=hb.at (t / 8)
 unfold bt
 rw [Nat.toNat_testBit]
 generalize l.getD (t / 8) 0=y at*
 obtain ⟨z,rfl⟩:∃z:Nat,y=(z:Int):=⟨y.toNat,by omega⟩
 rw [Int.toNat_natCast,Int.natCast_emod,Int.natCast_ediv,Int.natCast_pow]
 rfl
theorem u8_and1 (c:Int) (h0:0≤c) (h1:c≤255):bits .and .u8 c 1=c%2:=
 bits_mask .u8 8 (by decide) wraps_u8 1 (by decide) c h0 (by omega)
theorem shr_bd {y:Int} {sh:Nat} (h:0≤y∧y≤255) (hs:sh≤7):0≤y / 2 ^ sh∧y / 2 ^ sh≤255:=by
 rcases (show sh=0∨sh=1∨sh=2∨sh=3∨sh=4∨sh=5∨sh=6∨sh=7 by omega) with rfl|rfl|rfl|rfl|rfl|rfl|rfl|rfl <;> simp <;> omega
theorem vl_take {B:List Bool} {i:Nat} {b:Bool} {t:List Bool} (h:B.drop i=b :: t):vl (B.take (i+1))=2*vl (B.take i)+b.toNat∧B.drop (i+1)=t∧i<B.length:=by
 have hl:i<B.length:=by
  rcases Nat.lt_or_ge i B.length with h1|h1
  · exact h1
  rw [List.drop_of_length_le h1] at h;cases h
 rw [List.drop_eq_getElem_cons hl] at h
 injection h with h1 h2
 refine ⟨?_,h2,hl⟩
 rw [List.take_add_one,List.getElem?_eq_getElem hl,h1]
 exact vl_snoc _ _
theorem getD (w:World) (r c n:Nat) (ad:Option Addr) (l:List Int) (B:List Bool) (bad:Bool) (h:YS w r ad c l B bad) (hn:n≤64):
 Calls Tryz.prog 97 #[.pointer (some ⟨r,0,none⟩),.int .i64 (n:Int)] w fun e w'=>e=.returned (.int .u64 (tkV n B:Int))∧(∃B' bad',YS w' r ad c l B' bad'∧(n≤B.length→B'=B.drop n∧bad'=bad)∧(¬n≤B.length→bad'=true))∧Chg (fun i=>i=r) w w':=by
 have HY:=zaa h
 clear h
 go_enter Tryz.func97,Tryz.ntmps97
 go_wp2_with fail
 go_loopw [5,6] (fun v5 v6 wx=>∃i:Nat,i≤n∧i≤B.length∧v6=.int .i64 (i:Int)∧v5=.int .u64 ((vl (B.take i):Nat):Int)∧Hid (YS wx r ad c l (B.drop i) bad)∧Hid (Chg (fun i=>i=r) w wx)) (fun _ v6 _=>n - (intOf v6).toNat)
 case atStart=>exact ⟨0,by omega,by omega,rfl,rfl,by simpa using HY,zaa (Chg.refl _ _)⟩
 case round=>
  rename World=>wx
  obtain ⟨i,hi,hiB,rfl,rfl,hY,hC⟩:=hrel
  clear HY
  obtain ⟨t,ht,hB,hD⟩:=hY.out.blk
  have hll:=hY.out.len
  have c0:=hB.cell 0
  have c1:=hB.cell 1
  simp at c0 c1
  have f1:=hB.frozen 1
  have f2:=hB.frozen 2
  have c2:=hB.cell 2
  simp at c2
  have HB:=zaa hB
  have HDD:=zaa hD
  clear hB hD
  obtain ⟨N,hN⟩:∃N,l.length=N:=⟨_,rfl⟩
  rw [hN] at c0 ht hll
  have HNN:=zaa hN
  clear hN
  by_cases hlt:i<n
  · have hltz:(i:Int)<(n:Int):=by omega
    by_cases htn:t<8*N
    · have htz:¬8*(N:Int)≤(t:Int):=by omega
      have hd2:=HDD.out
      rw [ub_drop (by rw [HNN.out];exact htn)] at hd2
      obtain ⟨hv,hdr,hil⟩:=vl_take hd2
      have hbv:=bt_val l hY.out.sl.byte t
      obtain ⟨q,hq⟩:∃q,t / 8=q:=⟨_,rfl⟩
      obtain ⟨sh,hsh⟩:∃sh,7 - t%8=sh:=⟨_,rfl⟩
      have hyb:=hY.out.sl.byte.at q
      have hqN:q<N:=by omega
      obtain ⟨g,off,rfl,hgl,hcell⟩:=hY.out.sl.at (by rw [HNN.out];omega)
      have cq:=hcell q (by rw [HNN.out];exact hqN)
      clear hcell
      rw [hq,hsh] at hbv
      have hqi:(t:Int) / 8=(q:Int):=by omega
      have hri:7 - (t:Int)%8=(sh:Int):=by omega
      have hsh7:sh≤7:=by omega
      have hvl:=vl_lt (B.take i)
      have hti:(B.take i).length=i:=by rw [List.length_take];omega
      rw [hti] at hvl
      have hp63:2 ^ i≤2 ^ 63:=Nat.pow_le_pow_right (by omega) (by omega)
      have hvb:vl (B.take i)<9223372036854775808:=by omega
      obtain ⟨y,hy⟩:∃y,l.getD q 0=y:=⟨_,rfl⟩
      rw [hy] at cq hyb hbv
      have hbit:bits BinOp.and IntKind.u8 (y / 2 ^ sh) 1=((bt l t).toNat:Int):=by
       rw [←hbv]
       exact u8_and1 _ (shr_bd hyb hsh7).1 (shr_bd hyb hsh7).2
      have hb1:(bt l t).toNat≤1:=by cases bt l t <;> simp
      have HV:=zaa hv
      have HDR:=zaa hdr
      clear hv hdr hd2 hvl hp63 hbv hy
      generalize vl (B.take i)=V at*
      generalize (bt l t).toNat=bb at*
      have YN:Hid (∀k,YS ((wx.drewN k).setCell ⟨r,1,none⟩ (.int .i64 ((t:Int)+1))) r (some ⟨g,off,none⟩) c l (B.drop (i+1)) bad):=zaa (fun k=>by
       have hc:=zbg (wx.drewN k) r 1 (.int .i64 ((t:Int)+1))
       have hY':=hY.out.later (zah (Below.refl _ _) k)
       refine ⟨⟨t+1,by rw [HNN.out];omega,?_,HDR.out⟩,hc.sl hY'.sl (fun z hz h0 e=>hY.out.ne z hz h0 e),hY.out.ne,hY.out.len⟩
       have:=(HB.out.drewN k).set 1 (.int .i64 ((t:Int)+1))
       simpa using this)
      have CN:Hid (∀k,Chg (fun i=>i=r) w ((wx.drewN k).setCell ⟨r,1,none⟩ (.int .i64 ((t:Int)+1)))):=zaa (fun k=>(hC.out.trans (Chg.drewN (fun i=>i=r) wx k) (fun _ _ e=>e)).trans (zbg (wx.drewN k) r 1 (.int .i64 ((t:Int)+1))) (fun _ _ e=>e))
      go_wp2_with fail
      go_quiet (fail)
      go_wp2_with fail
      go_quiet (fail)
      go_wp2_with fail
      refine ⟨⟨i+1,by omega,by omega,by rw [Int.natCast_add];rfl,?_,zaa (YN.out _),zaa (CN.out _)⟩,by simp [intOf];omega⟩
      rw [HV.out]
      congr 1
      omega
    have htz:8*(N:Int)≤(t:Int):=by omega
    have hBn:B.drop i=[]:=by rw [HDD.out,List.drop_of_length_le (by rw [zd7,HNN.out];omega)]
    have hnl:¬n≤B.length:=by
     have:=congrArg List.length hBn
     rw [List.length_drop] at this
     simp at this
     omega
    have HV:Hid (tkV n B=0):=zaa (by unfold tkV;rw [if_neg hnl])
    have YN:Hid (∀k,YS ((wx.drewN k).setCell ⟨r,2,none⟩ (.bool true)) r ad c l (B.drop i) true):=zaa (fun k=>by
     have hc:=zbg (wx.drewN k) r 2 (.bool true)
     have hY':=hY.out.later (zah (Below.refl _ _) k)
     refine ⟨⟨t,by rw [HNN.out];exact ht,?_,HDD.out⟩,hc.sl hY'.sl (fun z hz h0 e=>hY.out.ne z hz h0 e),hY.out.ne,hY.out.len⟩
     have:=(HB.out.drewN k).set 2 (.bool true)
     simpa using this)
    have CN:Hid (∀k,Chg (fun i=>i=r) w ((wx.drewN k).setCell ⟨r,2,none⟩ (.bool true))):=zaa (fun k=>(hC.out.trans (Chg.drewN (fun i=>i=r) wx k) (fun _ _ e=>e)).trans (zbg (wx.drewN k) r 2 (.bool true)) (fun _ _ e=>e))
    have HNL:=zaa hnl
    clear hBn hnl
    go_wp2_with fail
    go_quiet (fail)
    go_wp2_with fail
    first|go_region|skip
    go_wp2
    go_ret
    exact ⟨by rw [HV.out];rfl,⟨B.drop i,true,YN.out _,fun h=>absurd h HNL.out,fun _=>rfl⟩,CN.out _⟩
  obtain rfl:i=n:=by omega
  have hge:¬(i:Int)<(i:Int):=by omega
  have HV:Hid (tkV i B=vl (B.take i)):=zaa (by unfold tkV;rw [if_pos hiB])
  clear c0 c1 c2 f1 f2 hlt
  go_wp2
  go_ret
  first
   |exact ⟨by rw [HV.out];rfl,⟨B.drop i,bad,hY.out,fun _=>⟨rfl,rfl⟩,fun h=>absurd hiB h⟩,hC.out⟩
   |exact ⟨by rw [HV.out];rfl,hY.out,hC.out⟩
theorem signedD (v w:Nat) (w0:World) (hv:v<18446744073709551616) (hw:w=0∨w=7∨w=9∨w=12∨w=64):
 Calls Tryz.prog 117 #[.int .u64 (v:Int),.int .i64 (w:Int)] w0 fun e w'=>e=.returned (.int .i64 (sg v w))∧w'=w0:=by
 rcases hw with rfl|rfl|rfl|rfl|rfl
 all_goals
  go_enter Tryz.func117,Tryz.ntmps117
  go_wp2
  go_ret
  refine ⟨?_,by first|trivial|rfl⟩
 · exact congrArg (fun z=>Ending.returned (.int .i64 z)) (by unfold sg;rw [w64,u64w];simp)
 · exact congrArg (fun z=>Ending.returned (.int .i64 z)) (by unfold sg;rw [w64,u64w];simp)
 · exact congrArg (fun z=>Ending.returned (.int .i64 z)) (by unfold sg;rw [w64,u64w];simp)
 · exact congrArg (fun z=>Ending.returned (.int .i64 z)) (by unfold sg;rw [w64,u64w];simp)
 exact congrArg (fun z=>Ending.returned (.int .i64 z)) (by unfold sg;rw [w64];simp;unfold wr;omega)
theorem rdX_inv {c0 c:List Bool} {x0:Nat} (h:rdX (true :: c0)=some (x0,c)):12≤c0.length∧fa c0+fz c0≤64∧fz c0≤(fc c0).length∧fx c0=x0∧(fc c0).drop (fz c0)=c:=by
 by_cases hle:fa c0+fz c0≤64
 · obtain ⟨h1,h2,h3⟩:=((rdX_yes false hle).2 rfl).2 _ _ h
   rw [Bool.or_eq_false_iff] at h3
   have hz:fz c0≤(fc c0).length:=by
    rcases Nat.lt_or_ge (fc c0).length (fz c0) with h5|h5
    · have:=h3.1
      unfold tkW at this
      rw [if_neg (by omega)] at this
      cases this
    exact h5
   have h12:12≤c0.length:=by
    rcases Nat.lt_or_ge c0.length 12 with h5|h5
    · have:=h3.1
      rw [f_short (by omega),zbn] at this
      cases this
    exact h5
   refine ⟨h12,hle,hz,h1,?_⟩
   unfold tkB at h2
   rwa [if_pos hz] at h2
 rw [rdX_no hle] at h;cases h
def XdP {α:Type} (rd:List Bool→Option (α×List Bool)) (w:World) (r c:Nat) (ad:Option Addr) (l:List Int) (B:List Bool) (bad:Bool) (x:α) (w':World):Prop:=
 (∃B' bad',YS w' r ad c l B' bad'∧∀x0 cc,rd B=some (x0,cc)→x=x0∧B'=cc∧bad'=bad)∧Chg (fun i=>i=r) w w'
theorem xD (w:World) (r c:Nat) (ad:Option Addr) (l:List Int) (B:List Bool) (bad:Bool) (h:YS w r ad c l B bad):
 Calls Tryz.prog 99 #[.pointer (some ⟨r,0,none⟩)] w fun e w'=>∃x:Nat,e=.returned (.int .u64 (x:Int))∧x<18446744073709551616∧XdP rdX w r c ad l B bad x w':=by
 have HY:=zaa h
 have G1:Hid (∀w1 B1 b1,YS w1 r ad c l B1 b1→Calls Tryz.prog 97 #[.pointer (some ⟨r,0,none⟩),.int .i64 1] w1 fun e w'=>e=.returned (.int .u64 (tkV 1 B1:Int))∧(∃B' bad',YS w' r ad c l B' bad'∧(1≤B1.length→B'=B1.drop 1∧bad'=b1)∧(¬1≤B1.length→bad'=true))∧Chg (fun i=>i=r) w1 w'):=zaa (fun w1 B1 b1 h1=>getD w1 r c 1 ad l B1 b1 h1 (by omega))
 have G6:Hid (∀w1 B1 b1,YS w1 r ad c l B1 b1→Calls Tryz.prog 97 #[.pointer (some ⟨r,0,none⟩),.int .i64 6] w1 fun e w'=>e=.returned (.int .u64 (tkV 6 B1:Int))∧(∃B' bad',YS w' r ad c l B' bad'∧(6≤B1.length→B'=B1.drop 6∧bad'=b1)∧(¬6≤B1.length→bad'=true))∧Chg (fun i=>i=r) w1 w'):=zaa (fun w1 B1 b1 h1=>getD w1 r c 6 ad l B1 b1 h1 (by omega))
 clear h
 go_enter Tryz.func99,Tryz.ntmps99
 go_wp2_with fail
 refine (G1.out w B bad HY.out).mono ?_
 rintro e w1 ⟨rfl,⟨B1,b1,hY1,hk1,_⟩,hc1⟩
 have Y1:=zaa hY1
 have C1:=zaa hc1
 have K1:=zaa hk1
 clear hY1 hc1 hk1
 by_cases hb:tkV 1 B=0
 · have HZ:Hid (∀x0 cc,rdX B=some (x0,cc)→(0:Nat)=x0∧B1=cc∧b1=bad):=zaa (fun x0 cc hh=>by
    rcases tk1 B with ⟨rfl,_⟩|⟨c,rfl,_⟩|⟨c,_,h2,_⟩
    · simp [rdX] at hh
    · simp only [rdX] at hh
      injection hh with hh
      injection hh with h5 h6
      obtain ⟨h7,h8⟩:=K1.out (by simp)
      exact ⟨h5,by rw [h7,←h6];rfl,h8⟩
    rw [h2] at hb;exact absurd hb (by omega))
   rw [hb]
   go_wp2
   go_ret
   exact ⟨0,rfl,by omega,⟨_,_,Y1.out,HZ.out⟩,C1.out⟩
 obtain ⟨c0,rfl,h2⟩:∃c0,B=true :: c0∧tkV 1 B=1:=by
  rcases tk1 B with ⟨_,h2,_⟩|⟨c,_,h2,_⟩|⟨c,h1,h2,_⟩
  · exact absurd h2 hb
  · exact absurd h2 hb
  exact ⟨c,h1,h2⟩
 obtain ⟨e1,e2⟩:=K1.out (by simp)
 have e1':B1=c0:=by rw [e1];rfl
 subst e1' e2
 rw [h2]
 clear hb h2 K1 e1
 go_wp2_with fail
 refine (G6.out w1 _ _ Y1.out).mono ?_
 rintro e w2 ⟨rfl,⟨B2,b2,hY2,hk2,_⟩,hc2⟩
 have Y2:=zaa hY2
 have C2:=zaa (C1.out.trans hc2 (fun _ _ e=>e))
 have K2:=zaa hk2
 clear hY2 hc2 hk2
 have ha6:=zb4 (n:=6) (B:=B1)
 go_wp2_with fail
 refine (G6.out w2 _ _ Y2.out).mono ?_
 rintro e w3 ⟨rfl,⟨B3,b3,hY3,hk3,_⟩,hc3⟩
 have Y3:=zaa hY3
 have C3:=zaa (C2.out.trans hc3 (fun _ _ e=>e))
 have K3:=zaa hk3
 clear hY3 hc3 hk3
 have hz6:=zb4 (n:=6) (B:=B2)
 have INV:Hid (∀x0 cc,rdX (true :: B1)=some (x0,cc)→fa B1=tkV 6 B1∧fz B1=tkV 6 B2+1∧fc B1=B3∧b3=b1∧fa B1+fz B1≤64∧fz B1≤B3.length∧fx B1=x0∧B3.drop (fz B1)=cc):=zaa (fun x0 cc hh=>by
  obtain ⟨i1,i2,i3,i4,i5⟩:=rdX_inv hh
  obtain ⟨j1,j2⟩:=K2.out (by omega)
  have hB2:B2=tkB 6 B1:=by rw [j1];unfold tkB;rw [if_pos (by omega)]
  obtain ⟨j3,j4⟩:=K3.out (by rw [j1,List.length_drop];omega)
  have hB3:fc B1=B3:=by rw [j3];unfold fc;rw [←hB2];unfold tkB;rw [if_pos (by rw [j1,List.length_drop];omega)]
  refine ⟨rfl,by unfold fz;rw [←hB2],hB3,by rw [j4,j2],i2,by rw [←hB3];exact i3,i4,by rw [←hB3];exact i5⟩)
 clear K2 K3
 obtain ⟨a,ha⟩:∃a,tkV 6 B1=a:=⟨_,rfl⟩
 obtain ⟨zz,hzz⟩:∃zz,tkV 6 B2=zz:=⟨_,rfl⟩
 rw [ha] at ha6 INV ⊢
 rw [hzz] at hz6 INV ⊢
 have hzi:(zz:Int)+1=((zz+1:Nat):Int):=by omega
 by_cases hle:a+(zz+1)≤64
 · have hno:¬(64:Int)<(a:Int)+((zz:Int)+1):=by omega
   obtain ⟨bh,hbh⟩:∃bh,64 - a - (zz+1)=bh:=⟨_,rfl⟩
   have hbe:(64:Int) - (a:Int) - ((zz:Int)+1)=(bh:Int):=by omega
   have hb64:bh≤63:=by omega
   have HG:=zaa (getD w3 r c (zz+1) ad l B3 b3 Y3.out (by omega))
   have hvp:=zb4 (n:=zz+1) (B:=B3)
   obtain ⟨V,hV⟩:∃V,tkV (zz+1) B3=V:=⟨_,rfl⟩
   rw [hV] at HG hvp
   have hxl:V*2 ^ bh<18446744073709551616:=by
    have h3:V*2 ^ bh<2 ^ (zz+1)*2 ^ bh:=Nat.mul_lt_mul_of_pos_right hvp (Nat.two_pow_pos _)
    rw [←Nat.pow_add] at h3
    have h4:2 ^ (zz+1+bh)≤2 ^ 64:=Nat.pow_le_pow_right (by omega) (by omega)
    omega
   have hsh:IntKind.u64.wrap ((V:Int)*2 ^ bh)=((V*2 ^ bh:Nat):Int):=by
    rw [u64w]
    have e1:((V*2 ^ bh:Nat):Int)=(V:Int)*2 ^ bh:=by rw [Int.natCast_mul,Int.natCast_pow];rfl
    rw [←e1]
    omega
   have HVV:=zaa hV
   rw [←hzi] at HG
   clear hV hzi hvp
   have hv64:V<18446744073709551616:=by
    have:=Nat.two_pow_pos bh
    have h5:V*1≤V*2 ^ bh:=Nat.mul_le_mul_left _ this
    omega
   go_wp2_with fail
   refine HG.out.mono ?_
   rintro e w4 ⟨rfl,⟨B4,b4,hY4,hk4,_⟩,hc4⟩
   have Y4:=zaa hY4
   have C4:=zaa (C3.out.trans hc4 (fun _ _ e=>e))
   have FI:Hid (∀x0 cc,rdX (true :: B1)=some (x0,cc)→V*2 ^ bh=x0∧B4=cc∧b4=b1):=zaa (fun x0 cc hh=>by
    obtain ⟨i1,i2,i3,i4,i5,i6,i7,i8⟩:=INV.out x0 cc hh
    obtain ⟨j1,j2⟩:=hk4 (by rw [←i2];exact i6)
    refine ⟨?_,by rw [j1,←i2];exact i8,by rw [j2,i4]⟩
    rw [←i7]
    unfold fx
    rw [i3,i2,i1,hbh,HVV.out])
   clear hY4 hc4 hk4 HG
   go_wp2_with (first|simp only [hsh]|fail)
   go_ret
   exact ⟨V*2 ^ bh,by first|rfl|simp [hsh],hxl,⟨_,_,Y4.out,FI.out⟩,C4.out⟩
 have hno:(64:Int)<(a:Int)+((zz:Int)+1):=by omega
 obtain ⟨t,ht,hB,hD⟩:=Y3.out.blk
 have f2:=hB.frozen 2
 have c2:=hB.cell 2
 simp at c2
 have hc:=zbg w3 r 2 (.bool true)
 have Y4:Hid (YS (w3.setCell ⟨r,2,none⟩ (.bool true)) r ad c l B3 true):=zaa ⟨⟨t,ht,by have:=hB.set 2 (.bool true);simpa using this,hD⟩,hc.sl Y3.out.sl (fun z hz h0 e=>Y3.out.ne z hz h0 e),Y3.out.ne,Y3.out.len⟩
 have C4:=zaa (C3.out.trans hc (fun _ _ e=>e))
 have FI:Hid (∀x0 cc,rdX (true :: B1)=some (x0,cc)→(0:Nat)=x0∧B3=cc∧true=b1):=zaa (fun x0 cc hh=>by
  obtain ⟨i1,i2,i3,i4,i5,i6,i7,i8⟩:=INV.out x0 cc hh
  omega)
 clear hB hD hc hzi
 go_wp2_with fail
 first|go_region|skip
 go_wp2
 go_ret
 exact ⟨0,rfl,by omega,⟨_,_,Y4.out,FI.out⟩,C4.out⟩
theorem d_r9 (r gn kk wd v:Nat) (dd:Int) (I0 I1:World→Prop) (w:World) (a0:Act) (Q:Exit→Act→World→Prop) (hsz:a0.tmps.size=30)
 (s0:a0.tmps.getD 0 undef=.pointer (some ⟨r,0,none⟩))
 (s3:a0.tmps.getD 3 undef=.slice (some ⟨gn,0,none⟩) 4 4)
 (s4:a0.tmps.getD 4 undef=.int .i64 ((kk:Int)+1))
 (hw:IntKind.i64.wrap (kk:Int)=(kk:Int)) (hj1:(kk:Int)<4) (hj2:(0:Int)≤(kk:Int))
 (h0:I0 { w with drawn:=w.drawn+1 })
 (hb:∀w1,I0 w1∨I1 w1→w1.cell? ⟨gn,kk,none⟩=some (.int .i64 (wd:Int)))
 (hA:∀w1,I0 w1→Calls Tryz.prog 97 #[.pointer (some ⟨r,0,none⟩),.int .i64 (wd:Int)] w1 fun e w2=>e=.returned (.int .u64 (v:Int))∧I1 w2)
 (hsg:∀w1,Calls Tryz.prog 117 #[.int .u64 (v:Int),.int .i64 (wd:Int)] w1 fun e w2=>e=.returned (.int .i64 dd)∧w2=w1)
 (hQ:∀(v17 v18 v19 v20 v21 v22 v23 v24 v25 v26 v27 v28 v29 v2:Value) (w2:World),I1 w2→v2=.int .i64 dd→Q .normal ((((((((((((((a0.put (some 17) v17).put (some 18) v18).put (some 19) v19).put (some 20) v20).put (some 21) v21).put (some 22) v22).put (some 23) v23).put (some 24) v24).put (some 25) v25).put (some 26) v26).put (some 27) v27).put (some 28) v28).put (some 29) v29).put (some 2) v2) w2):
 Code.wp Tryz.prog ((Tryz.f98.body.bind (zag 9)).getD .skip) Q a0 w:=by
 conv=>arg 2;whnf
 refine zfg (TE [Ent.val (.pointer (some ⟨r,0,none⟩)),Ent.val (.slice (some ⟨gn,0,none⟩) 4 4),Ent.val (.int .i64 ((kk:Int)+1)),Ent.val (.int .i64 (kk:Int)),Ent.val (.pointer (some ⟨gn,kk,none⟩)),Ent.val (.int .i64 (wd:Int)),Ent.val (.int .u64 (v:Int)),Ent.val (.slice (some ⟨gn,0,none⟩) 4 4),Ent.val (.int .i64 ((kk:Int)+1)),Ent.val (.int .i64 (kk:Int)),Ent.val (.pointer (some ⟨gn,kk,none⟩)),Ent.val (.int .i64 (wd:Int)),Ent.val (.int .i64 dd),Ent.val (.int .i64 dd)]) (fun w w'=>I1 w→I1 w') I0 I1 6 (by kernel_rfl) (by kernel_rfl) (by kernel_rfl) (by rw [hsz];kernel_rfl) (of_decide_eq_true (by kernel_rfl)) h0 (za4 _) ?hop ?hcA ?hdone
 case hdone=>
  intro a w1 hI hS hT
  have he:=zam hS
  rw [he]
  exact hQ (a.tmps.getD 17 undef) (a.tmps.getD 18 undef) (a.tmps.getD 19 undef) (a.tmps.getD 20 undef) (a.tmps.getD 21 undef) (a.tmps.getD 22 undef) (a.tmps.getD 23 undef) (a.tmps.getD 24 undef) (a.tmps.getD 25 undef) (a.tmps.getD 26 undef) (a.tmps.getD 27 undef) (a.tmps.getD 28 undef) (a.tmps.getD 29 undef) (a.tmps.getD 2 undef) w1 hI (hT 13 _ rfl)
 case hcA=>
  intro o ho
  obtain rfl:=Option.some.inj ho
  intro a w1 hI hS hD
  have d0:a.tmps.getD 17 undef=.pointer (some ⟨r,0,none⟩):=hD ⟨0,.data⟩ (by simp) rfl _ rfl
  have d5:a.tmps.getD 22 undef=.int .i64 (wd:Int):=hD ⟨5,.data⟩ (by simp) rfl _ rfl
  refine ⟨rfl,?_⟩
  refine zaz (f:=97) (args:=#[.pointer (some ⟨r,0,none⟩),.int .i64 (wd:Int)]) (by simp [execOp,resolve,Act.eval,d0,d5,go_sem]) ?_
  refine (hA w1 hI).mono ?_
  rintro e w2 ⟨rfl,h2⟩
  exact ⟨_,rfl,_,rfl,h2,fun _=>h2,rfl⟩
 case hop=>
  intro i o hi hnA
  have hlt:i<14:=(Array.getElem?_eq_some_iff.1 hi).1
  rcases (show i=0∨i=1∨i=2∨i=3∨i=4∨i=5∨i=6∨i=7∨i=8∨i=9∨i=10∨i=11∨i=12∨i=13 by omega) with rfl|rfl|rfl|rfl|rfl|rfl|rfl|rfl|rfl|rfl|rfl|rfl|rfl|rfl
  all_goals first|exact absurd rfl hnA|skip
  all_goals obtain rfl:=Option.some.inj hi
  all_goals clear hi hlt hnA
  all_goals intro a w1 hI hS hD
  · have e0:a.tmps.getD 0 undef=.pointer (some ⟨r,0,none⟩):=(hS.slot 0 (by kernel_rfl)).trans s0
    refine ⟨rfl,?_⟩
    exact za1 (.pointer (some ⟨r,0,none⟩)) (by simp [execOp,Act.eval,e0,go_sem]) ⟨_,rfl,id,id,id,rfl⟩
  · have e3:a.tmps.getD 3 undef=.slice (some ⟨gn,0,none⟩) 4 4:=(hS.slot 3 (by kernel_rfl)).trans s3
    refine ⟨rfl,?_⟩
    exact za1 (.slice (some ⟨gn,0,none⟩) 4 4) (by simp [execOp,Act.eval,e3,go_sem]) ⟨_,rfl,id,id,id,rfl⟩
  · have e4:a.tmps.getD 4 undef=.int .i64 ((kk:Int)+1):=(hS.slot 4 (by kernel_rfl)).trans s4
    refine ⟨rfl,?_⟩
    exact za1 (.int .i64 ((kk:Int)+1)) (by simp [execOp,Act.eval,e4,go_sem]) ⟨_,rfl,id,id,id,rfl⟩
  · have d2:a.tmps.getD 19 undef=.int .i64 ((kk:Int)+1):=hD ⟨2,.data⟩ (by simp) rfl _ rfl
    refine ⟨rfl,?_⟩
    exact za1 (.int .i64 (kk:Int)) (by simp [execOp,Act.eval,d2,hw,go_sem]) ⟨_,rfl,id,id,id,rfl⟩
  · have d1:a.tmps.getD 18 undef=.slice (some ⟨gn,0,none⟩) 4 4:=hD ⟨1,.data⟩ (by simp) rfl _ rfl
    have d3:a.tmps.getD 20 undef=.int .i64 (kk:Int):=hD ⟨3,.data⟩ (by simp) rfl _ rfl
    refine ⟨rfl,?_⟩
    exact za1 (.pointer (some ⟨gn,kk,none⟩)) (by simp [execOp,Act.eval,d1,d3,hj1,hj2,go_sem]) ⟨_,rfl,id,id,id,rfl⟩
  · have d4:a.tmps.getD 21 undef=.pointer (some ⟨gn,kk,none⟩):=hD ⟨4,.data⟩ (by simp) rfl _ rfl
    refine ⟨rfl,?_⟩
    exact za1 (.int .i64 (wd:Int)) (by simp [execOp,Act.eval,d4,(hb w1 hI),go_sem]) ⟨_,rfl,id,id,id,rfl⟩
  · have e3:a.tmps.getD 3 undef=.slice (some ⟨gn,0,none⟩) 4 4:=(hS.slot 3 (by kernel_rfl)).trans s3
    refine ⟨rfl,?_⟩
    exact za1 (.slice (some ⟨gn,0,none⟩) 4 4) (by simp [execOp,Act.eval,e3,go_sem]) ⟨_,rfl,id,id,id,rfl⟩
  · have e4:a.tmps.getD 4 undef=.int .i64 ((kk:Int)+1):=(hS.slot 4 (by kernel_rfl)).trans s4
    refine ⟨rfl,?_⟩
    exact za1 (.int .i64 ((kk:Int)+1)) (by simp [execOp,Act.eval,e4,go_sem]) ⟨_,rfl,id,id,id,rfl⟩
  · have d8:a.tmps.getD 25 undef=.int .i64 ((kk:Int)+1):=hD ⟨8,.data⟩ (by simp) rfl _ rfl
    refine ⟨rfl,?_⟩
    exact za1 (.int .i64 (kk:Int)) (by simp [execOp,Act.eval,d8,hw,go_sem]) ⟨_,rfl,id,id,id,rfl⟩
  · have d7:a.tmps.getD 24 undef=.slice (some ⟨gn,0,none⟩) 4 4:=hD ⟨7,.data⟩ (by simp) rfl _ rfl
    have d9:a.tmps.getD 26 undef=.int .i64 (kk:Int):=hD ⟨9,.data⟩ (by simp) rfl _ rfl
    refine ⟨rfl,?_⟩
    exact za1 (.pointer (some ⟨gn,kk,none⟩)) (by simp [execOp,Act.eval,d7,d9,hj1,hj2,go_sem]) ⟨_,rfl,id,id,id,rfl⟩
  · have d10:a.tmps.getD 27 undef=.pointer (some ⟨gn,kk,none⟩):=hD ⟨10,.data⟩ (by simp) rfl _ rfl
    refine ⟨rfl,?_⟩
    exact za1 (.int .i64 (wd:Int)) (by simp [execOp,Act.eval,d10,(hb w1 hI),go_sem]) ⟨_,rfl,id,id,id,rfl⟩
  · have d6:a.tmps.getD 23 undef=.int .u64 (v:Int):=hD ⟨6,.data⟩ (by simp) rfl _ rfl
    have d11:a.tmps.getD 28 undef=.int .i64 (wd:Int):=hD ⟨11,.data⟩ (by simp) rfl _ rfl
    refine ⟨rfl,?_⟩
    refine zaz (f:=117) (args:=#[.int .u64 (v:Int),.int .i64 (wd:Int)]) (by simp [execOp,resolve,Act.eval,d6,d11,go_sem]) ?_
    refine (hsg w1).mono ?_
    rintro e w2 ⟨rfl,rfl⟩
    exact ⟨_,rfl,_,rfl,id,id,id,rfl⟩
  have d12:a.tmps.getD 29 undef=.int .i64 dd:=hD ⟨12,.data⟩ (by simp) rfl _ rfl
  refine ⟨rfl,?_⟩
  exact za1 (.int .i64 dd) (by simp [execOp,Act.eval,d12,go_sem]) ⟨_,rfl,id,id,id,rfl⟩
end Go.Proofs.YtlppibigceeimaaGreatDoor
