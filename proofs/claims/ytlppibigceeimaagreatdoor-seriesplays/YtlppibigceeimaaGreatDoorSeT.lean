import Derived.Test.YtlppibigceeimaaGreatDoorSeL
set_option linter.unusedSimpArgs false
set_option linter.unusedVariables false
set_option maxHeartbeats 40000000
set_option maxRecDepth 100000
namespace Go.Proofs.YtlppibigceeimaaGreatDoor
open Go.RowKit
def spS (f t:Int) (s:List Sm) (x:Sm):Bool×List Sm:=if t<x.t then (false,s) else if f≤x.t then (true,s++[x]) else (true,s)
def rng (f t:Int) (l:List Sm):List Sm:=l.filter fun x=>decide (f≤x.t∧x.t≤t)
theorem foldE_app {σ:Type} (step:σ→Sm→Bool×σ) (l m:List Sm) (s:σ) (h:(zau step l s).1=true):zau step (l++m) s=zau step m (zau step l s).2:=by
 induction l generalizing s with
 |nil=>rfl
 |cons x l ih=>
  unfold zau at h
  by_cases e:(step s x).1=true
  · rw [if_pos e] at h
    show (if (step s x).1=true then zau step (l++m) (step s x).2 else _)=_
    rw [if_pos e,ih _ h]
    show _=zau step m (if (step s x).1=true then zau step l (step s x).2 else _).2
    rw [if_pos e]
  rw [if_neg e] at h;cases h
theorem sp_len (f t:Int):∀(l s:List Sm),(zau (spS f t) l s).2.length≤s.length+l.length
 |[],s=>by simp [zau]
 |x :: l,s=>by
  have h2:(spS f t s x).2.length≤s.length+1:=by unfold spS;split <;> (try split) <;> simp
  show ((if (spS f t s x).1=true then zau (spS f t) l (spS f t s x).2 else (false,(spS f t s x).2)):Bool×List Sm).2.length≤_
  have h3:=sp_len f t l (spS f t s x).2
  simp only [List.length_cons]
  split
  · omega
  simp only;omega
theorem sp_fold (f t:Int):∀(l s:List Sm),Ris l→(zau (spS f t) l s).2=s++rng f t l
 |[],s,_=>by simp [zau,rng]
 |x :: l,s,h=>by
  have h2:=List.pairwise_cons.1 h
  show ((if (spS f t s x).1=true then zau (spS f t) l (spS f t s x).2 else (false,(spS f t s x).2)):Bool×List Sm).2=_
  by_cases h1:t<x.t
  · have e:spS f t s x=(false,s):=by unfold spS;rw [if_pos h1]
    rw [e]
    have:rng f t (x :: l)=[]:=by
     unfold rng
     rw [List.filter_eq_nil_iff]
     intro a ha
     rcases List.mem_cons.1 ha with rfl|ha
     · simp;omega
     have:=h2.1 a ha
     unfold LtT at this
     simp;omega
    rw [this]
    simp
  by_cases h3:f≤x.t
  · have e:spS f t s x=(true,s++[x]):=by unfold spS;rw [if_neg h1,if_pos h3]
    rw [e,if_pos rfl,sp_fold f t l _ h2.2]
    have:rng f t (x :: l)=x :: rng f t l:=by
     unfold rng
     rw [List.filter_cons_of_pos (by simp;omega)]
    rw [this]
    simp
  have e:spS f t s x=(true,s):=by unfold spS;rw [if_neg h1,if_neg h3]
  rw [e,if_pos rfl,sp_fold f t l _ h2.2]
  have:rng f t (x :: l)=rng f t l:=by
   unfold rng
   rw [List.filter_cons_of_neg (by simp;omega)]
  rw [this]
theorem rng_drop {f t:Int} {G:List (List Sm)} {i:Nat} (h:Ris G.flatten) (hi:i=0∨∃g x,G[i]?=some g∧g[0]?=some x∧x.t≤f):rng f t (G.drop i).flatten=rng f t G.flatten:=by
 rcases hi with rfl|⟨g,x,hg,hx,hxf⟩
 · rw [List.drop_zero]
 have e:G.flatten=(G.take i).flatten++(G.drop i).flatten:=by rw [←List.flatten_append,List.take_append_drop]
 rw [e] at h ⊢
 have h2:=(List.pairwise_append.1 h).2.2
 have hxm:x∈(G.drop i).flatten:=by
  refine List.mem_flatten.2 ⟨g,?_,List.mem_of_getElem? hx⟩
  refine List.mem_iff_getElem?.2 ⟨0,?_⟩
  rw [List.getElem?_drop]
  exact hg
 unfold rng
 rw [List.filter_append]
 have:(G.take i).flatten.filter (fun x=>decide (f≤x.t∧x.t≤t))=[]:=by
  rw [List.filter_eq_nil_iff]
  intro a ha
  have:=h2 a ha x hxm
  unfold LtT at this
  simp;omega
 rw [this]
 rfl
def SPn (w:World) (base b:Nat) (f t:Int) (l:List Sm) (rb:Option Nat):Prop:=∃v,v.ownBlock=rb∧Blk w b 90 [.int .i64 f,.int .i64 t,v]∧w.ownsRow base 53 2 v l.length (cS l)∧base≤b∧∀x∈l,OkS x
theorem SPn.later {w w':World} {base b:Nat} {f t:Int} {l:List Sm} {rb:Option Nat} (h:SPn w base b f t l rb) (hb:Below w.heap.size w w'):SPn w' base b f t l rb:=by
 obtain ⟨v,h0,h1,h2,h3⟩:=h
 exact ⟨v,h0,h1.later hb,owl h2 hb,h3⟩
def FS (b:Nat) (rb:Option Nat):Nat→Prop:=fun i=>i=b∨rb=some i
theorem SPn.ge {w:World} {base b:Nat} {f t:Int} {l:List Sm} {rb:Option Nat} (h:SPn w base b f t l rb):∀i,FS b rb i→base≤i∧i<w.heap.size:=by
 obtain ⟨v,h0,h1,h2,h3,_⟩:=h
 rintro i (rfl|e)
 · exact ⟨h3,h1.lt⟩
 rw [←h0] at e
 refine ⟨?_,za0 h2 i e⟩
 rcases h2.2 with ⟨e0,_⟩|⟨g,cap,cur,e0,hg,_⟩
 · rw [e0] at e;cases e
 rw [e0] at e
 have:g=i:=by simpa [Value.ownBlock] using e
 omega
theorem spTakeP (w:World) (base b:Nat) (f t:Int) (l:List Sm) (x:Sm) (rb:Option Nat) (h:SPn w base b f t l rb) (hx:OkS x) (hl:l.length≤1000000000) (hbs:base≤w.heap.size):
 Calls Tryz.prog 38 #[.pointer (some ⟨b,0,none⟩),.agg #[.int .i64 x.t,.int .u64 (x.v:Int)]] w fun e w'=>e=.returned (.bool (spS f t l x).1)∧∃rb',SPn w' base b f t (spS f t l x).2 rb'∧Chg (FS b rb) w w'∧Moved w rb rb':=by
 have HP:=zaa h
 have HX:=zaa hx
 have HBS:=zaa hbs
 obtain ⟨v,h0,h1,h2,h3,h4⟩:=h
 have H0:=zaa h0
 clear h0
 have c0:∀o,(w.alloc o).cell? ⟨b,0,none⟩=some (.int .i64 f):=fun o=>(h1.alloc o).cell 0
 have c1:∀o,(w.alloc o).cell? ⟨b,1,none⟩=some (.int .i64 t):=fun o=>(h1.alloc o).cell 1
 have c2:∀o,(w.alloc o).cell? ⟨b,2,none⟩=some v:=fun o=>(h1.alloc o).cell 2
 by_cases ht:t<x.t
 · have e:spS f t l x=(false,l):=by unfold spS;rw [if_pos ht]
   rw [e]
   clear h1 h2 h3 h4 hl hbs hx c0 c2
   go_enter Tryz.func38,Tryz.ntmps38
   go_wp2_with fail
   go_quiet (fail)
   go_wp2_with fail
   go_ret
   exact ⟨rfl,rb,(HP.out.later ((Below.refl _ _).alloc (Nat.le_refl _) _)).later (zah (Below.refl _ _) _),Chg.of_below (zah ((Below.refl _ _).alloc (Nat.le_refl _) _) _),.inl rfl⟩
 by_cases hf:f≤x.t
 · have e:spS f t l x=(true,l++[x]):=by unfold spS;rw [if_neg ht,if_pos hf]
   rw [e]
   obtain ⟨i0,hi0,hz0,hz1,hz2⟩:=info_parts info32
   have OW:Hid (∀wx,Below w.heap.size w wx→wx.ownsRow base 53 2 v l.length (cS l)):=zaa (fun wx hb=>owl h2 hb)
   have HB:=zaa h1
   have HR:=zaa (And.intro h2 (And.intro h3 h4))
   have f2:∀o j,(w.alloc o).frozen? ⟨b,j,none⟩=false:=fun o j=>(h1.alloc o).frozen j
   have hlt:=h1.lt
   have hvb:¬v.ownBlock=some b:=fun e=>by have:=(zab h2 b e).one h1.tg;cases this
   have HVB:=zaa hvb
   obtain ⟨n,hn⟩:∃n,l.length=n:=⟨_,rfl⟩
   have HN:=zaa hn
   rw [hn] at OW hl
   have ht2:decide (t<x.t)=false:=by simpa using ht
   clear h1 h2 h3 h4 hx hvb hn
   go_enter Tryz.func38,Tryz.ntmps38
   go_wp2_with fail
   go_quiet (fail)
   go_wp2_with fail
   go_quiet (fail)
   go_wp2_with fail
   generalize hw4:World.drewN (World.drewN _ _) _=w4
   have bl1:Below w.heap.size w (w.alloc (.cells #[.int .i64 x.t,.int .u64 (x.v:Int)] 53)):=(Below.refl _ _).alloc (Nat.le_refl _) _
   have B4:Hid (Below w.heap.size w w4):=zaa (by rw [←hw4];exact zah (zah bl1 _) _)
   have G4:Hid (Blk w4 w.heap.size 53 [.int .i64 x.t,.int .u64 (x.v:Int)]):=zaa (by rw [←hw4];exact Blk.new w 53 [.int .i64 x.t,.int .u64 (x.v:Int)])
   have Bb:Hid (Blk w4 b 90 [.int .i64 f,.int .i64 t,v]):=zaa (HB.out.later B4.out)
   have O4:Hid (w4.ownsRow base 53 2 v n (cS l)):=zaa (OW.out w4 B4.out)
   have d0:w4.cell? ⟨w.heap.size,0,none⟩=some (.int .i64 x.t):=G4.out.cell 0
   have d1:w4.cell? ⟨w.heap.size,1,none⟩=some (.int .u64 (x.v:Int)):=G4.out.cell 1
   have d2:w4.cell? ⟨b,2,none⟩=some v:=Bb.out.cell 2
   have d3:=Bb.out.frozen 2
   have hl4:b<w4.heap.size:=Bb.out.lt
   have hl5:w.heap.size<w4.heap.size:=G4.out.lt
   have hb4:base≤w4.heap.size:=by have:=HBS.out;omega
   clear c0 c1 c2 hw4 bl1 f2 hbs
   go_region_law (first
    |(refine zfp _ (by rfl) (.tmp 23) (.tmp 25) 46 (by rfl) 53 i0 (.agg #[.int .i64 0,.int .u64 0]) 16 Tryz.underlying46 hi0 hz0 hz1 hz2 rfl base v n (cS l) (by rfl) (World.ownsRow.alloc (w:=w4.drew) O4.out _) ⟨w4.heap.size,0,none⟩ [.int .i64 x.t,.int .u64 (x.v:Int)] (by rfl) rfl (fun j u hu=>by
       have h9:=(Blk.new w4.drew 53 [.int .i64 x.t,.int .u64 (x.v:Int)]).cell (0+j)
       rw [Addr.add_lit]
       refine h9.trans ?_
       rw [Nat.zero_add]
       exact hu) (by intro u hu;simp at hu;rcases hu with rfl|rfl <;> rfl) (by unfold maxLen;omega) (by omega) (by show base≤(w4.drew.alloc _).heap.size;simp;omega) ?_
      intro g5 c5 w5 o5 p5
      have P5:Hid (w5.ownsRow base 53 2 (.slice (some ⟨g5,0,none⟩) (n+1) c5) (n+1) (cS (l++[x]))∧Chg (fun i=>v.ownBlock=some i) w4 w5∧Blk w5 b 90 [.int .i64 f,.int .i64 t,v]∧g5≠b∧Moved w4 v.ownBlock (some g5)):=zaa (by
       have q:=Pushed.chg (w:=w4.drew) p5
       have q1:Chg (fun i=>v.ownBlock=some i) w4 w5:=(Chg.drew _ w4).trans q.1 (fun _ _ e=>e)
       refine ⟨by rw [zbs];exact o5,q1,q1.blk Bb.out HVB.out,?_,q.2⟩
       rcases q.2 with e|⟨g,e,hg⟩
       · intro e2;exact HVB.out (by rw [←e,e2])
       cases e
       intro e2
       have:w4.drew.heap.size=w4.heap.size:=rfl
       omega)
      have e0:w5.cell? ⟨b,2,none⟩=some v:=P5.out.2.2.1.cell 2
      have e1:=P5.out.2.2.1.frozen 2
      clear o5 p5))
   all_goals
    go_wp2_with fail
    go_ret
    have cs:=Chg.set ⟨b,2,none⟩ (.slice (some ⟨g5,0,none⟩) (n+1) c5) w5
    refine ⟨rfl,some g5,⟨.slice (some ⟨g5,0,none⟩) (n+1) c5,rfl,P5.out.2.2.1.set 2 _,?_,HR.out.2.1,fun y hy=>?_⟩,?_,?_⟩
    · have e9:(l++[x]).length=n+1:=by rw [List.length_append,HN.out];rfl
      rw [e9]
      exact cs.owns P5.out.1 (fun g hg e2=>by
       have:g5=g:=by simpa [Value.ownBlock] using hg
       exact P5.out.2.2.2.1 (by rw [this];exact e2))
    · rcases List.mem_append.1 hy with hy|hy
      · exact HR.out.2.2 y hy
      simp at hy;subst hy;exact HX.out
    · rw [←H0.out]
      exact ((Chg.of_below (F:=FS b v.ownBlock) B4.out).trans P5.out.2.1 (fun i _ e=>.inr e)).trans cs (fun i _ e=>.inl e)
    rw [←H0.out]
    rcases P5.out.2.2.2.2 with e|⟨g,e,hg⟩
    · exact .inl e
    exact .inr ⟨g,e,Nat.le_trans B4.out.size hg⟩
 have e:spS f t l x=(true,l):=by unfold spS;rw [if_neg ht,if_neg hf]
 rw [e]
 have ht2:decide (t<x.t)=false:=by simpa using ht
 have hf2:decide (f≤x.t)=false:=by simpa using hf
 clear h1 h2 h3 h4 hl hbs hx c2
 go_enter Tryz.func38,Tryz.ntmps38
 go_wp2_with fail
 go_quiet (fail)
 go_wp2_with fail
 go_quiet (fail)
 go_wp2_with fail
 go_ret
 exact ⟨rfl,rb,((HP.out.later ((Below.refl _ _).alloc (Nat.le_refl _) _)).later (zah (Below.refl _ _) _)).later (zah (Below.refl _ _) _),Chg.of_below (zah (zah ((Below.refl _ _).alloc (Nat.le_refl _) _) _) _),.inl rfl⟩
def bgn (l:List Sm) (t:Int):Bool:=match l with
 |[]=>false
 |x :: _=>decide (t<x.t)
theorem beginsP (S p n s:Nat) (t:Int) (F:Nat→Prop) (st:K.Sx) (Z:ByteArray→List En) (w:World) (h:SQ F w S p n st Z) (hG:Gv w) (hlo:2≤w.heap.size):
 Calls Tryz.prog 70 #[.pointer (some ⟨S,0,none⟩),.int .i64 (s:Int),.int .i64 t] w fun e w'=>e=.returned (.bool (bgn (samV st n (s:Int)) t))∧Below w.heap.size w w':=by
 have hz:=h.sz
 obtain ⟨T,sh,R,G,h1,h2,h3,h4,h5⟩:=h
 have HSI:=zaa (zd0 S _ (s:Int) G p n st w h1.blk h2 hz.small hG hlo)
 clear h1 h2 h3 h4 h5 hz hG hlo
 generalize samV st n (s:Int)=l at*
 go_enter Tryz.func70,Tryz.ntmps70
 go_wp2_with fail
 refine HSI.out.mono ?_
 rintro e w1 ⟨ad,c,rfl,o1,k1,b1⟩
 have B1:=zaa b1
 cases l with
 |nil=>
  clear o1 k1 b1 HSI
  go_wp2_with fail
  go_ret
  exact ⟨rfl,B1.out⟩
 |cons x l=>
  obtain ⟨b',off,rfl,hlt,hc⟩:=(zan o1 k1).at' (by simp)
  obtain ⟨q0,q1⟩:=hc 0 x rfl
  simp only [Nat.zero_mul,Nat.add_zero] at q0
  have hn:l.length+1≤9223372036854775807:=by
   have:=za3 o1
   obtain ⟨a2,c2,e2,_,_,e3,e4⟩:=this
   unfold maxLen at e4
   simp only [List.length_cons] at e3
   omega
  rw [List.length_cons]
  generalize l.length=N at*
  clear o1 k1 b1 HSI hc q1
  by_cases ht:t<x.t
  · have ht2:decide (t<x.t)=true:=by simpa using ht
    have HE:Hid (true=bgn (x :: l) t):=zaa (by show _=decide (t<x.t);rw [ht2])
    go_wp2_with fail
    go_ret
    exact ⟨by rw [←HE.out];rfl,B1.out⟩
  have ht2:decide (t<x.t)=false:=by simpa using ht
  have HE:Hid (false=bgn (x :: l) t):=zaa (by show _=decide (t<x.t);rw [ht2])
  go_wp2_with fail
  go_ret
  exact ⟨by rw [←HE.out];rfl,B1.out⟩
structure SlI (w:World) (ad:Option Addr) (l:List Nat):Prop where
 at':l≠[]→∃b off,ad=some ⟨b,off,none⟩∧b<w.heap.size∧∀(i s:Nat),l[i]?=some s→w.cell? ⟨b,off+i,none⟩=some (.int .i64 (s:Int))
theorem SlI.later {w w':World} {ad:Option Addr} {l:List Nat} (h:SlI w ad l) (hb:Below w.heap.size w w'):SlI w' ad l:=by
 refine ⟨fun h0=>?_⟩
 obtain ⟨b,off,e,hlt,hc⟩:=h.at' h0
 refine ⟨b,off,e,Nat.lt_of_lt_of_le hlt hb.size,fun i s hs=>?_⟩
 rw [hb.cell (p:=⟨b,off+i,none⟩) hlt]
 exact hc i s hs
theorem zci {w:World} {base n c:Nat} {ad:Option Addr} {l:List Nat} (h:w.ownsRow base 3 1 (.slice ad n c) n (cI l)):SlI w ad l:=by
 refine ⟨fun h0=>?_⟩
 have hl:l.length=n:=by have:=h.1;rw [cI_len] at this;omega
 obtain ⟨g,rfl,_⟩:=zbc h (by have:=List.length_pos_iff.2 h0;omega)
 refine ⟨g,0,rfl,za0 h g rfl,fun i s hs=>?_⟩
 rw [Nat.zero_add]
 exact zai h i _ (by unfold cI;rw [List.getElem?_map,hs];rfl)
theorem closP (S p n s i N cc pa pb pc g off:Nat) (t:Int) (F:Nat→Prop) (st:K.Sx) (Z:ByteArray→List En) (w:World) (h:SQ F w S p n st Z) (hG:Gv w) (hlo:2≤w.heap.size)
 (ha:Blk w pa 27 [.pointer (some ⟨S,0,none⟩)]) (hb:Blk w pb 92 [.slice (some ⟨g,off,none⟩) N cc]) (hc:Blk w pc 2 [.int .i64 t]) (hi:i<N) (hN:N≤1000000) (hs:w.cell? ⟨g,off+i,none⟩=some (.int .i64 (s:Int))):
 Calls Tryz.prog 69 #[.int .i64 (i:Int),.pointer (some ⟨pa,0,none⟩),.pointer (some ⟨pb,0,none⟩),.pointer (some ⟨pc,0,none⟩)] w fun e w'=>e=.returned (.bool (bgn (samV st n (s:Int)) t))∧Below w.heap.size w w':=by
 have ca:w.cell? ⟨pa,0,none⟩=some (.pointer (some ⟨S,0,none⟩)):=ha.cell 0
 have cb:w.cell? ⟨pb,0,none⟩=some (.slice (some ⟨g,off,none⟩) N cc):=hb.cell 0
 have c3:w.cell? ⟨pc,0,none⟩=some (.int .i64 t):=hc.cell 0
 have HB:Hid (Calls Tryz.prog 70 #[.pointer (some ⟨S,0,none⟩),.int .i64 (s:Int),.int .i64 t] w.drew fun e w'=>∃v,e=.returned v∧(v=.bool (bgn (samV st n (s:Int)) t)∧Below w.heap.size w w')):=zaa ((beginsP S p n s t F st Z w.drew (h.later ((Below.refl _ _).drew)) (hG.later ((Below.refl _ _).drew)) hlo).mono fun e w' ⟨e1,e2⟩=>⟨_,e1,rfl,((Below.refl _ _).drew).trans e2⟩)
 generalize bgn (samV st n (s:Int)) t=q at*
 have hi2:(i:Int)<(N:Int):=by omega
 clear h hG hlo ha hb hc
 go_enter Tryz.func69,Tryz.ntmps69
 go_wp2_with fail
 go_region_law (refine zez (by rfl) 70 #[.pointer (some ⟨S,0,none⟩),.int .i64 (s:Int),.int .i64 t] (by simp [execOp,resolve,Act.eval,go_sem]) _ HB.out ?_
                rintro v1 w4 ⟨rfl,b1⟩
                have B1:=zaa b1
                clear b1)
 all_goals
  go_wp2_with fail
  go_ret
  exact ⟨rfl,B1.out⟩
theorem searchP (N pa pb pc:Nat) (P:Nat→Bool) (T:World→Prop) (w:World) (hN:N≤1000000) (hT:T w) (hcf:∀a w,(callFunc 69 a).run Tryz.prog w=.ok (.enter 69 a) w)
 (hc:∀i wx,i<N→T wx→Calls Tryz.prog 69 #[.int .i64 (i:Int),.pointer (some ⟨pa,0,none⟩),.pointer (some ⟨pb,0,none⟩),.pointer (some ⟨pc,0,none⟩)] wx fun e w'=>e=.returned (.bool (P i))∧T w'):
 Calls Tryz.prog 68 #[.int .i64 (N:Int),.func (.func 69) #[] #[.pointer (some ⟨pa,0,none⟩),.pointer (some ⟨pb,0,none⟩),.pointer (some ⟨pc,0,none⟩)]] w fun e w'=>∃j:Nat,e=.returned (.int .i64 (j:Int))∧j≤N∧(j=0∨P (j - 1)=false)∧(j=N∨P j=true)∧T w':=by
 have HT:=zaa hT
 have HC:=zaa hc
 clear hT hc
 go_enter Tryz.func68,Tryz.ntmps68
 go_wp2_with fail
 go_loopw [5,6] (fun v5 v6 wx=>∃i j:Nat,v5=.int .i64 (i:Int)∧v6=.int .i64 (j:Int)∧i≤j∧j≤N∧Hid ((i=0∨P (i - 1)=false)∧(j=N∨P j=true)∧T wx)) (fun v5 v6 _=>(intOf v6).toNat - (intOf v5).toNat)
 case atStart=>exact ⟨0,N,rfl,rfl,by omega,by omega,zaa ⟨.inl rfl,.inl rfl,HT.out⟩⟩
 case round=>
  obtain ⟨i,j,rfl,rfl,hij,hjN,hI⟩:=hrel
  clear HT
  by_cases hlt:i<j
  · have hij2:(i:Int)<(j:Int):=by omega
    obtain ⟨m,hm⟩:∃m,(i+j) / 2=m:=⟨_,rfl⟩
    have hw1:((i:Int)+(j:Int)) / 2=(m:Int):=by omega
    have hmi:i≤m∧m<j:=by omega
    go_wp2_with fail
    refine (HC.out m wr (by omega) hI.out.2.2).mono ?_
    rintro e w2 ⟨rfl,t2⟩
    have H2:=zaa t2
    clear t2 hm hw1
    cases hP:P m with
    |true=>
     have HP:=zaa hP
     clear hP
     go_wp2_with fail
     refine ⟨⟨i,m,rfl,rfl,hmi.1,by omega,zaa ⟨hI.out.1,.inr HP.out,H2.out⟩⟩,?_⟩
     show (m:Int).toNat - (i:Int).toNat<(j:Int).toNat - (i:Int).toNat
     omega
    |false=>
     have HP:=zaa hP
     clear hP
     go_wp2_with fail
     refine ⟨⟨m+1,j,by first|rfl|simp,rfl,by omega,by omega,zaa ⟨.inr (by rw [Nat.add_sub_cancel];exact HP.out),hI.out.2.1,H2.out⟩⟩,?_⟩
     show (j:Int).toNat - ((m:Int)+1).toNat<(j:Int).toNat - (i:Int).toNat
     omega
  have hij3:i=j:=by omega
  subst hij3
  clear hlt
  go_wp2_with fail
  go_ret
  exact ⟨i,rfl,hjN,hI.out⟩
theorem SlI.drop {w:World} {g off:Nat} {l:List Nat} (h:SlI w (some ⟨g,off,none⟩) l) (i:Nat):SlI w (some ⟨g,off+i,none⟩) (l.drop i):=by
 refine ⟨fun h0=>?_⟩
 obtain ⟨b,o2,e,hlt,hc⟩:=h.at' (by rintro rfl;simp at h0)
 cases e
 refine ⟨g,off+i,rfl,hlt,fun j s hs=>?_⟩
 rw [List.getElem?_drop] at hs
 rw [Nat.add_assoc]
 exact hc (i+j) s hs
theorem sinceP (S p n:Nat) (f:Int) (F:Nat→Prop) (st:K.Sx) (Z:ByteArray→List En) (w:World) (h:SQ F w S p n st Z) (hG:Gv w) (hlo:2≤w.heap.size) (ad:Option Addr) (M c:Nat) (sl:List Nat) (hM:sl.length=M) (hM9:M≤1000000) (hr:w.ownsRow 0 3 1 (.slice ad M c) M (cI sl)):
 Calls Tryz.prog 37 #[.pointer (some ⟨S,0,none⟩),.slice ad M c,.int .i64 f] w fun e w'=>∃i ad' c',e=.returned (.slice ad' (sl.drop i).length c')∧(∀wy:World,wy.ownsRow 0 3 1 (.slice ad M c) M (cI sl)→SlI wy ad' (sl.drop i))∧(i=0∨∃s,sl[i]?=some s∧bgn (samV st n (s:Int)) f=false)∧Below w.heap.size w w':=by
 by_cases h2:M<2
 · have HS:=zaa (zci hr)
   have h3:(M:Int)<2:=by omega
   have HM:=zaa hM
   clear h hG hlo hr hM
   go_enter Tryz.func37,Tryz.ntmps37
   go_wp2_with fail
   go_ret
   have bl:∀o1 o2,Below w.heap.size w ((w.alloc o1).alloc o2):=fun o1 o2=>((Below.refl _ _).alloc (Nat.le_refl _) _).alloc (by simp) _
   refine ⟨0,ad,c,by rw [List.drop_zero,HM.out];rfl,(fun wy hy=>by rw [List.drop_zero];exact zci hy),.inl rfl,bl _ _⟩
 obtain ⟨g,rfl,_⟩:=zbc hr (by omega)
 have HR:=zaa hr
 have hcap:=zc4 hr
 have HS:=zaa (zci hr)
 have HM:=zaa hM
 obtain ⟨N,rfl⟩:∃N,M=N+1:=⟨M - 1,by omega⟩
 have hc1:N+1≤c:=hcap.2.1
 have hc2:c≤9223372036854775807:=by have:=hcap.2.2.1;unfold maxLen at this;omega
 have h3:¬(N:Int)+1<2:=by omega
 have h4:¬c=1:=by omega
 have HQ:=zaa (And.intro h (And.intro hG hlo))
 have hlt:=za0 hr g rfl
 clear h hG hlo hr hM hcap
 go_enter Tryz.func37,Tryz.ntmps37
 go_wp2_with fail
 obtain ⟨w1,hw1⟩:∃w1,w.alloc (.cells #[.pointer (some ⟨S,0,none⟩)] 27)=w1:=⟨_,rfl⟩
 obtain ⟨w2,hw2⟩:∃w2,w1.alloc (.cells #[.int .i64 f] 2)=w2:=⟨_,rfl⟩
 obtain ⟨w3,hw3⟩:∃w3,w2.alloc (.cells #[.slice (some ⟨g,1,none⟩) N (c - 1)] 92)=w3:=⟨_,rfl⟩
 have B01:Below w.heap.size w w1:=by rw [←hw1];exact (Below.refl _ _).alloc (Nat.le_refl _) _
 have B12:Below w1.heap.size w1 w2:=by rw [←hw2];exact (Below.refl _ _).alloc (Nat.le_refl _) _
 have B23:Below w2.heap.size w2 w3:=by rw [←hw3];exact (Below.refl _ _).alloc (Nat.le_refl _) _
 have z1:w1.heap.size=w.heap.size+1:=by rw [←hw1];simp
 have z2:w2.heap.size=w.heap.size+1+1:=by rw [←hw2];simp [z1]
 have k1:Blk w1 w.heap.size 27 [.pointer (some ⟨S,0,none⟩)]:=by rw [←hw1];exact Blk.new w 27 _
 have k2:Blk w2 (w.heap.size+1) 2 [.int .i64 f]:=by rw [←hw2,←z1];exact Blk.new w1 2 _
 have k3:Blk w3 (w.heap.size+1+1) 92 [.slice (some ⟨g,1,none⟩) N (c - 1)]:=by rw [←hw3,←z2];exact Blk.new w2 92 _
 have B3:Below w.heap.size w w3:=(B01.trans (B12.mono B01.size)).trans (B23.mono (Nat.le_trans B01.size B12.size))
 have H3:=zaa (And.intro ((k1.later B12).later B23) (And.intro (k2.later B23) (And.intro k3 B3)))
 have HS3:=zaa (HS.out.later B3)
 rw [hw1,hw2,hw3]
 clear hw1 hw2 hw3 B01 B12 B23 z1 z2 k1 k2 k3 B3
 have hsN:∀i,i<N→∃s,sl[i+1]?=some s:=fun i hi=>⟨sl[i+1]'(by have:=HM.out;omega),by simp⟩
 refine (searchP N w.heap.size (w.heap.size+1+1) (w.heap.size+1) (fun i=>bgn (samV st n ((sl.getD (i+1) 0:Nat):Int)) f) (fun wx=>Below w3.heap.size w3 wx) w3 (by omega) (Below.refl _ _) (fun a w=>by kernel_rfl) (fun i wx hi hT=>?_)).mono ?_
 · obtain ⟨s,hs⟩:=hsN i hi
   have e1:sl.getD (i+1) 0=s:=by simp [List.getD,hs]
   simp only [e1]
   have hb3:Below w.heap.size w wx:=H3.out.2.2.2.trans (hT.mono H3.out.2.2.2.size)
   have hcell:wx.cell? ⟨g,1+i,none⟩=some (.int .i64 (s:Int)):=by
    obtain ⟨b,off,e,_,hc⟩:=(HS.out.later hb3).at' (by rintro rfl;simp at hs)
    cases e
    have:=hc (i+1) s hs
    rw [Nat.zero_add] at this
    rw [Nat.add_comm]
    exact this
   refine (closP S p n s i N (c - 1) w.heap.size (w.heap.size+1+1) (w.heap.size+1) g 1 f F st Z wx (HQ.out.1.later hb3) (HQ.out.2.1.later hb3) (Nat.le_trans HQ.out.2.2 hb3.size) (H3.out.1.later hT) (H3.out.2.2.1.later hT) (H3.out.2.1.later hT) hi (by omega) hcell).mono ?_
   rintro e w' ⟨rfl,hb⟩
   exact ⟨rfl,hT.trans (hb.mono hT.size)⟩
 rintro e w4 ⟨j,rfl,hj,hj1,_,hT⟩
 have B4:Hid (Below w.heap.size w w4):=zaa (H3.out.2.2.2.trans (hT.mono H3.out.2.2.2.size))
 have HJ:=zaa hj1
 have h5:¬c=j:=by omega
 have h6:(j:Int)≤(N:Int)+1:=by omega
 have h7:j≤N+1:=by omega
 have h8:¬(N:Int)+1<(j:Int):=by omega
 clear hT hj1
 go_wp2_with fail
 go_ret
 have e9:(sl.drop j).length=N+1 - j:=by rw [List.length_drop,HM.out]
 refine ⟨j,_,_,by rw [e9];rfl,?_,?_,B4.out⟩
 · intro wy hy
   have:=(zci hy).drop j
   rw [Nat.zero_add] at this
   exact this
 rcases HJ.out with e|e
 · exact .inl e
 by_cases h0:j=0
 · exact .inl h0
 right
 obtain ⟨s,hs⟩:=hsN (j - 1) (by omega)
 have e1:j - 1+1=j:=by omega
 rw [e1] at hs
 refine ⟨s,hs,?_⟩
 rw [e1] at e
 simpa [List.getD,hs] using e
theorem FS.moved {w:World} {b:Nat} {rb rb':Option Nat} (h:Moved w rb rb') {i:Nat} (hi:FS b rb' i):FS b rb i∨w.heap.size≤i:=by
 rcases hi with rfl|hi
 · exact .inl (.inl rfl)
 rcases h with rfl|⟨g,rfl,hg⟩
 · exact .inl (.inr hi)
 cases hi;exact .inr hg
def SPm (w:World) (base b:Nat) (f t:Int) (rb:Option Nat) (s:List Sm) (wx:World):Prop:=∃rb',SPn wx base b f t s rb'∧Chg (FS b rb) w wx∧Moved w rb rb'
theorem SPm.later {w wx wy:World} {base b:Nat} {f t:Int} {rb:Option Nat} {s:List Sm} (h:SPm w base b f t rb s wx) (hb:Below wx.heap.size wx wy):SPm w base b f t rb s wy:=by
 obtain ⟨rb',h1,h2,h3⟩:=h
 exact ⟨rb',h1.later hb,h2.trans (Chg.of_below (F:=FS b rb) hb) (fun _ _ e=>e),h3⟩
theorem SPm.trans {w wx wy:World} {base b:Nat} {f t:Int} {rb:Option Nat} {s s':List Sm} (h:SPm w base b f t rb s wx) (hs:∀rb',SPn wx base b f t s rb'→SPm wx base b f t rb' s' wy):SPm w base b f t rb s' wy:=by
 obtain ⟨rb',h1,h2,h3⟩:=h
 obtain ⟨rb2,k1,k2,k3⟩:=hs rb' h1
 refine ⟨rb2,k1,h2.trans k2 (fun i hi e=>?_),h3.trans k3 h2.size⟩
 rcases FS.moved h3 e with e|e
 · exact e
 omega
theorem eachSpan (w:World) (base b:Nat) (f t:Int) (s:List Sm) (rb:Option Nat) (ad:Option Addr) (N c:Nat) (l:List Sm) (h:SPn w base b f t s rb) (hL:Ss w ad l) (hne:∀x,ad=some x→l≠[]→¬FS b rb x.block) (hN:l.length=N) (hN9:s.length+N≤1000000000) (hbs:base≤w.heap.size):
 Calls Tryz.prog 39 #[.slice ad N c,.func (.func 38) #[.pointer (some ⟨b,0,none⟩)] #[]] w fun e w'=>e=.returned (.bool (zau (spS f t) l s).1)∧SPm w base b f t rb (zau (spS f t) l s).2 w':=by
 refine eachP 38 (.pointer (some ⟨b,0,none⟩)) (spS f t) (SPm w base b f t rb) ad N c l s w (fun a w=>by kernel_rfl) hN (by omega) hL.sz ⟨rb,h,Chg.refl _ _,.inl rfl⟩
  (fun s' wx wy h1 hb=>h1.later hb)
  (fun s' wx ⟨rb',h1,h2,h3⟩=>by
    refine ⟨hL.sz,fun h0=>?_⟩
    obtain ⟨b',off,e,hlt,hc⟩:=hL.at' h0
    have hbt:¬FS b rb b':=hne _ e h0
    refine ⟨b',off,e,Nat.lt_of_lt_of_le hlt h2.size,fun i x hx=>?_⟩
    have hbb:=h2.block b' hlt hbt
    have e1:∀j,wx.cell? ⟨b',j,none⟩=w.cell? ⟨b',j,none⟩:=fun j=>World.cell?_of_block hbb
    rw [e1,e1]
    exact hc i x hx)
  (fun i x wx hx hox hT=>?_)
 have hT0:=hT
 obtain ⟨rb',h1,h2,h3⟩:=hT
 have hlen:=sp_len f t (l.take i) s
 have hi:=(List.getElem?_eq_some_iff.1 hx).1
 rw [List.length_take] at hlen
 refine (spTakeP wx base b f t _ x rb' h1 hox (by omega) (Nat.le_trans hbs h2.size)).mono ?_
 rintro e w' ⟨rfl,rb2,k1,k2,k3⟩
 exact ⟨rfl,hT0.trans (fun rb9 h9=>by
  have:rb9=rb':=by
   obtain ⟨v9,a0,a1,_⟩:=h9
   obtain ⟨v8,b0,b1,_⟩:=h1
   unfold Blk at a1 b1
   rw [a1] at b1
   simp only [Option.some.injEq,Obj.cells.injEq,List.toArray_inj,List.cons.injEq] at b1
   rw [←a0,←b0,show v9=v8 by simpa using b1]
  subst this
  exact ⟨rb2,k1,k2,k3⟩)⟩
def gsOf (st:K.Sx) (n:Nat) (sl:List Nat):List (List Sm):=sl.map fun (s:Nat)=>samV st n (s:Int)
theorem eachInP (S p n:Nat) (f t:Int) (F:Nat→Prop) (st:K.Sx) (Z:ByteArray→List En) (w0 w:World) (h:SQ F w0 S p n st Z) (hG:Gv w0) (hlo:2≤w0.heap.size) (base b:Nat) (rb:Option Nat) (hP:SPn w base b f t [] rb) (hb0:Below base w0 w) (hbase:w0.heap.size≤base) (hbs:base≤w.heap.size)
 (ad:Option Addr) (N c:Nat) (sl:List Nat) (hN:sl.length=N) (hN9:N≤1000000) (hS:SlI w0 ad sl) (hgs:(gsOf st n sl).flatten.length≤1000000000):
 Calls Tryz.prog 36 #[.pointer (some ⟨S,0,none⟩),.slice ad N c,.func (.func 38) #[.pointer (some ⟨b,0,none⟩)] #[]] w fun e w'=>e=.returned (.tuple #[])∧SPm w base b f t rb (zau (spS f t) (gsOf st n sl).flatten []).2 w':=by
 have HQ:=zaa (And.intro h (And.intro hG hlo))
 have HP:=zaa hP
 have H0:=zaa hb0
 have HS:=zaa hS
 have HN:=zaa hN
 have hgl:(gsOf st n sl).length=N:=by unfold gsOf;rw [List.length_map,hN]
 have HBel:Hid (∀{s wx},SPm w base b f t rb s wx→Below base w0 wx):=zaa (fun hm=>by
  obtain ⟨rb',_,k2,_⟩:=hm
  exact hb0.trans (k2.below hbs (fun i hi=>(hP.ge i hi).1)))
 obtain ⟨gs,hgs0⟩:∃gs,gsOf st n sl=gs:=⟨_,rfl⟩
 have HAT:Hid (∀(i s:Nat),sl[i]?=some s→gs[i]?=some (samV st n (s:Int))):=zaa (fun i s hs=>by rw [←hgs0];unfold gsOf;rw [List.getElem?_map,hs];rfl)
 rw [hgs0] at hgs hgl ⊢
 have HGL:=zaa (And.intro hgl hgs)
 have HT:Hid (∀(i:Nat) (g:List Sm),gs[i]?=some g→(gs.take (i+1)).flatten=(gs.take i).flatten++g∧(gs.take i).flatten.length+g.length≤1000000000):=zaa (fun i g hg=>by
  have e1:gs.take (i+1)=gs.take i++[g]:=by rw [List.take_add_one,hg];rfl
  have e2:(gs.take (i+1)).flatten=(gs.take i).flatten++g:=by rw [e1];simp
  refine ⟨e2,?_⟩
  have e3:gs.flatten=(gs.take (i+1)).flatten++(gs.drop (i+1)).flatten:=by rw [←List.flatten_append,List.take_append_drop]
  have e4:=congrArg List.length e3
  rw [e2,List.length_append,List.length_append] at e4
  omega)
 clear h hG hlo hP hb0 hS hN hgl hgs hgs0
 go_enter Tryz.func36,Tryz.ntmps36
 go_wp2_with fail
 go_loopw [10] (fun v10 wx=>∃i:Nat,v10=.int .i64 (i:Int)∧i≤N∧Hid ((zau (spS f t) (gs.take i).flatten []).1=true∧SPm w base b f t rb (zau (spS f t) (gs.take i).flatten []).2 wx)) (fun v10 _=>N - (intOf v10).toNat)
 case atStart=>exact ⟨0,rfl,by omega,zaa ⟨rfl,rb,HP.out,Chg.refl _ _,.inl rfl⟩⟩
 case round=>
  obtain ⟨i,rfl,hi,hI⟩:=hrel
  by_cases hin:i<N
  · obtain ⟨s,hs⟩:∃s,sl[i]?=some s:=⟨sl[i]'(by have:=HN.out;omega),by simp⟩
    have hbel:=HBel.out hI.out.2
    have hbz:Below w0.heap.size w0 wr:=hbel.mono hbase
    obtain ⟨g,off,rfl,hlt,hcell⟩:=(HS.out.later hbz).at' (by rintro rfl;simp at hs)
    have hcs:=hcell i s hs
    have hgi:=HAT.out i s hs
    have hti:=HT.out i _ hgi
    have HSI:Hid (Calls Tryz.prog 67 #[.pointer (some ⟨S,0,none⟩),.int .i64 (s:Int)] wr fun e w'=>SamP (samV st n (s:Int)) wr e w'):=zaa (by
     have hq:=HQ.out.1.later hbz
     have hz:=hq.sz
     obtain ⟨T,sh,R,G,h1,h2,h3,h4,h5⟩:=hq
     exact zd0 S _ (s:Int) G p n st wr h1.blk h2 hz.small (HQ.out.2.1.later hbz) (Nat.le_trans HQ.out.2.2 hbz.size))
    have HTI:=zaa hti
    generalize samV st n (s:Int)=gi at*
    clear hcell hs hgi hti hbel hbz hlt
    go_wp2_with fail
    refine HSI.out.mono ?_
    rintro e w1 ⟨ad1,c1,rfl,o1,k1,b1⟩
    have hT1:=hI.out.2.later b1
    obtain ⟨rb1,p1,p2,p3⟩:=hI.out.2
    have HES:=zaa (eachSpan w1 base b f t _ rb1 ad1 gi.length c1 gi (p1.later b1) (zan o1 k1) (fun x hx h0 e=>by
     have h9:=(p1.ge _ e).2
     rcases o1.2 with ⟨e0,_⟩|⟨g9,cap,cur,e0,hg9,_⟩
     · simp only [Value.slice.injEq] at e0
       rw [e0.1] at hx;cases hx
     · simp only [Value.slice.injEq] at e0
       rw [e0.1] at hx
       cases hx
       simp only at h9
       omega) rfl (by
     have h8:=sp_len f t (gs.take i).flatten []
     have h9:=HTI.out.2
     simp only [List.length_nil,Nat.zero_add] at h8
     omega) (Nat.le_trans (Nat.le_trans hbs p2.size) b1.size))
    have HT1:Hid (∀s' wy,SPm w1 base b f t rb1 s' wy→SPm w base b f t rb s' wy):=zaa (fun s' wy hm=>by
     refine SPm.trans (s:=(zau (spS f t) (gs.take i).flatten []).2) ⟨rb1,p1.later b1,p2.trans (Chg.of_below (F:=FS b rb) b1) (fun _ _ e=>e),p3⟩ (fun rb9 h9=>?_)
     have:rb9=rb1:=by
      obtain ⟨v9,a0,a1,_⟩:=h9
      obtain ⟨v8,b0,b1',_⟩:=p1.later b1
      unfold Blk at a1 b1'
      rw [a1] at b1'
      simp only [Option.some.injEq,Obj.cells.injEq,List.toArray_inj,List.cons.injEq] at b1'
      rw [←a0,←b0,show v9=v8 by simpa using b1']
     subst this
     exact hm)
    have hfa:=foldE_app (spS f t) (gs.take i).flatten gi [] hI.out.1
    rw [←HTI.out.1] at hfa
    have HFA:=zaa hfa
    rw [←hfa] at HES
    clear o1 k1 b1 hT1 p1 p2 p3 hfa
    generalize gi.length=L1 at*
    go_wp2_with fail
    refine HES.out.mono ?_
    rintro e w2 ⟨rfl,m2⟩
    have M2:=zaa (HT1.out _ _ m2)
    clear m2
    cases hb:(zau (spS f t) (gs.take (i+1)).flatten []).1 with
    |true=>
     have HB:=zaa hb
     clear hb
     go_wp2_with fail
     refine ⟨⟨i+1,by first|rfl|simp,by omega,zaa ⟨HB.out,M2.out⟩⟩,?_⟩
     show N - ((i:Int)+1).toNat<N - (i:Int).toNat
     omega
    |false=>
     have HB:=zaa hb
     clear hb
     go_wp2_with fail
     refine bodyPost_ret (results_none rfl _ _ _) rfl ?_
     have hst:=zd4 (spS f t) (gs.take (i+1)).flatten [] (gs.drop (i+1)).flatten HB.out
     rw [←List.flatten_append,List.take_append_drop] at hst
     rw [hst]
     exact ⟨rfl,M2.out⟩
  have hM:Hid (SPm w base b f t rb (zau (spS f t) gs.flatten []).2 wr):=zaa (by
   have:=hI.out.2
   rw [List.take_of_length_le (by have:=HGL.out.1;omega)] at this
   exact this)
  clear hI
  go_wp2_with fail
  refine bodyPost_end (results_none rfl _ _ _) rfl ?_
  exact ⟨rfl,hM.out⟩
theorem built64 (f t:Int):Tryz.prog.built 90 [(0,.int .i64 f),(1,.int .i64 t)]=some [Value.int .i64 f,.int .i64 t,.slice none 0 0].toArray:=by kernel_rfl
theorem SZ.groups {n:Nat} {st:K.Sx} {Z:ByteArray→List En} (h:SZ n st Z) (o:ByteArray) (k:Int):gsOf st n (enL (Z o) k).1=gO (gF (enL (Z o) k).2):=by
 have hen:=h.en o k
 rcases zbz (l:=Z o) (k:=k) with hm|⟨he,_⟩
 · apply List.ext_getElem?
   intro i
   unfold gsOf
   rw [List.getElem?_map]
   cases e:(enL (Z o) k).1[i]? with
   |none=>
    have h1:=List.getElem?_eq_none_iff.1 e
    have h2:=hen.1.1
    rw [List.getElem?_eq_none (by omega)]
    rfl
   |some s=>
    have h1:=(List.getElem?_eq_some_iff.1 e).1
    have h2:=hen.1.1
    obtain ⟨g,hg⟩:∃g,(gO (gF (enL (Z o) k).2))[i]?=some g:=⟨(gO (gF (enL (Z o) k).2))[i]'(by omega),by simp⟩
    rw [hg]
    show some (Go.Proofs.YtlppibigceeimaaGreatDoor.samV st n (s:Int))=some g
    rw [(h.samV hm e hg).1]
 rw [he];rfl
theorem rangeP (o:ByteArray) (k f t:Int) (F:Nat→Prop) (S p n:Nat) (st:K.Sx) (Z:ByteArray→List En) (w:World) (h:SQ F w S p n st Z) (hG:Gv w) (hlo:2≤w.heap.size):
 Calls Tryz.prog 15 #[.pointer (some ⟨S,0,none⟩),.string o,.int .i64 k,.int .i64 f,.int .i64 t] w fun e w'=>SamP (rng f t (enL (Z o) k).2) w e w':=by
 have hz:=h.sz
 have hen:=hz.en o k
 have hgr:=hz.groups o k
 have hfew:=hz.few o k
 have HQ:=zaa (And.intro h (And.intro hG hlo))
 obtain ⟨T,sh,R,G,h1,h2,h3,h4,h5⟩:=h
 have hn1:=h2.n1
 have hrow:=h1.slots o k (hz.key o)
 obtain ⟨a0,c0,hv⟩:=zal hrow
 rw [hv] at hrow
 have CP:Hid (∀wx,Below w.heap.size w wx→wx.cell? ⟨S,1,none⟩=some (.map (some T))∧(Instr.lookup 73 (.map (some T)) (.string o) false).run Tryz.prog wx=.ok (.map (sh o)) wx∧(Instr.lookup 95 (.map (sh o)) (.int .i64 k) false).run Tryz.prog wx=.ok (.slice a0 (enL (Z o) k).1.length c0) wx):=zaa (fun wx hb=>⟨(h1.blk.later hb).cell 1,(h1.later hb).lookT o,by rw [←hv];exact (h1.later hb).lookS o k⟩)
 have hsz:∀i o d,st i=some (o,d)→d.size≤128:=hz.small
 generalize enL (Z o) k=q9 at*
 obtain ⟨sl,A⟩:=q9
 simp only at*
 obtain ⟨M,hM⟩:∃M,sl.length=M:=⟨_,rfl⟩
 rw [hM] at CP hfew hrow
 have HM:=zaa hM
 have HR:=zaa hrow
 have HE:=zaa (And.intro hen (And.intro hgr hv))
 have hfl:(gsOf st n sl).flatten.length≤1000000000:=by
  have hall:∀(G:List (List Sm)),(∀g∈G,g.length≤1000)→G.flatten.length≤G.length*1000:=by
   intro G
   induction G with
   |nil=>simp
   |cons g G ih=>
    intro hG
    have h1:=ih (fun x hx=>hG x (by simp [hx]))
    have h2:=hG g (by simp)
    simp only [List.flatten_cons,List.length_append,List.length_cons]
    omega
  rw [hgr]
  have h9:=hall (gO (gF A)) (fun g hg=>za8 (zcs (okG hen.2.2.1) g hg).2.1)
  have h8:=hen.1.1
  omega
 have HFL:=zaa hfl
 have hM9:M≤1000000:=by omega
 clear h1 h2 h3 h4 h5 hz hen hgr hG hlo hrow hv hM hfl hfew hn1 hsz
 generalize sh o=sho at*
 go_enter Tryz.func15,Tryz.ntmps15
 go_wp2_with (first
  |(refine wpList_build_to rfl 90 #[(0,.tmp 12),(1,.tmp 13)] rfl [(0,.int .i64 f),(1,.int .i64 t)] [Value.int .i64 f,.int .i64 t,.slice none 0 0].toArray rfl (built64 _ _) ?_)
  |(refine zac rfl 90 (.tmp 14) rfl [.int .i64 f,.int .i64 t,.slice none 0 0] rfl ?_;intro w2 B2 bl2 hz2;have HB2:=zaa B2;have BL2:=zaa bl2;have cpp:=CP.out w2 bl2;have cp1:=cpp.1;have cp2:=cpp.2.1;have cp3:=cpp.2.2;clear B2 bl2 cpp))
 have hlo2:2≤w2.heap.size:=Nat.le_trans HQ.out.2.2 BL2.out.size
 refine (sinceP S p n f F st Z w2 (HQ.out.1.later BL2.out) (HQ.out.2.1.later BL2.out) hlo2 a0 M c0 sl HM.out hM9 (owl HR.out BL2.out)).mono ?_
 rintro e w3 ⟨i,ad3,c3,rfl,s3,hi,b3⟩
 have S3:=zaa s3
 have HI:=zaa hi
 have B3:=zaa b3
 have hd:(sl.drop i).length≤1000000:=by rw [List.length_drop];have:=HM.out;omega
 have hg2:(gsOf st n (sl.drop i)).flatten.length≤1000000000:=by
  have e1:gsOf st n (sl.drop i)=(gsOf st n sl).drop i:=by unfold gsOf;rw [List.map_drop]
  have e2:(gsOf st n sl).flatten=((gsOf st n sl).take i).flatten++((gsOf st n sl).drop i).flatten:=by rw [←List.flatten_append,List.take_append_drop]
  have e3:=congrArg List.length e2
  rw [List.length_append] at e3
  have:=HFL.out
  rw [e1]
  omega
 have HG2:=zaa hg2
 have HSP:Hid (SPn w3 w.heap.size w.heap.size f t [] none):=zaa ⟨.slice none 0 0,rfl,HB2.out.later B3.out,World.ownsRow_nil _ _ _ _,Nat.le_refl _,by simp⟩
 have hb03:Below w.heap.size w w3:=BL2.out.trans (B3.out.mono BL2.out.size)
 have H03:=zaa hb03
 clear s3 hi b3 hg2 hb03
 obtain ⟨L3,hL3⟩:∃L3,(sl.drop i).length=L3:=⟨_,rfl⟩
 rw [hL3] at hd ⊢
 have HL3:=zaa hL3
 clear hL3
 go_wp2_with fail
 refine (eachInP S p n f t F st Z w w3 HQ.out.1 HQ.out.2.1 HQ.out.2.2 w.heap.size w.heap.size none HSP.out H03.out (Nat.le_refl _) H03.out.size ad3 L3 c3 (sl.drop i) HL3.out hd (S3.out w HR.out) HG2.out).mono ?_
 rintro e w4 ⟨rfl,rb4,⟨v4,q0,q1,q2,q3,q4⟩,k2,k3⟩
 have B4:Hid (Below w.heap.size w w4):=zaa (H03.out.trans (k2.below H03.out.size (fun i hi=>(HSP.out.ge i hi).1)))
 have e9:Hid ((zau (spS f t) (gsOf st n (sl.drop i)).flatten []).2=rng f t A):=zaa (by
  have hris:=HE.out.1.2.1
  have hgr:=HE.out.2.1
  have e1:gsOf st n (sl.drop i)=(gO (gF A)).drop i:=by rw [←hgr];unfold gsOf;rw [List.map_drop]
  have hrf:Ris (gO (gF A)).flatten:=by rw [zbd];exact hris
  have hrd:Ris ((gO (gF A)).drop i).flatten:=by
   have e2:(gO (gF A)).flatten=((gO (gF A)).take i).flatten++((gO (gF A)).drop i).flatten:=by rw [←List.flatten_append,List.take_append_drop]
   rw [e2] at hrf
   exact (List.pairwise_append.1 hrf).2.1
  rw [e1,sp_fold f t _ _ hrd,List.nil_append,rng_drop hrf,zbd]
  rcases HI.out with h0|⟨s,hs,hb⟩
  · exact .inl h0
  right
  have hil:=(List.getElem?_eq_some_iff.1 hs).1
  have hgi:(gO (gF A))[i]?=some (samV st n (s:Int)):=by
   rw [←hgr]
   unfold gsOf
   rw [List.getElem?_map,hs]
   rfl
  have hne:=(zcs (okG HE.out.1.2.2.1) _ (List.mem_of_getElem? hgi)).1
  obtain ⟨x,l',hx⟩:=List.exists_cons_of_ne_nil hne
  refine ⟨_,x,hgi,by rw [hx];rfl,?_⟩
  rw [hx] at hb
  have:decide (f<x.t)=false:=hb
  simpa using this)
 have c2:w4.cell? ⟨w.heap.size,2,none⟩=some v4:=q1.cell 2
 rw [e9.out] at q2 q4
 have Q2:=zaa (And.intro q2 q4)
 obtain ⟨ad4,c4,hv4,_⟩:=za3 q2
 subst hv4
 clear q0 q1 q2 q3 q4 k2 k3 hlo2 cp1 cp2 cp3
 obtain ⟨L4,hL4⟩:∃L4,(rng f t A).length=L4:=⟨_,rfl⟩
 have HL4:=zaa hL4
 rw [hL4] at c2 Q2
 clear hL4
 go_wp2_with fail
 go_ret
 exact ⟨ad4,c4,by rw [HL4.out];rfl,by rw [HL4.out];exact Q2.out.1,Q2.out.2,B4.out⟩
end Go.Proofs.YtlppibigceeimaaGreatDoor
namespace Go.Proofs.YtlppibigceeimaaGreatDoor
open Go Go.RowKit
theorem put_put (b:Act) (d:Tmp) (v x:Value):(b.put (some d) v).put (some d) x=b.put (some d) x:=by
 simp [Act.put]
theorem app_r22 (d r g gs gc ia i N L M c cs cc s m c2:Nat) (ad2:Option Addr) (R:World→Prop) (w:World) (a0:Act) (Q:Exit→Act→World→Prop) (hsz:a0.tmps.size=154)
 (s0:a0.tmps.getD 0 undef=.pointer (some ⟨d,0,none⟩))
 (s11:a0.tmps.getD 11 undef=.int .i64 (ia:Int))
 (s13:a0.tmps.getD 13 undef=.slice (some ⟨gc,0,none⟩) M cc)
 (s14:a0.tmps.getD 14 undef=.int .i64 (i:Int))
 (haN:(ia:Int)<(N:Int)) (ha0:¬(ia:Int)<0) (hiL:(i:Int)<(L:Int)) (hi0:¬(i:Int)<0) (hiM:(i:Int)<(M:Int)) (cof114:Tryz.prog.cellsOf 114=4) (fof114:True) (cof3:Tryz.prog.cellsOf 3=1) (cof84:Tryz.prog.cellsOf 84=1)
 (h0:∀w1,Lat w w1→w1.cell? ⟨d,0,none⟩=some (.pointer (some ⟨r,0,none⟩))) (h1:∀w1,Lat w w1→w1.cell? ⟨d,1,none⟩=some (.slice (some ⟨g,0,none⟩) N c))
 (h2:∀w1,Lat w w1→w1.cell? ⟨g,ia*4+3,none⟩=some (.slice (some ⟨gs,0,none⟩) L cs)) (h3:∀w1,Lat w w1→w1.cell? ⟨gs,i,none⟩=some (.int .i64 (s:Int))) (h4:∀w1,Lat w w1→w1.cell? ⟨gc,i,none⟩=some (.slice ad2 m c2))
 (hcall:∀w1,Lat w w1→Calls Tryz.prog 74 #[.pointer (some ⟨r,0,none⟩),.int .i64 (s:Int),.slice ad2 m c2] w1 fun e w2=>∃x,e=.returned x∧R w2)
 (hQ:∀(v134 v135 v136 v137 v138 v139 v140 v141 v142 v143 v144 v145 v146 v147 v148 v149 v150 v151 v152 v153:Value) (w2:World),R w2→Q .normal ((((((((((((((((((((a0.put (some 134) v134).put (some 135) v135).put (some 136) v136).put (some 137) v137).put (some 138) v138).put (some 139) v139).put (some 140) v140).put (some 141) v141).put (some 142) v142).put (some 143) v143).put (some 144) v144).put (some 145) v145).put (some 146) v146).put (some 147) v147).put (some 148) v148).put (some 149) v149).put (some 150) v150).put (some 151) v151).put (some 152) v152).put (some 153) v153) w2):
 Code.wp Tryz.prog ((Tryz.f45.body.bind (zag 22)).getD .skip) Q a0 w:=by
 conv=>arg 2;whnf
 refine zbf 19 Lat (TV [.pointer (some ⟨d,0,none⟩),.pointer (some ⟨d,0,none⟩),.pointer (some ⟨d,0,none⟩),.pointer (some ⟨r,0,none⟩),.pointer (some ⟨d,0,none⟩),.pointer (some ⟨d,0,none⟩),.pointer (some ⟨d,1,none⟩),.slice (some ⟨g,0,none⟩) N c,.int .i64 (ia:Int),.pointer (some ⟨g,ia*4,none⟩),.pointer (some ⟨g,ia*4+3,none⟩),.slice (some ⟨gs,0,none⟩) L cs,.int .i64 (i:Int),.pointer (some ⟨gs,i,none⟩),.int .i64 (s:Int),.slice (some ⟨gc,0,none⟩) M cc,.int .i64 (i:Int),.pointer (some ⟨gc,i,none⟩),.slice ad2 m c2]) (by kernel_rfl) (by kernel_rfl) (by kernel_rfl) (by rw [hsz];kernel_rfl) (by kernel_rfl) (by kernel_rfl) Lat.refl Lat.trans (TV.stable _) (Lat.draw w) ?hop ?hlast
 case hlast=>
  intro o a w1 ho hL hS hT
  obtain rfl:=Option.some.inj ho
  have d3:a.tmps.getD 137 undef=.pointer (some ⟨r,0,none⟩):=hT 3 _ (by omega) rfl _ rfl
  have d14:a.tmps.getD 148 undef=.int .i64 (s:Int):=hT 14 _ (by omega) rfl _ rfl
  have d18:a.tmps.getD 152 undef=.slice ad2 m c2:=hT 18 _ (by omega) rfl _ rfl
  have he:=zam hS
  refine zaz (f:=74) (args:=#[.pointer (some ⟨r,0,none⟩),.int .i64 (s:Int),.slice ad2 m c2]) (by simp [execOp,resolve,Act.eval,d3,d14,d18,go_sem]) ?_
  refine (hcall w1 hL).mono ?_
  rintro e w2 ⟨x,rfl,hR⟩
  refine ⟨x,rfl,?_⟩
  have hQ2:=hQ (a.tmps.getD 134 undef) (a.tmps.getD 135 undef) (a.tmps.getD 136 undef) (a.tmps.getD 137 undef) (a.tmps.getD 138 undef) (a.tmps.getD 139 undef) (a.tmps.getD 140 undef) (a.tmps.getD 141 undef) (a.tmps.getD 142 undef) (a.tmps.getD 143 undef) (a.tmps.getD 144 undef) (a.tmps.getD 145 undef) (a.tmps.getD 146 undef) (a.tmps.getD 147 undef) (a.tmps.getD 148 undef) (a.tmps.getD 149 undef) (a.tmps.getD 150 undef) (a.tmps.getD 151 undef) (a.tmps.getD 152 undef) x w2 hR
  have hp:=congrArg (fun b:Act=>b.put (some 153) x) he
  have hp2:a.put (some 153) x=((((((((((((((((((((a0.put (some 134) (a.tmps.getD 134 undef)).put (some 135) (a.tmps.getD 135 undef)).put (some 136) (a.tmps.getD 136 undef)).put (some 137) (a.tmps.getD 137 undef)).put (some 138) (a.tmps.getD 138 undef)).put (some 139) (a.tmps.getD 139 undef)).put (some 140) (a.tmps.getD 140 undef)).put (some 141) (a.tmps.getD 141 undef)).put (some 142) (a.tmps.getD 142 undef)).put (some 143) (a.tmps.getD 143 undef)).put (some 144) (a.tmps.getD 144 undef)).put (some 145) (a.tmps.getD 145 undef)).put (some 146) (a.tmps.getD 146 undef)).put (some 147) (a.tmps.getD 147 undef)).put (some 148) (a.tmps.getD 148 undef)).put (some 149) (a.tmps.getD 149 undef)).put (some 150) (a.tmps.getD 150 undef)).put (some 151) (a.tmps.getD 151 undef)).put (some 152) (a.tmps.getD 152 undef)).put (some 153) x):=hp.trans (put_put _ _ _ _)
  show Q .normal (a.put (some 153) x) w2
  rw [hp2]
  exact hQ2
 case hop=>
  intro i o hlt hi
  rcases (show i=0∨i=1∨i=2∨i=3∨i=4∨i=5∨i=6∨i=7∨i=8∨i=9∨i=10∨i=11∨i=12∨i=13∨i=14∨i=15∨i=16∨i=17∨i=18 by omega) with rfl|rfl|rfl|rfl|rfl|rfl|rfl|rfl|rfl|rfl|rfl|rfl|rfl|rfl|rfl|rfl|rfl|rfl|rfl
  all_goals obtain rfl:=Option.some.inj hi
  all_goals clear hi hlt
  all_goals intro a w1 hL hS hD
  · exact zy rfl (by simp [execOp,Act.eval,zs hS s0,go_sem])
  · exact zy rfl (by simp [execOp,Act.eval,zd hD 0 134,go_sem])
  · exact zy rfl (by simp [execOp,Act.eval,zd hD 1 135,go_sem])
  · exact zy rfl (by simp [execOp,Act.eval,zd hD 2 136,h0 w1 hL,go_sem])
  · exact zy rfl (by simp [execOp,Act.eval,zs hS s0,go_sem])
  · exact zy rfl (by simp [execOp,Act.eval,zd hD 4 138,go_sem])
  · exact zy rfl (by simp [execOp,Act.eval,zd hD 5 139,go_sem])
  · exact zy rfl (by simp [execOp,Act.eval,zd hD 6 140,h1 w1 hL,go_sem])
  · exact zy rfl (by simp [execOp,Act.eval,zs hS s11,go_sem])
  · exact zy rfl (by simp [execOp,Act.eval,zd hD 7 141,zd hD 8 142,haN,ha0,cof114,go_sem])
  · exact zy rfl (by simp [execOp,Act.eval,zd hD 9 143,fof114,go_sem])
  · exact zy rfl (by simp [execOp,Act.eval,zd hD 10 144,h2 w1 hL,go_sem])
  · exact zy rfl (by simp [execOp,Act.eval,zs hS s14,go_sem])
  · exact zy rfl (by simp [execOp,Act.eval,zd hD 11 145,zd hD 12 146,hiL,hi0,cof3,go_sem])
  · exact zy rfl (by simp [execOp,Act.eval,zd hD 13 147,h3 w1 hL,go_sem])
  · exact zy rfl (by simp [execOp,Act.eval,zs hS s13,go_sem])
  · exact zy rfl (by simp [execOp,Act.eval,zs hS s14,go_sem])
  · exact zy rfl (by simp [execOp,Act.eval,zd hD 15 149,zd hD 16 150,hiM,hi0,cof84,go_sem])
  exact zy rfl (by simp [execOp,Act.eval,zd hD 17 151,h4 w1 hL,go_sem])
end Go.Proofs.YtlppibigceeimaaGreatDoor
namespace Go.Proofs.YtlppibigceeimaaGreatDoor
open Go.RowKit
def Lbs (w:World) (ad:Option Addr) (C:List (List Int)):Prop:=
 ∀(i:Nat) (b:List Int),C[i]?=some b→∃g off ad' c',ad=some ⟨g,off,none⟩∧g<w.heap.size∧w.cell? ⟨g,off+i,none⟩=some (.slice ad' b.length c')∧Sl w ad' b.length b∧b.length≤c'∧c'≤maxLen∧(ad'=none→c'=0)
theorem Lbs.later {w w':World} {ad:Option Addr} {C:List (List Int)} (h:Lbs w ad C) (hb:Below w.heap.size w w'):Lbs w' ad C:=by
 intro i b hi
 obtain ⟨g,off,ad',c',h1,h2,h3,h4,h5⟩:=h i b hi
 exact ⟨g,off,ad',c',h1,Nat.lt_of_lt_of_le h2 hb.size,by rw [hb.cell (p:=⟨g,off+i,none⟩) h2];exact h3,h4.later hb,h5⟩
theorem S53.owns {w w':World} {B:Nat} {v:Value} {m:Nat} {xs:List Value} (h:S53 w w') (hO:w.ownsRow B 53 2 v m xs):w'.ownsRow B 53 2 v m xs:=by
 refine ⟨hO.1,?_⟩
 rcases hO.2 with h0|⟨g,cap,cur,rfl,hb,hh,r⟩
 · exact .inl h0
 exact .inr ⟨g,cap,cur,rfl,hb,by rw [h g ⟨_,_,hh⟩];exact hh,r⟩
theorem eachPack2 (w:World) (base b B:Nat) (s:Gs) (ad:Option Addr) (N c:Nat) (l:List Sm) (h:PK w base b s) (hk:OkG s) (hG:Gv w) (hL:w.ownsRow B 53 2 (.slice ad N c) N (cS l)) (hok:∀x∈l,OkS x) (hN:l.length=N) (hN9:N≤1000000) (hn:s.1.length≤1000000) (hlo:2≤base) (hbs:base≤w.heap.size):
 Calls Tryz.prog 39 #[.slice ad N c,.func (.func 63) #[.pointer (some ⟨b,0,none⟩)] #[]] w fun e w'=>e=.returned (.bool true)∧PK w' base b (l.foldl gS s)∧Below base w w'∧S53 w w':=by
 have q:=eachP 63 (.pointer (some ⟨b,0,none⟩)) ze2 (fun s' wx=>PK wx base b s'∧Below base w wx∧S53 w wx) ad N c l s w (fun a w=>by kernel_rfl) hN (by omega) hok ⟨h,Below.refl _ _,fun i hi=>rfl⟩
  (fun s' wx wy ⟨h1,h2,h3⟩ hb=>⟨h1.later hb,h2.trans (hb.mono (Nat.le_trans hbs h2.size)),h3.trans (S53.below hb)⟩)
  (fun s' wx ⟨h1,h2,h3⟩=>zan (h3.owns hL) hok)
  (fun i x wx hx hox ⟨h1,h2,h3⟩=>by
    rw [zdo] at h1 ⊢
    have h1':PK wx base b ((l.take i).foldl gS s):=h1
    have hokg:OkG ((l.take i).foldl gS s):=hk.fold (fun y hy=>hok y (List.mem_of_mem_take hy))
    refine (pkTakeP (s:=(l.take i).foldl gS s) h1' (hG.bel h2 hlo) hox (by have:=za8 hokg.fit2;omega) (by have:=zc5 (l.take i) s;rw [List.length_take] at this;omega) hlo (Nat.le_trans hbs h2.size)).mono ?_
    rintro e w' ⟨rfl,k1,k2,k3⟩
    exact ⟨rfl,k1,h2.trans k2,h3.trans k3⟩)
 refine q.mono ?_
 rw [zdo]
 rintro e w' ⟨rfl,h1,h2,h3⟩
 exact ⟨rfl,h1,h2,h3⟩
theorem PK.chg {F:Nat→Prop} {w w':World} {base b:Nat} {s:Gs} (h:PK w base b s) (hc:Chg F w w') (hF:∀i,base≤i→¬F i):PK w' base b s:=by
 obtain ⟨c,p,rb,v,D,h1,h2,h3,h4,h5,h6⟩:=h
 exact ⟨c,p,rb,v,D,hc.blk h1 (hF b h4),h2.chg hc (fun i hi=>hF i (h5 i hi)),h3.chg hc (fun i hi=>hF i (h3.lt i hi).1) (fun g hg=>hF g (h3.vlt g hg).1),h4,h5,h6⟩
theorem gF_few (l:List Sm):(gF l).1.length≤l.length:=by
 have:=zc5 l ([],[])
 simpa [gF] using this
structure AP (C:List (List Int)) (i:Nat) (G:List (List Sm)):Prop where
 rd:RdAll (C.take i) G
 ris:Ris G.flatten
 ok:∀x∈G.flatten,OkS x
 few:G.flatten.length≤1000*i
theorem AP.next {C:List (List Int)} {i:Nat} {G:List (List Sm)} (h:AP C i G) {b:List Int} {g:List Sm} (hb:C[i]?=some b) (hr:rdR b=some g) (hby:Byte b) (hb1:b.length≤128) (hris:Ris (G.flatten++g)):AP C (i+1) (G++[g]):=by
 obtain ⟨e1,e2,_⟩:=enc_rd hby hr
 have hf:=za8 (l:=g) (by rw [e1];exact hb1)
 refine ⟨?_,by simpa using hris,fun x hx=>?_,?_⟩
 · rw [List.take_add_one,hb]
   exact h.rd.snoc hr
 · simp only [List.flatten_append,List.flatten_cons,List.flatten_nil,List.append_nil,List.mem_append] at hx
   rcases hx with hx|hx
   · exact h.ok x hx
   exact e2 x hx
 have:=h.few
 simp only [List.flatten_append,List.flatten_cons,List.flatten_nil,List.append_nil,List.length_append]
 omega
end Go.Proofs.YtlppibigceeimaaGreatDoor
namespace Go.Proofs.YtlppibigceeimaaGreatDoor
open Go Go.RowKit
theorem zbh (a:Act) (d:Tmp) (v:Value):(a.put (some d) v).tmps.size=a.tmps.size:=by
 cases a
 simp [Act.put]
theorem tl_r1 (v ob k S:Nat) (o:ByteArray) (id f t:Int) (R:Value→World→Prop) (w:World) (a0:Act) (Q:Exit→Act→World→Prop) (hsz:a0.tmps.size=123)
 (s0:a0.tmps.getD 0 undef=.pointer (some ⟨v,0,none⟩))
 (s1:a0.tmps.getD 1 undef=.int .i64 (k:Int))
 (s5:a0.tmps.getD 5 undef=.pointer (some ⟨ob,0,none⟩))
 (hk3:(k:Int)<2) (hk0:¬(k:Int)<0)
 (cp:∀w1,Lat w w1→w1.cell? ⟨v,2+k,none⟩=some (.pointer (some ⟨S,0,none⟩)))
 (o2:∀w1,Lat w w1→w1.cell? ⟨ob,2,none⟩=some (.int .i64 id))
 (o3:∀w1,Lat w w1→w1.cell? ⟨ob,3,none⟩=some (.string o))
 (o5:∀w1,Lat w w1→w1.cell? ⟨ob,5,none⟩=some (.int .i64 f))
 (o6:∀w1,Lat w w1→w1.cell? ⟨ob,6,none⟩=some (.int .i64 t))
 (hcall:∀w1,Lat w w1→Calls Tryz.prog 15 #[.pointer (some ⟨S,0,none⟩),.string o,.int .i64 id,.int .i64 f,.int .i64 t] w1 fun e w2=>∃x,e=.returned x∧R x w2)
 (hQ:∀(v17 v18 v19 v20 v21 v22 v23 v24 v25 v26 v27 v28 v29 v30 v31 v7:Value) (x:Value) (w2:World),R x w2→Q .normal ((((((((((((((((((a0.put (some 17) v17).put (some 18) v18).put (some 19) v19).put (some 20) v20).put (some 21) v21).put (some 22) v22).put (some 23) v23).put (some 24) v24).put (some 25) v25).put (some 26) v26).put (some 27) v27).put (some 28) v28).put (some 29) v29).put (some 30) v30).put (some 31) v31).put (some 7) v7).put (some 31) (x)).put (some 7) (x)) w2):
 Code.wp Tryz.prog ((Tryz.f24.body.bind (zag 1)).getD .skip) Q a0 w:=by
 conv=>arg 2;whnf
 refine zba 14 Lat (TE [Ent.val (.pointer (some ⟨v,0,none⟩)),Ent.val (.int .i64 (k:Int)),Ent.val (.pointer (some ⟨v,0,none⟩)),Ent.val (.pointer (some ⟨v,2,none⟩)),Ent.val (.pointer (some ⟨v,2+k,none⟩)),Ent.val (.pointer (some ⟨S,0,none⟩)),Ent.val (.pointer (some ⟨ob,3,none⟩)),Ent.val (.string o),Ent.val (.pointer (some ⟨ob,2,none⟩)),Ent.val (.int .i64 id),Ent.val (.pointer (some ⟨ob,5,none⟩)),Ent.val (.int .i64 f),Ent.val (.pointer (some ⟨ob,6,none⟩)),Ent.val (.int .i64 t)]) (by kernel_rfl) (by kernel_rfl) (by kernel_rfl) (by rw [hsz];kernel_rfl) (by kernel_rfl) (by kernel_rfl) Lat.refl Lat.trans (za4 _) (Lat.draw w) ?hop ?hlast
 case hlast=>
  intro a w1 hL hS hT
  have k22:a.tmps.getD 22 undef=.pointer (some ⟨S,0,none⟩):=hT 5 _ (by omega) rfl
  have k24:a.tmps.getD 24 undef=.string o:=hT 7 _ (by omega) rfl
  have k26:a.tmps.getD 26 undef=.int .i64 id:=hT 9 _ (by omega) rfl
  have k28:a.tmps.getD 28 undef=.int .i64 f:=hT 11 _ (by omega) rfl
  have k30:a.tmps.getD 30 undef=.int .i64 t:=hT 13 _ (by omega) rfl
  refine za6 14 _ rfl rfl (by kernel_rfl) ?_
  refine zaz (f:=15) (args:=#[.pointer (some ⟨S,0,none⟩),.string o,.int .i64 id,.int .i64 f,.int .i64 t]) (by simp [execOp,resolve,Act.eval,k22,k24,k26,k28,k30,go_sem]) ?_
  refine (hcall w1 hL).mono ?_
  rintro e w2 ⟨x,rfl,hR⟩
  refine ⟨x,rfl,?_⟩
  show wpAny Tryz.prog .any _ Q _ _ (a.put (some 31) (x)) w2
  obtain ⟨fr1,hfr1⟩:∃y,a.put (some 31) (x)=y:=⟨_,rfl⟩
  rw [hfr1]
  have zfr1:fr1.tmps.size=123:=by rw [←hfr1,zbh];exact (hS.size.trans hsz)
  have c1_22:fr1.tmps.getD 22 undef=.pointer (some ⟨S,0,none⟩):=by rw [←hfr1];exact (zad _ 31 22 _ (by decide)).trans k22
  have c1_24:fr1.tmps.getD 24 undef=.string o:=by rw [←hfr1];exact (zad _ 31 24 _ (by decide)).trans k24
  have c1_26:fr1.tmps.getD 26 undef=.int .i64 id:=by rw [←hfr1];exact (zad _ 31 26 _ (by decide)).trans k26
  have c1_28:fr1.tmps.getD 28 undef=.int .i64 f:=by rw [←hfr1];exact (zad _ 31 28 _ (by decide)).trans k28
  have c1_30:fr1.tmps.getD 30 undef=.int .i64 t:=by rw [←hfr1];exact (zad _ 31 30 _ (by decide)).trans k30
  have c1_31:fr1.tmps.getD 31 undef=x:=by rw [←hfr1];exact za7 _ 31 _ (by rw [(hS.size.trans hsz)];decide)
  refine za6 15 _ rfl rfl (by kernel_rfl) ?_
  refine za1 (x) (w':=w2) (by simp only [Array.getD_eq_getD_getElem?] at c1_31;simp [execOp,Act.eval,c1_31,go_sem]) ?_
  show wpAny Tryz.prog .any _ Q _ _ (fr1.put (some 7) (x)) w2
  obtain ⟨fr2,hfr2⟩:∃y,fr1.put (some 7) (x)=y:=⟨_,rfl⟩
  rw [hfr2]
  have zfr2:fr2.tmps.size=123:=by rw [←hfr2,zbh];exact zfr1
  have c2_22:fr2.tmps.getD 22 undef=.pointer (some ⟨S,0,none⟩):=by rw [←hfr2];exact (zad _ 7 22 _ (by decide)).trans c1_22
  have c2_24:fr2.tmps.getD 24 undef=.string o:=by rw [←hfr2];exact (zad _ 7 24 _ (by decide)).trans c1_24
  have c2_26:fr2.tmps.getD 26 undef=.int .i64 id:=by rw [←hfr2];exact (zad _ 7 26 _ (by decide)).trans c1_26
  have c2_28:fr2.tmps.getD 28 undef=.int .i64 f:=by rw [←hfr2];exact (zad _ 7 28 _ (by decide)).trans c1_28
  have c2_30:fr2.tmps.getD 30 undef=.int .i64 t:=by rw [←hfr2];exact (zad _ 7 30 _ (by decide)).trans c1_30
  have c2_31:fr2.tmps.getD 31 undef=x:=by rw [←hfr2];exact (zad _ 7 31 _ (by decide)).trans c1_31
  have c2_7:fr2.tmps.getD 7 undef=x:=by rw [←hfr2];exact za7 _ 7 _ (by rw [zfr1];decide)
  refine zb2 (by kernel_rfl) ?_
  show Q .normal _ w2
  rw [←hfr2,←hfr1]
  rw [zam hS]
  exact hQ (a.tmps.getD 17 undef) (a.tmps.getD 18 undef) (a.tmps.getD 19 undef) (a.tmps.getD 20 undef) (a.tmps.getD 21 undef) (a.tmps.getD 22 undef) (a.tmps.getD 23 undef) (a.tmps.getD 24 undef) (a.tmps.getD 25 undef) (a.tmps.getD 26 undef) (a.tmps.getD 27 undef) (a.tmps.getD 28 undef) (a.tmps.getD 29 undef) (a.tmps.getD 30 undef) (a.tmps.getD 31 undef) (a.tmps.getD 7 undef) x w2 hR
 case hop=>
  intro i o hlt hi
  rcases (show i=0∨i=1∨i=2∨i=3∨i=4∨i=5∨i=6∨i=7∨i=8∨i=9∨i=10∨i=11∨i=12∨i=13 by omega) with rfl|rfl|rfl|rfl|rfl|rfl|rfl|rfl|rfl|rfl|rfl|rfl|rfl|rfl
  all_goals obtain rfl:=Option.some.inj hi
  all_goals clear hi hlt
  all_goals intro a w1 hL hS hD
  · exact zye rfl (by simp [execOp,Act.eval,zs hS s0,go_sem])
  · exact zye rfl (by simp [execOp,Act.eval,zs hS s1,go_sem])
  · exact zye rfl (by simp [execOp,Act.eval,zde hD 0 17,go_sem])
  · exact zye rfl (by simp [execOp,Act.eval,zde hD 2 19,go_sem])
  · exact zye rfl (by simp [execOp,Act.eval,zde hD 3 20,zde hD 1 18,hk3,hk0,go_sem])
  · exact zye rfl (by simp [execOp,Act.eval,zde hD 4 21,cp w1 hL,go_sem])
  · exact zye rfl (by simp [execOp,Act.eval,zs hS s5,go_sem])
  · exact zye rfl (by simp [execOp,Act.eval,zde hD 6 23,o3 w1 hL,go_sem])
  · exact zye rfl (by simp [execOp,Act.eval,zs hS s5,go_sem])
  · exact zye rfl (by simp [execOp,Act.eval,zde hD 8 25,o2 w1 hL,go_sem])
  · exact zye rfl (by simp [execOp,Act.eval,zs hS s5,go_sem])
  · exact zye rfl (by simp [execOp,Act.eval,zde hD 10 27,o5 w1 hL,go_sem])
  · exact zye rfl (by simp [execOp,Act.eval,zs hS s5,go_sem])
  exact zye rfl (by simp [execOp,Act.eval,zde hD 12 29,o6 w1 hL,go_sem])
theorem tl_r2 (v ob k S:Nat) (o:ByteArray) (id f t:Int) (R:Value→World→Prop) (w:World) (a0:Act) (Q:Exit→Act→World→Prop) (hsz:a0.tmps.size=123)
 (s0:a0.tmps.getD 0 undef=.pointer (some ⟨v,0,none⟩))
 (s1:a0.tmps.getD 1 undef=.int .i64 (k:Int))
 (s5:a0.tmps.getD 5 undef=.pointer (some ⟨ob,0,none⟩))
 (hk3:(k:Int)<2) (hk0:¬(k:Int)<0)
 (cp:∀w1,Lat w w1→w1.cell? ⟨v,6+k,none⟩=some (.pointer (some ⟨S,0,none⟩)))
 (o2:∀w1,Lat w w1→w1.cell? ⟨ob,2,none⟩=some (.int .i64 id))
 (o3:∀w1,Lat w w1→w1.cell? ⟨ob,3,none⟩=some (.string o))
 (o5:∀w1,Lat w w1→w1.cell? ⟨ob,5,none⟩=some (.int .i64 f))
 (o6:∀w1,Lat w w1→w1.cell? ⟨ob,6,none⟩=some (.int .i64 t))
 (hcall:∀w1,Lat w w1→Calls Tryz.prog 49 #[.pointer (some ⟨S,0,none⟩),.string o,.int .i64 id,.int .i64 f,.int .i64 t] w1 fun e w2=>∃x,e=.returned x∧R x w2)
 (hQ:∀(v32 v33 v34 v35 v36 v37 v38 v39 v40 v41 v42 v43 v44 v45 v46 v8:Value) (x:Value) (w2:World),R x w2→Q .normal ((((((((((((((((((a0.put (some 32) v32).put (some 33) v33).put (some 34) v34).put (some 35) v35).put (some 36) v36).put (some 37) v37).put (some 38) v38).put (some 39) v39).put (some 40) v40).put (some 41) v41).put (some 42) v42).put (some 43) v43).put (some 44) v44).put (some 45) v45).put (some 46) v46).put (some 8) v8).put (some 46) (x)).put (some 8) (x)) w2):
 Code.wp Tryz.prog ((Tryz.f24.body.bind (zag 2)).getD .skip) Q a0 w:=by
 conv=>arg 2;whnf
 refine zba 14 Lat (TE [Ent.val (.pointer (some ⟨v,0,none⟩)),Ent.val (.int .i64 (k:Int)),Ent.val (.pointer (some ⟨v,0,none⟩)),Ent.val (.pointer (some ⟨v,6,none⟩)),Ent.val (.pointer (some ⟨v,6+k,none⟩)),Ent.val (.pointer (some ⟨S,0,none⟩)),Ent.val (.pointer (some ⟨ob,3,none⟩)),Ent.val (.string o),Ent.val (.pointer (some ⟨ob,2,none⟩)),Ent.val (.int .i64 id),Ent.val (.pointer (some ⟨ob,5,none⟩)),Ent.val (.int .i64 f),Ent.val (.pointer (some ⟨ob,6,none⟩)),Ent.val (.int .i64 t)]) (by kernel_rfl) (by kernel_rfl) (by kernel_rfl) (by rw [hsz];kernel_rfl) (by kernel_rfl) (by kernel_rfl) Lat.refl Lat.trans (za4 _) (Lat.draw w) ?hop ?hlast
 case hlast=>
  intro a w1 hL hS hT
  have k37:a.tmps.getD 37 undef=.pointer (some ⟨S,0,none⟩):=hT 5 _ (by omega) rfl
  have k39:a.tmps.getD 39 undef=.string o:=hT 7 _ (by omega) rfl
  have k41:a.tmps.getD 41 undef=.int .i64 id:=hT 9 _ (by omega) rfl
  have k43:a.tmps.getD 43 undef=.int .i64 f:=hT 11 _ (by omega) rfl
  have k45:a.tmps.getD 45 undef=.int .i64 t:=hT 13 _ (by omega) rfl
  refine za6 14 _ rfl rfl (by kernel_rfl) ?_
  refine zaz (f:=49) (args:=#[.pointer (some ⟨S,0,none⟩),.string o,.int .i64 id,.int .i64 f,.int .i64 t]) (by simp [execOp,resolve,Act.eval,k37,k39,k41,k43,k45,go_sem]) ?_
  refine (hcall w1 hL).mono ?_
  rintro e w2 ⟨x,rfl,hR⟩
  refine ⟨x,rfl,?_⟩
  show wpAny Tryz.prog .any _ Q _ _ (a.put (some 46) (x)) w2
  obtain ⟨fr1,hfr1⟩:∃y,a.put (some 46) (x)=y:=⟨_,rfl⟩
  rw [hfr1]
  have zfr1:fr1.tmps.size=123:=by rw [←hfr1,zbh];exact (hS.size.trans hsz)
  have c1_37:fr1.tmps.getD 37 undef=.pointer (some ⟨S,0,none⟩):=by rw [←hfr1];exact (zad _ 46 37 _ (by decide)).trans k37
  have c1_39:fr1.tmps.getD 39 undef=.string o:=by rw [←hfr1];exact (zad _ 46 39 _ (by decide)).trans k39
  have c1_41:fr1.tmps.getD 41 undef=.int .i64 id:=by rw [←hfr1];exact (zad _ 46 41 _ (by decide)).trans k41
  have c1_43:fr1.tmps.getD 43 undef=.int .i64 f:=by rw [←hfr1];exact (zad _ 46 43 _ (by decide)).trans k43
  have c1_45:fr1.tmps.getD 45 undef=.int .i64 t:=by rw [←hfr1];exact (zad _ 46 45 _ (by decide)).trans k45
  have c1_46:fr1.tmps.getD 46 undef=x:=by rw [←hfr1];exact za7 _ 46 _ (by rw [(hS.size.trans hsz)];decide)
  refine za6 15 _ rfl rfl (by kernel_rfl) ?_
  refine za1 (x) (w':=w2) (by simp only [Array.getD_eq_getD_getElem?] at c1_46;simp [execOp,Act.eval,c1_46,go_sem]) ?_
  show wpAny Tryz.prog .any _ Q _ _ (fr1.put (some 8) (x)) w2
  obtain ⟨fr2,hfr2⟩:∃y,fr1.put (some 8) (x)=y:=⟨_,rfl⟩
  rw [hfr2]
  have zfr2:fr2.tmps.size=123:=by rw [←hfr2,zbh];exact zfr1
  have c2_37:fr2.tmps.getD 37 undef=.pointer (some ⟨S,0,none⟩):=by rw [←hfr2];exact (zad _ 8 37 _ (by decide)).trans c1_37
  have c2_39:fr2.tmps.getD 39 undef=.string o:=by rw [←hfr2];exact (zad _ 8 39 _ (by decide)).trans c1_39
  have c2_41:fr2.tmps.getD 41 undef=.int .i64 id:=by rw [←hfr2];exact (zad _ 8 41 _ (by decide)).trans c1_41
  have c2_43:fr2.tmps.getD 43 undef=.int .i64 f:=by rw [←hfr2];exact (zad _ 8 43 _ (by decide)).trans c1_43
  have c2_45:fr2.tmps.getD 45 undef=.int .i64 t:=by rw [←hfr2];exact (zad _ 8 45 _ (by decide)).trans c1_45
  have c2_46:fr2.tmps.getD 46 undef=x:=by rw [←hfr2];exact (zad _ 8 46 _ (by decide)).trans c1_46
  have c2_8:fr2.tmps.getD 8 undef=x:=by rw [←hfr2];exact za7 _ 8 _ (by rw [zfr1];decide)
  refine zb2 (by kernel_rfl) ?_
  show Q .normal _ w2
  rw [←hfr2,←hfr1]
  rw [zam hS]
  exact hQ (a.tmps.getD 32 undef) (a.tmps.getD 33 undef) (a.tmps.getD 34 undef) (a.tmps.getD 35 undef) (a.tmps.getD 36 undef) (a.tmps.getD 37 undef) (a.tmps.getD 38 undef) (a.tmps.getD 39 undef) (a.tmps.getD 40 undef) (a.tmps.getD 41 undef) (a.tmps.getD 42 undef) (a.tmps.getD 43 undef) (a.tmps.getD 44 undef) (a.tmps.getD 45 undef) (a.tmps.getD 46 undef) (a.tmps.getD 8 undef) x w2 hR
 case hop=>
  intro i o hlt hi
  rcases (show i=0∨i=1∨i=2∨i=3∨i=4∨i=5∨i=6∨i=7∨i=8∨i=9∨i=10∨i=11∨i=12∨i=13 by omega) with rfl|rfl|rfl|rfl|rfl|rfl|rfl|rfl|rfl|rfl|rfl|rfl|rfl|rfl
  all_goals obtain rfl:=Option.some.inj hi
  all_goals clear hi hlt
  all_goals intro a w1 hL hS hD
  · exact zye rfl (by simp [execOp,Act.eval,zs hS s0,go_sem])
  · exact zye rfl (by simp [execOp,Act.eval,zs hS s1,go_sem])
  · exact zye rfl (by simp [execOp,Act.eval,zde hD 0 32,go_sem])
  · exact zye rfl (by simp [execOp,Act.eval,zde hD 2 34,go_sem])
  · exact zye rfl (by simp [execOp,Act.eval,zde hD 3 35,zde hD 1 33,hk3,hk0,go_sem])
  · exact zye rfl (by simp [execOp,Act.eval,zde hD 4 36,cp w1 hL,go_sem])
  · exact zye rfl (by simp [execOp,Act.eval,zs hS s5,go_sem])
  · exact zye rfl (by simp [execOp,Act.eval,zde hD 6 38,o3 w1 hL,go_sem])
  · exact zye rfl (by simp [execOp,Act.eval,zs hS s5,go_sem])
  · exact zye rfl (by simp [execOp,Act.eval,zde hD 8 40,o2 w1 hL,go_sem])
  · exact zye rfl (by simp [execOp,Act.eval,zs hS s5,go_sem])
  · exact zye rfl (by simp [execOp,Act.eval,zde hD 10 42,o5 w1 hL,go_sem])
  · exact zye rfl (by simp [execOp,Act.eval,zs hS s5,go_sem])
  exact zye rfl (by simp [execOp,Act.eval,zde hD 12 44,o6 w1 hL,go_sem])
theorem tl_r5 (v ob k S:Nat) (o:ByteArray) (id f t:Int) (R:Value→World→Prop) (w:World) (a0:Act) (Q:Exit→Act→World→Prop) (hsz:a0.tmps.size=123)
 (s0:a0.tmps.getD 0 undef=.pointer (some ⟨v,0,none⟩))
 (s1:a0.tmps.getD 1 undef=.int .i64 (k:Int))
 (s5:a0.tmps.getD 5 undef=.pointer (some ⟨ob,0,none⟩))
 (hk3:(k:Int)<2) (hk0:¬(k:Int)<0)
 (cp:∀w1,Lat w w1→w1.cell? ⟨v,2+k,none⟩=some (.pointer (some ⟨S,0,none⟩)))
 (o2:∀w1,Lat w w1→w1.cell? ⟨ob,2,none⟩=some (.int .i64 id))
 (o3:∀w1,Lat w w1→w1.cell? ⟨ob,3,none⟩=some (.string o))
 (hcall:∀w1,Lat w w1→Calls Tryz.prog 17 #[.pointer (some ⟨S,0,none⟩),.string o,.int .i64 id] w1 fun e w2=>∃x,e=.returned x∧R x w2)
 (hQ:∀(v75 v76 v77 v78 v79 v80 v81 v82 v83 v84 v85 v13:Value) (x:Value) (w2:World),R x w2→Q .normal ((((((((((((((a0.put (some 75) v75).put (some 76) v76).put (some 77) v77).put (some 78) v78).put (some 79) v79).put (some 80) v80).put (some 81) v81).put (some 82) v82).put (some 83) v83).put (some 84) v84).put (some 85) v85).put (some 13) v13).put (some 85) (x)).put (some 13) (x)) w2):
 Code.wp Tryz.prog ((Tryz.f24.body.bind (zag 5)).getD .skip) Q a0 w:=by
 conv=>arg 2;whnf
 refine zba 10 Lat (TE [Ent.val (.pointer (some ⟨v,0,none⟩)),Ent.val (.int .i64 (k:Int)),Ent.val (.pointer (some ⟨v,0,none⟩)),Ent.val (.pointer (some ⟨v,2,none⟩)),Ent.val (.pointer (some ⟨v,2+k,none⟩)),Ent.val (.pointer (some ⟨S,0,none⟩)),Ent.val (.pointer (some ⟨ob,3,none⟩)),Ent.val (.string o),Ent.val (.pointer (some ⟨ob,2,none⟩)),Ent.val (.int .i64 id)]) (by kernel_rfl) (by kernel_rfl) (by kernel_rfl) (by rw [hsz];kernel_rfl) (by kernel_rfl) (by kernel_rfl) Lat.refl Lat.trans (za4 _) (Lat.draw w) ?hop ?hlast
 case hlast=>
  intro a w1 hL hS hT
  have k80:a.tmps.getD 80 undef=.pointer (some ⟨S,0,none⟩):=hT 5 _ (by omega) rfl
  have k82:a.tmps.getD 82 undef=.string o:=hT 7 _ (by omega) rfl
  have k84:a.tmps.getD 84 undef=.int .i64 id:=hT 9 _ (by omega) rfl
  refine za6 10 _ rfl rfl (by kernel_rfl) ?_
  refine zaz (f:=17) (args:=#[.pointer (some ⟨S,0,none⟩),.string o,.int .i64 id]) (by simp [execOp,resolve,Act.eval,k80,k82,k84,go_sem]) ?_
  refine (hcall w1 hL).mono ?_
  rintro e w2 ⟨x,rfl,hR⟩
  refine ⟨x,rfl,?_⟩
  show wpAny Tryz.prog .any _ Q _ _ (a.put (some 85) (x)) w2
  obtain ⟨fr1,hfr1⟩:∃y,a.put (some 85) (x)=y:=⟨_,rfl⟩
  rw [hfr1]
  have zfr1:fr1.tmps.size=123:=by rw [←hfr1,zbh];exact (hS.size.trans hsz)
  have c1_80:fr1.tmps.getD 80 undef=.pointer (some ⟨S,0,none⟩):=by rw [←hfr1];exact (zad _ 85 80 _ (by decide)).trans k80
  have c1_82:fr1.tmps.getD 82 undef=.string o:=by rw [←hfr1];exact (zad _ 85 82 _ (by decide)).trans k82
  have c1_84:fr1.tmps.getD 84 undef=.int .i64 id:=by rw [←hfr1];exact (zad _ 85 84 _ (by decide)).trans k84
  have c1_85:fr1.tmps.getD 85 undef=x:=by rw [←hfr1];exact za7 _ 85 _ (by rw [(hS.size.trans hsz)];decide)
  refine za6 11 _ rfl rfl (by kernel_rfl) ?_
  refine za1 (x) (w':=w2) (by simp only [Array.getD_eq_getD_getElem?] at c1_85;simp [execOp,Act.eval,c1_85,go_sem]) ?_
  show wpAny Tryz.prog .any _ Q _ _ (fr1.put (some 13) (x)) w2
  obtain ⟨fr2,hfr2⟩:∃y,fr1.put (some 13) (x)=y:=⟨_,rfl⟩
  rw [hfr2]
  have zfr2:fr2.tmps.size=123:=by rw [←hfr2,zbh];exact zfr1
  have c2_80:fr2.tmps.getD 80 undef=.pointer (some ⟨S,0,none⟩):=by rw [←hfr2];exact (zad _ 13 80 _ (by decide)).trans c1_80
  have c2_82:fr2.tmps.getD 82 undef=.string o:=by rw [←hfr2];exact (zad _ 13 82 _ (by decide)).trans c1_82
  have c2_84:fr2.tmps.getD 84 undef=.int .i64 id:=by rw [←hfr2];exact (zad _ 13 84 _ (by decide)).trans c1_84
  have c2_85:fr2.tmps.getD 85 undef=x:=by rw [←hfr2];exact (zad _ 13 85 _ (by decide)).trans c1_85
  have c2_13:fr2.tmps.getD 13 undef=x:=by rw [←hfr2];exact za7 _ 13 _ (by rw [zfr1];decide)
  refine zb2 (by kernel_rfl) ?_
  show Q .normal _ w2
  rw [←hfr2,←hfr1]
  rw [zam hS]
  exact hQ (a.tmps.getD 75 undef) (a.tmps.getD 76 undef) (a.tmps.getD 77 undef) (a.tmps.getD 78 undef) (a.tmps.getD 79 undef) (a.tmps.getD 80 undef) (a.tmps.getD 81 undef) (a.tmps.getD 82 undef) (a.tmps.getD 83 undef) (a.tmps.getD 84 undef) (a.tmps.getD 85 undef) (a.tmps.getD 13 undef) x w2 hR
 case hop=>
  intro i o hlt hi
  rcases (show i=0∨i=1∨i=2∨i=3∨i=4∨i=5∨i=6∨i=7∨i=8∨i=9 by omega) with rfl|rfl|rfl|rfl|rfl|rfl|rfl|rfl|rfl|rfl
  all_goals obtain rfl:=Option.some.inj hi
  all_goals clear hi hlt
  all_goals intro a w1 hL hS hD
  · exact zye rfl (by simp [execOp,Act.eval,zs hS s0,go_sem])
  · exact zye rfl (by simp [execOp,Act.eval,zs hS s1,go_sem])
  · exact zye rfl (by simp [execOp,Act.eval,zde hD 0 75,go_sem])
  · exact zye rfl (by simp [execOp,Act.eval,zde hD 2 77,go_sem])
  · exact zye rfl (by simp [execOp,Act.eval,zde hD 3 78,zde hD 1 76,hk3,hk0,go_sem])
  · exact zye rfl (by simp [execOp,Act.eval,zde hD 4 79,cp w1 hL,go_sem])
  · exact zye rfl (by simp [execOp,Act.eval,zs hS s5,go_sem])
  · exact zye rfl (by simp [execOp,Act.eval,zde hD 6 81,o3 w1 hL,go_sem])
  · exact zye rfl (by simp [execOp,Act.eval,zs hS s5,go_sem])
  exact zye rfl (by simp [execOp,Act.eval,zde hD 8 83,o2 w1 hL,go_sem])
theorem tl_r6 (v ob k S:Nat) (o:ByteArray) (id f t:Int) (R:Value→World→Prop) (w:World) (a0:Act) (Q:Exit→Act→World→Prop) (hsz:a0.tmps.size=123)
 (s0:a0.tmps.getD 0 undef=.pointer (some ⟨v,0,none⟩))
 (s1:a0.tmps.getD 1 undef=.int .i64 (k:Int))
 (s5:a0.tmps.getD 5 undef=.pointer (some ⟨ob,0,none⟩))
 (hk3:(k:Int)<2) (hk0:¬(k:Int)<0)
 (cp:∀w1,Lat w w1→w1.cell? ⟨v,6+k,none⟩=some (.pointer (some ⟨S,0,none⟩)))
 (o2:∀w1,Lat w w1→w1.cell? ⟨ob,2,none⟩=some (.int .i64 id))
 (o3:∀w1,Lat w w1→w1.cell? ⟨ob,3,none⟩=some (.string o))
 (hcall:∀w1,Lat w w1→Calls Tryz.prog 32 #[.pointer (some ⟨S,0,none⟩),.string o,.int .i64 id] w1 fun e w2=>∃x,e=.returned x∧R x w2)
 (hQ:∀(v86 v87 v88 v89 v90 v91 v92 v93 v94 v95 v96 v14:Value) (x:Value) (w2:World),R x w2→Q .normal ((((((((((((((a0.put (some 86) v86).put (some 87) v87).put (some 88) v88).put (some 89) v89).put (some 90) v90).put (some 91) v91).put (some 92) v92).put (some 93) v93).put (some 94) v94).put (some 95) v95).put (some 96) v96).put (some 14) v14).put (some 96) (x)).put (some 14) (x)) w2):
 Code.wp Tryz.prog ((Tryz.f24.body.bind (zag 6)).getD .skip) Q a0 w:=by
 conv=>arg 2;whnf
 refine zba 10 Lat (TE [Ent.val (.pointer (some ⟨v,0,none⟩)),Ent.val (.int .i64 (k:Int)),Ent.val (.pointer (some ⟨v,0,none⟩)),Ent.val (.pointer (some ⟨v,6,none⟩)),Ent.val (.pointer (some ⟨v,6+k,none⟩)),Ent.val (.pointer (some ⟨S,0,none⟩)),Ent.val (.pointer (some ⟨ob,3,none⟩)),Ent.val (.string o),Ent.val (.pointer (some ⟨ob,2,none⟩)),Ent.val (.int .i64 id)]) (by kernel_rfl) (by kernel_rfl) (by kernel_rfl) (by rw [hsz];kernel_rfl) (by kernel_rfl) (by kernel_rfl) Lat.refl Lat.trans (za4 _) (Lat.draw w) ?hop ?hlast
 case hlast=>
  intro a w1 hL hS hT
  have k91:a.tmps.getD 91 undef=.pointer (some ⟨S,0,none⟩):=hT 5 _ (by omega) rfl
  have k93:a.tmps.getD 93 undef=.string o:=hT 7 _ (by omega) rfl
  have k95:a.tmps.getD 95 undef=.int .i64 id:=hT 9 _ (by omega) rfl
  refine za6 10 _ rfl rfl (by kernel_rfl) ?_
  refine zaz (f:=32) (args:=#[.pointer (some ⟨S,0,none⟩),.string o,.int .i64 id]) (by simp [execOp,resolve,Act.eval,k91,k93,k95,go_sem]) ?_
  refine (hcall w1 hL).mono ?_
  rintro e w2 ⟨x,rfl,hR⟩
  refine ⟨x,rfl,?_⟩
  show wpAny Tryz.prog .any _ Q _ _ (a.put (some 96) (x)) w2
  obtain ⟨fr1,hfr1⟩:∃y,a.put (some 96) (x)=y:=⟨_,rfl⟩
  rw [hfr1]
  have zfr1:fr1.tmps.size=123:=by rw [←hfr1,zbh];exact (hS.size.trans hsz)
  have c1_91:fr1.tmps.getD 91 undef=.pointer (some ⟨S,0,none⟩):=by rw [←hfr1];exact (zad _ 96 91 _ (by decide)).trans k91
  have c1_93:fr1.tmps.getD 93 undef=.string o:=by rw [←hfr1];exact (zad _ 96 93 _ (by decide)).trans k93
  have c1_95:fr1.tmps.getD 95 undef=.int .i64 id:=by rw [←hfr1];exact (zad _ 96 95 _ (by decide)).trans k95
  have c1_96:fr1.tmps.getD 96 undef=x:=by rw [←hfr1];exact za7 _ 96 _ (by rw [(hS.size.trans hsz)];decide)
  refine za6 11 _ rfl rfl (by kernel_rfl) ?_
  refine za1 (x) (w':=w2) (by simp only [Array.getD_eq_getD_getElem?] at c1_96;simp [execOp,Act.eval,c1_96,go_sem]) ?_
  show wpAny Tryz.prog .any _ Q _ _ (fr1.put (some 14) (x)) w2
  obtain ⟨fr2,hfr2⟩:∃y,fr1.put (some 14) (x)=y:=⟨_,rfl⟩
  rw [hfr2]
  have zfr2:fr2.tmps.size=123:=by rw [←hfr2,zbh];exact zfr1
  have c2_91:fr2.tmps.getD 91 undef=.pointer (some ⟨S,0,none⟩):=by rw [←hfr2];exact (zad _ 14 91 _ (by decide)).trans c1_91
  have c2_93:fr2.tmps.getD 93 undef=.string o:=by rw [←hfr2];exact (zad _ 14 93 _ (by decide)).trans c1_93
  have c2_95:fr2.tmps.getD 95 undef=.int .i64 id:=by rw [←hfr2];exact (zad _ 14 95 _ (by decide)).trans c1_95
  have c2_96:fr2.tmps.getD 96 undef=x:=by rw [←hfr2];exact (zad _ 14 96 _ (by decide)).trans c1_96
  have c2_14:fr2.tmps.getD 14 undef=x:=by rw [←hfr2];exact za7 _ 14 _ (by rw [zfr1];decide)
  refine zb2 (by kernel_rfl) ?_
  show Q .normal _ w2
  rw [←hfr2,←hfr1]
  rw [zam hS]
  exact hQ (a.tmps.getD 86 undef) (a.tmps.getD 87 undef) (a.tmps.getD 88 undef) (a.tmps.getD 89 undef) (a.tmps.getD 90 undef) (a.tmps.getD 91 undef) (a.tmps.getD 92 undef) (a.tmps.getD 93 undef) (a.tmps.getD 94 undef) (a.tmps.getD 95 undef) (a.tmps.getD 96 undef) (a.tmps.getD 14 undef) x w2 hR
 case hop=>
  intro i o hlt hi
  rcases (show i=0∨i=1∨i=2∨i=3∨i=4∨i=5∨i=6∨i=7∨i=8∨i=9 by omega) with rfl|rfl|rfl|rfl|rfl|rfl|rfl|rfl|rfl|rfl
  all_goals obtain rfl:=Option.some.inj hi
  all_goals clear hi hlt
  all_goals intro a w1 hL hS hD
  · exact zye rfl (by simp [execOp,Act.eval,zs hS s0,go_sem])
  · exact zye rfl (by simp [execOp,Act.eval,zs hS s1,go_sem])
  · exact zye rfl (by simp [execOp,Act.eval,zde hD 0 86,go_sem])
  · exact zye rfl (by simp [execOp,Act.eval,zde hD 2 88,go_sem])
  · exact zye rfl (by simp [execOp,Act.eval,zde hD 3 89,zde hD 1 87,hk3,hk0,go_sem])
  · exact zye rfl (by simp [execOp,Act.eval,zde hD 4 90,cp w1 hL,go_sem])
  · exact zye rfl (by simp [execOp,Act.eval,zs hS s5,go_sem])
  · exact zye rfl (by simp [execOp,Act.eval,zde hD 6 92,o3 w1 hL,go_sem])
  · exact zye rfl (by simp [execOp,Act.eval,zs hS s5,go_sem])
  exact zye rfl (by simp [execOp,Act.eval,zde hD 8 94,o2 w1 hL,go_sem])
theorem pl_r13 (v k p:Nat) (G:Value→World→Prop) (hG:∀v w w',G v w→Lat w w'→G v w') (hGp:∀v w,G v w→∃g,v=.pointer (some ⟨g,0,none⟩)) (w:World) (a0:Act) (Q:Exit→Act→World→Prop) (hsz:a0.tmps.size=102)
 (s6:a0.tmps.getD 6 undef=.pointer (some ⟨v,0,none⟩)) (s7:a0.tmps.getD 7 undef=.int .i64 (k:Int)) (s9:a0.tmps.getD 9 undef=.pointer (some ⟨p,0,none⟩))
 (hk3:(k:Int)<2) (hk0:¬(k:Int)<0) (u:Value) (hcell:∀w1,Lat w w1→w1.cell? ⟨v,2+k,none⟩=some u) (hfrz:∀w1,Lat w w1→w1.frozen? ⟨v,2+k,none⟩=false)
 (hcall:∀w1,Lat w w1→Calls Tryz.prog 8 #[.pointer (some ⟨p,0,none⟩)] w1 fun e w2=>∃x,e=.returned x∧Lat w1 w2∧G x w2)
 (hQ:∀(v59 v60 v61 v62 v63 v64 v65:Value) (g:Nat) (w1:World),Lat w w1→G (.pointer (some ⟨g,0,none⟩)) w1→Q .normal (((((((a0.put (some 59) v59).put (some 60) v60).put (some 61) v61).put (some 62) v62).put (some 63) v63).put (some 64) v64).put (some 65) v65) (w1.setCell ⟨v,2+k,none⟩ (.pointer (some ⟨g,0,none⟩)))):
 Code.wp Tryz.prog ((Tryz.f3.body.bind (zag 13)).getD .skip) Q a0 w:=by
 conv=>arg 2;whnf
 refine zbf 7 Lat (TE [Ent.val (.pointer (some ⟨v,0,none⟩)),Ent.val (.int .i64 (k:Int)),Ent.val (.pointer (some ⟨p,0,none⟩)),⟨G,fun v w w' h k=>hG v w w' h k⟩,Ent.val (.pointer (some ⟨v,0,none⟩)),Ent.val (.pointer (some ⟨v,2,none⟩)),Ent.val (.pointer (some ⟨v,2+k,none⟩))]) (by kernel_rfl) (by kernel_rfl) (by kernel_rfl) (by rw [hsz];kernel_rfl) (by kernel_rfl) (by kernel_rfl) Lat.refl Lat.trans (za4 _) (Lat.draw w) ?hop ?hlast
 case hlast=>
  intro o a w1 ho hL hS hT
  obtain rfl:=Option.some.inj ho
  have dA:a.tmps.getD 65 undef=.pointer (some ⟨v,2+k,none⟩):=hT 6 _ (by omega) rfl
  have dG:G (a.tmps.getD 62 undef) w1:=hT 3 _ (by omega) rfl
  obtain ⟨g,hg⟩:=hGp _ _ dG
  have he:=zam hS
  have hQ2:=hQ (a.tmps.getD 59 undef) (a.tmps.getD 60 undef) (a.tmps.getD 61 undef) (a.tmps.getD 62 undef) (a.tmps.getD 63 undef) (a.tmps.getD 64 undef) (a.tmps.getD 65 undef) g w1 hL (by rw [←hg];exact dG)
  have hc1:=hcell w1 hL
  have hf1:=hfrz w1 hL
  unfold Oper.wp
  simp [execOp,Act.eval,dA,hg,hc1,hf1,Result.andThen,go_sem]
  show Q .normal a _
  rw [he]
  exact hQ2
 case hop=>
  intro i o hlt hi
  rcases (show i=0∨i=1∨i=2∨i=3∨i=4∨i=5∨i=6 by omega) with rfl|rfl|rfl|rfl|rfl|rfl|rfl
  all_goals obtain rfl:=Option.some.inj hi
  all_goals clear hi hlt
  all_goals intro a w1 hL hS hD
  · exact zye rfl (by simp [execOp,Act.eval,zs hS s6,go_sem])
  · exact zye rfl (by simp [execOp,Act.eval,zs hS s7,go_sem])
  · exact zye rfl (by simp [execOp,Act.eval,zs hS s9,go_sem])
  · have d2:=zde hD 2 61
    refine zat rfl ?_
    refine zbb (f:=8) (args:=#[.pointer (some ⟨p,0,none⟩)]) (by simp [execOp,resolve,Act.eval,d2,go_sem]) ?_
    refine (hcall w1 hL).mono ?_
    rintro e w2 ⟨x,rfl,h2,h3⟩
    exact ⟨_,rfl,h2,h3⟩
  · exact zye rfl (by simp [execOp,Act.eval,zde hD 0 59,go_sem])
  · exact zye rfl (by simp [execOp,Act.eval,zde hD 4 63,go_sem])
  exact zye rfl (by simp [execOp,Act.eval,zde hD 5 64,zde hD 1 60,hk3,hk0,go_sem])
theorem pl_r14 (v k r:Nat) (G:Value→World→Prop) (hG:∀v w w',G v w→Lat w w'→G v w') (hGp:∀v w,G v w→∃g,v=.pointer (some ⟨g,0,none⟩)) (w:World) (a0:Act) (Q:Exit→Act→World→Prop) (hsz:a0.tmps.size=102)
 (s6:a0.tmps.getD 6 undef=.pointer (some ⟨v,0,none⟩)) (s7:a0.tmps.getD 7 undef=.int .i64 (k:Int)) (s11:a0.tmps.getD 11 undef=.pointer (some ⟨r,0,none⟩))
 (hk3:(k:Int)<2) (hk0:¬(k:Int)<0) (u:Value) (hcell:∀w1,Lat w w1→w1.cell? ⟨v,6+k,none⟩=some u) (hfrz:∀w1,Lat w w1→w1.frozen? ⟨v,6+k,none⟩=false)
 (hcall:∀w1,Lat w w1→Calls Tryz.prog 9 #[.pointer (some ⟨r,0,none⟩)] w1 fun e w2=>∃x,e=.returned x∧Lat w1 w2∧G x w2)
 (hQ:∀(v66 v67 v68 v69 v70 v71 v72:Value) (g:Nat) (w1:World),Lat w w1→G (.pointer (some ⟨g,0,none⟩)) w1→Q .normal (((((((a0.put (some 66) v66).put (some 67) v67).put (some 68) v68).put (some 69) v69).put (some 70) v70).put (some 71) v71).put (some 72) v72) (w1.setCell ⟨v,6+k,none⟩ (.pointer (some ⟨g,0,none⟩)))):
 Code.wp Tryz.prog ((Tryz.f3.body.bind (zag 14)).getD .skip) Q a0 w:=by
 conv=>arg 2;whnf
 refine zbf 7 Lat (TE [Ent.val (.pointer (some ⟨v,0,none⟩)),Ent.val (.int .i64 (k:Int)),Ent.val (.pointer (some ⟨r,0,none⟩)),⟨G,fun v w w' h k=>hG v w w' h k⟩,Ent.val (.pointer (some ⟨v,0,none⟩)),Ent.val (.pointer (some ⟨v,6,none⟩)),Ent.val (.pointer (some ⟨v,6+k,none⟩))]) (by kernel_rfl) (by kernel_rfl) (by kernel_rfl) (by rw [hsz];kernel_rfl) (by kernel_rfl) (by kernel_rfl) Lat.refl Lat.trans (za4 _) (Lat.draw w) ?hop ?hlast
 case hlast=>
  intro o a w1 ho hL hS hT
  obtain rfl:=Option.some.inj ho
  have dA:a.tmps.getD 72 undef=.pointer (some ⟨v,6+k,none⟩):=hT 6 _ (by omega) rfl
  have dG:G (a.tmps.getD 69 undef) w1:=hT 3 _ (by omega) rfl
  obtain ⟨g,hg⟩:=hGp _ _ dG
  have he:=zam hS
  have hQ2:=hQ (a.tmps.getD 66 undef) (a.tmps.getD 67 undef) (a.tmps.getD 68 undef) (a.tmps.getD 69 undef) (a.tmps.getD 70 undef) (a.tmps.getD 71 undef) (a.tmps.getD 72 undef) g w1 hL (by rw [←hg];exact dG)
  have hc1:=hcell w1 hL
  have hf1:=hfrz w1 hL
  unfold Oper.wp
  simp [execOp,Act.eval,dA,hg,hc1,hf1,Result.andThen,go_sem]
  show Q .normal a _
  rw [he]
  exact hQ2
 case hop=>
  intro i o hlt hi
  rcases (show i=0∨i=1∨i=2∨i=3∨i=4∨i=5∨i=6 by omega) with rfl|rfl|rfl|rfl|rfl|rfl|rfl
  all_goals obtain rfl:=Option.some.inj hi
  all_goals clear hi hlt
  all_goals intro a w1 hL hS hD
  · exact zye rfl (by simp [execOp,Act.eval,zs hS s6,go_sem])
  · exact zye rfl (by simp [execOp,Act.eval,zs hS s7,go_sem])
  · exact zye rfl (by simp [execOp,Act.eval,zs hS s11,go_sem])
  · have d2:=zde hD 2 68
    refine zat rfl ?_
    refine zbb (f:=9) (args:=#[.pointer (some ⟨r,0,none⟩)]) (by simp [execOp,resolve,Act.eval,d2,go_sem]) ?_
    refine (hcall w1 hL).mono ?_
    rintro e w2 ⟨x,rfl,h2,h3⟩
    exact ⟨_,rfl,h2,h3⟩
  · exact zye rfl (by simp [execOp,Act.eval,zde hD 0 66,go_sem])
  · exact zye rfl (by simp [execOp,Act.eval,zde hD 4 70,go_sem])
  exact zye rfl (by simp [execOp,Act.eval,zde hD 5 71,zde hD 1 67,hk3,hk0,go_sem])
end Go.Proofs.YtlppibigceeimaaGreatDoor
