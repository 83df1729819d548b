import Derived.Test.YtlppibigceeimaaGreatDoorSeA
set_option linter.unusedSimpArgs false
set_option linter.unusedVariables false
set_option maxHeartbeats 40000000
set_option maxRecDepth 100000
namespace Go.Proofs.YtlppibigceeimaaGreatDoor
open Go.RowKit
theorem pkTakeP {w:World} {base b:Nat} {s:Gs} {x:Sm} (h:PK w base b s) (hG:Gv w) (hx:OkS x) (hl:s.2.length≤1000000) (hn:s.1.length≤1000000000) (hlo:2≤base) (hbs:base≤w.heap.size):
 Calls Tryz.prog 63 #[.pointer (some ⟨b,0,none⟩),.agg #[.int .i64 x.t,.int .u64 (x.v:Int)]] w fun e w'=>e=.returned (.bool true)∧PK w' base b (gS s x)∧Below base w w'∧S53 w w':=by
 by_cases hfit:((encC (s.2++[x])).length:Int)≤128
 · exact takeYes h hG hx hl hfit hbs
 obtain ⟨c,p,rb,v,D,h1,h2,h3,h4,h5,h6,h7,h8,h9⟩:=h
 refine (packNo w base b c p _ rb v (s.1.map encC) s.2 D x h1 h2 hG hx hl h6 h3 hbs h8 h9 h4 h7 h5 hlo rfl (by simpa using hn) hfit).mono ?_
 rintro e w' ⟨rfl,c',p',rb',v',D',k1,k2,k3,k4,k5,k6,k7,k8,k9⟩
 rw [gS_no hfit]
 refine ⟨rfl,⟨c',p',rb',v',D',k1,k2,?_,h4,k4,k5,k6,k7,k8⟩,k9⟩
 simpa using k3
def CksP (w:World) (base:Nat) (L:List (List Int)) (e:Ending) (w':World):Prop:=∃ad cc D,e=.returned (.slice ad L.length cc)∧Ck w' base (.slice ad L.length cc) L D∧Below base w w'
theorem Ck.form {D:Nat→Prop} {w:World} {base:Nat} {v:Value} {L:List (List Int)} (h:Ck w base v L D):∃ad cc,v=.slice ad L.length cc:=by
 obtain ⟨xs,h1,_⟩:=h.row
 exact zal h1
theorem packsSome (w:World) (base b c p n:Nat) (rb:Option Nat) (v:Value) (L:List (List Int)) (l:List Sm) (D:Nat→Prop) (hB:Blk w b 150 (pkC v c)) (hC:CS w c p rb 128 l) (hl:l.length≤1000000) (hl0:l≠[]) (hK:Ck w base v L D) (hbs:base≤w.heap.size) (hn:L.length=n) (hn9:n≤1000000000):
 Calls Tryz.prog 64 #[.pointer (some ⟨b,0,none⟩)] w fun e w'=>CksP w base (L++[encC l]) e w':=by
 have HK:=zaa hK
 have HN:=zaa hn
 have HBS:=zaa hbs
 have HC:=zaa hC
 have C0:Hid (∀wx,Below w.heap.size w wx→wx.cell? ⟨b,0,none⟩=some v):=zaa (fun wx hb=>(hB.later hb).cell 0)
 have C1:Hid (∀wx,Below w.heap.size w wx→wx.cell? ⟨b,1,none⟩=some (.pointer (some ⟨c,0,none⟩))):=zaa (fun wx hb=>(hB.later hb).cell 1)
 obtain ⟨m,hm⟩:∃m,(encC l).length=m:=⟨_,rfl⟩
 have HBY:Hid (∀wx,Below w.heap.size w wx→Calls Tryz.prog 85 #[.pointer (some ⟨c,0,none⟩)] wx fun e w'=>∃v,e=.returned v∧((∃ad c',v=.slice ad m c')∧w'.ownsRow wx.heap.size 5 1 v m (zae (encC l))∧Below wx.heap.size wx w')):=zaa (fun wx hb=>by
  refine (cbytesP wx c p rb 128 l (hC.later hb) hl).mono ?_
  rintro e w' ⟨ad,cc,rfl,o,bb⟩
  rw [hm] at o ⊢
  exact ⟨_,rfl,⟨ad,cc,rfl⟩,o,bb⟩)
 have HM:=zaa hm
 have HEB:Hid (Byte (encC l)):=zaa (zb5 l (by omega))
 obtain ⟨i7,hi7,hz7,hs7,hb7⟩:=zcw
 obtain ⟨xs,hxs⟩:=hK.row
 have OX2:=zaa hxs
 have OX:Hid (∀wx,Below w.heap.size w wx→wx.ownsRow base 84 1 v n xs):=zaa (fun wx hb=>by rw [←hn];exact owl hxs.1 hb)
 have c0:=C0.out _ (Below.refl _ _)
 have c1:=C1.out _ (Below.refl _ _)
 have hlt3:=hB.lt
 obtain ⟨q,hq⟩:∃q:Int,(l.length:Int)=q:=⟨_,rfl⟩
 have hq0:¬q=0:=by
  have:=List.length_pos_iff.2 hl0
  omega
 have HQ:=zaa hq
 clear hB hC hl hl0 hK hbs hn hm hxs hq
 go_enter Tryz.func64,Tryz.ntmps64
 go_wp2_with fail
 refine (clenP w c p rb 128 l HC.out).mono ?_
 rintro e w1 ⟨rfl,rfl⟩
 rw [HQ.out]
 go_wp2_with fail
 go_region_law (first
  |(refine zez (by rfl) 85 #[.pointer (some ⟨c,0,none⟩)] (by simp [execOp,resolve,Act.eval,go_sem]) _ (HBY.out _ ((Below.refl _ _).drew)) ?_
    rintro v1 w4 ⟨⟨ad1,cp1,rfl⟩,o1,b1⟩
    have O1:=zaa o1
    have B1:Hid (Below w1.heap.size w1 w4):=zaa (((Below.refl _ _).drew).trans b1)
    have d0:=C0.out _ B1.out
    have d1:=C1.out _ B1.out
    have d9:b<w4.heap.size:=Nat.lt_of_lt_of_le hlt3 B1.out.size
    clear o1 b1)
  |(refine zdl _ (by rfl) (.tmp 16) (.tmp 22) 34 (by rfl) 84 i7 (.slice none 0 0) 24 Tryz.underlying34 hi7 hz7 hs7 hb7 (by rfl) base v n xs (by rfl) (OX.out _ (B1.out.trans (((Below.refl _ _).alloc (Nat.le_refl _) _).mono B1.out.size))) ⟨w4.heap.size,0,none⟩ (.slice ad1 m cp1) (by rfl) ((Blk.new w4 84 [.slice ad1 m cp1]).cell 0) (by rfl) (by unfold maxLen;omega) (by omega) (by have:=B1.out.size;have:=HBS.out;simp;omega) ?_
    intro g5 cp5 w5 o5 p5
    have P5:Hid (Ck w5 base (.slice (some ⟨g5,0,none⟩) (L.length+1) cp5) (L++[encC l]) (fun i=>D i∨(w1.heap.size≤i∧∃x,ad1=some x∧x.block=i))∧Chg (fun i=>v.ownBlock=some i) w1 w5):=zaa (by
     have q:=Ck.push HK.out HBS.out HM.out O1.out HEB.out B1.out ((Below.refl _ _).alloc (Nat.le_refl _) _) OX2.out (by rw [HN.out];exact o5) p5
     exact ⟨q.1,q.2.1⟩)
    clear o5 p5))
 all_goals
  go_wp2_with fail
  go_ret
  have e9:(L++[encC l]).length=n+1:=by rw [List.length_append,HN.out];rfl
  refine ⟨some ⟨g5,0,none⟩,cp5,(fun i=>D i∨(w1.heap.size≤i∧∃x,ad1=some x∧x.block=i)),by rw [e9];rfl,?_,P5.out.2.below HBS.out (fun i hi=>(HK.out.vlt i hi).1)⟩
  have ck:=P5.out.1
  rw [HN.out] at ck
  rw [e9]
  exact ck
theorem chunksP {w:World} {base b:Nat} {s:Gs} (h:PK w base b s) (hk:OkG s) (hl:s.2.length≤1000000) (hn:s.1.length≤1000000000) (hbs:base≤w.heap.size):
 Calls Tryz.prog 64 #[.pointer (some ⟨b,0,none⟩)] w fun e w'=>CksP w base ((gO s).map encC) e w':=by
 obtain ⟨c,p,rb,v,D,h1,h2,h3,h4,h5,h6,h7,h8,h9⟩:=h
 by_cases h0:s.2=[]
 · have e:gO s=s.1:=by unfold gO;rw [if_pos h0]
   rw [e]
   rw [h0] at h2
   refine (packsNone w b c p rb v 128 h1 h2).mono ?_
   rintro e w' ⟨rfl,rfl⟩
   obtain ⟨ad,cc,rfl⟩:=h3.form
   exact ⟨ad,cc,D,rfl,h3,Below.refl _ _⟩
 rw [zcx h0,List.map_append]
 exact packsSome w base b c p _ rb v (s.1.map encC) s.2 D h1 h2 hl h0 h3 hbs rfl (by simpa using hn)
def ze2 (s:Gs) (x:Sm):Bool×Gs:=(true,gS s x)
theorem zdo:∀(l:List Sm) (s:Gs),zau ze2 l s=(true,l.foldl gS s)
 |[],s=>rfl
 |x :: l,s=>by
  show (if (ze2 s x).1 then zau ze2 l (ze2 s x).2 else _)=_
  rw [if_pos (show (ze2 s x).1=true from rfl)]
  exact zdo l (gS s x)
theorem zc5:∀(l:List Sm) (s:Gs),(l.foldl gS s).1.length≤s.1.length+l.length
 |[],s=>by simp
 |x :: l,s=>by
  have h:=zc5 l (gS s x)
  have h2:(gS s x).1.length≤s.1.length+1:=by unfold gS;split <;> simp
  simp only [List.foldl_cons,List.length_cons]
  omega
theorem eachPack (w0 w:World) (base b:Nat) (s:Gs) (ad:Option Addr) (N c:Nat) (l:List Sm) (h:PK w base b s) (hk:OkG s) (hG:Gv w) (hL:Ss w0 ad l) (hb0:Below base w0 w) (hbase:w0.heap.size≤base) (hN:l.length=N) (hN9:N≤1000000) (hn:s.1.length≤1000000) (hlo:2≤base) (hbs:base≤w.heap.size):
 Calls Tryz.prog 39 #[.slice ad N c,.func (.func 63) #[.pointer (some ⟨b,0,none⟩)] #[]] w fun e w'=>e=.returned (.bool true)∧PK w' base b (l.foldl gS s)∧Below base w w':=by
 have q:=eachP 63 (.pointer (some ⟨b,0,none⟩)) ze2 (fun s' wx=>PK wx base b s'∧Below base w wx) ad N c l s w (fun a w=>by kernel_rfl) hN (by omega) hL.sz ⟨h,Below.refl _ _⟩
  (fun s' wx wy ⟨h1,h2⟩ hb=>⟨h1.later hb,h2.trans (hb.mono (Nat.le_trans hbs h2.size))⟩)
  (fun s' wx ⟨h1,h2⟩=>by
    refine ⟨hL.sz,fun h0=>?_⟩
    obtain ⟨b',off,e,hlt,hc⟩:=hL.at' h0
    refine ⟨b',off,e,by have:=h2.size;omega,fun i x hx=>?_⟩
    have hbb:=hb0.trans h2
    rw [hbb.cell (p:=⟨b',off+i*2,none⟩) (by show b'<base;omega),hbb.cell (p:=⟨b',off+i*2+1,none⟩) (by show b'<base;omega)]
    exact hc i x hx)
  (fun i x wx hx hox ⟨h1,h2⟩=>by
    have hi:=(List.getElem?_eq_some_iff.1 hx).1
    rw [zdo] at h1 ⊢
    have h1':PK wx base b ((l.take i).foldl gS s):=h1
    have hok:OkG ((l.take i).foldl gS s):=hk.fold (fun y hy=>hL.sz y (List.mem_of_mem_take hy))
    refine (pkTakeP (s:=(l.take i).foldl gS s) h1' (hG.bel h2 hlo) hox (by have:=za8 hok.fit2;omega) (by have:=zc5 (l.take i) s;rw [List.length_take] at this;omega) hlo (Nat.le_trans hbs h2.size)).mono ?_
    rintro e w' ⟨rfl,k1,k2,_⟩
    exact ⟨rfl,k1,h2.trans k2⟩)
 refine q.mono ?_
 rw [zdo]
 rintro e w' ⟨rfl,h1,h2⟩
 exact ⟨rfl,h1,h2⟩
def cI (l:List Nat):List Value:=l.map fun (i:Nat)=>Value.int .i64 (i:Int)
theorem cI_len (l:List Nat):(cI l).length=l.length:=by simp [cI]
structure Stm (w:World) (S p T:Nat) (sh:ByteArray→Option Nat) (R:ByteArray→Int→Value) (Z:ByteArray→List En):Prop where
 blk:Blk w S 75 [.pointer (some ⟨p,0,none⟩),.map (some T)]
 top:∃lo:List (ByteArray×Value),Ml Value.string w T lo∧∀o,al lo o=(sh o).map fun sb=>Value.map (some sb)
 set:∀o sb,sh o=some sb→Ml K.K3 w sb ((Z o).map fun e=>(e.1,R o e.1))∧sb≠T
 non:∀o,sh o=none→Z o=[]
 inj:∀o o' sb,sh o=some sb→sh o'=some sb→o=o'
 row:∀o e,e∈Z o→w.ownsRow 0 3 1 (R o e.1) e.2.1.length (cI e.2.1)
 rin:∀o e o' e' b,e∈Z o→e'∈Z o'→(R o e.1).ownBlock=some b→(R o' e'.1).ownBlock=some b→o=o'∧e.1=e'.1
def SFp (T:Nat) (sh:ByteArray→Option Nat) (R:ByteArray→Int→Value) (Z:ByteArray→List En) (i:Nat):Prop:=i=T∨(∃o,sh o=some i)∨∃o e,e∈Z o∧(R o e.1).ownBlock=some i
theorem Stm.chg {F:Nat→Prop} {w w':World} {S p T:Nat} {sh:ByteArray→Option Nat} {R:ByteArray→Int→Value} {Z:ByteArray→List En} (h:Stm w S p T sh R Z) (hc:Chg F w w') (hS:¬F S) (hF:∀i,SFp T sh R Z i→¬F i):Stm w' S p T sh R Z:=by
 obtain ⟨lo,l1,l2⟩:=h.top
 exact ⟨hc.blk h.blk hS,⟨lo,l1.chg hc (hF T (.inl rfl)),l2⟩,fun o sb e=>⟨(h.set o sb e).1.chg hc (hF sb (.inr (.inl ⟨o,e⟩))),(h.set o sb e).2⟩,h.non,h.inj,fun o e he=>hc.owns (h.row o e he) (fun g hg=>hF g (.inr (.inr ⟨o,e,he,hg⟩))),h.rin⟩
theorem Stm.later {w w':World} {S p T:Nat} {sh:ByteArray→Option Nat} {R:ByteArray→Int→Value} {Z:ByteArray→List En} (h:Stm w S p T sh R Z) (hb:Below w.heap.size w w'):Stm w' S p T sh R Z:=h.chg (Chg.of_below (F:=fun _=>False) hb) (fun h=>h) (fun _ _ h=>h)
theorem Stm.tag {w:World} {S p T:Nat} {sh:ByteArray→Option Nat} {R:ByteArray→Int→Value} {Z:ByteArray→List En} (h:Stm w S p T sh R Z) {i:Nat} (hi:SFp T sh R Z i):i<w.heap.size∧∀t,Tg w i t→t=3:=by
 rcases hi with rfl|⟨o,e⟩|⟨o,e,he,hg⟩
 · obtain ⟨lo,l1,l2⟩:=h.top
   exact ⟨l1.lt,fun t ht=>absurd ht (l1.tg t)⟩
 · exact ⟨(h.set o i e).1.lt,fun t ht=>absurd ht ((h.set o i e).1.tg t)⟩
 exact ⟨za0 (h.row o e he) i hg,fun t ht=>(ht.one (zab (h.row o e he) i hg))⟩
def SQ (F:Nat→Prop) (w:World) (S p n:Nat) (st:K.Sx) (Z:ByteArray→List En):Prop:=∃T sh R G,Stm w S p T sh R Z∧K.PQ G w p n st∧SZ n st Z∧(∀i,G i→¬SFp T sh R Z i)∧∀i,F i↔(SFp T sh R Z i∨G i)
theorem SQ.tag {F:Nat→Prop} {w:World} {S p n:Nat} {st:K.Sx} {Z:ByteArray→List En} (h:SQ F w S p n st Z) {i:Nat} (hi:F i):i<w.heap.size∧∀t,Tg w i t→t=3∨t=51:=by
 obtain ⟨T,sh,R,G,h1,h2,h3,h4,h5⟩:=h
 rcases (h5 i).1 hi with hi|hi
 · exact ⟨(h1.tag hi).1,fun t ht=>.inl ((h1.tag hi).2 t ht)⟩
 exact ⟨h2.lt hi,fun t ht=>.inr (h2.tag hi t ht)⟩
theorem SQ.pool {F:Nat→Prop} {w:World} {S p n:Nat} {st:K.Sx} {Z:ByteArray→List En} (h:SQ F w S p n st Z):∃G,K.PQ G w p n st∧(∀i,G i→F i):=by
 obtain ⟨T,sh,R,G,h1,h2,h3,h4,h5⟩:=h
 exact ⟨G,h2,fun i hi=>(h5 i).2 (.inr hi)⟩
theorem SQ.sz {F:Nat→Prop} {w:World} {S p n:Nat} {st:K.Sx} {Z:ByteArray→List En} (h:SQ F w S p n st Z):SZ n st Z:=by
 obtain ⟨T,sh,R,G,h1,h2,h3,h4,h5⟩:=h
 exact h3
theorem SQ.blk {F:Nat→Prop} {w:World} {S p n:Nat} {st:K.Sx} {Z:ByteArray→List En} (h:SQ F w S p n st Z):Tg w S 75∧Tg w p 69:=by
 obtain ⟨T,sh,R,G,h1,h2,h3,h4,h5⟩:=h
 exact ⟨h1.blk.tg,h2.own⟩
theorem SQ.chg {F H:Nat→Prop} {w w':World} {S p n:Nat} {st:K.Sx} {Z:ByteArray→List En} (h:SQ F w S p n st Z) (hc:Chg H w w') (hS:¬H S) (hp:¬H p) (hF:∀i,F i→¬H i):SQ F w' S p n st Z:=by
 obtain ⟨T,sh,R,G,h1,h2,h3,h4,h5⟩:=h
 exact ⟨T,sh,R,G,h1.chg hc hS (fun i hi=>hF i ((h5 i).2 (.inl hi))),h2.chg hc (fun i hi=>hF i ((h5 i).2 (.inr hi))) hp,h3,h4,h5⟩
theorem SQ.later {F:Nat→Prop} {w w':World} {S p n:Nat} {st:K.Sx} {Z:ByteArray→List En} (h:SQ F w S p n st Z) (hb:Below w.heap.size w w'):SQ F w' S p n st Z:=h.chg (Chg.of_below (F:=fun _=>False) hb) (fun h=>h) (fun h=>h) (fun _ _ h=>h)
theorem built58s (p T:Nat):Tryz.prog.built 75 [(0,.pointer (some ⟨p,0,none⟩)),(1,.map (some T))]=some #[.pointer (some ⟨p,0,none⟩),.map (some T)]:=by kernel_rfl
theorem storeP (G:Nat→Prop) (w:World) (p n:Nat) (hP:K.PQ G w p n (fun _=>none)):
 Calls Tryz.prog 8 #[.pointer (some ⟨p,0,none⟩)] w fun e w'=>∃S F,e=.returned (.pointer (some ⟨S,0,none⟩))∧SQ F w' S p n (fun _=>none) (fun _=>[])∧Below w.heap.size w w'∧w.heap.size≤S∧∀i,F i→G i∨w.heap.size≤i:=by
 have hmm:=@run_makeMap Tryz.prog
 have HP:=zaa hP
 clear hP
 go_enter Tryz.func8,Tryz.ntmps8
 go_wp2_with (first
  |(refine wpList_build_to rfl 75 #[(0,.tmp 3),(1,.tmp 4)] rfl [(0,.pointer (some ⟨p,0,none⟩)),(1,.map (some w.heap.size))] [.pointer (some ⟨p,0,none⟩),.map (some w.heap.size)].toArray rfl (built58s _ _) ?_)
  |(refine zac rfl 75 (.tmp 5) rfl [.pointer (some ⟨p,0,none⟩),.map (some w.heap.size)] rfl ?_;intro w2 B2 bl2 hz2))
 go_ret
 have hsa:(w.alloc (.map #[] 0)).heap.size=w.heap.size+1:=by simp
 rw [hsa] at B2
 have m1:Ml Value.string (w.alloc (.map #[] 0)) w.heap.size []:=Ml.made Value.string w
 have bl1:Below w.heap.size w (w.alloc (.map #[] 0)):=(Below.refl _ _).alloc (Nat.le_refl _) _
 have bl:Below w.heap.size w w2:=bl1.trans (bl2.mono bl1.size)
 refine ⟨_,fun i=>SFp w.heap.size (fun _=>none) (fun _ _=>.slice none 0 0) (fun _=>[]) i∨G i,rfl,⟨w.heap.size,fun _=>none,fun _ _=>.slice none 0 0,G,⟨B2,⟨[],m1.later bl2,fun _=>rfl⟩,fun o sb e=>(by cases e),fun _ _=>rfl,fun o o' sb e=>(by cases e),fun o e he=>(by simp at he),fun o e o' e' b he=>(by simp at he)⟩,HP.out.later bl,⟨fun _=>List.Pairwise.nil,fun o e he=>(by simp at he),fun _=>(by simp),fun o i=>(by simp),fun i o d e=>(by cases e)⟩,?_,fun i=>Iff.rfl⟩,bl,by omega,?_⟩
 · rintro i hi (rfl|⟨o,e⟩|⟨o,e,he,_⟩)
   · have:=HP.out.lt hi;omega
   · cases e
   simp at he
 rintro i ((rfl|⟨o,e⟩|⟨o,e,he,_⟩)|hi)
 · exact .inr (Nat.le_refl _)
 · cases e
 · simp at he
 exact .inl hi
def slV (R:ByteArray→Int→Value) (Z:ByteArray→List En) (o:ByteArray) (k:Int):Value:=(al ((Z o).map fun e=>(e.1,R o e.1)) k).getD (.slice none 0 0)
theorem slV_in {w:World} {S p T:Nat} {sh:ByteArray→Option Nat} {R:ByteArray→Int→Value} {Z:ByteArray→List En} (h:Stm w S p T sh R Z) {o:ByteArray} {k:Int} {x:List Nat×List Sm} (hkey:(Z o).Pairwise (fun p q=>¬p.1=q.1)) (hm:(k,x)∈Z o):slV R Z o k=R o k:=by
 unfold slV
 have:((Z o).map fun e=>(e.1,R o e.1)).Pairwise (fun p q=>¬p.1=q.1):=by
  rw [List.pairwise_map]
  exact hkey
 rw [zdx this (List.mem_map.2 ⟨(k,x),hm,rfl⟩)]
 rfl
theorem ze0 {R:ByteArray→Int→Value} {Z:ByteArray→List En} {o:ByteArray} {k:Int} (hm:∀p∈Z o,¬p.1=k):slV R Z o k=.slice none 0 0:=by
 unfold slV
 rw [zdh (by
  intro q hq
  obtain ⟨e,he,rfl⟩:=List.mem_map.1 hq
  exact hm e he)]
 rfl
theorem Stm.slots {w:World} {S p T:Nat} {sh:ByteArray→Option Nat} {R:ByteArray→Int→Value} {Z:ByteArray→List En} (h:Stm w S p T sh R Z) (o:ByteArray) (k:Int) (hkey:(Z o).Pairwise (fun p q=>¬p.1=q.1)):w.ownsRow 0 3 1 (slV R Z o k) (enL (Z o) k).1.length (cI (enL (Z o) k).1):=by
 rcases zbz (l:=Z o) (k:=k) with hm|⟨he,hm⟩
 · rw [slV_in h hkey hm]
   exact h.row o _ hm
 rw [ze0 hm,he]
 exact (World.ownsRow_nil w 0 3 1:w.ownsRow 0 3 1 (.slice none 0 0) 0 [])
theorem zero68 (w:World):(zeroValue 95).run Tryz.prog w=.ok (.map none) w:=by kernel_rfl
theorem zero23 (w:World):(zeroValue 92).run Tryz.prog w=.ok (.slice none 0 0) w:=by kernel_rfl
theorem Stm.lookT {w:World} {S p T:Nat} {sh:ByteArray→Option Nat} {R:ByteArray→Int→Value} {Z:ByteArray→List En} (h:Stm w S p T sh R Z) (o:ByteArray):(Instr.lookup 73 (.map (some T)) (.string o) false).run Tryz.prog w=.ok (.map (sh o)) w:=by
 obtain ⟨lo,h1,h2⟩:=h.top
 have:=h1.look K.kyS Tryz.underlying73 (zero68 w) o false
 rw [h2 o] at this
 rw [this]
 cases sh o <;> rfl
theorem Stm.lookS {w:World} {S p T:Nat} {sh:ByteArray→Option Nat} {R:ByteArray→Int→Value} {Z:ByteArray→List En} (h:Stm w S p T sh R Z) (o:ByteArray) (k:Int):(Instr.lookup 95 (.map (sh o)) (.int .i64 k) false).run Tryz.prog w=.ok (slV R Z o k) w:=by
 cases e:sh o with
 |none=>
  have:=ze4 (w:=w) K.kyI Tryz.underlying95 (zero23 w) k false
  have e2:slV R Z o k=.slice none 0 0:=by unfold slV;rw [h.non o e];rfl
  rw [e2]
  exact this
 |some sb=>exact (h.set o sb e).1.look K.kyI Tryz.underlying95 (zero23 w) k false
theorem zai {w:World} {base:Nat} {e:TypeId} {size g n cap:Nat} {xs:List Value} (hO:w.ownsRow base e size (.slice (some ⟨g,0,none⟩) n cap) n xs) (q:Nat) (x:Value) (hq:xs[q]?=some x):w.cell? ⟨g,q,none⟩=some x:=by
 have hl:=(List.getElem?_eq_some_iff.1 hq).1
 have:=hO.cellAt q (by have:=hO.1;omega)
 rw [this]
 exact hq
theorem zbc {w:World} {base:Nat} {e:TypeId} {ad:Option Addr} {n c:Nat} {xs:List Value} (h:w.ownsRow base e 1 (.slice ad n c) n xs) (hp:0<n):∃g,ad=some ⟨g,0,none⟩∧base≤g:=by
 rcases h.2 with ⟨_,h0⟩|⟨g,c',cur,hv,hb,_⟩
 · omega
 simp only [Value.slice.injEq] at hv
 exact ⟨g,hv.1,hb⟩
theorem openP (o:ByteArray) (k:Int) (F:Nat→Prop) (S p n:Nat) (st:K.Sx) (Z:ByteArray→List En) (w:World) (h:SQ F w S p n st Z) (hG:Gv w) (hlo:2≤w.heap.size):
 Calls Tryz.prog 40 #[.pointer (some ⟨S,0,none⟩),.string o,.int .i64 k] w fun e w'=>SamP (gF (enL (Z o) k).2).2 w e w':=by
 have hz:=h.sz
 have hen:=hz.en o k
 have hmem:=zbz (l:=Z o) (k:=k)
 obtain ⟨T,sh,R,G,h1,h2,h3,h4,h5⟩:=h
 have c1:w.cell? ⟨S,1,none⟩=some (.map (some T)):=h1.blk.cell 1
 have l1:=h1.lookT o
 have l2:=h1.lookS o k
 have hr:=h1.slots o k (hz.key o)
 obtain ⟨ad,c,hv⟩:=zal hr
 rw [hv] at l2 hr
 have HSI:=zaa (fun (s:Nat)=>zd0 S _ (s:Int) G p n st w h1.blk h2 hz.small hG hlo)
 have hsam:=fun i s g hm=>hz.samV (o:=o) (e:=(k,enL (Z o) k)) (i:=i) (s:=s) (g:=g) hm
 generalize enL (Z o) k=q9 at*
 obtain ⟨sl,A⟩:=q9
 simp only at*
 clear h1 h2 h3 h4 h5 hv
 generalize sh o=sho at*
 by_cases h0:sl=[]
 · subst h0
   have hA:A=[]:=hen.2.2.2.1 rfl
   subst hA
   clear hsam hmem hen HSI hr
   go_enter Tryz.func40,Tryz.ntmps40
   go_wp2_with fail
   go_ret
   exact ⟨none,0,rfl,World.ownsRow_nil w w.heap.size 53 2,by simp [gF],Below.refl _ _⟩
 have hm:(k,(sl,A))∈Z o:=by
  rcases hmem with hm|⟨e,_⟩
  · exact hm
  exact absurd (congrArg Prod.fst e) h0
 have hA:A≠[]:=fun e=>h0 (hen.2.2.2.2 e)
 have hp:=List.length_pos_iff.2 h0
 have hl2:=hen.1.1
 have hg2:(gF A).2≠[]:=fun e=>hA ((zcy hen.2.2.1).1 e)
 rw [zcx hg2,List.length_append] at hl2
 simp only [List.length_cons,List.length_nil] at hl2
 obtain ⟨s,hs⟩:∃s,sl[sl.length - 1]?=some s:=⟨sl[sl.length - 1]'(by omega),by simp⟩
 have hq:=hsam (sl.length - 1) s (gF A).2 hm hs (by
  rw [zcx hg2,List.getElem?_append_right (by omega),show sl.length - 1 - (gF A).1.length=0 by omega];rfl)
 obtain ⟨g,rfl,_⟩:=zbc hr hp
 have hc:w.cell? ⟨g,sl.length - 1,none⟩=some (.int .i64 (s:Int)):=zai hr (sl.length - 1) _ (by unfold cI;rw [List.getElem?_map,hs];rfl)
 have HS:=zaa (HSI.out s)
 have HQ:=zaa hq
 have hcap:=zc4 hr
 obtain ⟨N,hN⟩:∃N,sl.length=N+1:=⟨sl.length - 1,by omega⟩
 rw [hN] at hc l2 hcap
 have e1:N+1 - 1=N:=by omega
 rw [e1] at hc
 have hcap1:=hcap.2.1
 have hcap2:c≤9223372036854775807:=by have:=hcap.2.2.1;unfold maxLen at this;omega
 have hcap3:N≤9223372036854775806:=by omega
 clear hsam hmem hen HSI hr hq hs hcap hp hl2 hN e1 hm hA h0 hg2 hz hG hlo hcap1 hcap2
 go_enter Tryz.func40,Tryz.ntmps40
 go_wp2_with fail
 refine HS.out.mono ?_
 rintro e w' hq
 have HE:=zaa hq
 obtain ⟨ad',c',rfl,q⟩:=hq
 have e9:=HQ.out.1
 clear q
 go_wp2_with fail
 go_ret
 have q2:=HE.out
 rw [e9] at q2
 exact q2
def RiT (w0:World) (t:Nat) (s:Sm×Bool) (w:World):Prop:=Blk w t 98 (riC s.1 s.2)∧Chg (fun i=>i=t) w0 w
theorem zeq (w:World) (t:Nat) (s:Sm×Bool) (ad:Option Addr) (N c:Nat) (l:List Sm) (hB:Blk w t 98 (riC s.1 s.2)) (hL:Ss w ad l) (hN:l.length=N) (hN9:N≤1000000) (hne:∀x,ad=some x→l≠[]→x.block≠t):
 Calls Tryz.prog 39 #[.slice ad N c,.func (.func 41) #[.pointer (some ⟨t,0,none⟩)] #[]] w fun e w'=>e=.returned (.bool (zau riS l s).1)∧RiT w t (zau riS l s).2 w':=by
 refine eachP 41 (.pointer (some ⟨t,0,none⟩)) riS (RiT w t) ad N c l s w (fun a w=>by kernel_rfl) hN (by omega) hL.sz ⟨hB,Chg.refl _ _⟩
  (fun s' wx wy ⟨h1,h2⟩ hb=>⟨h1.later hb,h2.trans (Chg.of_below (F:=fun i=>i=t) hb) (fun _ _ e=>e)⟩)
  (fun s' wx ⟨h1,h2⟩=>by
    refine ⟨hL.sz,fun h0=>?_⟩
    obtain ⟨b',off,e,hlt,hc⟩:=hL.at' h0
    have hbt:b'≠t:=hne _ e h0
    refine ⟨b',off,e,Nat.lt_of_lt_of_le hlt h2.size,fun i x hx=>?_⟩
    have hbb:=h2.block b' hlt hbt
    have e1:∀j,wx.cell? ⟨b',j,none⟩=w.cell? ⟨b',j,none⟩:=fun j=>World.cell?_of_block hbb
    rw [e1,e1]
    exact hc i x hx)
  (fun i x wx hx hox ⟨h1,h2⟩=>?_)
 generalize (zau riS (l.take i) s).2=s' at*
 by_cases hs:s'.2=true∧x.t≤s'.1.t
 · have e:riS s' x=(false,s'):=by unfold riS;rw [if_pos hs]
   rw [e]
   have h1':=h1
   rw [hs.1] at h1
   refine (riseNo t s'.1 x wx h1 hs.2).mono ?_
   rintro e w' ⟨rfl,hb⟩
   exact ⟨rfl,h1'.later hb,h2.trans (Chg.of_below (F:=fun i=>i=t) hb) (fun _ _ e=>e)⟩
 have e:riS s' x=(true,(x,true)):=by unfold riS;rw [if_neg hs]
 rw [e]
 refine (riseYes t s'.1 x s'.2 wx h1 (fun e=>by
  by_cases h9:x.t≤s'.1.t
  · exact absurd ⟨e,h9⟩ hs
  omega)).mono ?_
 rintro e w' ⟨rfl,k1,k2⟩
 exact ⟨rfl,k1,h2.trans k2 (fun _ _ e=>e)⟩
theorem Ck.base {D:Nat→Prop} {w:World} {base base':Nat} {v:Value} {L:List (List Int)} (h:Ck w base v L D) (hb:base'≤base):Ck w base' v L D:=by
 obtain ⟨xs,h1,h2⟩:=h.row
 refine ⟨fun i hi=>⟨Nat.le_trans hb (h.lt i hi).1,(h.lt i hi).2⟩,h.off,xs,zbq h1 (fun g hg=>Nat.le_trans hb (h.vlt g hg).1),h2⟩
def BhP (w:World) (k:Int) (sl:List Nat) (A l:List Sm) (e:Ending) (w':World):Prop:=Below w.heap.size w w'∧
 ((k<0∧e=.returned (.tuple #[.slice none 0 0,.int .i64 0,.int .i64 1]))∨(0≤k∧¬Ris (A++l)∧e=.returned (.tuple #[.slice none 0 0,.int .i64 0,.int .i64 140]))∨
   (0≤k∧Ris (A++l)∧∃ad cc D,e=.returned (.tuple #[.slice ad (gO (gB A l)).length cc,.int .i64 (((gO (gB A l)).length:Int) - (hadL sl:Int)),.int .i64 0])∧Ck w' w.heap.size (.slice ad (gO (gB A l)).length cc) ((gO (gB A l)).map encC) D))
theorem info75:(Tryz.prog.info? 98).map (fun i=>i.zero.map (·.cells))=some (some (riC z0 false).toArray):=by kernel_rfl
theorem behindP (o:ByteArray) (k:Int) (F:Nat→Prop) (S p n:Nat) (st:K.Sx) (Z:ByteArray→List En) (ad:Option Addr) (N c:Nat) (l:List Sm) (w:World) (h:SQ F w S p n st Z) (hG:Gv w) (hlo:2≤w.heap.size) (hL:Ss w ad l) (hN:l.length=N) (hN9:N≤100000):
 Calls Tryz.prog 34 #[.pointer (some ⟨S,0,none⟩),.string o,.int .i64 k,.slice ad N c] w fun e w'=>BhP w k (enL (Z o) k).1 (enL (Z o) k).2 l e w':=by
 have hz:=h.sz
 have hen:=hz.en o k
 have HO:=zaa (openP o k F S p n st Z w h hG hlo)
 generalize enL (Z o) k=q9 at*
 obtain ⟨sl,A⟩:=q9
 simp only at*
 have HG:=zaa hG
 have HLO:=zaa hlo
 have HL:=zaa hL
 have HN:=zaa hN
 have HE:=zaa hen
 have hopn:=gF_open hen.2.2.1
 have hokg:=okG hen.2.2.1
 have hris:=ris_open (l:=l) hen.2.2.1 hen.2.1
 have hnil:=zcy hen.2.2.1
 have HB:Hid (gB A l=l.foldl gS ([],(gF A).2)):=zaa rfl
 obtain ⟨op,hop⟩:∃op,(gF A).2=op:=⟨_,rfl⟩
 rw [hop] at HO HB hopn hris hnil
 have hfew:op.length≤1000:=by rw [←hop];exact za8 hokg.fit2
 have HP:=zaa (And.intro hopn (And.intro hris hnil))
 have hok2:∀x∈op,OkS x:=by rw [←hop];exact hokg.ok2
 have HK2:=zaa hok2
 have hfit:(encC op).length≤128:=by rw [←hop];exact hokg.fit2
 have HF:=zaa hfit
 obtain ⟨M,hM⟩:∃M,op.length=M:=⟨_,rfl⟩
 have HM:=zaa hM
 have hM9:M≤1000:=by omega
 clear h hz hG hlo hL hN hen hopn hokg hris hnil hop hfew hok2 hfit hM
 by_cases hk:k<0
 · clear HO
   go_enter Tryz.func34,Tryz.ntmps34
   go_wp2_with fail
   go_ret3
   exact ⟨Below.refl _ _,.inl ⟨hk,rfl⟩⟩
 have hk0:0≤k:=by omega
 go_enter Tryz.func34,Tryz.ntmps34
 go_wp2_with fail
 refine HO.out.mono ?_
 rintro e w1 ⟨ad1,c1,rfl,o1,k1,b1⟩
 rw [HM.out] at o1 ⊢
 have S1:=zaa (zan o1 HK2.out)
 have B1:=zaa b1
 clear o1 k1 b1 HO
 go_wp2_with (refine zap rfl 98 rfl 12 rfl (riC z0 false) info75 ?_;intro w2 B2 bl2 hz2;have HB2:=zaa B2;have BL2:=zaa bl2;clear B2 bl2)
 refine (zeq w2 w1.heap.size (z0,false) ad1 M c1 op HB2.out (S1.out.later BL2.out) HM.out (by omega) (fun x hx h0 e=>by
  obtain ⟨b',off,e2,hlt,_⟩:=S1.out.at' h0
  rw [hx] at e2
  cases e2
  simp only at e
  omega)).mono ?_
 rintro e w3 ⟨rfl,t3,g3⟩
 have B3:Hid (Below w.heap.size w w3):=zaa ((B1.out.trans (BL2.out.mono B1.out.size)).trans (g3.below (Nat.le_trans B1.out.size BL2.out.size) (fun i hi=>by rw [hi];exact B1.out.size)))
 have B13:Hid (Below w1.heap.size w1 w3):=zaa (BL2.out.trans (g3.below BL2.out.size (fun i hi=>by rw [hi];exact Nat.le_refl _)))
 have T3:=zaa t3
 clear t3 g3
 generalize (zau riS op (z0,false)).1=rr
 go_wp2_with fail
 refine (zeq w3 w1.heap.size (zau riS op (z0,false)).2 ad N c l T3.out (HL.out.later B3.out) HN.out (by omega) (fun x hx h0 e=>by
  obtain ⟨b',off,e2,hlt,_⟩:=HL.out.at' h0
  rw [hx] at e2
  cases e2
  simp only at e
  have:=B1.out.size
  omega)).mono ?_
 rintro e w4 ⟨rfl,t4,g4⟩
 have B4:Hid (Below w.heap.size w w4):=zaa (B3.out.trans (g4.below B3.out.size (fun i hi=>by rw [hi];exact B1.out.size)))
 have B14:Hid (Below w1.heap.size w1 w4):=zaa (B13.out.trans (g4.below B13.out.size (fun i hi=>by rw [hi];exact Nat.le_refl _)))
 clear t4 g4
 rw [ri_two HP.out.2.1.1]
 by_cases hr:Ris (op++l)
 · have HR:=zaa hr
   rw [decide_eq_true hr]
   clear hr
   go_wp2_with fail
   have hlo4:2≤w4.heap.size:=Nat.le_trans HLO.out B4.out.size
   refine (packerP w4 hlo4).mono ?_
   rintro e w5 ⟨b,rfl,p5,b5⟩
   have P5:=zaa p5
   have B5:=zaa b5
   clear p5 b5
   go_wp2_with fail
   refine (eachPack w4 w5 w4.heap.size b ([],[]) ad1 M c1 op P5.out OkG.nil ((HG.out.bel B4.out HLO.out).later B5.out) (S1.out.later B14.out) B5.out (Nat.le_refl _) HM.out (by omega) (by simp) hlo4 B5.out.size).mono ?_
   rintro e w6 ⟨rfl,p6,b6⟩
   rw [HP.out.1] at p6
   have P6:=zaa p6
   have B6:Hid (Below w4.heap.size w4 w6):=zaa (B5.out.trans b6)
   clear p6 b6
   go_wp2_with fail
   have hokop:OkG ([],op):=⟨by simp,fun _=>rfl,by simp,HF.out,by simp,HK2.out⟩
   refine (eachPack w4 w6 w4.heap.size b ([],op) ad N c l P6.out hokop ((HG.out.bel B4.out HLO.out).later B6.out) (HL.out.later B4.out) B6.out (Nat.le_refl _) HN.out (by omega) (by simp) hlo4 B6.out.size).mono ?_
   rintro e w7 ⟨rfl,p7,b7⟩
   have hok7:OkG (l.foldl gS ([],op)):=hokop.fold HL.out.sz
   rw [←HB.out] at p7 hok7
   have h7n:(gB A l).1.length≤1000000:=by have:=zc5 l ([],op);rw [←HB.out,HN.out] at this;simp only [List.length_nil] at this;omega
   have h7l:(gB A l).2.length≤1000000:=by have:=za8 hok7.fit2;omega
   have P7:=zaa p7
   have B7:Hid (Below w4.heap.size w4 w7):=zaa (B6.out.trans b7)
   have HC:=zaa (chunksP P7.out hok7 h7l (by omega) B7.out.size)
   clear p7 b7 hok7 h7n h7l hokop
   go_wp2_with fail
   refine HC.out.mono ?_
   rintro e w8 ⟨ad8,c8,D8,rfl,ck8,b8⟩
   have B8:Hid (Below w.heap.size w w8):=zaa (B4.out.trans ((B7.out.trans b8).mono B4.out.size))
   rw [List.length_map] at ck8 ⊢
   have C8:=zaa (ck8.base B4.out.size)
   have hgl:(gO (gB A l)).length≤1000000000:=by
    obtain ⟨xs,q1,q2⟩:=ck8.row
    have hok7:OkG (l.foldl gS ([],op)):=OkG.fold ⟨by simp,fun _=>rfl,by simp,HF.out,by simp,HK2.out⟩ HL.out.sz
    have:=zdt hok7
    rw [←HB.out,zd3] at this
    have h9:=zdu l ([],op)
    rw [←HB.out] at h9
    rw [h9] at this
    simp only [List.flatten_nil,List.nil_append,List.length_append,HM.out,HN.out] at this
    omega
   obtain ⟨X,hX⟩:∃X,(gO (gB A l)).length=X:=⟨_,rfl⟩
   rw [hX] at hgl C8 ⊢
   have HX:=zaa hX
   have HS:Hid ((M=0→hadL sl=0)∧(M≠0→hadL sl=1)):=zaa (by
    have hsa:sl=[]↔A=[]:=HE.out.2.2.2
    have hoa:op=[]↔A=[]:=HP.out.2.2
    have hom:=HM.out
    unfold hadL
    constructor
    · intro e
      have:op=[]:=List.length_eq_zero_iff.1 (by omega)
      rw [hsa.2 (hoa.1 this)]
      rfl
    intro e
    have:sl≠[]:=fun e2=>e (by rw [←hom,hoa.2 (hsa.1 e2)];rfl)
    have:=List.length_pos_iff.2 this
    omega)
   clear ck8 b8 hX HC
   have HFI:Hid (∀q:Int,q=(hadL sl:Int)→BhP w k sl A l (.returned (.tuple #[.slice ad8 X c8,.int .i64 ((X:Int) - q),.int .i64 0])) w8):=zaa (fun q hq=>⟨B8.out,.inr (.inr ⟨hk0,HP.out.2.1.2.1 HR.out,ad8,c8,D8,by rw [HX.out,hq],by rw [HX.out];exact C8.out⟩)⟩)
   rcases (show M=0∨M=1∨2≤M by omega) with hM0|hM1|hM2
   · have H0:=zaa (HFI.out 0 (by rw [HS.out.1 hM0];rfl))
     subst hM0
     simp only [Int.sub_zero] at H0
     go_wp2_with fail
     go_ret3
     first|exact H0.out|simpa using H0.out
   · have H0:=zaa (HFI.out 1 (by rw [HS.out.2 (by omega)];rfl))
     subst hM1
     go_wp2_with fail
     go_ret3
     exact H0.out
   have H0:=zaa (HFI.out 1 (by rw [HS.out.2 (by omega)];rfl))
   have hm1:¬(M:Int)<1:=by omega
   have hm2:(1:Int)<(M:Int):=by omega
   go_wp2_with fail
   go_ret3
   exact H0.out
 have HR:=zaa hr
 rw [decide_eq_false hr]
 clear hr
 go_wp2_with fail
 go_ret3
 exact ⟨B4.out,.inr (.inl ⟨hk0,fun e=>HR.out (HP.out.2.1.2.2 e),rfl⟩)⟩
def nOf:Value→Nat|.int _ q=>q.toNat|_=>0
structure LayOk (C:List (List Int)) (l:List Sm):Prop where
 ne:l≠[]
 ris:Ris l
 ok:∀x∈l,OkS x
 eq:(gO (gF l)).map encC=C
theorem zfv {g:List Sm} (h:(encC g).length≤128):g.length<18446744073709551616:=by
 have:=za8 h
 omega
theorem LayOk.grp {C:List (List Int)} {l:List Sm} (h:LayOk C l) {i:Nat} {b:List Int} (hb:C[i]?=some b):∃g,(gO (gF l))[i]?=some g∧b=encC g∧b.length≤128∧rdR b=some g∧g≠[]:=by
 rw [←h.eq,List.getElem?_map] at hb
 cases hg:(gO (gF l))[i]? with
 |none=>rw [hg] at hb;cases hb
 |some g=>
  rw [hg] at hb
  injection hb with hb
  obtain ⟨h1,h2,h3⟩:=zcs (okG h.ok) g (List.mem_of_getElem? hg)
  exact ⟨g,rfl,hb.symm,by rw [←hb];exact h2,by rw [←hb];exact rd_enc h3 (zfv h2),h1⟩
def RdAll (C:List (List Int)) (G:List (List Sm)):Prop:=C.map rdR=G.map some
theorem RdAll.snoc {C:List (List Int)} {G:List (List Sm)} (h:RdAll C G) {b:List Int} {g:List Sm} (hb:rdR b=some g):RdAll (C++[b]) (G++[g]):=by
 unfold RdAll at*
 rw [List.map_append,List.map_append,h]
 simp [hb]
theorem LayOk.all {C:List (List Int)} {l:List Sm} (h:LayOk C l):RdAll C (gO (gF l)):=by
 unfold RdAll
 conv=>lhs;rw [←h.eq]
 rw [List.map_map]
 refine List.map_congr_left fun g hg=>?_
 obtain ⟨h1,h2,h3⟩:=zcs (okG h.ok) g hg
 exact rd_enc h3 (zfv h2)
theorem LayOk.pre {C:List (List Int)} {l:List Sm} (h:LayOk C l) {i:Nat} {G:List (List Sm)} (k:RdAll (C.take i) G):∃r,l=G.flatten++r:=by
 have h1:=h.all
 unfold RdAll at h1 k
 have h2:(C.map rdR).take i=G.map some:=by rw [←List.map_take];exact k
 rw [h1,←List.map_take] at h2
 have h3:(gO (gF l)).take i=G:=(List.map_inj_right (fun x y h=>Option.some.inj h)).1 h2
 refine ⟨((gO (gF l)).drop i).flatten,?_⟩
 rw [←h3,←List.flatten_append,List.take_append_drop,zbd]
theorem LayOk.flat {C:List (List Int)} {l:List Sm} (h:LayOk C l) {G:List (List Sm)} (k:RdAll C G):G.flatten=l:=by
 have h1:=h.all
 unfold RdAll at h1 k
 have h3:gO (gF l)=G:=(List.map_inj_right (fun x y h=>Option.some.inj h)).1 (h1.symm.trans k)
 rw [←h3,zbd]
theorem LayOk.one {C:List (List Int)} {l m:List Sm} (h:LayOk C l) (k:LayOk C m):l=m:=by
 have:=h.flat k.all
 rw [zbd] at this
 exact this.symm
theorem LayOk.nempty {C:List (List Int)} {l:List Sm} (h:LayOk C l):C≠[]:=by
 rw [←h.eq]
 intro e
 have e2:gO (gF l)=[]:=by simpa using e
 have:=(gO_nil (okG h.ok)).1 e2
 exact h.ne ((zcy h.ok).1 this)
theorem ris_pre {a b:List Sm} (h:Ris (a++b)):Ris a:=(List.pairwise_append.1 h).1
theorem keep_r7 (S p g N cc s m c:Nat) (ad:Option Addr) (I:Nat→World→Prop) (w:World) (a0:Act) (Q:Exit→Act→World→Prop) (hsz:a0.tmps.size=82)
 (s0:a0.tmps.getD 0 undef=.pointer (some ⟨S,0,none⟩))
 (s8:a0.tmps.getD 8 undef=.slice (some ⟨g,0,none⟩) (N+1) cc)
 (s10:a0.tmps.getD 10 undef=.slice ad m c)
 (hN1:IntKind.i64.wrap (N:Int)=(N:Int)) (hN2:¬(N:Int)<0) (hN3:(N:Int)<(N:Int)+1) (hN4:N<N+1)
 (cp:∀w1,(∃k,k≤1∧I k w1)→w1.cell? ⟨S,0,none⟩=some (.pointer (some ⟨p,0,none⟩)))
 (cs:∀w1,(∃k,k≤1∧I k w1)→w1.cell? ⟨g,N,none⟩=some (.int .i64 (s:Int)))
 (h0:I 0 { w with drawn:=w.drawn+1 })
 (hC0:∀w1,I 0 w1→Calls Tryz.prog 66 #[.pointer (some ⟨p,0,none⟩),.int .i64 (s:Int),.slice ad m c] w1 fun e w2=>e=.returned (.int .i64 0)∧I 1 w2)
 (hQ:∀(v48 v49 v50 v51 v52 v53 v54 v55 v56 v57 v58:Value) (w2:World),I 1 w2→Q .normal ((((((((((((a0.put (some 48) v48).put (some 49) v49).put (some 50) v50).put (some 51) v51).put (some 52) v52).put (some 53) v53).put (some 54) v54).put (some 55) v55).put (some 56) v56).put (some 57) v57).put (some 58) v58).put (some 59) (.int .i64 0)) w2):
 Code.wp Tryz.prog ((Tryz.f35.body.bind (zag 7)).getD .skip) Q a0 w:=by
 conv=>arg 2;whnf
 refine zbj (fun i=>([.pointer (some ⟨S,0,none⟩),.pointer (some ⟨S,0,none⟩),.pointer (some ⟨S,0,none⟩),.pointer (some ⟨p,0,none⟩),.slice (some ⟨g,0,none⟩) (N+1) cc,.slice (some ⟨g,0,none⟩) (N+1) cc,.int .i64 ((N:Int)+1),.int .i64 (N:Int),.pointer (some ⟨g,N,none⟩),.int .i64 (s:Int),.slice ad m c,.int .i64 0]:List Value).getD i undef) I (fun j=>([11]:List Nat).getD j 0) 1 (by kernel_rfl) (by kernel_rfl) (by kernel_rfl) (by rw [hsz];kernel_rfl) ?hinj ?hqs ?hwait h0 ?hop ?hcA ?hdone
 case hinj=>
  intro j k hj hk h
  rcases (show j=0 by omega) with rfl <;> rcases (show k=0 by omega) with rfl <;> first|rfl|exact absurd h (by decide)
 case hqs=>
  intro j hj
  rcases (show j=0 by omega) with rfl <;> exact of_decide_eq_true (by kernel_rfl)
 case hwait=>
  intro j hj
  omega
 case hdone=>
  intro a w1 hI hS hT
  have kl:a.tmps.getD 59 undef=.int .i64 0:=hT 11 _ rfl
  have he:=zam hS
  have hQ2:=hQ (a.tmps.getD 48 undef) (a.tmps.getD 49 undef) (a.tmps.getD 50 undef) (a.tmps.getD 51 undef) (a.tmps.getD 52 undef) (a.tmps.getD 53 undef) (a.tmps.getD 54 undef) (a.tmps.getD 55 undef) (a.tmps.getD 56 undef) (a.tmps.getD 57 undef) (a.tmps.getD 58 undef) w1 hI
  rw [←kl] at hQ2
  rw [he]
  exact hQ2
 case hcA=>
  intro k hk o ho
  rcases (show k=0 by omega) with rfl
  obtain rfl:=Option.some.inj ho
  intro a w1 hI hS hD
  have d3:a.tmps.getD 51 undef=.pointer (some ⟨p,0,none⟩):=hD ⟨3,.data⟩ (by simp) rfl _ rfl
  have d9:a.tmps.getD 57 undef=.int .i64 (s:Int):=hD ⟨9,.data⟩ (by simp) rfl _ rfl
  have d10:a.tmps.getD 58 undef=.slice ad m c:=hD ⟨10,.data⟩ (by simp) rfl _ rfl
  refine ⟨rfl,?_⟩
  refine zaz (f:=66) (args:=#[.pointer (some ⟨p,0,none⟩),.int .i64 (s:Int),.slice ad m c]) (by simp [execOp,resolve,Act.eval,d3,d9,d10,go_sem]) ?_
  refine (hC0 w1 hI).mono ?_
  rintro e w2 ⟨rfl,h2⟩
  exact ⟨_,rfl,_,rfl,h2,rfl⟩
 case hop=>
  intro i o hi hn
  have hlt:i<12:=(Array.getElem?_eq_some_iff.1 hi).1
  rcases (show i=0∨i=1∨i=2∨i=3∨i=4∨i=5∨i=6∨i=7∨i=8∨i=9∨i=10∨i=11 by omega) with rfl|rfl|rfl|rfl|rfl|rfl|rfl|rfl|rfl|rfl|rfl|rfl
  all_goals first|exact absurd rfl (hn 0 (by omega))|skip
  all_goals obtain rfl:=Option.some.inj hi
  all_goals clear hi hlt hn
  all_goals intro a w1 hI hS hD
  · exact zc rfl (by simp [execOp,Act.eval,zs hS s0,go_sem])
  · exact zc rfl (by simp [execOp,Act.eval,zdc hD 0 48,go_sem])
  · exact zc rfl (by simp [execOp,Act.eval,zdc hD 1 49,go_sem])
  · exact zc rfl (by simp [execOp,Act.eval,zdc hD 2 50,cp w1 hI,go_sem])
  · exact zc rfl (by simp [execOp,Act.eval,zs hS s8,go_sem])
  · exact zc rfl (by simp [execOp,Act.eval,zs hS s8,go_sem])
  · exact zc rfl (by simp [execOp,Act.eval,zdc hD 5 53,resolve,invoke,builtin,go_sem])
  · exact zc rfl (by simp [execOp,Act.eval,zdc hD 6 54,hN1,go_sem])
  · exact zc rfl (by simp [execOp,Act.eval,zdc hD 4 52,zdc hD 7 55,hN2,hN3,hN4,go_sem])
  · exact zc rfl (by simp [execOp,Act.eval,zdc hD 8 56,cs w1 hI,go_sem])
  exact zc rfl (by simp [execOp,Act.eval,zs hS s10,go_sem])
theorem Gv.chg {F:Nat→Prop} {w w':World} (h:Gv w) (hc:Chg F w w') (hF:∀i,F i→2≤i):Gv w':=
 ⟨fun j hj=>by
  rw [←h.wid j hj]
  exact World.cell?_of_block (hc.block 1 (by have:=World.block_lt_of_cell? w _ (h.wid 0 (by omega));simpa using this) (fun e=>by have:=hF 1 e;omega)),
  fun j hj=>by
   rw [←h.tab j hj]
   exact World.cell?_of_block (hc.block 0 (by have:=World.block_lt_of_cell? w _ (h.tab 0 (by omega));simpa using this) (fun e=>by have:=hF 0 e;omega))⟩
theorem Gv.k {w:World} (h:Gv w):K.Gv w:=⟨h.tab⟩
theorem put_last {sti:K.Sx} {n s:Nat} {o d0:ByteArray} {b:List Int} (hn:s<n) (hs:sti s=some (o,d0)) (hb:b.length≤128):K.putS sti n (s:Int) b=(0,K.upS sti s (some (o,strOfNums b))):=by
 unfold K.putS K.atS
 rw [if_pos ⟨by omega,by omega⟩,Int.toNat_natCast,hs]
 simp only [Option.map_some]
 rw [if_neg (by omega)]
theorem zei {b:List Int} (h:Byte b):(strOfNums b).size=b.length:=by
 rw [←K.bts_length,zcd b h]
theorem upS_twice (st:K.Sx) (i:Nat) (x y:Option (ByteArray×ByteArray)):K.upS (K.upS st i x) i y=K.upS st i y:=by
 funext j
 unfold K.upS
 split <;> rfl
theorem SZ.few {n:Nat} {st:K.Sx} {Z:ByteArray→List En} (h:SZ n st Z) (o:ByteArray) (k:Int):(enL (Z o) k).1.length≤n:=by
 have h1:=h.used o
 have h2:=(zdd k (h.key o)).length_eq
 rw [List.length_append] at h2
 have h3:(K.setL st n o).length≤n:=by
  unfold K.setL
  have:=List.length_filterMap_le (fun i=>match st i with|some x=>if x.1=o then some ((i:Int),K.uV) else none|none=>none) (List.range n)
  rw [List.length_range] at this
  exact this
 omega
structure KM (w:World) (p n:Nat) (G:Nat→Prop) (rb:Option Nat) (tot:List Nat) (sti:K.Sx) (v:Value) (wx:World):Prop where
 pool:∃Gx,K.PQ Gx wx p n sti∧K.Nw w G Gx
 own:wx.ownsRow 0 3 1 v tot.length (cI tot)
 mv:∀g,v.ownBlock=some g→rb=some g∨w.heap.size≤g
 chg:Chg (fun j=>G j∨rb=some j) w wx
theorem KM.later {w:World} {p n:Nat} {G:Nat→Prop} {rb:Option Nat} {tot:List Nat} {sti:K.Sx} {v:Value} {wx wy:World} (h:KM w p n G rb tot sti v wx) (hb:Below wx.heap.size wx wy):KM w p n G rb tot sti v wy:=by
 obtain ⟨Gx,h1,h2⟩:=h.pool
 exact ⟨⟨Gx,h1.later hb,h2⟩,owl h.own hb,h.mv,h.chg.trans (Chg.of_below (F:=fun j=>G j∨rb=some j) hb) (fun _ _ e=>e)⟩
theorem KM.call {w:World} {p n:Nat} {G:Nat→Prop} {rb:Option Nat} {tot:List Nat} {sti sti':K.Sx} {v:Value} {wx wy:World} (h:KM w p n G rb tot sti v wx) {Gx F':Nat→Prop} (hp:K.PQ Gx wx p n sti) (hn:K.Nw w G Gx) (h1:K.PQ F' wy p n sti') (h2:Chg Gx wx wy) (h3:K.Nw wx Gx F'):KM w p n G rb tot sti' v wy:=by
 refine ⟨⟨F',h1,fun i hi=>?_⟩,h2.owns h.own (fun g hg e=>?_),h.mv,h.chg.trans h2 (fun i hi e=>?_)⟩
 · rcases h3 i hi with e|e
   · exact hn i e
   exact .inr (Nat.le_trans h.chg.size e)
 · have:=hp.tag e 3 (zab h.own g hg)
   cases this
 rcases hn i e with e|e
 · exact .inl e
 omega
theorem KM.push {w:World} {p n:Nat} {G:Nat→Prop} {rb:Option Nat} {tot:List Nat} {sti:K.Sx} {v:Value} {wx w6:World} {ob:Obj} (h:KM w p n G rb tot sti v wx) (s:Nat) {g' c':Nat} (ho:w6.ownsRow 0 3 1 (.slice (some ⟨g',0,none⟩) (tot.length+1) c') (tot.length+1) (cI tot++[.int .i64 (s:Int)])) (hp:Pushed (wx.alloc ob) w6 v g'):
 KM w p n G rb (tot++[s]) sti (.slice (some ⟨g',0,none⟩) (tot.length+1) c') w6:=by
 obtain ⟨k1,k2⟩:=hp.chg
 obtain ⟨Gx,h1,h2⟩:=h.pool
 refine ⟨⟨Gx,h1.chg k1 (fun i hi e=>?_) (fun e=>?_),h2⟩,?_,?_,h.chg.trans k1 (fun i hi e=>?_)⟩
 · have:=h1.tag hi 3 (zab h.own i e)
   cases this
 · have:=(zab h.own p e).one h1.own
   cases this
 · have e:cI (tot++[s])=cI tot++[.int .i64 (s:Int)]:=by simp [cI]
   rw [e,List.length_append]
   exact ho
 · intro g hg
   obtain rfl:g'=g:=by simpa [Value.ownBlock] using hg
   rcases k2 with e|⟨g2,e,hg2⟩
   · exact h.mv _ e.symm
   cases e
   exact .inr (Nat.le_trans h.chg.size hg2)
 rcases h.mv i e with e|e
 · exact .inr e
 omega
theorem KI.room {n:Nat} {o:ByteArray} {st:K.Sx} {sl:List Nat} {C:List (List Sm)} {i:Nat} {news:List Nat} {sti:K.Sx} (h:KI n o st sl C i news sti) (hi:i<C.length) (hw:0<i∨sl=[]) (hr:C.length - hadL sl+(K.tkL st n).length≤n):∃j,K.fst1 sti n=some j:=by
 cases e:K.fst1 sti n with
 |some j=>exact ⟨j,rfl⟩
 |none=>
  have h1:=full_len e
  rw [h.cnt,h.len] at h1
  have:i - hadL sl<C.length - hadL sl:=by
   unfold hadL
   rcases hw with hw|rfl
   · omega
   simp;omega
  omega
def KpP (F:Nat→Prop) (w:World) (S p n:Nat) (st:K.Sx) (Z:ByteArray→List En) (o:ByteArray) (k:Int) (m:List Sm) (X:Nat) (w':World):Prop:=
 ∃F' st' news,SQ F' w' S p n st' (setZ Z o k ((enL (Z o) k).1++news,(enL (Z o) k).2++m))∧Chg F w w'∧K.Nw w F F'∧(K.tkL st' n).length=(K.tkL st n).length+(X - hadL (enL (Z o) k).1)∧news.length=X - hadL (enL (Z o) k).1
def upR (R:ByteArray→Int→Value) (o:ByteArray) (k:Int) (v:Value):ByteArray→Int→Value:=fun o' k'=>if o'=o∧k'=k then v else R o' k'
theorem zdi (R:ByteArray→Int→Value) (o:ByteArray) (k:Int) (v:Value):upR R o k v o k=v:=by unfold upR;rw [if_pos ⟨rfl,rfl⟩]
theorem zdb {R:ByteArray→Int→Value} {o o':ByteArray} {k k':Int} (v:Value) (h:¬(o'=o∧k'=k)):upR R o k v o' k'=R o' k':=by unfold upR;rw [if_neg h]
theorem rm_map (l:List En) (f:En→Value) (k:Int):rm (l.map fun e=>(e.1,f e)) k=(rmE l k).map fun e=>(e.1,f e):=by
 unfold rm rmE
 rw [List.filter_map]
 rfl
theorem kp_end {F:Nat→Prop} {w wx wz:World} {S p n T sb:Nat} {st sti:K.Sx} {Z:ByteArray→List En} {sh sh':ByteArray→Option Nat} {R:ByteArray→Int→Value} {G:Nat→Prop} {o:ByteArray} {k:Int} {m:List Sm} {news:List Nat} {v:Value}
 (hst:Stm w S p T sh R Z) (hG:∀i,G i→¬SFp T sh R Z i) (hF:∀i,F i↔(SFp T sh R Z i∨G i)) (hZ:SZ n st Z) (hk:0≤k) (hm:m≠[]) (hr:Ris ((enL (Z o) k).2++m)) (hok:∀x∈m,OkS x)
 (hK:KI n o st (enL (Z o) k).1 (gO (gB (enL (Z o) k).2 m)) (gO (gB (enL (Z o) k).2 m)).length news sti) (hM:KM w p n G (slV R Z o k).ownBlock ((enL (Z o) k).1++news) sti v wx) (hP0:K.PQ G w p n st)
 (hsho:sh' o=some sb) (hsh:∀o',¬o'=o→sh' o'=sh o') (hsb:sh o=some sb∨(sh o=none∧wx.heap.size≤sb)) (htop:∃lo:List (ByteArray×Value),Ml Value.string wz T lo∧∀o,al lo o=(sh' o).map fun sb=>Value.map (some sb))
 (hset:Ml K.K3 wz sb ((k,v) :: rm ((Z o).map fun e=>(e.1,R o e.1)) k)) (hcz:Chg (fun i=>i=T∨i=sb) wx wz):KpP F w S p n st Z o k m (gO (gB (enL (Z o) k).2 m)).length wz:=by
 obtain ⟨Gx,hp,hnw⟩:=hM.pool
 have hcx:=hM.chg
 have hszx:=hcx.size
 have hstg:=fun {i} (hi:SFp T sh R Z i)=>hst.tag hi
 have hrb:∀j,(slV R Z o k).ownBlock=some j→SFp T sh R Z j∧Tg w j 3:=by
  intro j hj
  rcases zbz (l:=Z o) (k:=k) with hmm|⟨_,hmm⟩
  · rw [slV_in hst (hZ.key o) hmm] at hj
    exact ⟨.inr (.inr ⟨o,_,hmm,hj⟩),zab (hst.row o _ hmm) j hj⟩
  rw [ze0 hmm] at hj;cases hj
 have hTlt:T<w.heap.size:=(hstg (.inl rfl)).1
 have hTtag:∀t,¬Tg w T t:=by obtain ⟨lo,l1,_⟩:=hst.top;exact l1.tg
 have hshlt:∀o' b,sh o'=some b→b<w.heap.size∧∀t,¬Tg w b t:=fun o' b e=>⟨(hst.set o' b e).1.lt,(hst.set o' b e).1.tg⟩
 have hGxT:∀i,Gx i→¬(i=T∨i=sb):=by
  rintro i hi (rfl|rfl)
  · rcases hnw i hi with e|e
    · exact hG i e (.inl rfl)
    omega
  rcases hsb with e2|⟨_,e2⟩
  · rcases hnw i hi with e|e
    · exact hG i e (.inr (.inl ⟨o,e2⟩))
    have:=(hshlt o i e2).1;omega
  have:=hp.lt hi;omega
 have hnotT:∀j,(G j∨(slV R Z o k).ownBlock=some j)→¬j=T:=by
  rintro j (e|e) rfl
  · exact hG j e (.inl rfl)
  exact hTtag 3 (hrb j e).2
 have hnotS:∀o' b,sh o'=some b→¬(G b∨(slV R Z o k).ownBlock=some b):=by
  rintro o' b e (e2|e2)
  · exact hG b e2 (.inr (.inl ⟨o',e⟩))
  exact (hshlt o' b e).2 3 (hrb b e2).2
 have hvtag:∀g,v.ownBlock=some g→Tg wx g 3∧g<wx.heap.size:=fun g hg=>⟨zab hM.own g hg,za0 hM.own g hg⟩
 have hTx:∀t,¬Tg wx T t:=by
  rintro t ⟨cs,fr,e⟩
  rw [hcx.block T hTlt (fun e2=>hnotT T e2 rfl)] at e
  exact hTtag t ⟨cs,fr,e⟩
 have hSx:∀o' b,sh o'=some b→∀t,¬Tg wx b t:=by
  rintro o' b e0 t ⟨cs,fr,e⟩
  rw [hcx.block b (hshlt o' b e0).1 (hnotS o' b e0)] at e
  exact (hshlt o' b e0).2 t ⟨cs,fr,e⟩
 have hvz:∀g,v.ownBlock=some g→¬(g=T∨g=sb):=by
  rintro g hg (rfl|rfl)
  · exact hTx 3 (hvtag g hg).1
  rcases hsb with e2|⟨_,e2⟩
  · exact hSx o g e2 3 (hvtag g hg).1
  have:=(hvtag g hg).2;omega
 have hoth:∀o' e,e∈Z o'→¬(o'=o∧e.1=k)→wz.ownsRow 0 3 1 (R o' e.1) e.2.1.length (cI e.2.1):=by
  intro o' e he hne
  have h1:=hst.row o' e he
  refine hcz.owns (hcx.owns h1 (fun g hg=>?_)) (fun g hg=>?_)
  · rintro (e2|e2)
    · exact hG g e2 (.inr (.inr ⟨o',e,he,hg⟩))
    rcases zbz (l:=Z o) (k:=k) with hmm|⟨_,hmm⟩
    · rw [slV_in hst (hZ.key o) hmm] at e2
      have:=hst.rin o' e o _ g he hmm hg e2
      exact hne ⟨this.1,this.2⟩
    rw [ze0 hmm] at e2;cases e2
  have ht:Tg w g 3:=zab h1 g hg
  have hgl:=za0 h1 g hg
  rintro (rfl|rfl)
  · exact hTtag 3 ht
  rcases hsb with e2|⟨_,e2⟩
  · exact (hshlt o g e2).2 3 ht
  omega
 have hvoth:∀o' e g,e∈Z o'→¬(o'=o∧e.1=k)→(R o' e.1).ownBlock=some g→v.ownBlock≠some g:=by
  intro o' e g he hne hg hv
  have hgl:=za0 (hst.row o' e he) g hg
  rcases hM.mv g hv with e2|e2
  · rcases zbz (l:=Z o) (k:=k) with hmm|⟨_,hmm⟩
    · rw [slV_in hst (hZ.key o) hmm] at e2
      have:=hst.rin o' e o _ g he hmm hg e2
      exact hne ⟨this.1,this.2⟩
    rw [ze0 hmm] at e2;cases e2
  omega
 have hZ':=hZ.keep hk hm hr hok hK
 have hmemZ:∀o' e,e∈setZ Z o k ((enL (Z o) k).1++news,(enL (Z o) k).2++m) o'→(o'=o∧e=(k,((enL (Z o) k).1++news,(enL (Z o) k).2++m)))∨(e∈Z o'∧¬(o'=o∧e.1=k)):=by
  intro o' e he
  unfold setZ at he
  split at he
  · next ho=>
    rcases List.mem_cons.1 he with rfl|he
    · exact .inl ⟨ho,rfl⟩
    obtain ⟨a,b⟩:=mem_rmE.1 he
    exact .inr ⟨by rw [ho];exact a,fun e2=>b e2.2⟩
  next ho=>exact .inr ⟨he,fun e2=>ho e2.1⟩
 have hSblk:Blk wz S 75 [.pointer (some ⟨p,0,none⟩),.map (some T)]:=by
  have ht:=hst.blk.tg
  refine hcz.blk (hcx.blk hst.blk ?_) ?_
  · rintro (e|e)
    · have:=hP0.tag e 75 ht;cases this
    have:=(hrb S e).2.one ht;cases this
  rintro (rfl|rfl)
  · exact hTtag 75 ht
  rcases hsb with e2|⟨_,e2⟩
  · exact (hshlt o S e2).2 75 ht
  have:=hst.blk.lt;omega
 have hpT:¬(p=T∨p=sb):=by
  have hp0:=hP0.own
  rintro (e|e)
  · rw [e] at hp0;exact hTtag 69 hp0
  rw [e] at hp0
  rcases hsb with e2|⟨_,e2⟩
  · exact (hshlt o sb e2).2 69 hp0
  have:=hp0.lt;omega
 have hsbT:sb≠T:=by
  rcases hsb with e2|⟨_,e2⟩
  · exact (hst.set o sb e2).2
  omega
 have hsbo:∀o' sb',¬o'=o→sh o'=some sb'→sb'≠sb:=by
  intro o' sb' ho e e2
  rcases hsb with e3|⟨_,e3⟩
  · exact ho (hst.inj o' o sb' e (by rw [e2];exact e3))
  have:=(hshlt o' sb' e).1;omega
 have hmapo:(setZ Z o k ((enL (Z o) k).1++news,(enL (Z o) k).2++m) o).map (fun e=>(e.1,upR R o k v o e.1))=(k,v) :: rm ((Z o).map fun e=>(e.1,R o e.1)) k:=by
  unfold setZ
  rw [if_pos rfl,List.map_cons,zdi,rm_map (Z o) (fun e=>R o e.1) k]
  congr 1
  refine List.map_congr_left (fun e he=>?_)
  rw [zdb v (fun e2=>(mem_rmE.1 he).2 e2.2)]
 have hmapx:∀o',¬o'=o→(setZ Z o k ((enL (Z o) k).1++news,(enL (Z o) k).2++m) o').map (fun e=>(e.1,upR R o k v o' e.1))=(Z o').map fun e=>(e.1,R o' e.1):=by
  intro o' ho
  unfold setZ
  rw [if_neg ho]
  refine List.map_congr_left (fun e he=>?_)
  rw [zdb v (fun e2=>ho e2.1)]
 have hrow:∀o' e,e∈setZ Z o k ((enL (Z o) k).1++news,(enL (Z o) k).2++m) o'→wz.ownsRow 0 3 1 (upR R o k v o' e.1) e.2.1.length (cI e.2.1):=by
  intro o' e he
  rcases hmemZ o' e he with ⟨rfl,rfl⟩|⟨h1,h2⟩
  · rw [zdi]
    exact hcz.owns hM.own hvz
  rw [zdb v h2]
  exact hoth o' e h1 h2
 have hStm:Stm wz S p T sh' (upR R o k v) (setZ Z o k ((enL (Z o) k).1++news,(enL (Z o) k).2++m)):=by
  refine ⟨hSblk,htop,?_,?_,?_,hrow,?_⟩
  · intro o' sb' e
    by_cases ho:o'=o
    · subst ho
      rw [hsho] at e
      cases e
      rw [hmapo]
      exact ⟨hset,hsbT⟩
    rw [hsh o' ho] at e
    rw [hmapx o' ho]
    refine ⟨((hst.set o' sb' e).1.chg hcx (hnotS o' sb' e)).chg hcz ?_,(hst.set o' sb' e).2⟩
    rintro (e2|e2)
    · exact (hst.set o' sb' e).2 e2
    exact hsbo o' sb' ho e e2
  · intro o' e
    by_cases ho:o'=o
    · subst ho;rw [hsho] at e;cases e
    rw [hsh o' ho] at e
    unfold setZ
    rw [if_neg ho]
    exact hst.non o' e
  · intro a b sb' ea eb
    by_cases ha:a=o
    · by_cases hb:b=o
      · rw [ha,hb]
      rw [ha,hsho] at ea
      cases ea
      rw [hsh b hb] at eb
      exact absurd rfl (hsbo b _ hb eb)
    rw [hsh a ha] at ea
    by_cases hb:b=o
    · rw [hb,hsho] at eb
      cases eb
      exact absurd rfl (hsbo a _ ha ea)
    rw [hsh b hb] at eb
    exact hst.inj a b sb' ea eb
  intro a ea b eb g h1 h2 h3 h4
  rcases hmemZ a ea h1 with ⟨rfl,rfl⟩|⟨p1,p2⟩
  · rcases hmemZ b eb h2 with ⟨rfl,rfl⟩|⟨q1,q2⟩
    · exact ⟨rfl,rfl⟩
    rw [zdi] at h3
    rw [zdb v q2] at h4
    exact absurd h3 (hvoth b eb g q1 q2 h4)
  rw [zdb v p2] at h3
  rcases hmemZ b eb h2 with ⟨rfl,rfl⟩|⟨q1,q2⟩
  · rw [zdi] at h4
    exact absurd h4 (hvoth a ea g p1 p2 h3)
  rw [zdb v q2] at h4
  exact hst.rin a ea b eb g p1 q1 h3 h4
 refine ⟨fun i=>SFp T sh' (upR R o k v) (setZ Z o k ((enL (Z o) k).1++news,(enL (Z o) k).2++m)) i∨Gx i,sti,news,⟨T,sh',upR R o k v,Gx,hStm,hp.chg hcz hGxT hpT,hZ',?_,fun i=>Iff.rfl⟩,?_,?_,?_,hK.len⟩
 · intro i hi hs
   rcases hs with rfl|⟨o',e⟩|⟨o',e,he,hg⟩
   · exact hGxT i hi (.inl rfl)
   · by_cases ho:o'=o
     · subst ho;rw [hsho] at e;cases e
       exact hGxT _ hi (.inr rfl)
     rw [hsh o' ho] at e
     rcases hnw i hi with e2|e2
     · exact hG i e2 (.inr (.inl ⟨o',e⟩))
     have:=(hshlt o' i e).1;omega
   have ht:=zab (hrow o' e he) i hg
   have:=(hp.chg hcz hGxT hpT).tag hi 3 ht
   cases this
 · refine (hcx.mono (fun i hi e=>?_)).trans hcz (fun i hi e=>?_)
   · rcases e with e|e
     · exact (hF i).2 (.inr e)
     exact (hF i).2 (.inl (hrb i e).1)
   rcases e with rfl|rfl
   · exact (hF i).2 (.inl (.inl rfl))
   rcases hsb with e2|⟨_,e2⟩
   · exact (hF i).2 (.inl (.inr (.inl ⟨o,e2⟩)))
   omega
 · rintro i ((rfl|⟨o',e⟩|⟨o',e,he,hg⟩)|hi)
   · exact .inl ((hF i).2 (.inl (.inl rfl)))
   · by_cases ho:o'=o
     · subst ho;rw [hsho] at e;cases e
       rcases hsb with e2|⟨_,e2⟩
       · exact .inl ((hF _).2 (.inl (.inr (.inl ⟨o',e2⟩))))
       exact .inr (by omega)
     rw [hsh o' ho] at e
     exact .inl ((hF i).2 (.inl (.inr (.inl ⟨o',e⟩))))
   · rcases hmemZ o' e he with ⟨rfl,rfl⟩|⟨p1,p2⟩
     · rw [zdi] at hg
       rcases hM.mv i hg with e2|e2
       · exact .inl ((hF i).2 (.inl (hrb i e2).1))
       exact .inr e2
     rw [zdb v p2] at hg
     exact .inl ((hF i).2 (.inl (.inr (.inr ⟨o',e,p1,hg⟩))))
   rcases hnw i hi with e|e
   · exact .inl ((hF i).2 (.inr e))
   exact .inr e
 rw [hK.cnt,hK.len]
theorem kp_put {w:World} {p n:Nat} {G:Nat→Prop} {rb:Option Nat} {tot:List Nat} {sti:K.Sx} {v:Value} {w1:World} (h:KM w p n G rb tot sti v w1) {s:Nat} {o d0:ByteArray} {b:List Int} {ad:Option Addr} {m c:Nat} (hn:s<n) (hs:sti s=some (o,d0)) (hb:b.length=m) (hb1:m≤128) (hS:Sl w1 ad m b):
 Calls Tryz.prog 66 #[.pointer (some ⟨p,0,none⟩),.int .i64 (s:Int),.slice ad m c] w1 fun e w2=>e=.returned (.int .i64 0)∧KM w p n G rb tot (K.upS sti s (some (o,strOfNums b))) v w2:=by
 obtain ⟨Gx,h1,h2⟩:=h.pool
 refine (K.putX (s:Int) ad m c b Gx p n sti w1 h1 hS (by omega)).mono ?_
 rw [put_last hn hs (by omega)]
 rintro e w2 ⟨rfl,F',k1,k2,k3⟩
 exact ⟨rfl,h.call h1 h2 k1 k2 k3⟩
theorem kp_take {w:World} {p n:Nat} {G:Nat→Prop} {rb:Option Nat} {tot:List Nat} {sti:K.Sx} {v:Value} {w1:World} (h:KM w p n G rb tot sti v w1) (hG:K.Gv w1) {j:Nat} (o:ByteArray) (hf:K.fst1 sti n=some j):
 Calls Tryz.prog 65 #[.pointer (some ⟨p,0,none⟩),.string o] w1 fun e w2=>e=.returned (.tuple #[.int .i64 (j:Int),.int .i64 0])∧KM w p n G rb tot (K.upS sti j (some (o,K.emp))) v w2:=by
 obtain ⟨Gx,h1,h2⟩:=h.pool
 refine (K.takeX o Gx p n sti w1 h1 hG).mono ?_
 rintro e w2 ⟨rfl,F',k1,k2,k3⟩
 unfold K.takeS at k1
 unfold K.takeV
 rw [hf] at k1 ⊢
 exact ⟨rfl,h.call h1 h2 k1 k2 k3⟩
theorem info3:(Tryz.prog.info? 3).map (fun i=>(i.zero,i.size,i.bytes))=some (some (.int .i64 0),1,8):=by kernel_rfl
theorem info3p:∃i,Tryz.prog.info? 3=some i∧i.zero=some (.int .i64 0)∧i.size=1∧i.bytes=8:=by
 have h:=info3
 cases e:Tryz.prog.info? 3 with
 |none=>rw [e] at h;cases h
 |some i=>
  rw [e] at h
  simp only [Option.map_some,Option.some.injEq,Prod.mk.injEq] at h
  exact ⟨i,rfl,h.1,h.2.1,h.2.2⟩
theorem map_ne68 (sb:Nat) (w:World):(binOp .eql 95 (.map (some sb)) (.map none)).run Tryz.prog w=.ok (.bool false) w:=by kernel_rfl
theorem map_eq68 (w:World):(binOp .eql 95 (.map none) (.map none)).run Tryz.prog w=.ok (.bool true) w:=by kernel_rfl
theorem Ck.at {D:Nat→Prop} {w:World} {base X cc:Nat} {ad:Option Addr} {L:List (List Int)} (h:Ck w base (.slice ad X cc) L D) (hX:L.length=X) (i:Nat) (b:List Int) (hb:L[i]?=some b):∃g ad' c',ad=some ⟨g,0,none⟩∧∀(F:Nat→Prop) (wx:World),Chg F w wx→(∀i,D i→¬F i)→(∀g,(Value.slice ad X cc).ownBlock=some g→¬F g)→wx.cell? ⟨g,i,none⟩=some (.slice ad' b.length c')∧Sl wx ad' b.length b:=by
 obtain ⟨xs,h1,h2⟩:=h.row
 obtain ⟨ad',c',a1,a2,a3,a4,a5⟩:=h2 i b hb
 subst hX
 obtain ⟨g,rfl,_⟩:=zbc h1 (by have:=(List.getElem?_eq_some_iff.1 hb).1;omega)
 refine ⟨g,ad',c',rfl,fun F wx hc hD hv=>⟨zai (hc.owns h1 hv) i _ a1,hc.sl a2 (fun x hx _=>hD _ (a5 x hx))⟩⟩
theorem keepP (o:ByteArray) (k:Int) (F:Nat→Prop) (S p n:Nat) (st:K.Sx) (Z:ByteArray→List En) (ad:Option Addr) (X cc base:Nat) (D:Nat→Prop) (m:List Sm) (w:World) (h:SQ F w S p n st Z) (hG:Gv w) (hk:0≤k) (hm:m≠[]) (hr:Ris ((enL (Z o) k).2++m)) (hok:∀x∈m,OkS x) (hF:∀i,F i→2≤i∧i<base)
 (hC:Ck w base (.slice ad X cc) ((gO (gB (enL (Z o) k).2 m)).map encC) D) (hX:(gO (gB (enL (Z o) k).2 m)).length=X) (hX9:X≤1000000) (hroom:X - hadL (enL (Z o) k).1+(K.tkL st n).length≤n):
 Calls Tryz.prog 35 #[.pointer (some ⟨S,0,none⟩),.string o,.int .i64 k,.slice ad X cc] w fun e w'=>e=.returned (.tuple #[])∧KpP F w S p n st Z o k m X w':=by
 have hz:=h.sz
 obtain ⟨T,sh,R,G,h1,h2,h3,h4,h5⟩:=h
 have hn1:=h2.n1
 have hen:=hz.en o k
 have hfew:=hz.few o k
 have hrow:=h1.slots o k (hz.key o)
 obtain ⟨a0,c0,hv⟩:=zal hrow
 have hGF:∀j,(G j∨(slV R Z o k).ownBlock=some j)→F j:=by
  rintro j (e|e)
  · exact (h5 j).2 (.inr e)
  refine (h5 j).2 (.inl ?_)
  rcases zbz (l:=Z o) (k:=k) with hmm|⟨_,hmm⟩
  · rw [slV_in h1 (hz.key o) hmm] at e
    exact .inr (.inr ⟨o,_,hmm,e⟩)
  rw [ze0 hmm] at e;cases e
 have hSn:¬(G S∨(slV R Z o k).ownBlock=some S):=by
  rintro (e|e)
  · have:=h2.tag e 75 h1.blk.tg;cases this
  have:=(zab hrow S e).one h1.blk.tg;cases this
 have HGv:Hid (∀{sti tot v wx},KM w p n G (slV R Z o k).ownBlock tot sti v wx→Gv wx):=zaa (fun hM=>hG.chg hM.chg (fun i hi=>(hF i (hGF i hi)).1))
 have HCk:Hid (∀(i:Nat) (b:List Int),((gO (gB (enL (Z o) k).2 m)).map encC)[i]?=some b→∃g ad' c',ad=some ⟨g,0,none⟩∧∀{sti tot v wx},KM w p n G (slV R Z o k).ownBlock tot sti v wx→wx.cell? ⟨g,i,none⟩=some (.slice ad' b.length c')∧Sl wx ad' b.length b):=zaa (fun i b hb=>by
  obtain ⟨g,ad',c',e,q⟩:=hC.at (by rw [List.length_map];exact hX) i b hb
  refine ⟨g,ad',c',e,fun hM=>q _ _ hM.chg (fun i hi e=>?_) (fun g hg e=>?_)⟩
  · have:=(hC.lt i hi).1;have:=(hF i (hGF i e)).2;omega
  have:=(hC.vlt g hg).1;have:=(hF g (hGF g e)).2;omega)
 have HS:Hid (∀{sti tot v wx},KM w p n G (slV R Z o k).ownBlock tot sti v wx→Blk wx S 75 [.pointer (some ⟨p,0,none⟩),.map (some T)]):=zaa (fun hM=>hM.chg.blk h1.blk hSn)
 have hrbt:∀j,(slV R Z o k).ownBlock=some j→Tg w j 3:=fun j hj=>zab hrow j hj
 have HTOP:Hid (∀{sti tot v wx},KM w p n G (slV R Z o k).ownBlock tot sti v wx→∃lo:List (ByteArray×Value),Ml Value.string wx T lo∧∀o,al lo o=(sh o).map fun sb=>Value.map (some sb)):=zaa (fun hM=>by
  obtain ⟨lo,q1,q2⟩:=h1.top
  refine ⟨lo,q1.chg hM.chg ?_,q2⟩
  rintro (e|e)
  · exact h4 T e (.inl rfl)
  exact q1.tg 3 (hrbt T e))
 have HSET:Hid (∀{sb sti tot v wx},KM w p n G (slV R Z o k).ownBlock tot sti v wx→sh o=some sb→Ml K.K3 wx sb ((Z o).map fun e=>(e.1,R o e.1))∧sb≠T):=zaa (fun hM e=>by
  have q:=h1.set o _ e
  refine ⟨q.1.chg hM.chg ?_,q.2⟩
  rintro (e2|e2)
  · exact h4 _ e2 (.inr (.inl ⟨o,e⟩))
  exact q.1.tg 3 (hrbt _ e2))
 have HNON:Hid (sh o=none→Z o=[]):=zaa (h1.non o)
 have HM0:Hid (KM w p n G (slV R Z o k).ownBlock ((enL (Z o) k).1++[]) st (slV R Z o k) w):=zaa ⟨⟨G,h2,K.Nw.refl _ _⟩,by rw [List.append_nil];exact hrow,fun g hg=>.inl hg,Chg.refl _ _⟩
 have HK0:Hid (KI n o st (enL (Z o) k).1 (gO (gB (enL (Z o) k).2 m)) 0 [] st):=zaa (KI.start hz.small)
 have hok7:OkG (gF ((enL (Z o) k).2++m)):=okG (fun x hx=>by rcases List.mem_append.1 hx with hx|hx;exact hen.2.2.1 x hx;exact hok x hx)
 have HB:Hid (∀i g,(gO (gB (enL (Z o) k).2 m))[i]?=some g→(encC g).length≤128∧Byte (encC g)):=zaa (fun i g hg=>by
  have hb:=zby (enL (Z o) k).2 m
  have:=zcs hok7 g (by rw [hb];exact List.mem_append.2 (.inr (List.mem_of_getElem? hg)))
  exact ⟨this.2.1,zb5 g (by have:=za8 this.2.1;omega)⟩)
 have HLIES:=zaa hen.1
 have HMEM:=zaa (fun i=>hz.mem o i)
 have HPE:=zaa (zdd k (hz.key o))
 have c1:w.cell? ⟨S,1,none⟩=some (.map (some T)):=h1.blk.cell 1
 have l1:=h1.lookT o
 have l2:=h1.lookS o k
 have HALL:=zaa (And.intro h1 (And.intro h2 (And.intro h4 (And.intro h5 (And.intro hz (And.intro hk (And.intro hm (And.intro hr hok))))))))
 obtain ⟨i3,hi3,hz3,hs3,hb3⟩:=info3p
 have HX:=zaa hX
 have HR:=zaa hroom
 have HFEW:=zaa hfew
 have HN1:=zaa hn1
 have HV:=zaa hv
 obtain ⟨sl,hsl⟩:∃sl,(enL (Z o) k).1=sl:=⟨_,rfl⟩
 obtain ⟨C,hC9⟩:∃C,gO (gB (enL (Z o) k).2 m)=C:=⟨_,rfl⟩
 obtain ⟨rb,hrb⟩:∃rb,(slV R Z o k).ownBlock=rb:=⟨_,rfl⟩
 rw [hsl] at HM0 HK0 HLIES HR HFEW
 rw [hC9] at HK0 HB HX HCk
 rw [hrb] at HM0 HCk HS HGv HTOP HSET
 have HEQ:=zaa (And.intro hsl (And.intro hC9 hrb))
 rw [hv] at l2
 have HV0:=zaa hv
 rw [hv] at HM0
 have hsl0:(enL (Z o) k).1.length=sl.length:=by rw [hsl]
 rw [hsl0] at l2 HM0
 obtain ⟨M0,hM0⟩:∃M0,sl.length=M0:=⟨_,rfl⟩
 have HM1:=zaa hM0
 rw [hM0] at l2 HM0
 obtain ⟨tot0,ht0⟩:∃tot0,sl++([]:List Nat)=tot0:=⟨_,rfl⟩
 clear hrbt h1 h2 h3 h4 h5 hz hk hm hr hok hen hfew hrow hv hGF hSn hG hF hC hX hroom hok7 hsl hC9 hrb hsl0 hM0 hn1 HV HV0
 go_enter Tryz.func35,Tryz.ntmps35
 go_wp2_with fail
 go_loopw [8,23] (fun v8 v23 wx=>∃(i:Nat) (news:List Nat) (sti:K.Sx),v23=.int .i64 (i:Int)∧i≤X∧Hid (KI n o st sl C i news sti∧KM w p n G rb (sl++news) sti v8 wx)) (fun _ v23 _=>X - (intOf v23).toNat)
 case atStart=>exact ⟨0,[],st,rfl,by omega,zaa ⟨HK0.out,HM0.out⟩⟩
 case round=>
  obtain ⟨i,news,sti,rfl,hi,hI⟩:=hrel
  obtain ⟨a8,c8,hv8⟩:=zal hI.out.2.own
  subst hv8
  obtain ⟨M8,hM8⟩:∃M8,(sl++news).length=M8:=⟨_,rfl⟩
  have HM8:=zaa hM8
  rw [hM8] at hI ⊢
  have hM9:M8≤1100000:=by
   have q1:=hI.out.1.len
   have q2:=HFEW.out
   have q3:=HN1.out
   rw [←hM8,List.length_append,q1]
   omega
  clear hM8 c1 l1 l2
  by_cases hin:i<X
  · obtain ⟨gi,hgi⟩:∃gi,C[i]?=some gi:=⟨C[i]'(by have:=HX.out;omega),by simp⟩
    have HGI:=zaa hgi
    have hLi:(C.map encC)[i]?=some (encC gi):=by rw [List.getElem?_map,hgi];rfl
    obtain ⟨gx,adb,cb,rfl,hq⟩:=HCk.out i _ hLi
    have hcx:=(hq hI.out.2).1
    have HSL:Hid (∀{sti tot v wx},KM w p n G rb tot sti v wx→Sl wx adb (encC gi).length (encC gi)):=zaa (fun hM=>(hq hM).2)
    have hbi:=HB.out i gi hgi
    obtain ⟨nb,hnb⟩:∃nb,(encC gi).length=nb:=⟨_,rfl⟩
    have HNB:=zaa hnb
    have HBY:=zaa hbi.2
    have hnb2:nb≤128:=by omega
    rw [hnb] at hcx HSL
    clear hgi hLi hq hbi hnb
    have hcS:wr.cell? ⟨S,0,none⟩=some (.pointer (some ⟨p,0,none⟩)):=(HS.out hI.out.2).cell 0
    by_cases hA:i=0∧sl≠[]
    · obtain ⟨rfl,hne⟩:=hA
      have hp:=List.length_pos_iff.2 hne
      have hnews:news=[]:=by
       have:=hI.out.1.len
       exact List.length_eq_zero_iff.1 (by omega)
      subst hnews
      obtain ⟨N8,hN8⟩:∃N8,M8=N8+1:=⟨M8 - 1,by have:=HM8.out;rw [List.length_append] at this;omega⟩
      subst hN8
      obtain ⟨g8,rfl,_⟩:=zbc (by have q:=hI.out.2.own;rw [HM8.out] at q;exact q) (by omega)
      obtain ⟨s8,hs8⟩:∃s8,(sl++[])[N8]?=some s8:=⟨(sl++[])[N8]'(by have:=HM8.out;omega),by simp⟩
      have HCE:Hid (∀{sti wx},KM w p n G rb (sl++[]) sti (.slice (some ⟨g8,0,none⟩) (N8+1) c8) wx→wx.cell? ⟨g8,N8,none⟩=some (.int .i64 (s8:Int))):=zaa (fun hM=>by
       have q:=hM.own
       rw [HM8.out] at q
       exact zai q N8 _ (by unfold cI;rw [List.getElem?_map,hs8];rfl))
      have hlast:sl.getLast?=some s8:=by
       rw [List.getLast?_eq_getElem?,←hs8,List.append_nil]
       congr 1
       have:=HM8.out
       rw [List.append_nil] at this
       omega
      have hmem:s8<n∧∃d,sti s8=some (o,d):=by
       have q:=hI.out.1.off s8 (by simp) (.inl rfl)
       rw [q]
       refine (HMEM.out s8).1 ((HPE.out.mem_iff).2 (List.mem_append.2 (.inl ?_)))
       rw [HEQ.out.1]
       exact List.mem_of_getLast? hlast
      obtain ⟨hs8n,d0,hd0⟩:=hmem
      have hst0:sti=st:=funext (fun s=>hI.out.1.off s (by simp) (.inl rfl))
      have HKI:=zaa (KI.put0 (C:=C) (st:=st) (by have q:=hI.out.1.small;rw [hst0] at q;exact q) HGI.out hlast hs8n (hst0▸hd0) (strOfNums (encC gi)) (zcd _ HBY.out) (by rw [zei HBY.out,HNB.out];exact hnb2))
      have HW:=zaa (And.intro hs8n (And.intro hd0 hst0))
      clear hlast hs8 hst0 hd0 hs8n hp
      go_wp2_with fail
      refine keep_r7 S p g8 N8 c8 s8 nb cb adb (ph2 (fun w1=>KM w p n G rb (sl++[]) sti (.slice (some ⟨g8,0,none⟩) (N8+1) c8) w1) (fun w1=>KM w p n G rb (sl++[]) (K.upS sti s8 (some (o,strOfNums (encC gi)))) (.slice (some ⟨g8,0,none⟩) (N8+1) c8) w1)) _ _ _ rfl rfl rfl rfl (zds (by omega) (by omega)) (by omega) (by omega) (by omega) (fun w1 ⟨j,hj,hI⟩=>by rcases (show j=0∨j=1 by omega) with rfl|rfl;exact (HS.out hI).cell 0;exact (HS.out hI).cell 0) (fun w1 ⟨j,hj,hI⟩=>by rcases (show j=0∨j=1 by omega) with rfl|rfl;exact HCE.out hI;exact HCE.out hI) (KM.later hI.out.2 ((Below.refl _ _).drew)) (fun w1 hI=>kp_put hI HW.out.1 HW.out.2.1 HNB.out (by omega) (HSL.out hI)) ?_
      intro v48 v49 v50 v51 v52 v53 v54 v55 v56 v57 v58 w5 hI5
      have H5:Hid (KM w p n G rb (sl++[]) (K.upS sti s8 (some (o,strOfNums (encC gi)))) (.slice (some ⟨g8,0,none⟩) (N8+1) c8) w5):=zaa hI5
      clear hI5
      simp only [Act.put,List.setIfInBounds_toArray,List.set_cons_succ,List.set_cons_zero]
      go_wp2_with fail
      refine ⟨⟨1,[],_,rfl,by omega,zaa ⟨?_,H5.out⟩⟩,?_⟩
      · rw [HW.out.2.2]
        exact HKI.out
      show X - 1<X - 0
      omega
    have hB:0<i∨sl=[]:=by
     by_cases h0:i=0
     · by_cases h1:sl=[]
       · exact .inr h1
       exact absurd ⟨h0,h1⟩ hA
     exact .inl (by omega)
    obtain ⟨j,hj⟩:=hI.out.1.room (by rw [HX.out];exact hin) hB (by rw [HX.out];exact HR.out)
    have HJ:=zaa hj
    have HKI:=zaa (hI.out.1.take HGI.out hB hj (strOfNums (encC gi)) (zcd _ HBY.out) (by rw [zei HBY.out,HNB.out];exact hnb2)).1
    have hjn:=(K.fst_spec hj).1
    have hC2:(0:Int)<(i:Int)∨(i=0∧M8=0):=by
     rcases hB with hB|hB
     · exact .inl (by omega)
     by_cases h0:i=0
     · right
       subst h0
       subst hB
       have q1:=hI.out.1.len
       have q2:=HM8.out
       rw [List.length_append,q1] at q2
       exact ⟨rfl,by simp at q2;omega⟩
     exact .inl (by omega)
    clear hj hB hA
    rcases hC2 with hC2|⟨rfl,rfl⟩
    all_goals
     go_wp2_with fail
     refine (kp_take hI.out.2 (HGv.out hI.out.2).k o HJ.out).mono ?_
     rintro e w2 ⟨rfl,hM2⟩
     have H2:=zaa hM2
     clear hM2
     go_wp2_with (refine zaw _ rfl (.tmp 44) (.tmp 46) 92 rfl 3 i3 (.int .i64 0) 8 Tryz.underlying92 hi3 hz3 hs3 hb3 rfl 0 (.slice a8 _ c8) _ (cI (sl++news)) rfl (by have q:=owl H2.out.own ((Below.refl _ _).alloc (Nat.le_refl _) (.cells #[.int .i64 (j:Int)] 3));rw [HM8.out] at q;exact q) ⟨w2.heap.size,0,none⟩ (.int .i64 (j:Int)) rfl ((Blk.new w2 3 [.int .i64 (j:Int)]).cell 0) rfl (by unfold maxLen;omega) (by omega) (Nat.zero_le _) ?_;intro g5 c5 w5 o5 p5;have O5:=zaa (And.intro o5 p5);clear o5 p5)
     have HM5:=zaa (KM.push H2.out j (by rw [HM8.out];exact O5.out.1) O5.out.2)
     rw [HM8.out] at HM5
     have HCE:Hid (∀{M sti wx},M=(sl++news).length→KM w p n G rb (sl++news++[j]) sti (.slice (some ⟨g5,0,none⟩) (M+1) c5) wx→wx.cell? ⟨g5,M,none⟩=some (.int .i64 (j:Int))):=zaa (fun hMM hM=>by
      subst hMM
      have q:=hM.own
      have e1:(sl++news++[j]).length=(sl++news).length+1:=by simp;omega
      rw [e1] at q
      exact zai q _ _ (by unfold cI;rw [List.getElem?_map];simp))
     refine keep_r7 S p g5 _ c5 j nb cb adb (ph2 (fun w1=>KM w p n G rb (sl++news++[j]) (K.upS sti j (some (o,K.emp))) (.slice (some ⟨g5,0,none⟩) (_+1) c5) w1) (fun w1=>KM w p n G rb (sl++news++[j]) (K.upS (K.upS sti j (some (o,K.emp))) j (some (o,strOfNums (encC gi)))) (.slice (some ⟨g5,0,none⟩) (_+1) c5) w1)) _ _ _ rfl rfl rfl rfl (zds (by omega) (by omega)) (by omega) (by omega) (by omega) (fun w1 ⟨j,hj,hI⟩=>by rcases (show j=0∨j=1 by omega) with rfl|rfl;exact (HS.out hI).cell 0;exact (HS.out hI).cell 0) (fun w1 ⟨j,hj,hI⟩=>by rcases (show j=0∨j=1 by omega) with rfl|rfl;exact HCE.out HM8.out.symm hI;exact HCE.out HM8.out.symm hI) (KM.later HM5.out ((Below.refl _ _).drew)) (fun w1 hI=>kp_put hI hjn (zc1 _ _ _) HNB.out (by omega) (HSL.out hI)) ?_
     intro v48 v49 v50 v51 v52 v53 v54 v55 v56 v57 v58 w6 hI6
     have H6:=zaa hI6
     clear hI6
     simp only [Act.put,List.setIfInBounds_toArray,List.set_cons_succ,List.set_cons_zero]
     go_wp2_with fail
     refine ⟨⟨_,news++[j],K.upS sti j (some (o,strOfNums (encC gi))),by first|rfl|simp,by omega,zaa ⟨HKI.out,?_⟩⟩,?_⟩
     · have q:=H6.out
       simp only [ph2] at q
       rw [upS_twice,List.append_assoc] at q
       exact q
     first
      |(show X - ((i:Int)+1).toNat<X - (i:Int).toNat;omega)
      |(show X - 1<X - 0;omega)
  have hiX:i=X:=by omega
  have HXX:Hid (KI n o st sl C C.length news sti):=zaa (by rw [HX.out,←hiX];exact hI.out.1)
  have c1:wr.cell? ⟨S,1,none⟩=some (.map (some T)):=(HS.out hI.out.2).cell 1
  have HKM:=zaa hI.out.2
  obtain ⟨lo,q1,q2⟩:=HTOP.out hI.out.2
  have l1:=q1.look K.kyS Tryz.underlying73 (zero68 wr) o false
  rw [q2 o] at l1
  have HEND:Hid (∀{sb wz} (sh':ByteArray→Option Nat),sh' o=some sb→(∀o',¬o'=o→sh' o'=sh o')→(sh o=some sb∨(sh o=none∧wr.heap.size≤sb))→(∃lo:List (ByteArray×Value),Ml Value.string wz T lo∧∀o,al lo o=(sh' o).map fun sb=>Value.map (some sb))→Ml K.K3 wz sb ((k,.slice a8 M8 c8) :: rm ((Z o).map fun e=>(e.1,R o e.1)) k)→Chg (fun i=>i=T∨i=sb) wr wz→KpP F w S p n st Z o k m X wz):=zaa (fun sh' e1 e2 e3 e4 e5 e6=>by
   obtain ⟨a1,a2,a3,a4,a5,a6,a7,a8',a9⟩:=HALL.out
   obtain ⟨b1,b2,b3⟩:=HEQ.out
   have:=kp_end (sh':=sh') (news:=news) (sti:=sti) (v:=.slice a8 M8 c8) (wx:=wr) (o:=o) (k:=k) a1 a3 a4 a5 a6 a7 a8' a9 (by rw [b1,b2];exact HXX.out) (by rw [b1,b3];exact HKM.out) a2 e1 e2 e3 e4 e5 e6
   rw [b2,HX.out] at this
   exact this)
  clear hI hiX
  cases hsh:sh o with
  |some sb=>
   have hs:=HSET.out HKM.out hsh
   obtain ⟨w1,e1,s1,k1,z1⟩:=hs.1.store K.kyI Tryz.underlying95 k (.slice a8 M8 c8)
   rw [hsh] at l1
   simp only [Option.map_some,Option.getD_some,Bool.false_eq_true,if_false] at l1
   have HE:=zaa (HEND.out sh hsh (fun _ _=>rfl) (.inl hsh) ⟨lo,q1.chg k1 (fun e=>hs.2 e.symm),q2⟩ s1 (k1.mono (fun _ _ e=>.inr e)))
   clear q1 q2 hs s1 k1 z1 hsh HEND
   unfold K.K3 at e1
   have hne:=map_ne68 sb wr
   go_wp2_with fail
   refine bodyPost_end (results_none rfl _ _ _) rfl ?_
   exact ⟨rfl,HE.out⟩
  |none=>
   have hmm:=@run_makeMap Tryz.prog
   rw [hsh] at l1
   simp only [Option.map_none,Option.getD_none,Bool.false_eq_true,if_false] at l1
   have bl:Below wr.heap.size wr (wr.alloc (.map #[] 0)):=(Below.refl _ _).alloc (Nat.le_refl _) _
   obtain ⟨w1,e1,s1,k1,z1⟩:=(q1.later bl).store K.kyS Tryz.underlying73 o (.map (some wr.heap.size))
   have hTl:=q1.lt
   have m1:Ml K.K3 w1 wr.heap.size []:=(Ml.made K.K3 wr).chg k1 (by omega)
   have hB1:Blk w1 S 75 [.pointer (some ⟨p,0,none⟩),.map (some T)]:=by
    have hb:=HS.out HKM.out
    refine k1.blk (hb.later bl) (fun e=>?_)
    rw [e] at hb
    exact q1.tg 75 hb.tg
   have d1:w1.cell? ⟨S,1,none⟩=some (.map (some T)):=hB1.cell 1
   have d2:(wr.alloc (.map #[] 0)).cell? ⟨S,1,none⟩=some (.map (some T)):=((HS.out HKM.out).later bl).cell 1
   have l3:=s1.look K.kyS Tryz.underlying73 (zero68 w1) o false
   have eal:al ((o,Value.map (some wr.heap.size)) :: rm lo o) o=some (.map (some wr.heap.size)):=by simp [al]
   rw [eal] at l3
   simp only [Option.getD_some,Bool.false_eq_true,if_false] at l3
   obtain ⟨w2,e2,s2,k2,z2⟩:=m1.store K.kyI Tryz.underlying95 k (.slice a8 M8 c8)
   have HE:=zaa (HEND.out (sb:=wr.heap.size) (wz:=w2) (fun o'=>if o'=o then some wr.heap.size else sh o') (by simp) (fun o' h=>by simp [h]) (.inr ⟨hsh,Nat.le_refl _⟩) ⟨_,s1.chg k2 (by omega),fun o'=>by
    by_cases ho':o'=o
    · subst ho'
      simp [al]
    · simp only [if_neg ho']
      rw [←q2 o',←K.al_rm_off lo ho']
      have:¬o=o':=fun e=>ho' e.symm
      unfold al
      rw [List.find?_cons_of_neg (by simpa using this)]⟩ (by
    rw [HNON.out hsh]
    exact s2) (((Chg.of_below (F:=fun i=>i=T∨i=wr.heap.size) bl).trans k1 (fun _ _ e=>.inl e)).trans k2 (fun _ _ e=>.inr e)))
   clear q1 q2 s1 k1 z1 hsh HEND eal m1 s2 k2 z2 hB1
   unfold K.K3 at e2
   have hne:=map_eq68 wr
   go_wp2_with fail
   refine bodyPost_end (results_none rfl _ _ _) rfl ?_
   exact ⟨rfl,HE.out⟩
def zef (sl:List Nat) (A l:List Sm):Int:=((gO (gB A l)).length:Int) - (hadL sl:Int)
def NdP (k:Int) (sl:List Nat) (A l:List Sm) (e:Ending):Prop:=
 (k<0∧e=.returned (.tuple #[.int .i64 0,.int .i64 1]))∨(0≤k∧¬Ris (A++l)∧e=.returned (.tuple #[.int .i64 0,.int .i64 140]))∨(0≤k∧Ris (A++l)∧e=.returned (.tuple #[.int .i64 (zef sl A l),.int .i64 0]))
theorem needsP (o:ByteArray) (k:Int) (F:Nat→Prop) (S p n:Nat) (st:K.Sx) (Z:ByteArray→List En) (ad:Option Addr) (N c:Nat) (l:List Sm) (w:World) (h:SQ F w S p n st Z) (hG:Gv w) (hlo:2≤w.heap.size) (hL:Ss w ad l) (hN:l.length=N) (hN9:N≤100000):
 Calls Tryz.prog 14 #[.pointer (some ⟨S,0,none⟩),.string o,.int .i64 k,.slice ad N c] w fun e w'=>Below w.heap.size w w'∧NdP k (enL (Z o) k).1 (enL (Z o) k).2 l e:=by
 have HB:=zaa (behindP o k F S p n st Z ad N c l w h hG hlo hL hN hN9)
 generalize enL (Z o) k=q9 at*
 obtain ⟨sl,A⟩:=q9
 simp only at*
 clear h hG hlo hL hN
 go_enter Tryz.func14,Tryz.ntmps14
 go_wp2_with fail
 refine HB.out.mono ?_
 rintro e w1 ⟨b1,h1⟩
 have B1:=zaa b1
 clear b1 HB
 rcases h1 with ⟨hk,rfl⟩|⟨hk,hr,rfl⟩|⟨hk,hr,ad8,c8,D8,rfl,ck⟩
 · have HK:=zaa hk
   clear hk
   go_wp2_with fail
   go_ret2
   exact ⟨B1.out,.inl ⟨HK.out,rfl⟩⟩
 · have HK:=zaa (And.intro hk hr)
   clear hk hr
   go_wp2_with fail
   go_ret2
   exact ⟨B1.out,.inr (.inl ⟨HK.out.1,HK.out.2,rfl⟩)⟩
 have HK:=zaa (And.intro hk hr)
 clear hk hr ck
 obtain ⟨q,hq⟩:∃q,((gO (gB A l)).length:Int) - (hadL sl:Int)=q:=⟨_,rfl⟩
 rw [hq]
 have HQ:=zaa hq
 clear hq
 generalize (gO (gB A l)).length=X
 go_wp2_with fail
 go_ret2
 refine ⟨B1.out,.inr (.inr ⟨HK.out.1,HK.out.2,?_⟩)⟩
 unfold zef
 rw [HQ.out]
 rfl
def ApP (F:Nat→Prop) (w:World) (S p n:Nat) (st:K.Sx) (Z:ByteArray→List En) (o:ByteArray) (k:Int) (l:List Sm) (e:Ending) (w':World):Prop:=
 (Below w.heap.size w w'∧((k<0∧e=.returned (.int .i64 1))∨(0≤k∧¬Ris ((enL (Z o) k).2++l)∧e=.returned (.int .i64 140))∨(0≤k∧Ris ((enL (Z o) k).2++l)∧l=[]∧e=.returned (.int .i64 0))∨
   (0≤k∧Ris ((enL (Z o) k).2++l)∧l≠[]∧((n - (K.tkL st n).length:Nat):Int)<zef (enL (Z o) k).1 (enL (Z o) k).2 l∧e=.returned (.int .i64 110))))∨
 (0≤k∧Ris ((enL (Z o) k).2++l)∧l≠[]∧zef (enL (Z o) k).1 (enL (Z o) k).2 l≤((n - (K.tkL st n).length:Nat):Int)∧e=.returned (.int .i64 0)∧KpP F w S p n st Z o k l (gO (gB (enL (Z o) k).2 l)).length w')
theorem kpP_from {F:Nat→Prop} {w w1 w':World} {S p n:Nat} {st:K.Sx} {Z:ByteArray→List En} {o:ByteArray} {k:Int} {m:List Sm} {X:Nat} (h:KpP F w1 S p n st Z o k m X w') (hb:Below w.heap.size w w1):KpP F w S p n st Z o k m X w':=by
 obtain ⟨F',st',news,h1,h2,h3,h4⟩:=h
 exact ⟨F',st',news,h1,(Chg.of_below (F:=F) hb).trans h2 (fun _ _ e=>e),fun i hi=>(h3 i hi).imp id (fun e=>Nat.le_trans hb.size e),h4⟩
theorem zf2 (o:ByteArray) (k:Int) (F:Nat→Prop) (S p n:Nat) (st:K.Sx) (Z:ByteArray→List En) (ad:Option Addr) (N c:Nat) (l:List Sm) (w:World) (h:SQ F w S p n st Z) (hG:Gv w) (hlo:2≤w.heap.size) (hF2:∀i,F i→2≤i) (hL:Ss w ad l) (hN:l.length=N) (hN9:N≤100000):
 Calls Tryz.prog 12 #[.pointer (some ⟨S,0,none⟩),.string o,.int .i64 k,.slice ad N c] w (ApP F w S p n st Z o k l):=by
 have HB:=zaa (behindP o k F S p n st Z ad N c l w h hG hlo hL hN hN9)
 have hz:=h.sz
 have hen:=hz.en o k
 have hgl:(gO (gB (enL (Z o) k).2 l)).length≤1000000:=by
  have hok:∀x∈(enL (Z o) k).2++l,OkS x:=fun x hx=>by rcases List.mem_append.1 hx with hx|hx;exact hen.2.2.1 x hx;exact hL.sz x hx
  have hokg:=okG hen.2.2.1
  have h1:OkG (gB (enL (Z o) k).2 l):=OkG.fold ⟨by simp,fun _=>rfl,by simp,hokg.fit2,by simp,hokg.ok2⟩ hL.sz
  have h2:=zdt h1
  rw [zd3] at h2
  unfold gB at h2
  rw [zdu] at h2
  have h3:=za8 hokg.fit2
  simp only [List.flatten_nil,List.nil_append,List.length_append,hN] at h2
  unfold gB
  omega
 obtain ⟨T,sh,R,G,h1,h2,h3,h4,h5⟩:=h
 have h:SQ F w S p n st Z:=⟨T,sh,R,G,h1,h2,h3,h4,h5⟩
 have HSQ:=zaa h
 have CP:Hid (∀wx,Below w.heap.size w wx→wx.cell? ⟨S,0,none⟩=some (.pointer (some ⟨p,0,none⟩))):=zaa (fun wx hb=>(h1.blk.later hb).cell 0)
 have HLF:=zaa (fun (wx:World) (hb:Below w.heap.size w wx)=>K.leftX G p n st wx (h2.later hb))
 have HKP:=zaa (fun (wx:World) (hb:Below w.heap.size w wx) ad8 X c8 D8 (e1:0≤k) (e2:l≠[]) (e3:Ris ((enL (Z o) k).2++l)) (ck:Ck wx w.heap.size (.slice ad8 X c8) ((gO (gB (enL (Z o) k).2 l)).map encC) D8) (hX:(gO (gB (enL (Z o) k).2 l)).length=X) hr=>keepP o k F S p n st Z ad8 X c8 w.heap.size D8 l wx (h.later hb) (hG.later hb) e1 e2 e3 hL.sz (fun i hi=>⟨hF2 i hi,(h.tag hi).1⟩) ck hX (by omega) hr)
 have htl:=K.tkL_len st n
 have hn1:=h2.n1
 have HN:=zaa hN
 unfold ApP
 generalize hq9:enL (Z o) k=q9 at*
 obtain ⟨sl,A⟩:=q9
 simp only at*
 have hhad:hadL sl≤(gO (gB A l)).length∨l=[]:=by
  by_cases h0:l=[]
  · exact .inr h0
  left
  have:gO (gB A l)≠[]:=by
   intro e
   have hb:=zby A l
   rw [e,List.append_nil] at hb
   have hfl:=zbd (A++l)
   rw [hb] at hfl
   have h9:=zbd A
   rw [zd3] at h9
   have:(gF A).1.flatten.length≤A.length:=by
    have:=congrArg List.length h9
    rw [List.length_append] at this
    omega
   have h8:=congrArg List.length hfl
   rw [List.length_append] at h8
   have:=List.length_pos_iff.2 h0
   omega
  have:=List.length_pos_iff.2 this
  unfold hadL
  omega
 have HHD:=zaa hhad
 clear h hz hen hG hlo hL hN h1 h2 h3 h4 h5 hF2 hhad
 obtain ⟨Y,hY⟩:∃Y,(K.tkL st n).length=Y:=⟨_,rfl⟩
 rw [hY] at htl HLF HKP ⊢
 obtain ⟨lf,hlf⟩:∃lf,n - Y=lf:=⟨_,rfl⟩
 rw [hlf] at HLF ⊢
 go_enter Tryz.func12,Tryz.ntmps12
 go_wp2_with fail
 refine HB.out.mono ?_
 rintro e w1 ⟨b1,hh⟩
 have B1:=zaa b1
 clear b1 HB
 rcases hh with ⟨hk,rfl⟩|⟨hk,hr,rfl⟩|⟨hk,hr,ad8,c8,D8,rfl,ck⟩
 · have HK:=zaa hk
   clear hk
   go_wp2_with fail
   go_ret
   exact .inl ⟨B1.out,.inl ⟨HK.out,rfl⟩⟩
 · have HK:=zaa (And.intro hk hr)
   clear hk hr
   go_wp2_with fail
   go_ret
   exact .inl ⟨B1.out,.inr (.inl ⟨HK.out.1,HK.out.2,rfl⟩)⟩
 have HK:=zaa (And.intro hk hr)
 obtain ⟨X,hX⟩:∃X,(gO (gB A l)).length=X:=⟨_,rfl⟩
 obtain ⟨q,hq⟩:∃q,zef sl A l=q:=⟨_,rfl⟩
 have hq':=hq
 unfold zef at hq'
 rw [hq',hX]
 rw [hX] at ck hq' hgl
 have CK:=zaa ck
 have HX:=zaa hX
 have HQ:=zaa hq
 have HQ2:=zaa hq'
 have hhd1:hadL sl≤1:=by unfold hadL;omega
 have hqb:q≤1000000∧-1≤q:=by omega
 clear hk hr ck hX hq hq'
 by_cases h0:l=[]
 · have hN0:N=0:=by rw [←HN.out,h0];rfl
   subst hN0
   have H0:=zaa h0
   clear h0
   go_wp2_with fail
   go_ret
   exact .inl ⟨B1.out,.inr (.inr (.inl ⟨HK.out.1,HK.out.2,H0.out,rfl⟩))⟩
 have hN0:¬(N:Int)=0:=by rw [←HN.out];have:=List.length_pos_iff.2 h0;omega
 have H0:=zaa h0
 have cp:=CP.out _ B1.out
 clear h0
 go_wp2_with fail
 refine (HLF.out w1 B1.out).mono ?_
 rintro e w2 ⟨rfl,b2⟩
 have B2:Hid (Below w.heap.size w w2):=zaa (B1.out.trans (b2.mono B1.out.size))
 have CK2:=zaa (CK.out.later b2)
 clear b2
 by_cases hlt:(lf:Int)<q
 · have HLT:=zaa hlt
   go_wp2_with fail
   go_ret
   exact .inl ⟨B2.out,.inr (.inr (.inr ⟨HK.out.1,HK.out.2,H0.out,by rw [HQ.out];exact HLT.out,rfl⟩))⟩
 have HLT:=zaa (show q≤(lf:Int) by omega)
 have hroom:X - hadL sl+Y≤n:=by
  have e1:=HQ2.out
  have e2:=HLT.out
  have e3:=HHD.out
  rcases e3 with e3|e3
  · rw [HX.out] at e3;omega
  exact absurd e3 H0.out
 have HRM:=zaa hroom
 clear hroom
 have hlt2:decide ((lf:Int)<q)=false:=by simpa using hlt
 go_wp2_with fail
 refine (HKP.out w2 B2.out ad8 X c8 D8 HK.out.1 H0.out HK.out.2 CK2.out HX.out HRM.out).mono ?_
 rintro e w3 ⟨rfl,k3⟩
 have K3:=zaa (kpP_from k3 B2.out)
 clear k3
 go_wp2_with fail
 go_ret
 refine .inr ⟨HK.out.1,HK.out.2,H0.out,by rw [HQ.out];exact HLT.out,rfl,?_⟩
 rw [HX.out]
 exact K3.out
end Go.Proofs.YtlppibigceeimaaGreatDoor
